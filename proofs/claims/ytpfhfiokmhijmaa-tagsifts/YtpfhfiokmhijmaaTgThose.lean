/- tag.those under the two functions that Less and Only hand it. -/
import Derived.Test.YtpfhfiokmhijmaaTgSifted
import Derived.OwnWalkIn
namespace Go.Proofs.Ytpfhfiokmhijmaa
open Go.RowKit Go.Shelf
attribute [local go_sem] Oper.semAt_some
theorem contains_any (na : Option Addr) (nl nc : Nat) (g : Nat → ByteArray) (x : ByteArray) (hnl : nl ≤ maxLen) (w : World) (hN : StrsAt w.heap.size w na nl g) :
    Calls Try.prog 29 #[.slice na nl nc, .string x] w fun e w' => e = .returned (.bool (Lib.containsS (Tg.upto g nl) x)) ∧ w' = w := by
  rcases hN with rfl | ⟨b, off, rfl, _, hc⟩
  · exact Try.slices_Contains_string_empty na nc x w
  · have hl : (Tg.upto g nl).length = nl := Tg.upto_len g nl
    have h := Try.slices_Contains_string b off nl nc (Tg.upto g nl) x w (by omega) (by unfold maxLen at hnl; omega) (fun j hj => by
      rw [hl] at hj
      rw [hc j hj]
      simp [Tg.upto, hj])
    rw [show (Tg.upto g nl).take nl = Tg.upto g nl from by rw [List.take_of_length_le (by omega)]] at h
    exact h
theorem Row.kept {w w' : World} {B : Nat} {v : Value} {l : List Tg.LabM} {row : Option Nat} (h : Row w B v l) (hg : w.grownBy w' row) (hr : ∀ r, row = some r → ∃ o : Obj, w.heap[r]? = some o ∧ o.isCells = false) : Row w' B v l := by
  rcases h.2 with h0 | ⟨g, cap, cur, e, hgB, hh, r⟩
  · exact ⟨h.1, .inl h0⟩
  · refine ⟨h.1, .inr ⟨g, cap, cur, e, hgB, ?_, r⟩⟩
    refine (hg.block g (Array.getElem?_eq_some_iff.1 hh).1 (fun e' => ?_)).trans hh
    obtain ⟨o, ho, hc⟩ := hr g e'.symm
    rw [hh] at ho
    cases ho
    cases hc
theorem row_cells {w : World} {B : Nat} {v : Value} {l : List Tg.LabM} (h : Row w B v l) : ∀ (j : Nat) (o : Obj), v.ownBlock = some j → w.heap[j]? = some o → o.isCells = true := fun j o e ho => by
  rcases h.2 with ⟨rfl, _⟩ | ⟨g, cap, cur, rfl, _, hh, _⟩
  · cases e
  · cases e
    rw [hh] at ho
    cases ho
    rfl
theorem low_base0 {w w' : World} {B : Nat} {v : Value} {l : List Tg.LabM} {o : Obj} (hr : Row w B v l) (hg : (w.alloc o).grownBy w' v.ownBlock) (hB : B ≤ w.heap.size) : ∀ i, i < B → w'.heap[i]? = w.heap[i]? := fun i hi => by
  refine (hg.block i (by simp; omega) (fun e => by have := (World.ownsRow.lt hr i e.symm).1; omega)).trans ?_
  exact Below.heap_alloc w o i (by omega)
theorem wpListIn_src {Fn : Fence} {nn : Nat} {w : World} {ops : Array Oper} {rest : List Oper} {o : Oper} {a : Act} {Q : Exit → Act → World → Prop}
    (hg : o.guard = none) (s x : Operand) (hop : o.op = Op.call { callee := Callee.builtin Builtin.append, args := #[s, x], argTypes := #[22, 22] })
    (base : Nat) (v xv : Value) (l1 l2 : List Tg.LabM) (hs : a.eval s = v) (hx : a.eval x = xv) (hown : Row w base v l1) (hsrc : Src w xv l2) (hz : l1.length + l2.length ≤ 1000000) (hbase : base ≤ w.heap.size)
    (hK : ∀ v' w', Row w' base v' (l1 ++ l2) → w.grownBy w' v.ownBlock → wpListIn Fn nn Try.prog ops Q rest (a.put o.dst v') w') :
    wpListIn Fn nn Try.prog ops Q (o :: rest) a w := by
  refine wpListIn_plain hg fun K hK' => ?_
  obtain ⟨v', w', hrun, r1, r2, _⟩ := run_src w o.type base v xv l1 l2 hown hsrc hz hbase
  unfold Oper.wpIn
  refine ⟨?_, ?_⟩
  · simp [Oper.about, hop, resolve, Target.leads, Sem.run_pure]
  · rw [Oper.semAt_plain Fn _ _ (by rw [hop]; intro c hc'; cases hc')]
    simp [execOp, hop, resolve, invoke, builtin, hs, hx, hrun, Result.andThen]
    exact hK' _ _ (hK v' w' r1 r2)
set_option maxHeartbeats 1000000 in
theorem less1_any (nb : Nat) (na : Option Addr) (nl nc : Nat) (g : Nat → ByteArray) (x : ByteArray) (hnl : nl ≤ maxLen) (w : World) (hN : StrsAt w.heap.size w na nl g) (hc : w.cell? ⟨nb, 0, none⟩ = some (.slice na nl nc)) :
    Calls Try.prog 28 #[.string x, .pointer (some ⟨nb, 0, none⟩)] w fun e w' => e = .returned (.bool (Lib.containsS (Tg.upto g nl) x == false)) ∧ w' = w := by
  have H := Lib.hid (contains_any na nl nc g x hnl w hN)
  clear hN
  generalize Lib.containsS (Tg.upto g nl) x = b at H
  cases b
  all_goals
    go_enter Try.func28, Try.ntmps28
    go_wp2_with fail
    refine H.out.mono ?_
    rintro e w' ⟨rfl, rfl⟩
    go_wp2
    go_ret
    exact ⟨rfl, rfl⟩
set_option maxRecDepth 100000 in
set_option maxHeartbeats 4000000 in
theorem those_less (m : ByteArray) (a : Option Addr) (len cap : Nat) (f : Nat → Tg.LabM) (nb : Nat) (na : Option Addr) (nl nc : Nat) (g : Nat → ByteArray) (hlen : len ≤ 100) (hnl : nl ≤ maxLen) (w : World)
    (hI : LabsAt (·.1) w.heap.size w a len f) (hN : StrsAt w.heap.size w na nl g) (hnb : nb < w.heap.size) (hcb : w.cell? ⟨nb, 0, none⟩ = some (.slice na nl nc)) :
    Calls Try.prog 27 #[.agg #[.string m, .slice a len cap], .func (.func 28) #[] #[.pointer (some ⟨nb, 0, none⟩)]] w (Sift m (Tg.sift (Tg.upto g nl) false (Tg.upto f len)) w) := by
  have hlm : len ≤ maxLen := by unfold maxLen; omega
  have HNM := Lib.hid hN
  have HCB := Lib.hid hcb
  clear hN hcb
  refine (callsIn_wide (n := 3)).1 ?_
  refine callsIn_of_wp_marks Try.func27 rfl trivial ?_ rfl
  simp only [Try.ntmps27, List.size_toArray, List.length_cons, List.length_nil, Nat.reduceAdd, Nat.reduceSub, Array.replicate_succ, Array.replicate_zero, List.push_toArray, List.append_toArray, List.nil_append, List.cons_append]
  gi_wp2_with fail
  have b1 : Blk ((((w.alloc (.cells #[.string m, .slice a len cap] 25)).alloc (.cells #[.func (.func 28) #[] #[.pointer (some ⟨nb, 0, none⟩)]] 41)).alloc (.cells #[.string ⟨#[]⟩, .slice none 0 0] 25)).alloc (.cells #[.string m, .slice none 0 0] 25)) (w.heap.size + 1) 41 #[.func (.func 28) #[] #[.pointer (some ⟨nb, 0, none⟩)]] := by
    have h := Blk.new (w.alloc (.cells #[.string m, .slice a len cap] 25)) 41 #[.func (.func 28) #[] #[.pointer (some ⟨nb, 0, none⟩)]]
    rw [World.size_alloc] at h
    exact (h.alloc _).alloc _
  have b2 : Blk ((((w.alloc (.cells #[.string m, .slice a len cap] 25)).alloc (.cells #[.func (.func 28) #[] #[.pointer (some ⟨nb, 0, none⟩)]] 41)).alloc (.cells #[.string ⟨#[]⟩, .slice none 0 0] 25)).alloc (.cells #[.string m, .slice none 0 0] 25)) (w.heap.size + 1 + 1) 25 #[.string ⟨#[]⟩, .slice none 0 0] := by
    have h := Blk.new ((w.alloc (.cells #[.string m, .slice a len cap] 25)).alloc (.cells #[.func (.func 28) #[] #[.pointer (some ⟨nb, 0, none⟩)]] 41)) 25 #[.string ⟨#[]⟩, .slice none 0 0]
    rw [World.size_alloc, World.size_alloc] at h
    exact h.alloc _
  have b3 : Blk ((((w.alloc (.cells #[.string m, .slice a len cap] 25)).alloc (.cells #[.func (.func 28) #[] #[.pointer (some ⟨nb, 0, none⟩)]] 41)).alloc (.cells #[.string ⟨#[]⟩, .slice none 0 0] 25)).alloc (.cells #[.string m, .slice none 0 0] 25)) (w.heap.size + 1 + 1 + 1) 25 #[.string m, .slice none 0 0] := by
    have h := Blk.new (((w.alloc (.cells #[.string m, .slice a len cap] 25)).alloc (.cells #[.func (.func 28) #[] #[.pointer (some ⟨nb, 0, none⟩)]] 41)).alloc (.cells #[.string ⟨#[]⟩, .slice none 0 0] 25)) 25 #[.string m, .slice none 0 0]
    rw [World.size_alloc, World.size_alloc, World.size_alloc] at h
    exact h
  have hB0 : Below w.heap.size w ((((w.alloc (.cells #[.string m, .slice a len cap] 25)).alloc (.cells #[.func (.func 28) #[] #[.pointer (some ⟨nb, 0, none⟩)]] 41)).alloc (.cells #[.string ⟨#[]⟩, .slice none 0 0] 25)).alloc (.cells #[.string m, .slice none 0 0] 25)) := ((((Below.refl _ w).alloc (Nat.le_refl _) _).alloc (by simp) _).alloc (by simp; omega) _).alloc (by simp; omega) _
  have hz0 : ((((w.alloc (.cells #[.string m, .slice a len cap] 25)).alloc (.cells #[.func (.func 28) #[] #[.pointer (some ⟨nb, 0, none⟩)]] 41)).alloc (.cells #[.string ⟨#[]⟩, .slice none 0 0] 25)).alloc (.cells #[.string m, .slice none 0 0] 25)).heap.size = w.heap.size + 1 + 1 + 1 + 1 := by simp
  obtain ⟨W0, hW0⟩ : ∃ W0, (((w.alloc (.cells #[.string m, .slice a len cap] 25)).alloc (.cells #[.func (.func 28) #[] #[.pointer (some ⟨nb, 0, none⟩)]] 41)).alloc (.cells #[.string ⟨#[]⟩, .slice none 0 0] 25)).alloc (.cells #[.string m, .slice none 0 0] 25) = W0 := ⟨_, rfl⟩
  rw [hW0] at b1 b2 b3 hB0 hz0 ⊢
  clear hW0
  have HZ0 := Lib.hid hz0
  refine ⟨trivial, (callsIn_wide.2 (pairs_any _ _ _ _)).mono ?_⟩
  rintro e w' ⟨rfl, rfl⟩
  rw [hz0]
  have bN := Boxed.new W0 22 (.slice a len cap)
  rw [hz0] at bN
  have hB1 : Below w.heap.size w (W0.alloc (.cells #[.slice a len cap] 22)) := hB0.alloc hB0.size _
  have hz1 : (W0.alloc (.cells #[.slice a len cap] 22)).heap.size = w.heap.size + 1 + 1 + 1 + 1 + 1 := by simp [hz0]
  have HZ1 := Lib.hid hz1
  clear hz0 hz1
  gi_wp2_with fail
  refine wpIn_rangeFunc_ownF rfl (by decide) (gf := 38) (lb := #[.pointer (some ⟨w.heap.size + 1 + 1 + 1 + 1, 0, none⟩)]) rfl trivial pairs1_enters
    (pairs_stops (·.1) (w.heap.size + 1 + 1 + 1 + 1) w.heap.size a len cap f hlm _ (by rw [HZ1.out]; omega) (by rw [HZ1.out]; omega) bN.cell (hI.below hB1)) belowK_t (belowK_b (by rw [HZ1.out]; omega)) (Below.refl _ _) (fun _ => rfl)
    (fun pre W => (∃ v, Row W (w.heap.size + 1 + 1 + 1 + 1 + 1) v (Tg.sift (Tg.upto g nl) false pre) ∧ Blk W (w.heap.size + 1 + 1 + 1) 25 #[.string m, v] ∧ Blk W (w.heap.size + 1 + 1) 25 #[.string ⟨#[]⟩, .slice none 0 0] ∧ Blk W (w.heap.size + 1) 41 #[.func (.func 28) #[] #[.pointer (some ⟨nb, 0, none⟩)]] ∧ pre.length ≤ len ∧ w.heap.size + 1 + 1 + 1 + 1 + 1 ≤ W.heap.size) ∧ Below w.heap.size w W)
    (fun _ _ _ => False)
    (OwnFrom.and (Own.from (fun s A B row hs hg hr => by
      obtain ⟨v, h1, h2, h3, h4, h5, h6⟩ := hs
      exact ⟨v, h1.kept hg hr, h2.kept hg hr, h3.kept hg hr, h4.kept hg hr, h5, Nat.le_trans h6 hg.size⟩) _) (ownFrom_below (Nat.le_refl _) (by rw [HZ1.out]; omega)))
    (fun _ _ _ _ _ hs _ _ => hs)
    ⟨⟨.slice none 0 0, Row.nil _ _, b3.alloc _, b2.alloc _, b1.alloc _, Nat.zero_le _, by rw [HZ1.out]; omega⟩, hB1⟩
    ?a1 ?assign ?body ?done ?stop
  case assign =>
    intro l x W K hK
    gi_wp2
    exact hK
  case body =>
    rintro l pre x W ⟨⟨v, hrow, hl, ho, hf, hpl, hsz⟩, hB⟩ hlt
    have HROW := Lib.hid hrow
    have hfc := (hf.cl 0 _ rfl).1
    have lc := (hl.cl 1 _ rfl).1
    have lf := (hl.cl 1 _ rfl).2
    have HST := Lib.hid (less1_any nb na nl nc g x.1.1 hnl W ((HNM.out.below hB).mono hB.size) ((hB.cell (p := ⟨nb, 0, none⟩) hnb).trans HCB.out))
    have HN := Lib.hid (Tg.sift_snoc (Tg.upto g nl) false pre x)
    have HSL := Lib.hid (Tg.sift_len (Tg.upto g nl) false pre)
    have HLT := Lib.hid hlt
    have HPL := Lib.hid hpl
    clear hrow hlt hpl
    generalize (Lib.containsS (Tg.upto g nl) x.1.1 == false) = st at HST HN
    generalize Tg.sift (Tg.upto g nl) false pre = sl at HROW HN HSL
    cases st with
    | false =>
      gi_wp2_with (refine ⟨trivial, ?_⟩; gi_at_call 28; refine (CallsIn.inRound l (callsIn_wide.2 HST.out)).mono ?_; rintro e w2 ⟨rfl, rfl⟩)
      refine ⟨KeepsOthers.refl _, Below.refl _ _, ⟨v, ?_, hl, ho, hf, ?_, hsz⟩, hB⟩
      · rw [HN.out]; simpa using HROW.out
      · have := HLT.out; have := HPL.out; simp; omega
    | true =>
      have HZL : Hid (sl.length + [x].length ≤ 1000000) := by
        show _ ≤ _
        have h1 := HSL.out
        have h2 := HPL.out
        rw [List.length_singleton]
        omega
      gi_wp2_with (first | (refine ⟨trivial, ?_⟩; gi_at_call 28; refine (CallsIn.inRound l (callsIn_wide.2 HST.out)).mono ?_; rintro e w2 ⟨rfl, rfl⟩) | (gi_at_builtin; refine wpListIn_src rfl _ _ rfl (w.heap.size + 1 + 1 + 1 + 1 + 1) v (.slice (some ⟨w2.heap.size, 0, none⟩) 1 1) sl [x] rfl rfl (HROW.out.alloc _) (src_new w2 x) HZL.out (by simp; omega) ?_; intro v' w3 R3 G3; obtain ⟨a4, n4, c4, rfl⟩ := row_slice R3; have k3 := Lib.hid (low_base0 HROW.out G3 hsz); have hl3 : Blk w3 (w.heap.size + 1 + 1 + 1) 25 #[.string m, v] := (k3.out _ (by omega)).trans hl; have c3 := (hl3.cl 1 _ rfl).1; have f3 := (hl3.cl 1 _ rfl).2))
      have ho3 : Blk w3 (w.heap.size + 1 + 1) 25 #[.string ⟨#[]⟩, .slice none 0 0] := (k3.out _ (by omega)).trans ho
      have hf3 : Blk w3 (w.heap.size + 1) 41 #[.func (.func 28) #[] #[.pointer (some ⟨nb, 0, none⟩)]] := (k3.out _ (by omega)).trans hf
      have hs3 : w.heap.size + 1 + 1 + 1 + 1 + 1 ≤ w3.heap.size := by have := G3.size; simp at this; omega
      have hbb : Below w.heap.size w2 w3 := ((Below.refl w.heap.size w2).alloc (by omega) (.cells #[.string x.1.1, .string x.1.2] 32)).grown G3 (by simp; omega) (fun i hi => by have := HROW.out.geB i hi; omega)
      have hko : KeepsOthers w2 w3 := (KeepsOthers.alloc w2 _).trans (KeepsOthers.of_grownBy G3 (row_cells (HROW.out.alloc _)))
      refine ⟨hko.trans (KeepsOthers.setCell _ _ _), hbb.setCell (p := ⟨w.heap.size + 1 + 1 + 1, 1, none⟩) (show w.heap.size ≤ w.heap.size + 1 + 1 + 1 by omega) _, ⟨.slice a4 n4 c4, ?_, hl3.set 1 _, ho3.other (p := ⟨w.heap.size + 1 + 1 + 1, 1, none⟩) (show w.heap.size + 1 + 1 + 1 ≠ w.heap.size + 1 + 1 by omega) _, hf3.other (p := ⟨w.heap.size + 1 + 1 + 1, 1, none⟩) (show w.heap.size + 1 + 1 + 1 ≠ w.heap.size + 1 by omega) _, ?_, by simp [World.setCell]; omega⟩, (hB.trans hbb).setCell (p := ⟨w.heap.size + 1 + 1 + 1, 1, none⟩) (show w.heap.size ≤ w.heap.size + 1 + 1 + 1 by omega) _⟩
      · rw [HN.out, if_pos trivial]
        exact R3.stay fun i hi _ => heap_set (p := ⟨w.heap.size + 1 + 1 + 1, 1, none⟩) (show w.heap.size + 1 + 1 + 1 ≠ i by omega)
      · have := HLT.out; have := HPL.out; simp; omega
  case done =>
    rintro D ys W hD rfl ⟨⟨v, hrow, hl, ho, hf, hpl, hsz⟩, hB⟩ hK
    obtain ⟨a1, n1, c1, rfl⟩ := row_slice hrow
    have HROW := Lib.hid hrow
    clear hrow
    rw [HZ1.out] at hD
    have l0 := (hl.cl 0 _ rfl).1
    have l1 := (hl.cl 1 _ rfl).1
    have o0 := ho.cl 0 _ rfl
    have o1 := ho.cl 1 _ rfl
    have o0c := o0.1
    have o0f := o0.2
    have o1c := o1.1
    have o1f := o1.2
    gi_wp2
    have hKf := ((KeepsOthers.setCell W ⟨w.heap.size + 1 + 1, 0, none⟩ (.string m)).trans (KeepsOthers.setCell _ ⟨w.heap.size + 1 + 1, 1, none⟩ (.slice a1 n1 c1))).same D _ hK rfl
    have e0 := (Cl.putD ((o0.set (.string m)).other (addr_ne' (o := 1) (by decide)) (.slice a1 n1 c1)) (.deferred none) hKf rfl).1
    have e1 := (Cl.putD ((o1.other (addr_ne' (o := 0) (by decide)) (.string m)).set (.slice a1 n1 c1)) (.deferred none) hKf rfl).1
    refine ⟨by simp, .inl ⟨_, _, rfl, run_takeDeferred hKf, ?_⟩⟩
    refine ⟨.agg #[.string m, .slice a1 n1 c1], ?_, ⟨a1, n1, c1, rfl, ?_, ?_⟩⟩
    · simp [results, Try.f27, go_sem, e0, e1]
    · refine (Row.kept (Row.stay HROW.out fun i hi _ => ?_) (grownBy_putObj' _ D (.deferred none)) (fun r e => by cases e; exact ⟨_, hKf, rfl⟩)).base (show w.heap.size ≤ w.heap.size + 1 + 1 + 1 + 1 + 1 by omega)
      rw [heap_set (p := ⟨w.heap.size + 1 + 1, 1, none⟩) (show w.heap.size + 1 + 1 ≠ i by omega), heap_set (p := ⟨w.heap.size + 1 + 1, 0, none⟩) (show w.heap.size + 1 + 1 ≠ i by omega)]
    · exact ((hB.setCell (p := ⟨w.heap.size + 1 + 1, 0, none⟩) (show w.heap.size ≤ w.heap.size + 1 + 1 by omega) _).setCell (p := ⟨w.heap.size + 1 + 1, 1, none⟩) (show w.heap.size ≤ w.heap.size + 1 + 1 by omega) _).trans (belowK_b (w := w) (Nat.le_refl _) _ D _ _ (by omega) hKf rfl rfl)
  case stop =>
    rintro D c pre W _ _ h _
    exact h.elim
set_option maxRecDepth 100000 in
set_option maxHeartbeats 2000000 in
theorem less_any (m : ByteArray) (a : Option Addr) (len cap : Nat) (f : Nat → Tg.LabM) (na : Option Addr) (nl nc : Nat) (g : Nat → ByteArray) (hlen : len ≤ 100) (hnl : nl ≤ maxLen) (w : World)
    (hI : LabsAt (·.1) w.heap.size w a len f) (hN : StrsAt w.heap.size w na nl g) :
    Calls Try.prog 11 #[.agg #[.string m, .slice a len cap], .slice na nl nc] w (Sift m (Tg.sift (Tg.upto g nl) false (Tg.upto f len)) w) := by
  have hB0 : Below w.heap.size w (((w.alloc (.cells #[.string m, .slice a len cap] 25)).alloc (.cells #[.slice na nl nc] 36)).alloc (.cells #[.string ⟨#[]⟩, .slice none 0 0] 25)) := (((Below.refl _ w).alloc (Nat.le_refl _) _).alloc (by simp) _).alloc (by simp; omega) _
  have b1 : Blk (((w.alloc (.cells #[.string m, .slice a len cap] 25)).alloc (.cells #[.slice na nl nc] 36)).alloc (.cells #[.string ⟨#[]⟩, .slice none 0 0] 25)) (w.heap.size + 1) 36 #[.slice na nl nc] := by
    have h := Blk.new (w.alloc (.cells #[.string m, .slice a len cap] 25)) 36 #[.slice na nl nc]
    rw [World.size_alloc] at h
    exact h.alloc _
  have b2 : Blk (((w.alloc (.cells #[.string m, .slice a len cap] 25)).alloc (.cells #[.slice na nl nc] 36)).alloc (.cells #[.string ⟨#[]⟩, .slice none 0 0] 25)) (w.heap.size + 1 + 1) 25 #[.string ⟨#[]⟩, .slice none 0 0] := by
    have h := Blk.new ((w.alloc (.cells #[.string m, .slice a len cap] 25)).alloc (.cells #[.slice na nl nc] 36)) 25 #[.string ⟨#[]⟩, .slice none 0 0]
    rw [World.size_alloc, World.size_alloc] at h
    exact h
  have hz0 : (((w.alloc (.cells #[.string m, .slice a len cap] 25)).alloc (.cells #[.slice na nl nc] 36)).alloc (.cells #[.string ⟨#[]⟩, .slice none 0 0] 25)).heap.size = w.heap.size + 1 + 1 + 1 := by simp
  have HT := Lib.hid (those_less m a len cap f (w.heap.size + 1) na nl nc g hlen hnl (((w.alloc (.cells #[.string m, .slice a len cap] 25)).alloc (.cells #[.slice na nl nc] 36)).alloc (.cells #[.string ⟨#[]⟩, .slice none 0 0] 25)) ((hI.below hB0).mono hB0.size) ((hN.below hB0).mono hB0.size) (by rw [hz0]; omega) (b1.cl 0 _ rfl).1)
  clear hI hN
  go_enter Try.func11, Try.ntmps11
  go_wp2_with fail
  refine HT.out.mono ?_
  rintro e w1 ⟨a1, n1, c1, rfl, hrow, hb1⟩
  have hB1 : Below w.heap.size w w1 := hB0.trans (hb1.mono hB0.size)
  have HROW := Lib.hid hrow
  have b21 := b2.below hb1 (by rw [hz0]; omega)
  have o0 := b21.cl 0 _ rfl
  have o1 := b21.cl 1 _ rfl
  have o0c := o0.1
  have o0f := o0.2
  have o1c := o1.1
  have o1f := o1.2
  rw [hz0] at HROW
  clear hrow hz0
  go_wp2
  obtain ⟨f0, f1⟩ := two_set' (x0 := .string m) (x1 := .slice a1 n1 c1) o0 o1
  refine bodyPost_ret (v := .agg #[.string m, .slice a1 n1 c1]) (by simp [results, Try.results11, go_sem, f0, f1]) rfl ⟨a1, n1, c1, rfl, ?_, ?_⟩
  · refine (HROW.out.stay fun i hi _ => ?_).base (show w.heap.size ≤ w.heap.size + 1 + 1 + 1 by omega)
    rw [heap_set (p := ⟨w.heap.size + 1 + 1, 1, none⟩) (show w.heap.size + 1 + 1 ≠ i by omega), heap_set (p := ⟨w.heap.size + 1 + 1, 0, none⟩) (show w.heap.size + 1 + 1 ≠ i by omega)]
  · exact (hB1.setCell (p := ⟨w.heap.size + 1 + 1, 0, none⟩) (show w.heap.size ≤ w.heap.size + 1 + 1 by omega) _).setCell (p := ⟨w.heap.size + 1 + 1, 1, none⟩) (show w.heap.size ≤ w.heap.size + 1 + 1 by omega) _
set_option maxHeartbeats 1000000 in
theorem only1_any (nb : Nat) (na : Option Addr) (nl nc : Nat) (g : Nat → ByteArray) (x : ByteArray) (hnl : nl ≤ maxLen) (w : World) (hN : StrsAt w.heap.size w na nl g) (hc : w.cell? ⟨nb, 0, none⟩ = some (.slice na nl nc)) :
    Calls Try.prog 30 #[.string x, .pointer (some ⟨nb, 0, none⟩)] w fun e w' => e = .returned (.bool (Lib.containsS (Tg.upto g nl) x == true)) ∧ w' = w := by
  have H := Lib.hid (contains_any na nl nc g x hnl w hN)
  clear hN
  generalize Lib.containsS (Tg.upto g nl) x = b at H
  cases b
  all_goals
    go_enter Try.func30, Try.ntmps30
    go_wp2_with fail
    refine H.out.mono ?_
    rintro e w' ⟨rfl, rfl⟩
    go_wp2
    go_ret
    exact ⟨rfl, rfl⟩
set_option maxRecDepth 100000 in
set_option maxHeartbeats 4000000 in
theorem those_only (m : ByteArray) (a : Option Addr) (len cap : Nat) (f : Nat → Tg.LabM) (nb : Nat) (na : Option Addr) (nl nc : Nat) (g : Nat → ByteArray) (hlen : len ≤ 100) (hnl : nl ≤ maxLen) (w : World)
    (hI : LabsAt (·.1) w.heap.size w a len f) (hN : StrsAt w.heap.size w na nl g) (hnb : nb < w.heap.size) (hcb : w.cell? ⟨nb, 0, none⟩ = some (.slice na nl nc)) :
    Calls Try.prog 27 #[.agg #[.string m, .slice a len cap], .func (.func 30) #[] #[.pointer (some ⟨nb, 0, none⟩)]] w (Sift m (Tg.sift (Tg.upto g nl) true (Tg.upto f len)) w) := by
  have hlm : len ≤ maxLen := by unfold maxLen; omega
  have HNM := Lib.hid hN
  have HCB := Lib.hid hcb
  clear hN hcb
  refine (callsIn_wide (n := 3)).1 ?_
  refine callsIn_of_wp_marks Try.func27 rfl trivial ?_ rfl
  simp only [Try.ntmps27, List.size_toArray, List.length_cons, List.length_nil, Nat.reduceAdd, Nat.reduceSub, Array.replicate_succ, Array.replicate_zero, List.push_toArray, List.append_toArray, List.nil_append, List.cons_append]
  gi_wp2_with fail
  have b1 : Blk ((((w.alloc (.cells #[.string m, .slice a len cap] 25)).alloc (.cells #[.func (.func 30) #[] #[.pointer (some ⟨nb, 0, none⟩)]] 41)).alloc (.cells #[.string ⟨#[]⟩, .slice none 0 0] 25)).alloc (.cells #[.string m, .slice none 0 0] 25)) (w.heap.size + 1) 41 #[.func (.func 30) #[] #[.pointer (some ⟨nb, 0, none⟩)]] := by
    have h := Blk.new (w.alloc (.cells #[.string m, .slice a len cap] 25)) 41 #[.func (.func 30) #[] #[.pointer (some ⟨nb, 0, none⟩)]]
    rw [World.size_alloc] at h
    exact (h.alloc _).alloc _
  have b2 : Blk ((((w.alloc (.cells #[.string m, .slice a len cap] 25)).alloc (.cells #[.func (.func 30) #[] #[.pointer (some ⟨nb, 0, none⟩)]] 41)).alloc (.cells #[.string ⟨#[]⟩, .slice none 0 0] 25)).alloc (.cells #[.string m, .slice none 0 0] 25)) (w.heap.size + 1 + 1) 25 #[.string ⟨#[]⟩, .slice none 0 0] := by
    have h := Blk.new ((w.alloc (.cells #[.string m, .slice a len cap] 25)).alloc (.cells #[.func (.func 30) #[] #[.pointer (some ⟨nb, 0, none⟩)]] 41)) 25 #[.string ⟨#[]⟩, .slice none 0 0]
    rw [World.size_alloc, World.size_alloc] at h
    exact h.alloc _
  have b3 : Blk ((((w.alloc (.cells #[.string m, .slice a len cap] 25)).alloc (.cells #[.func (.func 30) #[] #[.pointer (some ⟨nb, 0, none⟩)]] 41)).alloc (.cells #[.string ⟨#[]⟩, .slice none 0 0] 25)).alloc (.cells #[.string m, .slice none 0 0] 25)) (w.heap.size + 1 + 1 + 1) 25 #[.string m, .slice none 0 0] := by
    have h := Blk.new (((w.alloc (.cells #[.string m, .slice a len cap] 25)).alloc (.cells #[.func (.func 30) #[] #[.pointer (some ⟨nb, 0, none⟩)]] 41)).alloc (.cells #[.string ⟨#[]⟩, .slice none 0 0] 25)) 25 #[.string m, .slice none 0 0]
    rw [World.size_alloc, World.size_alloc, World.size_alloc] at h
    exact h
  have hB0 : Below w.heap.size w ((((w.alloc (.cells #[.string m, .slice a len cap] 25)).alloc (.cells #[.func (.func 30) #[] #[.pointer (some ⟨nb, 0, none⟩)]] 41)).alloc (.cells #[.string ⟨#[]⟩, .slice none 0 0] 25)).alloc (.cells #[.string m, .slice none 0 0] 25)) := ((((Below.refl _ w).alloc (Nat.le_refl _) _).alloc (by simp) _).alloc (by simp; omega) _).alloc (by simp; omega) _
  have hz0 : ((((w.alloc (.cells #[.string m, .slice a len cap] 25)).alloc (.cells #[.func (.func 30) #[] #[.pointer (some ⟨nb, 0, none⟩)]] 41)).alloc (.cells #[.string ⟨#[]⟩, .slice none 0 0] 25)).alloc (.cells #[.string m, .slice none 0 0] 25)).heap.size = w.heap.size + 1 + 1 + 1 + 1 := by simp
  obtain ⟨W0, hW0⟩ : ∃ W0, (((w.alloc (.cells #[.string m, .slice a len cap] 25)).alloc (.cells #[.func (.func 30) #[] #[.pointer (some ⟨nb, 0, none⟩)]] 41)).alloc (.cells #[.string ⟨#[]⟩, .slice none 0 0] 25)).alloc (.cells #[.string m, .slice none 0 0] 25) = W0 := ⟨_, rfl⟩
  rw [hW0] at b1 b2 b3 hB0 hz0 ⊢
  clear hW0
  have HZ0 := Lib.hid hz0
  refine ⟨trivial, (callsIn_wide.2 (pairs_any _ _ _ _)).mono ?_⟩
  rintro e w' ⟨rfl, rfl⟩
  rw [hz0]
  have bN := Boxed.new W0 22 (.slice a len cap)
  rw [hz0] at bN
  have hB1 : Below w.heap.size w (W0.alloc (.cells #[.slice a len cap] 22)) := hB0.alloc hB0.size _
  have hz1 : (W0.alloc (.cells #[.slice a len cap] 22)).heap.size = w.heap.size + 1 + 1 + 1 + 1 + 1 := by simp [hz0]
  have HZ1 := Lib.hid hz1
  clear hz0 hz1
  gi_wp2_with fail
  refine wpIn_rangeFunc_ownF rfl (by decide) (gf := 38) (lb := #[.pointer (some ⟨w.heap.size + 1 + 1 + 1 + 1, 0, none⟩)]) rfl trivial pairs1_enters
    (pairs_stops (·.1) (w.heap.size + 1 + 1 + 1 + 1) w.heap.size a len cap f hlm _ (by rw [HZ1.out]; omega) (by rw [HZ1.out]; omega) bN.cell (hI.below hB1)) belowK_t (belowK_b (by rw [HZ1.out]; omega)) (Below.refl _ _) (fun _ => rfl)
    (fun pre W => (∃ v, Row W (w.heap.size + 1 + 1 + 1 + 1 + 1) v (Tg.sift (Tg.upto g nl) true pre) ∧ Blk W (w.heap.size + 1 + 1 + 1) 25 #[.string m, v] ∧ Blk W (w.heap.size + 1 + 1) 25 #[.string ⟨#[]⟩, .slice none 0 0] ∧ Blk W (w.heap.size + 1) 41 #[.func (.func 30) #[] #[.pointer (some ⟨nb, 0, none⟩)]] ∧ pre.length ≤ len ∧ w.heap.size + 1 + 1 + 1 + 1 + 1 ≤ W.heap.size) ∧ Below w.heap.size w W)
    (fun _ _ _ => False)
    (OwnFrom.and (Own.from (fun s A B row hs hg hr => by
      obtain ⟨v, h1, h2, h3, h4, h5, h6⟩ := hs
      exact ⟨v, h1.kept hg hr, h2.kept hg hr, h3.kept hg hr, h4.kept hg hr, h5, Nat.le_trans h6 hg.size⟩) _) (ownFrom_below (Nat.le_refl _) (by rw [HZ1.out]; omega)))
    (fun _ _ _ _ _ hs _ _ => hs)
    ⟨⟨.slice none 0 0, Row.nil _ _, b3.alloc _, b2.alloc _, b1.alloc _, Nat.zero_le _, by rw [HZ1.out]; omega⟩, hB1⟩
    ?a1 ?assign ?body ?done ?stop
  case assign =>
    intro l x W K hK
    gi_wp2
    exact hK
  case body =>
    rintro l pre x W ⟨⟨v, hrow, hl, ho, hf, hpl, hsz⟩, hB⟩ hlt
    have HROW := Lib.hid hrow
    have hfc := (hf.cl 0 _ rfl).1
    have lc := (hl.cl 1 _ rfl).1
    have lf := (hl.cl 1 _ rfl).2
    have HST := Lib.hid (only1_any nb na nl nc g x.1.1 hnl W ((HNM.out.below hB).mono hB.size) ((hB.cell (p := ⟨nb, 0, none⟩) hnb).trans HCB.out))
    have HN := Lib.hid (Tg.sift_snoc (Tg.upto g nl) true pre x)
    have HSL := Lib.hid (Tg.sift_len (Tg.upto g nl) true pre)
    have HLT := Lib.hid hlt
    have HPL := Lib.hid hpl
    clear hrow hlt hpl
    generalize (Lib.containsS (Tg.upto g nl) x.1.1 == true) = st at HST HN
    generalize Tg.sift (Tg.upto g nl) true pre = sl at HROW HN HSL
    cases st with
    | false =>
      gi_wp2_with (refine ⟨trivial, ?_⟩; gi_at_call 30; refine (CallsIn.inRound l (callsIn_wide.2 HST.out)).mono ?_; rintro e w2 ⟨rfl, rfl⟩)
      refine ⟨KeepsOthers.refl _, Below.refl _ _, ⟨v, ?_, hl, ho, hf, ?_, hsz⟩, hB⟩
      · rw [HN.out]; simpa using HROW.out
      · have := HLT.out; have := HPL.out; simp; omega
    | true =>
      have HZL : Hid (sl.length + [x].length ≤ 1000000) := by
        show _ ≤ _
        have h1 := HSL.out
        have h2 := HPL.out
        rw [List.length_singleton]
        omega
      gi_wp2_with (first | (refine ⟨trivial, ?_⟩; gi_at_call 30; refine (CallsIn.inRound l (callsIn_wide.2 HST.out)).mono ?_; rintro e w2 ⟨rfl, rfl⟩) | (gi_at_builtin; refine wpListIn_src rfl _ _ rfl (w.heap.size + 1 + 1 + 1 + 1 + 1) v (.slice (some ⟨w2.heap.size, 0, none⟩) 1 1) sl [x] rfl rfl (HROW.out.alloc _) (src_new w2 x) HZL.out (by simp; omega) ?_; intro v' w3 R3 G3; obtain ⟨a4, n4, c4, rfl⟩ := row_slice R3; have k3 := Lib.hid (low_base0 HROW.out G3 hsz); have hl3 : Blk w3 (w.heap.size + 1 + 1 + 1) 25 #[.string m, v] := (k3.out _ (by omega)).trans hl; have c3 := (hl3.cl 1 _ rfl).1; have f3 := (hl3.cl 1 _ rfl).2))
      have ho3 : Blk w3 (w.heap.size + 1 + 1) 25 #[.string ⟨#[]⟩, .slice none 0 0] := (k3.out _ (by omega)).trans ho
      have hf3 : Blk w3 (w.heap.size + 1) 41 #[.func (.func 30) #[] #[.pointer (some ⟨nb, 0, none⟩)]] := (k3.out _ (by omega)).trans hf
      have hs3 : w.heap.size + 1 + 1 + 1 + 1 + 1 ≤ w3.heap.size := by have := G3.size; simp at this; omega
      have hbb : Below w.heap.size w2 w3 := ((Below.refl w.heap.size w2).alloc (by omega) (.cells #[.string x.1.1, .string x.1.2] 32)).grown G3 (by simp; omega) (fun i hi => by have := HROW.out.geB i hi; omega)
      have hko : KeepsOthers w2 w3 := (KeepsOthers.alloc w2 _).trans (KeepsOthers.of_grownBy G3 (row_cells (HROW.out.alloc _)))
      refine ⟨hko.trans (KeepsOthers.setCell _ _ _), hbb.setCell (p := ⟨w.heap.size + 1 + 1 + 1, 1, none⟩) (show w.heap.size ≤ w.heap.size + 1 + 1 + 1 by omega) _, ⟨.slice a4 n4 c4, ?_, hl3.set 1 _, ho3.other (p := ⟨w.heap.size + 1 + 1 + 1, 1, none⟩) (show w.heap.size + 1 + 1 + 1 ≠ w.heap.size + 1 + 1 by omega) _, hf3.other (p := ⟨w.heap.size + 1 + 1 + 1, 1, none⟩) (show w.heap.size + 1 + 1 + 1 ≠ w.heap.size + 1 by omega) _, ?_, by simp [World.setCell]; omega⟩, (hB.trans hbb).setCell (p := ⟨w.heap.size + 1 + 1 + 1, 1, none⟩) (show w.heap.size ≤ w.heap.size + 1 + 1 + 1 by omega) _⟩
      · rw [HN.out, if_pos trivial]
        exact R3.stay fun i hi _ => heap_set (p := ⟨w.heap.size + 1 + 1 + 1, 1, none⟩) (show w.heap.size + 1 + 1 + 1 ≠ i by omega)
      · have := HLT.out; have := HPL.out; simp; omega
  case done =>
    rintro D ys W hD rfl ⟨⟨v, hrow, hl, ho, hf, hpl, hsz⟩, hB⟩ hK
    obtain ⟨a1, n1, c1, rfl⟩ := row_slice hrow
    have HROW := Lib.hid hrow
    clear hrow
    rw [HZ1.out] at hD
    have l0 := (hl.cl 0 _ rfl).1
    have l1 := (hl.cl 1 _ rfl).1
    have o0 := ho.cl 0 _ rfl
    have o1 := ho.cl 1 _ rfl
    have o0c := o0.1
    have o0f := o0.2
    have o1c := o1.1
    have o1f := o1.2
    gi_wp2
    have hKf := ((KeepsOthers.setCell W ⟨w.heap.size + 1 + 1, 0, none⟩ (.string m)).trans (KeepsOthers.setCell _ ⟨w.heap.size + 1 + 1, 1, none⟩ (.slice a1 n1 c1))).same D _ hK rfl
    have e0 := (Cl.putD ((o0.set (.string m)).other (addr_ne' (o := 1) (by decide)) (.slice a1 n1 c1)) (.deferred none) hKf rfl).1
    have e1 := (Cl.putD ((o1.other (addr_ne' (o := 0) (by decide)) (.string m)).set (.slice a1 n1 c1)) (.deferred none) hKf rfl).1
    refine ⟨by simp, .inl ⟨_, _, rfl, run_takeDeferred hKf, ?_⟩⟩
    refine ⟨.agg #[.string m, .slice a1 n1 c1], ?_, ⟨a1, n1, c1, rfl, ?_, ?_⟩⟩
    · simp [results, Try.f27, go_sem, e0, e1]
    · refine (Row.kept (Row.stay HROW.out fun i hi _ => ?_) (grownBy_putObj' _ D (.deferred none)) (fun r e => by cases e; exact ⟨_, hKf, rfl⟩)).base (show w.heap.size ≤ w.heap.size + 1 + 1 + 1 + 1 + 1 by omega)
      rw [heap_set (p := ⟨w.heap.size + 1 + 1, 1, none⟩) (show w.heap.size + 1 + 1 ≠ i by omega), heap_set (p := ⟨w.heap.size + 1 + 1, 0, none⟩) (show w.heap.size + 1 + 1 ≠ i by omega)]
    · exact ((hB.setCell (p := ⟨w.heap.size + 1 + 1, 0, none⟩) (show w.heap.size ≤ w.heap.size + 1 + 1 by omega) _).setCell (p := ⟨w.heap.size + 1 + 1, 1, none⟩) (show w.heap.size ≤ w.heap.size + 1 + 1 by omega) _).trans (belowK_b (w := w) (Nat.le_refl _) _ D _ _ (by omega) hKf rfl rfl)
  case stop =>
    rintro D c pre W _ _ h _
    exact h.elim
set_option maxRecDepth 100000 in
set_option maxHeartbeats 2000000 in
theorem only_any (m : ByteArray) (a : Option Addr) (len cap : Nat) (f : Nat → Tg.LabM) (na : Option Addr) (nl nc : Nat) (g : Nat → ByteArray) (hlen : len ≤ 100) (hnl : nl ≤ maxLen) (w : World)
    (hI : LabsAt (·.1) w.heap.size w a len f) (hN : StrsAt w.heap.size w na nl g) :
    Calls Try.prog 12 #[.agg #[.string m, .slice a len cap], .slice na nl nc] w (Sift m (Tg.sift (Tg.upto g nl) true (Tg.upto f len)) w) := by
  have hB0 : Below w.heap.size w (((w.alloc (.cells #[.string m, .slice a len cap] 25)).alloc (.cells #[.slice na nl nc] 36)).alloc (.cells #[.string ⟨#[]⟩, .slice none 0 0] 25)) := (((Below.refl _ w).alloc (Nat.le_refl _) _).alloc (by simp) _).alloc (by simp; omega) _
  have b1 : Blk (((w.alloc (.cells #[.string m, .slice a len cap] 25)).alloc (.cells #[.slice na nl nc] 36)).alloc (.cells #[.string ⟨#[]⟩, .slice none 0 0] 25)) (w.heap.size + 1) 36 #[.slice na nl nc] := by
    have h := Blk.new (w.alloc (.cells #[.string m, .slice a len cap] 25)) 36 #[.slice na nl nc]
    rw [World.size_alloc] at h
    exact h.alloc _
  have b2 : Blk (((w.alloc (.cells #[.string m, .slice a len cap] 25)).alloc (.cells #[.slice na nl nc] 36)).alloc (.cells #[.string ⟨#[]⟩, .slice none 0 0] 25)) (w.heap.size + 1 + 1) 25 #[.string ⟨#[]⟩, .slice none 0 0] := by
    have h := Blk.new ((w.alloc (.cells #[.string m, .slice a len cap] 25)).alloc (.cells #[.slice na nl nc] 36)) 25 #[.string ⟨#[]⟩, .slice none 0 0]
    rw [World.size_alloc, World.size_alloc] at h
    exact h
  have hz0 : (((w.alloc (.cells #[.string m, .slice a len cap] 25)).alloc (.cells #[.slice na nl nc] 36)).alloc (.cells #[.string ⟨#[]⟩, .slice none 0 0] 25)).heap.size = w.heap.size + 1 + 1 + 1 := by simp
  have HT := Lib.hid (those_only m a len cap f (w.heap.size + 1) na nl nc g hlen hnl (((w.alloc (.cells #[.string m, .slice a len cap] 25)).alloc (.cells #[.slice na nl nc] 36)).alloc (.cells #[.string ⟨#[]⟩, .slice none 0 0] 25)) ((hI.below hB0).mono hB0.size) ((hN.below hB0).mono hB0.size) (by rw [hz0]; omega) (b1.cl 0 _ rfl).1)
  clear hI hN
  go_enter Try.func12, Try.ntmps12
  go_wp2_with fail
  refine HT.out.mono ?_
  rintro e w1 ⟨a1, n1, c1, rfl, hrow, hb1⟩
  have hB1 : Below w.heap.size w w1 := hB0.trans (hb1.mono hB0.size)
  have HROW := Lib.hid hrow
  have b21 := b2.below hb1 (by rw [hz0]; omega)
  have o0 := b21.cl 0 _ rfl
  have o1 := b21.cl 1 _ rfl
  have o0c := o0.1
  have o0f := o0.2
  have o1c := o1.1
  have o1f := o1.2
  rw [hz0] at HROW
  clear hrow hz0
  go_wp2
  obtain ⟨f0, f1⟩ := two_set' (x0 := .string m) (x1 := .slice a1 n1 c1) o0 o1
  refine bodyPost_ret (v := .agg #[.string m, .slice a1 n1 c1]) (by simp [results, Try.results12, go_sem, f0, f1]) rfl ⟨a1, n1, c1, rfl, ?_, ?_⟩
  · refine (HROW.out.stay fun i hi _ => ?_).base (show w.heap.size ≤ w.heap.size + 1 + 1 + 1 by omega)
    rw [heap_set (p := ⟨w.heap.size + 1 + 1, 1, none⟩) (show w.heap.size + 1 + 1 ≠ i by omega), heap_set (p := ⟨w.heap.size + 1 + 1, 0, none⟩) (show w.heap.size + 1 + 1 ≠ i by omega)]
  · exact (hB1.setCell (p := ⟨w.heap.size + 1 + 1, 0, none⟩) (show w.heap.size ≤ w.heap.size + 1 + 1 by omega) _).setCell (p := ⟨w.heap.size + 1 + 1, 1, none⟩) (show w.heap.size ≤ w.heap.size + 1 + 1 by omega) _
end Go.Proofs.Ytpfhfiokmhijmaa
