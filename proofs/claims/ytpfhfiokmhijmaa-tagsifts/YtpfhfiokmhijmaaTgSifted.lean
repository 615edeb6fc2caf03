/- The document's Sifted (tidemillref02): a series with the labels alone whose names are, or aren't, among some. -/
import Derived.Test.YtpfhfiokmhijmaaTgHas
import Derived.Test.YtpfhfiokmhijmaaTgApp
import Derived.Deep.RegionLaw
namespace Go.Proofs.Ytpfhfiokmhijmaa
open Go.RowKit
namespace Tg
/-- the labels whose being among the names is inn -/
def sift (names : List ByteArray) (inn : Bool) (l : List LabM) : List LabM := l.filter fun x => Lib.containsS names x.1.1 == inn
theorem sift_snoc (names : List ByteArray) (inn : Bool) (l : List LabM) (x : LabM) : sift names inn (l ++ [x]) = sift names inn l ++ (if Lib.containsS names x.1.1 == inn then [x] else []) := by
  unfold sift
  rw [List.filter_append]
  congr 1
  cases h : (Lib.containsS names x.1.1 == inn) <;> simp [h]
theorem sift_len (names : List ByteArray) (inn : Bool) (l : List LabM) : (sift names inn l).length ≤ l.length := List.length_filter_le _ _
end Tg
theorem two_set' {W : World} {b : Nat} {u0 u1 x0 x1 : Value} (k0 : Cl W ⟨b, 0, none⟩ u0) (k1 : Cl W ⟨b, 1, none⟩ u1) :
    ((W.setCell ⟨b, 0, none⟩ x0).setCell ⟨b, 1, none⟩ x1).cell? ⟨b, 0, none⟩ = some x0 ∧ ((W.setCell ⟨b, 0, none⟩ x0).setCell ⟨b, 1, none⟩ x1).cell? ⟨b, 1, none⟩ = some x1 :=
  ⟨((k0.set x0).other (addr_ne' (by decide)) x1).1, ((k1.other (addr_ne' (by decide)) x0).set x1).1⟩
/-- at a step of a region that draws, whatever the row's base -/
theorem step_own {w : World} {ops : Array Oper} {o : Oper} {a : Act} {K : Act → World → Prop} {Q : Exit → Act → World → Prop} {E : Prop} (hgd : o.guard = none) (s x : Operand)
    (ho : o.op = .call { callee := .builtin .append, args := #[s, x], argTypes := #[22, 22] }) (base : Nat) (v xv : Value) (l1 l2 : List Tg.LabM) (hs : a.eval s = v) (hx : a.eval x = xv)
    (hown : Row w base v l1) (hsrc : Src w xv l2) (hz : l1.length + l2.length ≤ 1000000) (hbase : base ≤ w.heap.size)
    (h : ∀ v' w', Row w' base v' (l1 ++ l2) → w.grownBy w' v.ownBlock → K (a.put o.dst v') w') :
    if Region.wanted o (yielded ops a.tmps) = true then Oper.wp Try.prog o a w K Q else E := by
  obtain ⟨v', w', hr, h1, h2, _⟩ := run_src w o.type base v xv l1 l2 hown hsrc hz hbase
  have hw : Region.wanted o (yielded ops a.tmps) = true := by simp [Region.wanted, hgd]
  rw [if_pos hw]
  unfold Oper.wp execOp
  simp only [ho, resolve, invoke, builtin, Sem.run_bind, Sem.run_pure, Result.andThen_ok, List.map_toArray, List.map_cons, List.map_nil, hs, hx, hr]
  exact h v' w' h1 h2
theorem low_base {w w' : World} {B : Nat} {v : Value} {l : List Tg.LabM} {o : Obj} (hr : Row w B v l) (hg : ((w.alloc o).drew).grownBy w' v.ownBlock) (hB : B ≤ w.heap.size) : ∀ i, i < B → w'.heap[i]? = w.heap[i]? := fun i hi => by
  refine (hg.block i (by show i < (w.alloc o).heap.size; simp; omega) (fun e => by have := (World.ownsRow.lt hr i e.symm).1; omega)).trans ?_
  exact Below.heap_alloc w o i (by omega)
theorem row_slice {W : World} {B : Nat} {v : Value} {l : List Tg.LabM} (h : Row W B v l) : ∃ a n c, v = .slice a n c := by
  obtain ⟨a, c, e, _⟩ := h.labs
  exact ⟨a, _, c, e⟩
/-- what a sifting hands back -/
def Sift (m : ByteArray) (r : List Tg.LabM) (w : World) (e : Ending) (w' : World) : Prop :=
  ∃ a n c, e = .returned (.agg #[.string m, .slice a n c]) ∧ Row w' w.heap.size (.slice a n c) r ∧ Below w.heap.size w w'
set_option maxRecDepth 100000 in
set_option maxHeartbeats 4000000 in
theorem refSifted_any (m : ByteArray) (a : Option Addr) (len cap : Nat) (f : Nat → Tg.LabM) (na : Option Addr) (nl nc : Nat) (g : Nat → ByteArray) (inn : Bool) (hlen : len ≤ 100) (hnl : nl ≤ maxLen) (w : World)
    (hI : LabsAt (·.1) w.heap.size w a len f) (hN : StrsAt w.heap.size w na nl g) :
    Calls Try.prog 13 #[.agg #[.string m, .slice a len cap], .slice na nl nc, .bool inn] w (Sift m (Tg.sift (Tg.upto g nl) inn (Tg.upto f len)) w) := by
  have HI := Lib.hid hI
  have HNM := Lib.hid hN
  clear hI hN
  have bs : Blk (((w.alloc (.cells #[.string m, .slice a len cap] 25)).alloc (.cells #[.string ⟨#[]⟩, .slice none 0 0] 25)).alloc (.cells #[.string m, .slice none 0 0] 25)) w.heap.size 25 #[.string m, .slice a len cap] := ((Blk.new w _ _).alloc _).alloc _
  have bo : Blk (((w.alloc (.cells #[.string m, .slice a len cap] 25)).alloc (.cells #[.string ⟨#[]⟩, .slice none 0 0] 25)).alloc (.cells #[.string m, .slice none 0 0] 25)) (w.heap.size + 1) 25 #[.string ⟨#[]⟩, .slice none 0 0] := by
    have h := Blk.new (w.alloc (.cells #[.string m, .slice a len cap] 25)) 25 #[.string ⟨#[]⟩, .slice none 0 0]
    rw [World.size_alloc] at h
    exact h.alloc _
  have bl : Blk (((w.alloc (.cells #[.string m, .slice a len cap] 25)).alloc (.cells #[.string ⟨#[]⟩, .slice none 0 0] 25)).alloc (.cells #[.string m, .slice none 0 0] 25)) (w.heap.size + 1 + 1) 25 #[.string m, .slice none 0 0] := by
    have h := Blk.new ((w.alloc (.cells #[.string m, .slice a len cap] 25)).alloc (.cells #[.string ⟨#[]⟩, .slice none 0 0] 25)) 25 #[.string m, .slice none 0 0]
    rw [World.size_alloc, World.size_alloc] at h
    exact h
  have hB0 : Below w.heap.size w (((w.alloc (.cells #[.string m, .slice a len cap] 25)).alloc (.cells #[.string ⟨#[]⟩, .slice none 0 0] 25)).alloc (.cells #[.string m, .slice none 0 0] 25)) := (((Below.refl _ w).alloc (Nat.le_refl _) _).alloc (by simp) _).alloc (by simp; omega) _
  have hz0 : (((w.alloc (.cells #[.string m, .slice a len cap] 25)).alloc (.cells #[.string ⟨#[]⟩, .slice none 0 0] 25)).alloc (.cells #[.string m, .slice none 0 0] 25)).heap.size = w.heap.size + 1 + 1 + 1 := by simp
  go_enter Try.func13, Try.ntmps13
  go_wp2_with fail
  obtain ⟨W0, hW0⟩ : ∃ W0, ((w.alloc (.cells #[.string m, .slice a len cap] 25)).alloc (.cells #[.string ⟨#[]⟩, .slice none 0 0] 25)).alloc (.cells #[.string m, .slice none 0 0] 25) = W0 := ⟨_, rfl⟩
  rw [hW0] at bs bo bl hB0 hz0 ⊢
  clear hW0
  have HZ0 := Lib.hid hz0
  clear hz0
  go_loopw [8, 15] (fun _ i wr => ∃ (k : Nat) (v : Value), k ≤ len ∧ i = .int .i64 k ∧ Row wr (w.heap.size + 1 + 1 + 1) v (Tg.sift (Tg.upto g nl) inn (Tg.upto f k)) ∧ Blk wr w.heap.size 25 #[.string m, .slice a len cap] ∧ Blk wr (w.heap.size + 1) 25 #[.string ⟨#[]⟩, .slice none 0 0] ∧ Blk wr (w.heap.size + 1 + 1) 25 #[.string m, v] ∧ Below w.heap.size w wr ∧ w.heap.size + 1 + 1 + 1 ≤ wr.heap.size) (fun _ i _ => len - (intOf i).toNat)
  case atStart => exact ⟨0, .slice none 0 0, Nat.zero_le _, rfl, Row.nil _ _, bs, bo, bl, hB0, by rw [HZ0.out]; omega⟩
  case round =>
    obtain ⟨k, v, hk, rfl, hrow, ks, ko, kl, hB, hsz⟩ := hrel
    have HROW := Lib.hid hrow
    clear hrow bs bo bl hB0
    have s1 := (ks.cl 1 _ rfl).1
    have l0 := (kl.cl 0 _ rfl).1
    have l1 := (kl.cl 1 _ rfl).1
    have l1f := (kl.cl 1 _ rfl).2
    by_cases hlt : k < len
    · obtain ⟨b, off, rfl, hb, hc⟩ := (HI.out.below hB).resolve_left (by omega)
      obtain ⟨p1, p2⟩ := hc k hlt
      have hkn : (k : Int) < (len : Int) := by omega
      have HH := Lib.hid (refHas_any na nl nc g (f k).1.1 hnl wr ((HNM.out.below hB).mono hB.size))
      have HN : Hid (Tg.sift (Tg.upto g nl) inn (Tg.upto f (k + 1)) = Tg.sift (Tg.upto g nl) inn (Tg.upto f k) ++ (if Lib.containsS (Tg.upto g nl) (f k).1.1 == inn then [f k] else [])) := by show _ = _; rw [Tg.upto_succ, Tg.sift_snoc]
      have HLL : Hid ((Tg.sift (Tg.upto g nl) inn (Tg.upto f k)).length ≤ 100) := by
        show _ ≤ _
        have := Tg.sift_len (Tg.upto g nl) inn (Tg.upto f k)
        rw [Tg.upto_len] at this
        omega
      clear hc
      generalize Lib.containsS (Tg.upto g nl) (f k).1.1 = hs at HH HN
      generalize Tg.sift (Tg.upto g nl) inn (Tg.upto f k) = sl at HN HROW HLL
      cases hq : (hs == inn) with
      | false =>
        rw [hq] at HN
        go_wp2_with fail
        refine HH.out.mono ?_
        rintro e w2 ⟨rfl, rfl⟩
        go_wp2
        go_roundw
        case rel => exact ⟨k + 1, v, by omega, by go_num, by rw [HN.out]; simpa using HROW.out, ks, ko, kl, hB, hsz⟩
        case measure => simp [intOf]; omega
      | true =>
        rw [hq, if_pos rfl] at HN
        go_wp2_with fail
        refine HH.out.mono ?_
        rintro e w2 ⟨rfl, rfl⟩
        have hlow := fun (w3 : World) (o : Obj) (G : ((w2.alloc o).drew).grownBy w3 v.ownBlock) => Lib.hid (low_base HROW.out G hsz)
        have l1a : (w2.alloc (.cells #[.string (f k).1.1, .string (f k).1.2] 32)).cell? ⟨w.heap.size + 1 + 1, 1, none⟩ = some v := ((kl.alloc _).cl 1 _ rfl).1
        go_wp2
        go_region_law ((refine step_own (by rfl) _ _ (by rfl) (w.heap.size + 1 + 1 + 1) v (.slice (some ⟨w2.heap.size, 0, none⟩) 1 1) sl [f k] (by rfl) (by rfl) (HROW.out.alloc _) (src_new w2 (f k)) (by have := HLL.out; simp only [List.length_cons, List.length_nil]; omega) (by simp; omega) ?_; intro v' w3 R3 G3; obtain ⟨a4, n4, c4, rfl⟩ := row_slice R3; have k3 := hlow w3 _ G3; have kl3 : Blk w3 (w.heap.size + 1 + 1) 25 #[.string m, v] := (k3.out _ (by omega)).trans kl; have c3 := (kl3.cl 1 _ rfl).1; have f3 := (kl3.cl 1 _ rfl).2))
        all_goals
          have hs3 : w.heap.size + 1 + 1 + 1 ≤ w3.heap.size := by have := G3.size; simp at this; omega
          have hB3 : Below w.heap.size w w3 := (below_h (hB.alloc hB.size _) rfl rfl rfl rfl : Below w.heap.size w (w2.alloc (.cells #[.string (f k).1.1, .string (f k).1.2] 32)).drew).grown G3 (by show _ ≤ (w2.alloc _).heap.size; simp; omega) (fun i hi => by have := HROW.out.geB i hi; omega)
          have ks3 : Blk w3 w.heap.size 25 #[.string m, .slice (some ⟨b, off, none⟩) len cap] := (k3.out _ (by omega)).trans ks
          have ko3 : Blk w3 (w.heap.size + 1) 25 #[.string ⟨#[]⟩, .slice none 0 0] := (k3.out _ (by omega)).trans ko
          have HR3 := Lib.hid R3
          clear R3 G3
          go_wp2
          go_roundw
          case rel =>
            refine ⟨k + 1, .slice a4 n4 c4, by omega, by go_num, ?_, ks3.other (p := ⟨w.heap.size + 1 + 1, 1, none⟩) (show w.heap.size + 1 + 1 ≠ w.heap.size by omega) _, ko3.other (p := ⟨w.heap.size + 1 + 1, 1, none⟩) (show w.heap.size + 1 + 1 ≠ w.heap.size + 1 by omega) _, kl3.set 1 _, hB3.setCell (p := ⟨w.heap.size + 1 + 1, 1, none⟩) (show w.heap.size ≤ w.heap.size + 1 + 1 by omega) _, by simp [World.setCell]; omega⟩
            rw [HN.out]
            exact HR3.out.stay fun i hi _ => heap_set (p := ⟨w.heap.size + 1 + 1, 1, none⟩) (show w.heap.size + 1 + 1 ≠ i by omega)
          case measure => simp [intOf]; omega
    · obtain rfl : k = len := by omega
      have o0 := ko.cl 0 _ rfl
      have o1 := ko.cl 1 _ rfl
      have o0c := o0.1
      have o0f := o0.2
      have o1c := o1.1
      have o1f := o1.2
      obtain ⟨a1, c1, rfl, _⟩ := HROW.out.labs
      obtain ⟨n, hn⟩ : ∃ n, (Tg.sift (Tg.upto g nl) inn (Tg.upto f k)).length = n := ⟨_, rfl⟩
      rw [hn] at HROW l1 kl
      clear hn
      go_wp2
      obtain ⟨f0, f1⟩ := two_set' (x0 := .string m) (x1 := .slice a1 n c1) o0 o1
      refine bodyPost_ret (v := .agg #[.string m, .slice a1 n c1]) (by simp [results, Try.results13, go_sem, f0, f1]) rfl ⟨a1, n, c1, rfl, ?_, ?_⟩
      · refine (HROW.out.stay fun i hi _ => ?_).base (show w.heap.size ≤ w.heap.size + 1 + 1 + 1 by omega)
        rw [heap_set (p := ⟨w.heap.size + 1, 1, none⟩) (show w.heap.size + 1 ≠ i by omega), heap_set (p := ⟨w.heap.size + 1, 0, none⟩) (show w.heap.size + 1 ≠ i by omega)]
      · exact (hB.setCell (p := ⟨w.heap.size + 1, 0, none⟩) (Nat.le_succ _) _).setCell (p := ⟨w.heap.size + 1, 1, none⟩) (Nat.le_succ _) _
end Go.Proofs.Ytpfhfiokmhijmaa
