/- What tag.Text answers, of a series whose names and values aren't long. -/
import Derived.Test.YtpfhfiokmhijmaaTgBuild
import Derived.ShutString
namespace Go.Proofs.Ytpfhfiokmhijmaa
open Go.RowKit Go.Shelf
attribute [local go_sem] Oper.semAt_some
namespace Tg
/-- a label whose name and value aren't long -/
abbrev LabS := { x : Lab // x.1.size ≤ 24 ∧ x.2.size ≤ 24 }
def piece (c : UInt8) (x : Lab) : List UInt8 := [c] ++ x.1.data.toList ++ [61] ++ x.2.data.toList
def openT : List Lab → List UInt8
  | [] => []
  | x :: l => piece 123 x ++ l.flatMap (piece 44)
def sepT (l : List Lab) : ByteArray := if l.isEmpty then ⟨#[123]⟩ else ⟨#[44]⟩
theorem openT_snoc (l : List Lab) (x : Lab) : openT (l ++ [x]) = openT l ++ ((sepT l).data.toList ++ x.1.data.toList ++ [61] ++ x.2.data.toList) := by
  cases l with
  | nil => simp [openT, sepT, piece]
  | cons y l => simp [openT, sepT, piece]
def textL (m : List UInt8) (l : List Lab) : List UInt8 := m ++ openT l ++ (if l.isEmpty then [] else [125])
def labsS (l : List LabS) : List Lab := l.map (·.1)
theorem labsS_snoc (l : List LabS) (x : LabS) : labsS (l ++ [x]) = labsS l ++ [x.1] := by simp [labsS]
theorem openT_le : ∀ (l : List LabS), (openT (labsS l)).length ≤ l.length * 50 := by
  intro l
  have hp : ∀ c (x : LabS), (piece c x.1).length ≤ 50 := fun c x => by
    have h1 := x.2.1
    have h2 := x.2.2
    rw [Lib.size_eq] at h1 h2
    simp only [piece, List.length_append, List.length_cons, List.length_nil]
    omega
  have hf : ∀ l : List LabS, ((labsS l).flatMap (piece 44)).length ≤ l.length * 50 := by
    intro l
    induction l with
    | nil => simp [labsS]
    | cons x l ih =>
      have := hp 44 x
      simp only [labsS, List.map_cons, List.flatMap_cons, List.length_append, List.length_cons] at ih ⊢
      omega
  cases l with
  | nil => simp [labsS, openT]
  | cons x l =>
    have h1 := hp 123 x
    have h2 := hf l
    simp only [labsS, List.map_cons, openT, List.length_append, List.length_cons] at h2 ⊢
    omega
end Tg
/-- block g is just these cells, none frozen -/
def Blk (w : World) (g : Nat) (t : TypeId) (cs : Array Value) : Prop := w.heap[g]? = some (.cells cs t (0, 0))
section
variable {w w' : World} {g : Nat} {t : TypeId} {cs : Array Value}
theorem Blk.cl (h : Blk w g t cs) (i : Nat) (u : Value) (hu : cs[i]? = some u) : Cl w ⟨g, i, none⟩ u := ⟨by rw [Lib.cell_of_heap h, hu], Lib.frozen_of_heap h i⟩
theorem Blk.new (w : World) (t : TypeId) (cs : Array Value) : Blk (w.alloc (.cells cs t)) w.heap.size t cs := heap_alloc_new w _
theorem Blk.kept {row : Option Nat} (h : Blk w g t cs) (hg : w.grownBy w' row) (hr : ∀ r, row = some r → ∃ o : Obj, w.heap[r]? = some o ∧ o.isCells = false) : Blk w' g t cs :=
  (hg.block g (Array.getElem?_eq_some_iff.1 h).1 (fun e => by
    obtain ⟨o, ho, hc⟩ := hr g e.symm
    rw [show w.heap[g]? = _ from h] at ho
    cases ho
    cases hc)).trans h
theorem Blk.alloc (h : Blk w g t cs) (o : Obj) : Blk (w.alloc o) g t cs := h.kept (World.grownBy_alloc w o none) (fun r e => by cases e)
theorem Blk.others {b : Nat} {e : TypeId} (h : Blk w g t cs) (hk : Lib.OthersKept e (some b) w w') (hne : g ≠ b) (ht : t ≠ e) : Blk w' g t cs :=
  hk g _ h (fun e' => hne (by injection e')) (fun c fz e' => by cases e'; exact ht rfl)
theorem Blk.below {n : Nat} (h : Blk w g t cs) (hb : Below n w w') (hg : g < n) : Blk w' g t cs := (hb.block g hg).trans h
theorem Blk.set (h : Blk w g t cs) (i : Nat) (u : Value) : Blk (w.setCell ⟨g, i, none⟩ u) g t (cs.setIfInBounds i u) := by
  unfold Blk at *
  simp [World.setCell, Array.getElem?_modify, h]
theorem Blk.other (h : Blk w g t cs) {p : Addr} (hp : p.block ≠ g) (u : Value) : Blk (w.setCell p u) g t cs := (heap_set hp).trans h
theorem Blk.lt (h : Blk w g t cs) : g < w.heap.size := (Array.getElem?_eq_some_iff.1 h).1
end
theorem Bld.setOther {B b : Nat} {l : List UInt8} {w : World} (h : Bld B b l w) {k : Nat} {v : Value} (hk : Blk w k 9 #[v]) (u : Value) : Bld B b l (w.setCell ⟨k, 0, none⟩ u) := by
  have aux : ∀ p, Lib.BuilderAtF 56 5 B b p (Lib.byteCells l) w → Lib.BuilderAtF 56 5 B b p (Lib.byteCells l) (w.setCell ⟨k, 0, none⟩ u) := by
    rintro p ⟨hB, v', hb, hown, hne⟩
    have hkb : ∀ j cs t fr, t ≠ 9 → w.heap[j]? = some (Obj.cells cs t fr) → (w.setCell ⟨k, 0, none⟩ u).heap[j]? = some (Obj.cells cs t fr) := fun j cs t fr ht hj => by
      rw [heap_set (p := ⟨k, 0, none⟩) (show k ≠ j from fun e => by subst e; rw [show w.heap[k]? = _ from hk] at hj; cases hj; exact ht rfl)]
      exact hj
    refine ⟨hB, v', hkb b _ _ _ (by decide) hb, ?_, hne⟩
    rcases hown.2 with h0 | ⟨g, cap, cur, fz, hv, hg1, hg2, r⟩
    · exact ⟨hown.1, .inl h0⟩
    · exact ⟨hown.1, .inr ⟨g, cap, cur, fz, hv, hg1, hkb g _ _ _ (by decide) hg2, r⟩⟩
  exact h.imp (aux _) (aux _)
theorem Bld.new (w : World) (B : Nat) (hB : B ≤ w.heap.size) : Bld B w.heap.size [] (w.alloc (.cells #[.pointer none, .slice none 0 0] 56)) :=
  .inl ⟨hB, .slice none 0 0, heap_alloc_new w _, ⟨rfl, .inl ⟨rfl, rfl⟩⟩, by simp [Value.ownBlock]⟩
set_option maxRecDepth 100000 in
set_option maxHeartbeats 2000000 in
theorem text_any (m : ByteArray) (hm : m.size ≤ 24) (a : Option Addr) (len cap : Nat) (f : Nat → Tg.LabS) (hlen : len ≤ 6) (w : World) (hI : LabsAt (·.1) w.heap.size w a len f) :
    Calls Try.prog 14 #[.agg #[.string m, .slice a len cap]] w fun e w' => e = .returned (.string ⟨(Tg.textL m.data.toList (Tg.labsS (Tg.upto f len))).toArray⟩) ∧ Below w.heap.size w w' := by
  have hlm : len ≤ maxLen := by unfold maxLen; omega
  refine (callsIn_wide (n := 3)).1 ?_
  refine callsIn_of_wp_marks Try.func14 rfl trivial ?_ rfl
  simp only [Try.ntmps14, List.size_toArray, List.length_cons, List.length_nil, Nat.reduceAdd, Nat.reduceSub, Array.replicate_succ, Array.replicate_zero, List.push_toArray, List.append_toArray, List.nil_append, List.cons_append]
  gi_wp2_with fail
  have b0 : Blk ((w.alloc (.cells #[.string m, .slice a len cap] 25)).alloc (.cells #[.pointer none, .slice none 0 0] 56)) w.heap.size 25 #[.string m, .slice a len cap] := (Blk.new w _ _).alloc _
  have d0 : Bld w.heap.size (w.heap.size + 1) [] ((w.alloc (.cells #[.string m, .slice a len cap] 25)).alloc (.cells #[.pointer none, .slice none 0 0] 56)) := by
    have h := Bld.new (w.alloc (.cells #[.string m, .slice a len cap] 25)) w.heap.size (by simp)
    rw [World.size_alloc] at h
    exact h
  have hB0 : Below w.heap.size w ((w.alloc (.cells #[.string m, .slice a len cap] 25)).alloc (.cells #[.pointer none, .slice none 0 0] 56)) := ((Below.refl _ w).alloc (Nat.le_refl _) _).alloc (by simp) _
  refine ⟨trivial, (callsIn_wide.2 (writeString_any w.heap.size (w.heap.size + 1) [] m _ d0 (by simp; omega) (by simp; omega))).mono ?_⟩
  rintro e w1 ⟨rfl, d1, hb1, hk1, hs1⟩
  have b1 := b0.others hk1 (by omega) (by decide)
  have hB1 : Below w.heap.size w w1 := hB0.trans hb1
  have hs1' : w.heap.size + 1 + 1 ≤ w1.heap.size := by simp at hs1; omega
  rw [List.nil_append] at d1
  clear b0 d0 hB0 hb1 hk1 hs1
  have b1c := ((b1.alloc (.cells #[.string ⟨#[123]⟩] 9)).cl 1 _ rfl).1
  gi_wp2_with (refine ⟨trivial, ?_⟩; gi_at_call 16; refine (callsIn_wide.2 (pairs_any _ _ _ _)).mono ?_; rintro e w' ⟨rfl, rfl⟩)
  have bN := Boxed.new (w1.alloc (.cells #[.string ⟨#[123]⟩] 9)) 22 (.slice a len cap)
  rw [World.size_alloc] at bN
  have hB2 : Below w.heap.size w ((w1.alloc (.cells #[.string ⟨#[123]⟩] 9)).alloc (.cells #[.slice a len cap] 22)) := (hB1.alloc (by omega) _).alloc (by simp; omega) _
  have i0 : Bld w.heap.size (w.heap.size + 1) (m.data.toList ++ Tg.openT (Tg.labsS [])) ((w1.alloc (.cells #[.string ⟨#[123]⟩] 9)).alloc (.cells #[.slice a len cap] 22)) := by
    have h := (d1.kept (World.grownBy_alloc w1 (.cells #[.string ⟨#[123]⟩] 9) none) (fun r e => by cases e)).kept (World.grownBy_alloc _ (.cells #[.slice a len cap] 22) none) (fun r e => by cases e)
    rw [show Tg.openT (Tg.labsS []) = [] from rfl, List.append_nil]
    exact h
  have i1 : Blk ((w1.alloc (.cells #[.string ⟨#[123]⟩] 9)).alloc (.cells #[.slice a len cap] 22)) w1.heap.size 9 #[.string (Tg.sepT (Tg.labsS []))] := by
    rw [show Tg.sepT (Tg.labsS []) = ⟨#[123]⟩ from rfl]
    exact (Blk.new w1 _ _).alloc _
  refine wpIn_rangeFunc_ownF rfl (by decide) (gf := 38) (lb := #[.pointer (some ⟨w1.heap.size + 1, 0, none⟩)]) rfl trivial pairs1_enters
    (pairs_stops (·.1) (w1.heap.size + 1) w.heap.size a len cap f hlm _ (by simp) (by simp; omega) bN.cell (hI.below hB2)) belowK_t (belowK_b (by simp; omega)) (Below.refl _ _) (fun _ => rfl)
    (fun pre W => (Bld w.heap.size (w.heap.size + 1) (m.data.toList ++ Tg.openT (Tg.labsS pre)) W ∧ Blk W w1.heap.size 9 #[.string (Tg.sepT (Tg.labsS pre))] ∧ Blk W w.heap.size 25 #[.string m, .slice a len cap] ∧ pre.length ≤ len) ∧ Below w.heap.size w W)
    (fun _ _ _ => False)
    (OwnFrom.and (Own.from (fun s A B row hs hg hr => ⟨hs.1.kept hg hr, hs.2.1.kept hg hr, hs.2.2.1.kept hg hr, hs.2.2.2⟩) _) (ownFrom_below (Nat.le_refl _) (by simp; omega)))
    (fun _ _ _ _ _ hs _ _ => hs)
    ⟨⟨i0, i1, (b1.alloc _).alloc _, Nat.zero_le _⟩, hB2⟩
    ?a1 ?assign ?body ?done ?stop
  case assign =>
    intro l x W K hK
    gi_wp2
    exact hK
  case body =>
    rintro l pre x W ⟨⟨hd, hsep, hbox, hpl⟩, hB⟩ hlt
    have HS := Lib.hid (Tg.openT_snoc (Tg.labsS pre) x.1)
    have HL := Lib.hid (Tg.labsS_snoc pre x)
    have hol := Tg.openT_le pre
    have hx1 := x.2.1
    have hx2 := x.2.2
    have hsz : (Tg.sepT (Tg.labsS pre)).size = 1 := by unfold Tg.sepT; split <;> rfl
    have hne : Hid (Tg.sepT (Tg.labsS (pre ++ [x])) = ⟨#[44]⟩) := by
      show _ = _
      rw [HL.out]; unfold Tg.sepT; simp
    generalize Tg.sepT (Tg.labsS pre) = y at hsep hsz HS
    have hcs := (hsep.cl 0 _ rfl).1
    have hfs := (hsep.cl 0 _ rfl).2
    obtain ⟨hWB, hbb⟩ : w.heap.size ≤ W.heap.size ∧ ∃ cs t fr, W.heap[w.heap.size + 1]? = some (.cells cs t fr) := ⟨hB.size, by obtain ⟨_, cs, h⟩ := hd.at; exact ⟨cs, _, _, h⟩⟩
    have HW := fun s hs => Lib.hid (writeString_any w.heap.size (w.heap.size + 1) (m.data.toList ++ Tg.openT (Tg.labsS pre)) s W hd hs hWB)
    have hml : m.data.toList.length ≤ 24 := by rw [← Lib.size_eq]; exact hm
    have hyl : y.size ≤ 1 := by omega
    clear hsz
    gi_wp2_with (refine ⟨trivial, ?_⟩; gi_at_call 32; refine (CallsIn.inRound l (callsIn_wide.2 (HW _ ?hb).out)).mono ?_; rotate_left; rintro e w2 ⟨rfl, d2, hb2, hk2, hs2⟩; have hsep2 := hsep.others hk2 (show w1.heap.size ≠ w.heap.size + 1 by omega) (by decide); have hbox2 := hbox.others hk2 (show w.heap.size ≠ w.heap.size + 1 by omega) (by decide); have hcs2 := (hsep2.cl 0 _ rfl).1; have hfs2 := (hsep2.cl 0 _ rfl).2)
    · have hda : (y ++ x.1.1 ++ ⟨#[61]⟩ ++ x.1.2).data.toList = y.data.toList ++ x.1.1.data.toList ++ [61] ++ x.1.2.data.toList := by simp
      rw [hda, List.append_assoc, ← HS.out, ← HL.out] at d2
      refine ⟨(others_keeps hk2 hs2 hbb).trans (KeepsOthers.setCell _ _ _), hb2.setCell (p := ⟨w1.heap.size, 0, none⟩) (by show _ ≤ w1.heap.size; omega) _, ⟨d2.setOther hsep2 _, ?_, hbox2.other (p := ⟨w1.heap.size, 0, none⟩) (show w1.heap.size ≠ w.heap.size by omega) _, by simp; omega⟩, (hB.trans hb2).setCell (p := ⟨w1.heap.size, 0, none⟩) (by show _ ≤ w1.heap.size; omega) _⟩
      rw [hne.out]
      exact hsep2.set 0 _
    case hb =>
      rw [List.length_append]
      simp only [ByteArray.size_append]
      have : (⟨#[61]⟩ : ByteArray).size = 1 := rfl
      omega
  case done =>
    rintro D ys W hD rfl ⟨⟨hd, hsep, hbox, hpl⟩, hB⟩ hK
    have hol := Tg.openT_le (Tg.upto f len)
    rw [Tg.upto_len] at hol
    have hml : m.data.toList.length ≤ 24 := by rw [← Lib.size_eq]; exact hm
    have hbc := (hbox.cl 1 _ rfl).1
    have hDw : w.heap.size ≤ D := by simp at hD; omega
    have hne : D ≠ w.heap.size + 1 := by simp at hD; omega
    have hKb : ∀ (w2 : World), Lib.OthersKept 5 (some (w.heap.size + 1)) W w2 → w2.heap[D]? = some (.deferred (some [])) := fun w2 hk => hk D _ hK (fun e => hne (by injection e)) (fun c fz e => by cases e)
    by_cases h0 : len = 0
    · have hle : ¬ (0 : Int) < (len : Int) := by omega
      have HT : Hid (Tg.textL m.data.toList (Tg.labsS (Tg.upto f len)) = m.data.toList ++ Tg.openT (Tg.labsS (Tg.upto f len))) := by
        show _ = _
        rw [h0]; simp [Tg.textL, Tg.labsS, Tg.upto]
      have HX := Lib.hid (Try.Builder_String_any_k w.heap.size (w.heap.size + 1) _ W hd hB.size)
      rw [← HT.out] at HX
      clear h0 hol hml HT
      obtain ⟨t, HQ⟩ : ∃ t, Hid (Tg.textL m.data.toList (Tg.labsS (Tg.upto f len)) = t) := ⟨_, rfl⟩
      rw [HQ.out] at HX
      gi_wp2_with (refine ⟨trivial, ?_⟩; gi_at_call 33; refine (callsIn_wide.2 HX.out).mono ?_; rintro e w2 ⟨rfl, d2, hb2, hk2⟩)
      refine ⟨by simp, .inl ⟨_, _, rfl, run_takeDeferred (hKb _ hk2), ?_⟩⟩
      exact ⟨_, results_tmp rfl _ _ _, by rw [HQ.out]; rfl, (hB.trans hb2).trans (belowK_b (w := w) (Nat.le_refl _) _ D _ _ hDw (hKb _ hk2) rfl rfl)⟩
    · have hle : (0 : Int) < (len : Int) := by omega
      have HT : Hid (Tg.textL m.data.toList (Tg.labsS (Tg.upto f len)) = m.data.toList ++ Tg.openT (Tg.labsS (Tg.upto f len)) ++ [125]) := by
        show _ = _
        have : (Tg.labsS (Tg.upto f len)).isEmpty = false := by
          cases hc : Tg.labsS (Tg.upto f len) with
          | nil => have := congrArg List.length hc; simp [Tg.labsS, Tg.upto_len] at this; omega
          | cons x l => rfl
        unfold Tg.textL; rw [this]; rfl
      have HW := Lib.hid (writeString_any w.heap.size (w.heap.size + 1) (m.data.toList ++ Tg.openT (Tg.labsS (Tg.upto f len))) ⟨#[125]⟩ W hd (by rw [List.length_append]; have : (⟨#[125]⟩ : ByteArray).size = 1 := rfl; omega) hB.size)
      rw [show (⟨#[125]⟩ : ByteArray).data.toList = [125] from rfl, ← HT.out] at HW
      clear h0 hol hml HT
      obtain ⟨t, HQ⟩ : ∃ t, Hid (Tg.textL m.data.toList (Tg.labsS (Tg.upto f len)) = t) := ⟨_, rfl⟩
      rw [HQ.out] at HW
      gi_wp2_with (refine ⟨trivial, ?_⟩; gi_at_call 32; refine (callsIn_wide.2 HW.out).mono ?_; rintro e w2 ⟨rfl, d2, hb2, hk2, hs2⟩)
      have HX := Lib.hid (Try.Builder_String_any_k w.heap.size (w.heap.size + 1) _ w2 d2 (Nat.le_trans hB.size hs2))
      gi_wp2_with (refine ⟨trivial, ?_⟩; gi_at_call 33; refine (callsIn_wide.2 HX.out).mono ?_; rintro e w3 ⟨rfl, d3, hb3, hk3⟩)
      have hK3 := hKb _ (hk2.trans hk3)
      refine ⟨by simp, .inl ⟨_, _, rfl, run_takeDeferred hK3, ?_⟩⟩
      exact ⟨_, results_tmp rfl _ _ _, by rw [HQ.out]; rfl, ((hB.trans hb2).trans hb3).trans (belowK_b (w := w) (Nat.le_refl _) _ D _ _ hDw hK3 rfl rfl)⟩
  case stop =>
    rintro D c pre W _ _ h _
    exact h.elim
end Go.Proofs.Ytpfhfiokmhijmaa
