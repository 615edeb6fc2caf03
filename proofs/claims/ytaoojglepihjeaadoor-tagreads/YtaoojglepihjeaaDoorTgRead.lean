/- What tag.Read answers, of any text that isn't long. Condition: internal/bytealg.MaxLen is an int. -/
import Derived.Test.YtaoojglepihjeaaDoorTgSplit
import Derived.Test.YtaoojglepihjeaaDoorTgGood
import Derived.Test.YtaoojglepihjeaaDoorTgCell
import Derived.Test.YtaoojglepihjeaaDoorShelf
namespace Go.Proofs.YtaoojglepihjeaaDoor
open Go.RowKit Go.Shelf
/-- what the world must hold: MaxLen is an int -/
def EnvM (w : World) : Prop := 0 < w.heap.size ∧ ∃ m : Int, w.cell? ⟨0, 0, none⟩ = some (.int .i64 m)
theorem EnvM.below {w w' : World} (h : EnvM w) (hb : Below w.heap.size w w') : EnvM w' := by
  obtain ⟨h1, m, h2⟩ := h
  exact ⟨Nat.lt_of_lt_of_le h1 hb.size, m, (hb.cell (p := ⟨0, 0, none⟩) h1).trans h2⟩
theorem EnvM.drewN {w : World} (h : EnvM w) (n : Nat) : EnvM (w.drewN n) := h
namespace Tg
theorem splitK_eq : ∀ n l, Lib.splitK [44] 0 n l = splitN n l
  | 0, l => rfl
  | n + 1, l => by
    rw [splitN_succ, Lib.splitK]
    have hge : -1 ≤ Lib.index l [44] := by rw [Lib.index_one]; exact Lib.indexByte_ge l 44
    unfold Lib.cut
    by_cases h : 0 ≤ Lib.index l [44]
    · have h1 : (Lib.index l [44] == -1) = false := beq_eq_false_iff_ne.2 (by omega)
      rw [h1, if_pos h]
      simp only [Bool.false_eq_true, if_false, if_true, Nat.add_zero]
      rw [splitK_eq n]
    · have h1 : (Lib.index l [44] == -1) = true := beq_iff_eq.2 (by omega)
      rw [h1, if_neg h]
      simp
theorem splitB_eq (n : Nat) (s : ByteArray) : (Lib.splitB ⟨#[44]⟩ 0 n s).map (·.data.toList) = splitN n s.data.toList := by
  rw [Lib.splitB_data]; exact splitK_eq n _
theorem cut_len (c : UInt8) (l : List UInt8) : (Lib.cut l [c]).1.length ≤ l.length ∧ (Lib.cut l [c]).2.1.length ≤ l.length := by
  rcases cut_cases c l with ⟨_, e⟩ | ⟨a, b, _, rfl, e⟩ <;> rw [e] <;> simp <;> omega
theorem splitN_mem : ∀ n l, ∀ p ∈ splitN n l, p.length ≤ l.length
  | 0, l, p, hp => by simp [splitN] at hp; rw [hp]; exact Nat.le_refl _
  | n + 1, l, p, hp => by
    rw [splitN_succ] at hp
    split at hp
    · rcases List.mem_cons.1 hp with rfl | hp
      · exact (cut_len 44 l).1
      · exact Nat.le_trans (splitN_mem n _ p hp) (cut_len 44 l).2
    · simp at hp; rw [hp]; exact Nat.le_refl _
/-- a part's label, in memory -/
def lmOf (p : List UInt8) : LabM := if h : (labOf p).1.size ≤ maxLen ∧ (labOf p).2.size ≤ maxLen then ⟨labOf p, h⟩ else labDef
theorem lmOf_val {p : List UInt8} (h : p.length ≤ 100000) : (lmOf p).1 = labOf p := by
  have h1 := cut_len 61 p
  have hb : (labOf p).1.size ≤ maxLen ∧ (labOf p).2.size ≤ maxLen := by
    unfold labOf maxLen
    rw [Lib.size_eq, Lib.size_eq]
    simp only
    omega
  unfold lmOf
  rw [dif_pos hb]
end Tg
theorem news2 (w : World) (a b : Value) (t : TypeId) : ∀ j u, [a, b][j]? = some u → (w.alloc (.cells #[a, b] t)).cell? ((⟨w.heap.size, 0, none⟩ : Addr).add j) = some u := by
  intro j u hj
  have hh : (w.alloc (.cells #[a, b] t)).heap[w.heap.size]? = some (.cells #[a, b] t (0, 0)) := heap_alloc_new w _
  rw [add_none, Lib.cell_of_heap hh, Nat.zero_add]
  simpa using hj
set_option maxHeartbeats 400000 in
theorem cut_s (s : ByteArray) (c : UInt8) (w : World) (hE : EnvM w) (hs : s.size ≤ 100000) :
    Calls Tryd.prog 24 #[.string s, .string ⟨#[c]⟩] w fun e w' => e = .returned (.tuple #[.string ⟨(Lib.cut s.data.toList [c]).1.toArray⟩, .string ⟨(Lib.cut s.data.toList [c]).2.1.toArray⟩, .bool (Lib.cut s.data.toList [c]).2.2]) ∧ ∃ n, w' = w.drewN n := by
  obtain ⟨_, m, hm⟩ := hE
  exact Tryd.strings_Cut s ⟨#[c]⟩ m w (by omega) hm
/-- behind an append of one label onto a row of the call's own: what lay below the row's base stays -/
theorem below_base {w w' : World} {B n : Nat} {v : Value} {l : List Tg.LabM} {o : Obj} (hr : Row w B v l) (hg : ((w.drewN n).alloc o).grownBy w' v.ownBlock) (hB : B ≤ w.heap.size) : ∀ i, i < B → w'.heap[i]? = w.heap[i]? := fun i hi => by
  rw [hg.block i (by simp; omega) (fun e => by have := (World.ownsRow.lt hr i e.symm).1; omega), Below.heap_alloc _ o i (by show i < w.heap.size; omega)]
  rfl
/-- the row with one more -/
theorem row_snoc {w : World} {B : Nat} {v : Value} {l : List Tg.LabM} {x : Tg.LabM} (h : w.ownsRow B 37 2 v (l.length + 1) (Tg.cells l ++ [.string x.1.1, .string x.1.2])) : Row w B v (l ++ [x]) := by
  unfold Row
  rw [List.length_append, Tg.cells_app]
  exact h
/-- what Read hands back -/
def Readed (l : List UInt8) (w : World) (e : Ending) (w' : World) : Prop :=
  ∃ m' v r, e = .returned (.tuple #[.agg #[.string m', v], .int .i64 (if Tg.rOk l then 0 else 2)]) ∧ Row w' w.heap.size v r ∧ Below w.heap.size w w' ∧
    (Tg.rOk l = true → m' = ⟨(Tg.rMet l).toArray⟩ ∧ Tg.labs r = Tg.rLabs l) ∧ (Tg.rOk l = false → m' = ⟨#[]⟩ ∧ r = [])
theorem two_set {W : World} {b : Nat} {u0 u1 x0 x1 : Value} (k0 : Cl W ⟨b, 0, none⟩ u0) (k1 : Cl W ⟨b, 1, none⟩ u1) :
    ((W.setCell ⟨b, 0, none⟩ x0).setCell ⟨b, 1, none⟩ x1).cell? ⟨b, 0, none⟩ = some x0 ∧ ((W.setCell ⟨b, 0, none⟩ x0).setCell ⟨b, 1, none⟩ x1).cell? ⟨b, 1, none⟩ = some x1 :=
  ⟨((k0.set x0).other (addr_ne' (by decide)) x1).1, ((k1.other (addr_ne' (by decide)) x0).set x1).1⟩
set_option maxRecDepth 100000 in
set_option maxHeartbeats 4000000 in
theorem read_any (s : ByteArray) (w : World) (hE : EnvM w) (hs : s.size ≤ 5000) :
    Calls Tryd.prog 10 #[.string s] w (Readed s.data.toList w) := by
  have c0 : Cl (w.alloc (.cells #[.string ⟨#[]⟩, .slice none 0 0] 24)) ⟨w.heap.size, 0, none⟩ (.string ⟨#[]⟩) := Cl.new w _ _ 0 _ rfl
  have c1 : Cl (w.alloc (.cells #[.string ⟨#[]⟩, .slice none 0 0] 24)) ⟨w.heap.size, 1, none⟩ (.slice none 0 0) := Cl.new w _ _ 1 _ rfl
  have hB0 : Below w.heap.size w (w.alloc (.cells #[.string ⟨#[]⟩, .slice none 0 0] 24)) := (Below.refl _ w).alloc (Nat.le_refl _) _
  have hC := Lib.hid (cut_s s 123 (w.alloc (.cells #[.string ⟨#[]⟩, .slice none 0 0] 24)) (hE.below hB0) (by omega))
  have hRS : (Tg.rRest s.data.toList).length ≤ 5000 := by
    have := (Tg.cut_len 123 s.data.toList).2
    rw [Tg.len_data] at this
    unfold Tg.rRest
    omega
  have HOK : Hid (Tg.rOk s.data.toList = ((!Tg.rSome s.data.toList || Tg.rShut s.data.toList) && Tg.goodB ⟨(Tg.rMet s.data.toList).toArray⟩ (Tg.rLabs s.data.toList))) := rfl
  have HLS : Hid (Tg.rLabs s.data.toList = if Tg.rSome s.data.toList then (Tg.splitN 6 (Tg.rInner s.data.toList)).map Tg.labOf else []) := rfl
  have hms : (Tg.rMet s.data.toList).length ≤ 5000 := by
    have := (Tg.cut_len 123 s.data.toList).1
    rw [Tg.len_data] at this
    unfold Tg.rMet
    omega
  change Hid (Calls _ _ _ _ fun e w' => e = .returned (.tuple #[.string ⟨(Tg.rMet s.data.toList).toArray⟩, .string ⟨(Tg.rRest s.data.toList).toArray⟩, .bool (Tg.rSome s.data.toList)]) ∧ _) at hC
  have HSH : Hid (Tg.rShut s.data.toList = Lib.hasSuffix (Tg.rRest s.data.toList) [125] ∧ Tg.rInner s.data.toList = Lib.trimSuffix (Tg.rRest s.data.toList) [125]) := ⟨rfl, rfl⟩
  cases hsm : Tg.rSome s.data.toList with
  | false =>
    rw [hsm] at hC HOK HLS
    have HLE : Hid (Tg.rLabs s.data.toList = []) := by show _ = _; rw [HLS.out]; rfl
    go_enter Tryd.func10, Tryd.ntmps10
    go_wp2_with fail
    refine hC.out.mono ?_
    rintro e w1 ⟨rfl, q, rfl⟩
    have hG := Lib.hid (good_any ⟨(Tg.rMet s.data.toList).toArray⟩ (by rw [Lib.size_eq]; unfold maxLen; simp only; omega) none 0 0 (fun _ => Tg.labDef) (((w.alloc (.cells #[.string ⟨#[]⟩, .slice none 0 0] 24)).drewN q).alloc (.cells #[.string ⟨(Tg.rMet s.data.toList).toArray⟩, .slice none 0 0] 24)) (.inl rfl))
    rw [show Tg.labs (Tg.upto (fun _ => Tg.labDef) 0) = Tg.rLabs s.data.toList from by rw [HLE.out]; rfl] at hG
    have d0 : Cl (((w.alloc (.cells #[.string ⟨#[]⟩, .slice none 0 0] 24)).drewN q).alloc (.cells #[.string ⟨(Tg.rMet s.data.toList).toArray⟩, .slice none 0 0] 24)) ⟨w.heap.size, 0, none⟩ (.string ⟨#[]⟩) := (c0.drewN q).alloc _
    have d1 : Cl (((w.alloc (.cells #[.string ⟨#[]⟩, .slice none 0 0] 24)).drewN q).alloc (.cells #[.string ⟨(Tg.rMet s.data.toList).toArray⟩, .slice none 0 0] 24)) ⟨w.heap.size, 1, none⟩ (.slice none 0 0) := (c1.drewN q).alloc _
    have bx : Blk (((w.alloc (.cells #[.string ⟨#[]⟩, .slice none 0 0] 24)).drewN q).alloc (.cells #[.string ⟨(Tg.rMet s.data.toList).toArray⟩, .slice none 0 0] 24)) (w.heap.size + 1) 24 #[.string ⟨(Tg.rMet s.data.toList).toArray⟩, .slice none 0 0] := by
      have h := Blk.new ((w.alloc (.cells #[.string ⟨#[]⟩, .slice none 0 0] 24)).drewN q) 24 #[.string ⟨(Tg.rMet s.data.toList).toArray⟩, .slice none 0 0]
      simpa using h
    have hB2 : Below w.heap.size w (((w.alloc (.cells #[.string ⟨#[]⟩, .slice none 0 0] 24)).drewN q).alloc (.cells #[.string ⟨(Tg.rMet s.data.toList).toArray⟩, .slice none 0 0] 24)) := (below_dN hB0 q).alloc (by simp) _
    have hz2 : (((w.alloc (.cells #[.string ⟨#[]⟩, .slice none 0 0] 24)).drewN q).alloc (.cells #[.string ⟨(Tg.rMet s.data.toList).toArray⟩, .slice none 0 0] 24)).heap.size = w.heap.size + 1 + 1 := by simp
    go_wp2_with fail
    refine hG.out.mono ?_
    rintro e w3 ⟨rfl, hb3⟩
    rw [hz2] at hb3
    have hB3 : Below w.heap.size w w3 := hB2.trans (hb3.mono (by omega))
    have e0 := d0.below hb3 (by show w.heap.size < _; omega)
    have e1 := d1.below hb3 (by show w.heap.size < _; omega)
    have bx3 := bx.below hb3 (by omega)
    have e0c := e0.1
    have e0f := e0.2
    have e1c := e1.1
    have e1f := e1.2
    have x0c := (bx3.cl 0 _ rfl).1
    have x1c := (bx3.cl 1 _ rfl).1
    cases hgd : Tg.goodB ⟨(Tg.rMet s.data.toList).toArray⟩ (Tg.rLabs s.data.toList) with
    | false =>
      rw [hgd] at HOK
      have HR : Hid (Tg.rOk s.data.toList = false) := by show _ = _; rw [HOK.out]; rfl
      clear HOK
      go_wp2
      obtain ⟨f0, f1⟩ := two_set (x0 := .string ⟨#[]⟩) (x1 := .slice none 0 0) e0 e1
      refine bodyPost_ret (v := .tuple #[.agg #[.string ⟨#[]⟩, .slice none 0 0], .int .i64 2]) (by simp [results, Tryd.results10, go_sem, f0, f1]) rfl ⟨⟨#[]⟩, .slice none 0 0, [], by rw [HR.out]; rfl, Row.nil _ _, ?_, (fun h => by rw [HR.out] at h; cases h), fun _ => ⟨rfl, rfl⟩⟩
      exact (hB3.setCell (p := ⟨w.heap.size, 0, none⟩) (Nat.le_refl _) _).setCell (p := ⟨w.heap.size, 1, none⟩) (Nat.le_refl _) _
    | true =>
      rw [hgd] at HOK
      have HR : Hid (Tg.rOk s.data.toList = true) := by show _ = _; rw [HOK.out]; rfl
      clear HOK
      go_wp2
      obtain ⟨f0, f1⟩ := two_set (x0 := .string ⟨(Tg.rMet s.data.toList).toArray⟩) (x1 := .slice none 0 0) e0 e1
      refine bodyPost_ret (v := .tuple #[.agg #[.string ⟨(Tg.rMet s.data.toList).toArray⟩, .slice none 0 0], .int .i64 0]) (by simp [results, Tryd.results10, go_sem, f0, f1]) rfl ⟨_, .slice none 0 0, [], by rw [HR.out]; rfl, Row.nil _ _, ?_, fun _ => ⟨rfl, by rw [HLE.out]; rfl⟩, fun h => by rw [HR.out] at h; cases h⟩
      exact (hB3.setCell (p := ⟨w.heap.size, 0, none⟩) (Nat.le_refl _) _).setCell (p := ⟨w.heap.size, 1, none⟩) (Nat.le_refl _) _
  | true =>
    rw [hsm] at hC HOK HLS
    have hsf := Lib.hid (Tryd.strings_CutSuffix ⟨(Tg.rRest s.data.toList).toArray⟩ ⟨#[125]⟩)
    cases hsh : Tg.rShut s.data.toList with
    | false =>
      have HR : Hid (Tg.rOk s.data.toList = false) := by show _ = _; rw [HOK.out, hsh]; rfl
      have HS : ∀ w1, Hid (Calls Tryd.prog 25 #[.string ⟨(Tg.rRest s.data.toList).toArray⟩, .string ⟨#[125]⟩] w1 fun e w' => e = .returned (.tuple #[.string ⟨(Tg.rInner s.data.toList).toArray⟩, .bool false]) ∧ w' = w1) := fun w1 => by
        have h := hsf.out w1 (by rw [Lib.size_eq]; simp only; omega)
        rw [← hsh]; exact h
      clear HOK hsf
      go_enter Tryd.func10, Tryd.ntmps10
      go_wp2_with fail
      refine hC.out.mono ?_
      rintro e w1 ⟨rfl, q, rfl⟩
      go_wp2_with fail
      refine (HS _).out.mono ?_
      rintro e w2 ⟨rfl, hw2⟩
      have d0 : Cl (((w.alloc (.cells #[.string ⟨#[]⟩, .slice none 0 0] 24)).drewN q).alloc (.cells #[.string ⟨(Tg.rMet s.data.toList).toArray⟩, .slice none 0 0] 24)) ⟨w.heap.size, 0, none⟩ (.string ⟨#[]⟩) := (c0.drewN q).alloc _
      have d1 : Cl (((w.alloc (.cells #[.string ⟨#[]⟩, .slice none 0 0] 24)).drewN q).alloc (.cells #[.string ⟨(Tg.rMet s.data.toList).toArray⟩, .slice none 0 0] 24)) ⟨w.heap.size, 1, none⟩ (.slice none 0 0) := (c1.drewN q).alloc _
      have hB2 : Below w.heap.size w (((w.alloc (.cells #[.string ⟨#[]⟩, .slice none 0 0] 24)).drewN q).alloc (.cells #[.string ⟨(Tg.rMet s.data.toList).toArray⟩, .slice none 0 0] 24)) := (below_dN hB0 q).alloc (by simp) _
      rw [← hw2] at d0 d1 hB2
      clear hw2
      have e0c := d0.1
      have e0f := d0.2
      have e1c := d1.1
      have e1f := d1.2
      go_wp2
      obtain ⟨f0, f1⟩ := two_set (x0 := .string ⟨#[]⟩) (x1 := .slice none 0 0) d0 d1
      refine bodyPost_ret (v := .tuple #[.agg #[.string ⟨#[]⟩, .slice none 0 0], .int .i64 2]) (by simp [results, Tryd.results10, go_sem, f0, f1]) rfl ⟨⟨#[]⟩, .slice none 0 0, [], by rw [HR.out]; rfl, Row.nil _ _, ?_, (fun h => by rw [HR.out] at h; cases h), fun _ => ⟨rfl, rfl⟩⟩
      exact (hB2.setCell (p := ⟨w.heap.size, 0, none⟩) (Nat.le_refl _) _).setCell (p := ⟨w.heap.size, 1, none⟩) (Nat.le_refl _) _
    | true =>
      have HS : ∀ w1, Hid (Calls Tryd.prog 25 #[.string ⟨(Tg.rRest s.data.toList).toArray⟩, .string ⟨#[125]⟩] w1 fun e w' => e = .returned (.tuple #[.string ⟨(Tg.rInner s.data.toList).toArray⟩, .bool true]) ∧ w' = w1) := fun w1 => by
        have h := hsf.out w1 (by rw [Lib.size_eq]; simp only; omega)
        rw [← hsh]; exact h
      rw [hsh] at HOK
      have hil : (Tg.rInner s.data.toList).length ≤ 5000 := by
        have := HSH.out.2
        rw [this]
        unfold Lib.trimSuffix
        split
        · have := List.length_take_le ((Tg.rRest s.data.toList).length - [125].length) (Tg.rRest s.data.toList); omega
        · exact hRS
      have HLS' : Hid (Tg.rLabs s.data.toList = (Tg.splitN 6 (Tg.rInner s.data.toList)).map Tg.labOf) := by show _ = _; rw [HLS.out]; rfl
      have hSP := fun w1 m hm => Lib.hid (Tryd.strings_SplitN ⟨(Tg.rInner s.data.toList).toArray⟩ ⟨#[44]⟩ 7 m w1 (by rw [Lib.size_eq]; simp only; omega) hm (by decide) (by decide) (by decide))
      have hP : (Lib.splitB ⟨#[44]⟩ 0 (min 7 ((⟨(Tg.rInner s.data.toList).toArray⟩ : ByteArray).size + 1) - 1) ⟨(Tg.rInner s.data.toList).toArray⟩).map (·.data.toList) = Tg.splitN 6 (Tg.rInner s.data.toList) := by
        rw [Tg.splitB_eq, Lib.size_eq]
        exact Tg.split_min _
      have hcap : (⟨(Tg.rInner s.data.toList).toArray⟩ : ByteArray).size ≤ 5000 := by rw [Lib.size_eq]; exact hil
      have hPl := Lib.splitB_length_le ⟨#[44]⟩ 0 (min 7 ((⟨(Tg.rInner s.data.toList).toArray⟩ : ByteArray).size + 1) - 1) ⟨(Tg.rInner s.data.toList).toArray⟩
      generalize Lib.splitB ⟨#[44]⟩ 0 (min 7 ((⟨(Tg.rInner s.data.toList).toArray⟩ : ByteArray).size + 1) - 1) ⟨(Tg.rInner s.data.toList).toArray⟩ = P at hSP hP hPl
      obtain ⟨cp, hcp⟩ : ∃ cp, min 7 ((⟨(Tg.rInner s.data.toList).toArray⟩ : ByteArray).size + 1) = cp := ⟨_, rfl⟩
      rw [hcp] at hSP hPl
      have hcp7 : cp ≤ 7 := by omega
      have hcp1 : 1 ≤ cp := by omega
      have hPl' : P.length ≤ cp := by omega
      clear hcp hcap hPl
      -- each part and its label
      have hpart : ∀ j, j < P.length → (P.getD j ⟨#[]⟩).data.toList ∈ Tg.splitN 6 (Tg.rInner s.data.toList) := fun j hj => by
        rw [← hP]
        refine List.mem_map.2 ⟨P.getD j ⟨#[]⟩, ?_, rfl⟩
        simp [hj]
      have hpl : ∀ j, j < P.length → (P.getD j ⟨#[]⟩).data.toList.length ≤ 5000 := fun j hj => Nat.le_trans (Tg.splitN_mem _ _ _ (hpart j hj)) hil
      obtain ⟨f, hf⟩ : ∃ f : Nat → Tg.LabM, f = fun j => Tg.lmOf (P.getD j ⟨#[]⟩).data.toList := ⟨_, rfl⟩
      have hfv : ∀ j, j < P.length → (f j).1 = Tg.labOf (P.getD j ⟨#[]⟩).data.toList := fun j hj => by rw [hf]; exact Tg.lmOf_val (Nat.le_trans (hpl j hj) (by decide))
      have hlabs : Tg.labs (Tg.upto f P.length) = Tg.rLabs s.data.toList := by
        rw [HLS'.out, ← hP, List.map_map]
        unfold Tg.labs Tg.upto
        rw [List.map_map]
        apply List.ext_getElem
        · simp
        · intro j h1 h2
          have hj : j < P.length := by simpa using h1
          simp only [List.getElem_map, List.getElem_range, Function.comp]
          rw [hfv j hj]
          simp [hj]
      have HFV := Lib.hid hfv
      have HLAB := Lib.hid hlabs
      have HPL := Lib.hid hpl
      obtain ⟨i0, hi, hz0, hz1, hz2⟩ := info_parts Tg.info_label
      clear hf hfv hlabs hpart hpl hP HLS HLS' hsf HSH
      go_enter Tryd.func10, Tryd.ntmps10
      go_wp2_with fail
      refine hC.out.mono ?_
      rintro e w1 ⟨rfl, q, rfl⟩
      go_wp2_with fail
      refine (HS _).out.mono ?_
      rintro e w2 ⟨rfl, rfl⟩
      have d0 : Cl (((w.alloc (.cells #[.string ⟨#[]⟩, .slice none 0 0] 24)).drewN q).alloc (.cells #[.string ⟨(Tg.rMet s.data.toList).toArray⟩, .slice none 0 0] 24)) ⟨w.heap.size, 0, none⟩ (.string ⟨#[]⟩) := (c0.drewN q).alloc _
      have d1 : Cl (((w.alloc (.cells #[.string ⟨#[]⟩, .slice none 0 0] 24)).drewN q).alloc (.cells #[.string ⟨(Tg.rMet s.data.toList).toArray⟩, .slice none 0 0] 24)) ⟨w.heap.size, 1, none⟩ (.slice none 0 0) := (c1.drewN q).alloc _
      have bx : Blk (((w.alloc (.cells #[.string ⟨#[]⟩, .slice none 0 0] 24)).drewN q).alloc (.cells #[.string ⟨(Tg.rMet s.data.toList).toArray⟩, .slice none 0 0] 24)) (w.heap.size + 1) 24 #[.string ⟨(Tg.rMet s.data.toList).toArray⟩, .slice none 0 0] := by
        have h := Blk.new ((w.alloc (.cells #[.string ⟨#[]⟩, .slice none 0 0] 24)).drewN q) 24 #[.string ⟨(Tg.rMet s.data.toList).toArray⟩, .slice none 0 0]
        simpa using h
      have hB2 : Below w.heap.size w (((w.alloc (.cells #[.string ⟨#[]⟩, .slice none 0 0] 24)).drewN q).alloc (.cells #[.string ⟨(Tg.rMet s.data.toList).toArray⟩, .slice none 0 0] 24)) := (below_dN hB0 q).alloc (by simp) _
      have hz : (((w.alloc (.cells #[.string ⟨#[]⟩, .slice none 0 0] 24)).drewN q).alloc (.cells #[.string ⟨(Tg.rMet s.data.toList).toArray⟩, .slice none 0 0] 24)).heap.size = w.heap.size + 1 + 1 := by simp
      obtain ⟨_, mx, hmx⟩ := hE.below hB2
      have HSP := hSP _ mx hmx
      obtain ⟨w3, hw3⟩ : ∃ w3, ((w.alloc (.cells #[.string ⟨#[]⟩, .slice none 0 0] 24)).drewN q).alloc (.cells #[.string ⟨(Tg.rMet s.data.toList).toArray⟩, .slice none 0 0] 24) = w3 := ⟨_, rfl⟩
      rw [hw3] at d0 d1 bx hB2 hz HSP
      clear hmx hSP
      go_wp2_with fail
      clear hw3
      refine HSP.out.mono ?_
      rintro e w4 ⟨rfl, rfl⟩
      rw [hz]
      have bp : Blk (w3.alloc (.cells (Lib.cellsOf P cp) 9)) (w.heap.size + 1 + 1) 9 (Lib.cellsOf P cp) := by rw [← hz]; exact Blk.new w3 _ _
      have hpc : ∀ j, j < P.length → (Lib.cellsOf P cp)[j]? = some (.string (P.getD j ⟨#[]⟩)) := fun j hj => by
        unfold Lib.cellsOf
        rw [List.getElem?_toArray, List.getElem?_append_left (by simpa using hj), List.getElem?_map, List.getElem?_eq_getElem hj]
        simp [hj]
      have d0' := d0.alloc (.cells (Lib.cellsOf P cp) 9)
      have d1' := d1.alloc (.cells (Lib.cellsOf P cp) 9)
      have bx' := bx.alloc (.cells (Lib.cellsOf P cp) 9)
      have hB4 : Below w.heap.size w (w3.alloc (.cells (Lib.cellsOf P cp) 9)) := hB2.alloc hB2.size _
      have hz4 : (w3.alloc (.cells (Lib.cellsOf P cp) 9)).heap.size = w.heap.size + 1 + 1 + 1 := by simp [hz]
      obtain ⟨w4, hw4⟩ : ∃ w4, w3.alloc (.cells (Lib.cellsOf P cp) 9) = w4 := ⟨_, rfl⟩
      rw [hw4] at bp d0' d1' bx' hB4 hz4 ⊢
      have HPC := Lib.hid hpc
      clear hw4 hz bx d0 d1 hB2 hpc HSP
      go_wp2_with fail
      go_loopw [11, 12, 13, 14, 35] (fun _ _ _ _ i wr => ∃ (k : Nat) (v : Value), k ≤ P.length ∧ i = .int .i64 k ∧ Blk wr (w.heap.size + 1) 24 #[.string ⟨(Tg.rMet s.data.toList).toArray⟩, v] ∧ Row wr (w.heap.size + 1 + 1 + 1) v (Tg.upto f k) ∧ Cl wr ⟨w.heap.size, 0, none⟩ (.string ⟨#[]⟩) ∧ Cl wr ⟨w.heap.size, 1, none⟩ (.slice none 0 0) ∧ Blk wr (w.heap.size + 1 + 1) 9 (Lib.cellsOf P cp) ∧ Below w.heap.size w wr ∧ w.heap.size + 1 + 1 + 1 ≤ wr.heap.size) (fun _ _ _ _ i _ => P.length - (intOf i).toNat)
      case atStart => exact ⟨0, .slice none 0 0, Nat.zero_le _, rfl, bx', Row.nil _ _, d0', d1', bp, hB4, by omega⟩
      case round =>
        obtain ⟨k, v, hk, rfl, hbx, hrow, k0, k1, hbp, hB, hsz⟩ := hrel
        by_cases hlt : k < P.length
        · have hpk := (hbp.cl k _ (HPC.out k hlt)).1
          have hbc := (hbx.cl 1 _ rfl).1
          have HFK := Lib.hid (HFV.out k hlt)
          have hkl := HPL.out k hlt
          have HCu := fun w1 hE1 => Lib.hid (cut_s (P.getD k ⟨#[]⟩) 61 w1 hE1 (by rw [Lib.size_eq]; omega))
          have hEr : EnvM wr := hE.below hB
          have hkz : (k : Int) < (P.length : Int) := by omega
          have HN : Hid (Tg.upto f (k + 1) = Tg.upto f k ++ [f k]) := Tg.upto_succ f k
          have hy1 : (⟨(Lib.cut (P.getD k ⟨#[]⟩).data.toList [61]).1.toArray⟩ : ByteArray) = (f k).1.1 := by rw [HFK.out]; rfl
          have hy2 : (⟨(Lib.cut (P.getD k ⟨#[]⟩).data.toList [61]).2.1.toArray⟩ : ByteArray) = (f k).1.2 := by rw [HFK.out]; rfl
          rw [hy1, hy2] at HCu
          clear hy1 hy2 HFK
          generalize (Lib.cut (P.getD k ⟨#[]⟩).data.toList [61]).2.2 = b3 at HCu
          generalize P.getD k ⟨#[]⟩ = pk at HCu hpk
          go_wp2_with fail
          refine (HCu _ hEr).out.mono ?_
          rintro e w5 ⟨rfl, q5, rfl⟩
          have hrow5 : (wr.drewN q5).ownsRow (w.heap.size + 1 + 1 + 1) 37 2 v (Tg.upto f k).length (Tg.cells (Tg.upto f k)) := hrow
          have hul : (Tg.upto f k).length = k := Tg.upto_len f k
          have HUL := Lib.hid hul
          clear hul
          go_wp2_with (at_builtin; refine wpList_append_own _ rfl _ _ 22 rfl (w.heap.size + 1 + 1 + 1) 37 i0 (.agg #[.string ⟨#[]⟩, .string ⟨#[]⟩]) 2 32 Tryd.underlying22 hi hz0 hz1 hz2 rfl (by decide) _ _ _ rfl (hrow5.alloc _) ⟨wr.heap.size, 0, none⟩ 1 1 [.string (f k).1.1, .string (f k).1.2] rfl rfl (news2 (wr.drewN q5) _ _ _) ?c2 ?c3 ?c4 ?c5 ?_)
          case c2 => intro u hu; simp at hu; rcases hu with rfl | rfl <;> rfl
          case c3 => rw [HUL.out]; unfold maxLen; omega
          case c4 => rw [HUL.out]; omega
          case c5 => simp; omega
          intro v' w6 hown' hgrow _
          have hlow := below_base hrow hgrow hsz
          obtain ⟨g', cap', rfl⟩ := ownsRow_succ hown'
          have hrow6 := row_snoc hown'
          have hbx6 : Blk w6 (w.heap.size + 1) 24 #[.string ⟨(Tg.rMet s.data.toList).toArray⟩, v] := (hlow _ (by omega)).trans hbx
          have hbp6 : Blk w6 (w.heap.size + 1 + 1) 9 (Lib.cellsOf P cp) := (hlow _ (by omega)).trans hbp
          have k06 := k0.block (hlow w.heap.size (by omega))
          have k16 := k1.block (hlow w.heap.size (by omega))
          have hbc6 := (hbx6.cl 1 _ rfl).1
          have hbf6 := (hbx6.cl 1 _ rfl).2
          have hsz6 : w.heap.size + 1 + 1 + 1 ≤ w6.heap.size := by have := hgrow.size; simp at this; omega
          have hB6 : Below w.heap.size w w6 := ((below_dN hB q5).alloc (by show _ ≤ wr.heap.size; omega) _).grown hgrow (by simp; omega) (fun g hg => by have := (World.ownsRow.lt hrow g hg).1; omega)
          rw [HUL.out] at hrow6 ⊢
          clear hown' hgrow hrow5 hpk hbc
          go_wp2
          go_roundw
          case rel =>
            refine ⟨k + 1, .slice (some ⟨g', 0, none⟩) (k + 1) cap', by omega, by go_num, ?_, ?_, k06.other (addr_ne (by omega)) _, k16.other (addr_ne (by omega)) _, hbp6.other (p := ⟨w.heap.size + 1, 1, none⟩) (show w.heap.size + 1 ≠ w.heap.size + 1 + 1 by omega) _, hB6.setCell (p := ⟨w.heap.size + 1, 1, none⟩) (Nat.le_succ _) _, by simp [World.setCell]; omega⟩
            · exact hbx6.set 1 _
            · rw [HN.out]
              exact hrow6.stay fun g hg _ => heap_set (p := ⟨w.heap.size + 1, 1, none⟩) (show w.heap.size + 1 ≠ g by omega)
          case measure => simp [intOf]; omega
        · obtain rfl : k = P.length := by omega
          obtain ⟨a1, cap1, rfl, hlab⟩ := hrow.labs
          have hbc := (hbx.cl 1 _ rfl).1
          have hbm := (hbx.cl 0 _ rfl).1
          have hG := Lib.hid (good_any ⟨(Tg.rMet s.data.toList).toArray⟩ (by rw [Lib.size_eq]; unfold maxLen; simp only; omega) a1 (Tg.upto f P.length).length cap1 (Tg.fnOf (Tg.upto f P.length)) wr hlab)
          rw [Tg.upto_fnOf, HLAB.out] at hG
          go_wp2_with fail
          refine hG.out.mono ?_
          rintro e w7 ⟨rfl, hb7⟩
          have hB7 : Below w.heap.size w w7 := hB.trans (hb7.mono hB.size)
          have hrow7 := hrow.below hb7 (Nat.le_refl _)
          have hbx7 := hbx.below hb7 (by omega)
          have e0 := k0.below hb7 (by show w.heap.size < _; omega)
          have e1 := k1.below hb7 (by show w.heap.size < _; omega)
          have e0c := e0.1
          have e0f := e0.2
          have e1c := e1.1
          have e1f := e1.2
          have x0c := (hbx7.cl 0 _ rfl).1
          have x1c := (hbx7.cl 1 _ rfl).1
          cases hgd : Tg.goodB ⟨(Tg.rMet s.data.toList).toArray⟩ (Tg.rLabs s.data.toList) with
          | false =>
            rw [hgd] at HOK
            have HR : Hid (Tg.rOk s.data.toList = false) := by show _ = _; rw [HOK.out]; rfl
            clear HOK
            go_wp2
            obtain ⟨f0, f1⟩ := two_set (x0 := .string ⟨#[]⟩) (x1 := .slice none 0 0) e0 e1
            refine bodyPost_ret (v := .tuple #[.agg #[.string ⟨#[]⟩, .slice none 0 0], .int .i64 2]) (by simp [results, Tryd.results10, go_sem, f0, f1]) rfl ⟨⟨#[]⟩, .slice none 0 0, [], by rw [HR.out]; rfl, Row.nil _ _, ?_, (fun h => by rw [HR.out] at h; cases h), fun _ => ⟨rfl, rfl⟩⟩
            exact (hB7.setCell (p := ⟨w.heap.size, 0, none⟩) (Nat.le_refl _) _).setCell (p := ⟨w.heap.size, 1, none⟩) (Nat.le_refl _) _
          | true =>
            rw [hgd] at HOK
            have HR : Hid (Tg.rOk s.data.toList = true) := by show _ = _; rw [HOK.out]; rfl
            clear HOK
            go_wp2
            obtain ⟨f0, f1⟩ := two_set (x0 := .string ⟨(Tg.rMet s.data.toList).toArray⟩) (x1 := .slice a1 (Tg.upto f P.length).length cap1) e0 e1
            refine bodyPost_ret (v := .tuple #[.agg #[.string ⟨(Tg.rMet s.data.toList).toArray⟩, .slice a1 (Tg.upto f P.length).length cap1], .int .i64 0]) (by simp [results, Tryd.results10, go_sem, f0, f1]) rfl ⟨_, .slice a1 (Tg.upto f P.length).length cap1, Tg.upto f P.length, by rw [HR.out]; rfl, ?_, ?_, fun _ => ⟨rfl, HLAB.out⟩, (fun h => by rw [HR.out] at h; cases h)⟩
            · refine (hrow7.stay fun g hg _ => ?_).base (show w.heap.size ≤ w.heap.size + 1 + 1 + 1 by omega)
              rw [heap_set (p := ⟨w.heap.size, 1, none⟩) (show w.heap.size ≠ g by omega), heap_set (p := ⟨w.heap.size, 0, none⟩) (show w.heap.size ≠ g by omega)]
            · exact (hB7.setCell (p := ⟨w.heap.size, 0, none⟩) (Nat.le_refl _) _).setCell (p := ⟨w.heap.size, 1, none⟩) (Nat.le_refl _) _
end Go.Proofs.YtaoojglepihjeaaDoor
