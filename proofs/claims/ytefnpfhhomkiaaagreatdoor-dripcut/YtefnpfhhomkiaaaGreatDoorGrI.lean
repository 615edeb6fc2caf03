/- The document's Same (tidemillref02) answers true of two series that have the same metric and labels. The law TagMakes, of any metric and labels. -/
import Derived.Test.YtefnpfhhomkiaaaGreatDoorGrG
import Derived.Test.YtefnpfhhomkiaaaGreatDoorGrE
import Derived.Laws.StructEq
import Derived.Test.YtefnpfhhomkiaaaGreatDoorTgRefMake
import Derived.Test.YtefnpfhhomkiaaaGreatDoorTgGood
namespace Go.Proofs.YtefnpfhhomkiaaaGreatDoor.Y2

open Go.RowKit
theorem neq_lab (x y : ByteArray) (w : World) : (binOp .neq 70 (.agg #[.string x, .string y]) (.agg #[.string x, .string y])).run Tryz.prog w = .ok (.bool false) w := by
  have u9 := Tryz.underlying9
  have a9 := Tryz.isAgg9
  have z9 := Tryz.sizeOf9
  have hS : Tryz.prog.underlying 70 = some (.struct (Tryz.prog.fieldsOf 70)) := by kernel_rfl
  have hp : Tryz.prog.stoodInHeld 70 = false := by kernel_rfl
  rw [run_neq_struct, show (10000 : Nat) = 9999 + 1 from rfl, run_equalIn_agg w 9999 70 _ _ hS hp]
  simp only [Program.fieldsOf, Tryz.underlying70]
  go_simp
theorem guard_lab (op : BinOp) (a b : Operand) (x y : Array Value) (w : World) : (eqGuard op 70 a b (.agg x) (.agg y)).run Tryz.prog w = .ok () w := run_eqGuard_agg w op _ a b x y (by kernel_rfl)
set_option maxHeartbeats 2000000 in
set_option maxRecDepth 100000 in
theorem refSame_main (m : ByteArray) (b1 o1 c1 b2 o2 c2 n : Nat) (f : Nat → Tg.Lab) (hn : n ≤ maxLen) (w : World) (hb1 : b1 < w.heap.size) (hb2 : b2 < w.heap.size)
    (h1 : ∀ j, j < n → w.cell? ⟨b1, o1 + j * 2, none⟩ = some (.string (f j).1) ∧ w.cell? ⟨b1, o1 + j * 2 + 1, none⟩ = some (.string (f j).2))
    (h2 : ∀ j, j < n → w.cell? ⟨b2, o2 + j * 2, none⟩ = some (.string (f j).1) ∧ w.cell? ⟨b2, o2 + j * 2 + 1, none⟩ = some (.string (f j).2)) :
    Calls Tryz.prog 38 #[.agg #[.string m, .slice (some ⟨b1, o1, none⟩) n c1], .agg #[.string m, .slice (some ⟨b2, o2, none⟩) n c2]] w fun e w' => e = .returned (.bool true) ∧ Below w.heap.size w w' := by
  have H1 := Lib.hid h1
  have H2 := Lib.hid h2
  clear h1 h2
  unfold maxLen at hn
  have hmm : (!(m.toList == m.toList)) = false := by simp
  have hnn : ((n : Int) != (n : Int)) = false := by simp
  have hB0 : Below w.heap.size w ((w.alloc (.cells #[.string m, .slice (some ⟨b1, o1, none⟩) n c1] 24)).alloc (.cells #[.string m, .slice (some ⟨b2, o2, none⟩) n c2] 24)) := ((Below.refl _ w).alloc (Nat.le_refl _) _).alloc (by simp) _
  have x1 : Blk ((w.alloc (.cells #[.string m, .slice (some ⟨b1, o1, none⟩) n c1] 24)).alloc (.cells #[.string m, .slice (some ⟨b2, o2, none⟩) n c2] 24)) w.heap.size 24 #[.string m, .slice (some ⟨b1, o1, none⟩) n c1] := (Blk.new w _ _).alloc _
  have x2 : Blk ((w.alloc (.cells #[.string m, .slice (some ⟨b1, o1, none⟩) n c1] 24)).alloc (.cells #[.string m, .slice (some ⟨b2, o2, none⟩) n c2] 24)) (w.heap.size + 1) 24 #[.string m, .slice (some ⟨b2, o2, none⟩) n c2] := by
    have h := Blk.new (w.alloc (.cells #[.string m, .slice (some ⟨b1, o1, none⟩) n c1] 24)) 24 #[.string m, .slice (some ⟨b2, o2, none⟩) n c2]
    rw [World.size_alloc] at h
    exact h
  go_enter Tryz.func38, Tryz.ntmps38
  go_wp2
  obtain ⟨W0, hW0⟩ : ∃ W0, (w.alloc (.cells #[.string m, .slice (some ⟨b1, o1, none⟩) n c1] 24)).alloc (.cells #[.string m, .slice (some ⟨b2, o2, none⟩) n c2] 24) = W0 := ⟨_, rfl⟩
  rw [hW0] at hB0 x1 x2 ⊢
  clear hW0
  go_loopw [5, 23] (fun _ i wr => ∃ k : Nat, k ≤ n ∧ i = .int .i64 k ∧ Dr W0 wr) (fun _ i _ => n - (intOf i).toNat)
  case atStart => exact ⟨0, Nat.zero_le _, rfl, Dr.refl _⟩
  case round =>
    obtain ⟨k, hk, rfl, hdr⟩ := hrel
    by_cases hlt : k < n
    · have s1 : wr.cell? ⟨w.heap.size, 1, none⟩ = some (.slice (some ⟨b1, o1, none⟩) n c1) := (hdr.cell _).trans (x1.cl 1 _ rfl).1
      have s2 : wr.cell? ⟨w.heap.size + 1, 1, none⟩ = some (.slice (some ⟨b2, o2, none⟩) n c2) := (hdr.cell _).trans (x2.cl 1 _ rfl).1
      have p1 : wr.cell? ⟨b1, o1 + k * 2, none⟩ = some (.string (f k).1) := (hdr.cell _).trans ((hB0.cell (p := ⟨b1, o1 + k * 2, none⟩) hb1).trans (H1.out k hlt).1)
      have p2 : wr.cell? ⟨b1, o1 + k * 2 + 1, none⟩ = some (.string (f k).2) := (hdr.cell _).trans ((hB0.cell (p := ⟨b1, o1 + k * 2 + 1, none⟩) hb1).trans (H1.out k hlt).2)
      have p3 : wr.cell? ⟨b2, o2 + k * 2, none⟩ = some (.string (f k).1) := (hdr.cell _).trans ((hB0.cell (p := ⟨b2, o2 + k * 2, none⟩) hb2).trans (H2.out k hlt).1)
      have p4 : wr.cell? ⟨b2, o2 + k * 2 + 1, none⟩ = some (.string (f k).2) := (hdr.cell _).trans ((hB0.cell (p := ⟨b2, o2 + k * 2 + 1, none⟩) hb2).trans (H2.out k hlt).2)
      have hne := neq_lab (f k).1 (f k).2
      have hgl := guard_lab
      have hkn : (k : Int) < (n : Int) := by omega
      generalize (f k).1 = y1 at p1 p3 hne
      generalize (f k).2 = y2 at p2 p4 hne
      go_wp2
      go_quiet (fail)
      go_wp2
      go_roundw
      case rel => exact ⟨k + 1, by omega, by go_num, hdr.more _⟩
      case measure => simp [intOf]; omega
    · obtain rfl : k = n := by omega
      go_wp2
      go_ret
      exact ⟨rfl, hdr.below hB0⟩
set_option maxHeartbeats 1000000 in
set_option maxRecDepth 100000 in
theorem refSame_zero (m : ByteArray) (a1 a2 : Option Addr) (c1 c2 : Nat) (w : World) :
    Calls Tryz.prog 38 #[.agg #[.string m, .slice a1 0 c1], .agg #[.string m, .slice a2 0 c2]] w fun e w' => e = .returned (.bool true) ∧ Below w.heap.size w w' := by
  have hmm : (!(m.toList == m.toList)) = false := by simp
  go_enter Tryz.func38, Tryz.ntmps38
  go_wp2
  go_loopw [5, 23] (fun _ i wr => i = .int .i64 0 ∧ wr = (w.alloc (.cells #[.string m, .slice a1 0 c1] 24)).alloc (.cells #[.string m, .slice a2 0 c2] 24)) (fun _ _ _ => 0)
  case atStart => exact ⟨rfl, rfl⟩
  case round =>
    obtain ⟨rfl, rfl⟩ := hrel
    go_wp2
    go_ret
    exact ⟨rfl, ((Below.refl _ w).alloc (Nat.le_refl _) _).alloc (by simp) _⟩
/-- two series of one metric and the same labels -/
theorem refSame_any (m : ByteArray) (a1 a2 : Option Addr) (c1 c2 n1 n2 : Nat) (f1 f2 : Nat → Tg.LabM) (hn : n1 ≤ maxLen) (w : World) (h1 : LabsAt (·.1) w.heap.size w a1 n1 f1) (h2 : LabsAt (·.1) w.heap.size w a2 n2 f2) (he : Tg.labs (Tg.upto f1 n1) = Tg.labs (Tg.upto f2 n2)) :
    Calls Tryz.prog 38 #[.agg #[.string m, .slice a1 n1 c1], .agg #[.string m, .slice a2 n2 c2]] w fun e w' => e = .returned (.bool true) ∧ Below w.heap.size w w' := by
  have hl : n1 = n2 := by have := congrArg List.length he; simpa [Tg.labs, Tg.upto_len] using this
  subst hl
  have hj : ∀ j, j < n1 → (f2 j).1 = (f1 j).1 := fun j hj => by
    have := congrArg (fun l => l[j]?) he
    simp [Tg.labs, Tg.upto, hj] at this
    exact this.symm
  rcases h1 with rfl | ⟨b1, o1, rfl, hb1, hc1⟩
  · exact refSame_zero m a1 a2 c1 c2 w
  · rcases h2 with rfl | ⟨b2, o2, rfl, hb2, hc2⟩
    · exact refSame_zero m _ a2 c1 c2 w
    · exact refSame_main m b1 o1 c1 b2 o2 c2 n1 (fun j => (f1 j).1) hn w hb1 hb2 hc1 (fun j h => by have := hc2 j h; dsimp only at this; rw [hj j h] at this; exact this)
end Go.Proofs.YtefnpfhhomkiaaaGreatDoor.Y2
namespace Go.Proofs.YtefnpfhhomkiaaaGreatDoor.Y2

open Go.RowKit
theorem wpList_src {w : World} {ops : Array Oper} {rest : List Oper} {o : Oper} {a : Act} {Q : Exit → Act → World → Prop} (hgd : o.guard = none) (s x : Operand)
    (ho : o.op = .call { callee := .builtin .append, args := #[s, x], argTypes := #[22, 22] }) (base : Nat) (v xv : Value) (l1 l2 : List Tg.LabM) (hs : a.eval s = v) (hx : a.eval x = xv)
    (hown : Row w base v l1) (hsrc : Src w xv l2) (hz : l1.length + l2.length ≤ 1000000) (hbase : base ≤ w.heap.size)
    (h : ∀ v' w', Row w' base v' (l1 ++ l2) → Below base w w' → wpList Tryz.prog ops Q rest (a.put o.dst v') w') : wpList Tryz.prog ops Q (o :: rest) a w :=
  wpList_plain hgd fun _ hK => by
    obtain ⟨v', w', hr, h1, h2, _⟩ := run_src w o.type base v xv l1 l2 hown hsrc hz hbase
    unfold Oper.wp execOp
    simp only [ho, resolve, invoke, builtin, Sem.run_bind, Sem.run_pure, Result.andThen_ok, List.map_toArray, List.map_cons, List.map_nil, hs, hx, hr]
    exact hK _ _ (h v' w' h1 ((Below.refl _ w).grown h2 hbase fun g hg => hown.geB g hg))
theorem src_labs {n₀ : Nat} {w : World} {a : Option Addr} {len : Nat} (cap : Nat) {f : Nat → Tg.LabM} (h : LabsAt (·.1) n₀ w a len f) : Src w (.slice a len cap) (Tg.upto f len) := by
  refine ⟨a, cap, by rw [Tg.upto_len], fun h0 => ?_⟩
  rw [Tg.upto_len] at h0
  obtain ⟨b, off, rfl, _, hc⟩ := h.news h0
  exact ⟨_, rfl, fun j u hu => by rw [add_at]; exact hc j u hu⟩
set_option maxRecDepth 100000 in
set_option maxHeartbeats 2000000 in
theorem refMake_zero (m : ByteArray) (hm : m.size ≤ maxLen) (a : Option Addr) (cap : Nat) (f : Nat → Tg.LabM) (w : World) :
    Calls Tryz.prog 46 #[.string m, .slice a 0 cap] w (Made m (Tg.upto f 0) w) := by
  have HN := fun w1 => Lib.hid (refName_any m w1 hm)
  have c0 : Cl (w.alloc (.cells #[.string ⟨#[]⟩, .slice none 0 0] 24)) ⟨w.heap.size, 0, none⟩ (.string ⟨#[]⟩) := Cl.new w _ _ 0 _ rfl
  have c1 : Cl (w.alloc (.cells #[.string ⟨#[]⟩, .slice none 0 0] 24)) ⟨w.heap.size, 1, none⟩ (.slice none 0 0) := Cl.new w _ _ 1 _ rfl
  have hB0 : Below w.heap.size w (w.alloc (.cells #[.string ⟨#[]⟩, .slice none 0 0] 24)) := (Below.refl _ w).alloc (Nat.le_refl _) _
  go_enter Tryz.func46, Tryz.ntmps46
  go_wp2_with fail
  obtain ⟨W0, hW0⟩ : ∃ W0, w.alloc (.cells #[.string ⟨#[]⟩, .slice none 0 0] 24) = W0 := ⟨_, rfl⟩
  rw [hW0] at c0 c1 hB0 ⊢
  clear hW0
  refine (HN _).out.mono ?_
  rintro e w1 ⟨rfl, rfl⟩
  have e0c := c0.1
  have e0f := c0.2
  have e1c := c1.1
  have e1f := c1.2
  cases hnm : Tg.nameB m.data.toList with
  | false =>
    have HE := Lib.hid (Tg.makeE_name (Tg.labs (Tg.upto f 0)) hnm)
    go_wp2
    obtain ⟨f0, f1⟩ := two_set (x0 := .string ⟨#[]⟩) (x1 := .slice none 0 0) c0 c1
    refine bodyPost_ret (v := .tuple #[.agg #[.string ⟨#[]⟩, .slice none 0 0], .int .i64 7]) (by simp [results, Tryz.results46, go_sem, f0, f1]) rfl ⟨⟨#[]⟩, .slice none 0 0, [], by rw [HE.out], Row.nil _ _, ?_, fun _ => ⟨rfl, rfl⟩, (fun h => by rw [HE.out] at h; exact absurd h (by decide))⟩
    exact (hB0.setCell (p := ⟨w.heap.size, 0, none⟩) (Nat.le_refl _) _).setCell (p := ⟨w.heap.size, 1, none⟩) (Nat.le_refl _) _
  | true =>
    have HE : Hid (Tg.makeE m (Tg.labs (Tg.upto f 0)) = 0) := (Tg.makeE_end hnm (l := Tg.labs (Tg.upto f 0)) rfl List.nodup_nil)
    go_wp2_with fail
    go_loopw [6, 16] (fun _ i wr => i = .int .i64 0 ∧ wr = W0) (fun _ _ _ => 0)
    case atStart => exact ⟨rfl, rfl⟩
    case round =>
      obtain ⟨rfl, rfl⟩ := hrel
      go_wp2_with fail
      go_loopw [7, 8, 9, 39] (fun ov _ _ i wr' => ov = .slice none 0 0 ∧ i = .int .i64 0 ∧ wr' = wr) (fun _ _ _ _ _ => 0)
      case atStart => exact ⟨rfl, rfl, rfl⟩
      case round =>
        obtain ⟨rfl, rfl, rfl⟩ := hrel
        go_wp2
        obtain ⟨f0, f1⟩ := two_set (x0 := .string m) (x1 := .slice none 0 0) c0 c1
        refine bodyPost_ret (v := .tuple #[.agg #[.string m, .slice none 0 0], .int .i64 0]) (by simp [results, Tryz.results46, go_sem, f0, f1]) rfl ⟨m, .slice none 0 0, [], by rw [HE.out], Row.nil _ _, ?_, fun h => absurd HE.out h, fun _ => ⟨rfl, rfl⟩⟩
        exact (hB0.setCell (p := ⟨w.heap.size, 0, none⟩) (Nat.le_refl _) _).setCell (p := ⟨w.heap.size, 1, none⟩) (Nat.le_refl _) _
theorem refMake_any (m : ByteArray) (hm : m.size ≤ maxLen) (a : Option Addr) (len cap : Nat) (f : Nat → Tg.LabM) (hlen : len ≤ 1000) (w : World) (hI : LabsAt (·.1) w.heap.size w a len f) :
    Calls Tryz.prog 46 #[.string m, .slice a len cap] w (Made m (Tg.upto f len) w) := by
  rcases hI with rfl | ⟨b, off, rfl, hb, hc⟩
  · exact refMake_zero m hm a cap f w
  · exact refMake_main m hm b off len cap f hlen w hb hc
/-- what a Make's result is, of the labels L -/
def Res (m : ByteArray) (L : List Tg.Lab) (m' : ByteArray) (R : List Tg.Lab) : Prop :=
  (Tg.makeE m L ≠ 0 → m' = ⟨#[]⟩ ∧ R = []) ∧ (Tg.makeE m L = 0 → m' = m ∧ R = Tg.sortL L)
theorem Res.same {m m1 m2 : ByteArray} {L R1 R2 : List Tg.Lab} (h1 : Res m L m1 R1) (h2 : Res m L m2 R2) : m1 = m2 ∧ R1 = R2 := by
  by_cases h : Tg.makeE m L = 0
  · obtain ⟨a1, b1⟩ := h1.2 h
    obtain ⟨a2, b2⟩ := h2.2 h
    exact ⟨a1.trans a2.symm, b1.trans b2.symm⟩
  · obtain ⟨a1, b1⟩ := h1.1 h
    obtain ⟨a2, b2⟩ := h2.1 h
    exact ⟨a1.trans a2.symm, b1.trans b2.symm⟩
theorem makeE_zero {m : ByteArray} {l : List Tg.Lab} (h : Tg.makeE m l = 0) : Tg.nameB m.data.toList = true ∧ (∀ x ∈ l, Tg.labB x = true) ∧ ¬ Tg.Dup l ∧ l.length ≤ 6 := by
  unfold Tg.makeE at h
  split at h
  · cases h
  · rename_i h1
    split at h
    · cases h
    · rename_i h2
      split at h
      · cases h
      · rename_i h3
        split at h
        · cases h
        · rename_i h4
          exact ⟨by simpa using h1, List.all_eq_true.1 (by simpa using h2), h3, by omega⟩
theorem made_good {m : ByteArray} {l : List Tg.Lab} (h : Tg.makeE m l = 0) : Tg.goodB m (Tg.sortL l) = true := by
  obtain ⟨h1, h2, h3, h4⟩ := makeE_zero h
  have hnd : (l.map Tg.nm).Nodup := Classical.byContradiction h3
  unfold Tg.goodB
  rw [h1, Tg.str_good0 _ (Tg.sortL_str l hnd) (fun x hx => h2 x ((Tg.sortL_perm l).mem_iff.1 hx)), (Tg.sortL_perm l).length_eq, decide_eq_true h4]
  rfl
theorem Res.rev {m m1 : ByteArray} {L R1 : List Tg.Lab} (h1 : Res m L.reverse m1 R1) : Res m L m1 R1 := by
  have hE := Tg.makeE_perm m (List.reverse_perm L)
  refine ⟨fun h => h1.1 (by rwa [hE]), fun h => ?_⟩
  obtain ⟨a1, b1⟩ := h1.2 (by rwa [hE])
  exact ⟨a1, b1.trans (Tg.sortL_rev L (makeE_zero h).2.2.1)⟩
/-- what a Make hands back, its slice written out -/
def MadeR (m : ByteArray) (L : List Tg.Lab) (w : World) (e : Ending) (w' : World) : Prop :=
  ∃ m' a n c r, e = .returned (.tuple #[.agg #[.string m', .slice a n c], .int .i64 (Tg.makeE m L)]) ∧ Row w' w.heap.size (.slice a n c) r ∧ Below w.heap.size w w' ∧ n ≤ 1000 ∧ Res m L m' (Tg.labs r)
theorem made_r {m : ByteArray} {l : List Tg.LabM} {w w' : World} {e : Ending} (hl : l.length ≤ 1000) (h : Made m l w e w') : MadeR m (Tg.labs l) w e w' := by
  obtain ⟨m', v, r, rfl, hrow, hb, hE, hZ⟩ := h
  obtain ⟨a, c, rfl, _⟩ := hrow.labs
  refine ⟨m', a, _, c, r, rfl, hrow, hb, ?_, fun h => ⟨(hE h).1, by rw [(hE h).2]; rfl⟩, hZ⟩
  by_cases h0 : Tg.makeE m (Tg.labs l) = 0
  · have := congrArg List.length (hZ h0).2
    rw [(Tg.sortL_perm _).length_eq] at this
    simp only [Tg.labs, List.length_map] at this
    omega
  · rw [(hE h0).2]; simp
theorem make_r (m : ByteArray) (hm : m.size ≤ maxLen) {B : Nat} (a : Option Addr) (n cap : Nat) (r : List Tg.LabM) (w : World) (hr : Row w B (.slice a n cap) r) (hn : n ≤ 1000) :
    Calls Tryz.prog 67 #[.string m, .slice a n cap] w (MadeR m (Tg.labs r) w) := by
  obtain ⟨e, hl⟩ := hr.labsAt
  have hu : Tg.upto (Tg.fnOf r) n = r := by rw [e]; exact Tg.upto_fnOf r
  have h := make_any m hm a n cap (Tg.fnOf r) (by omega) w hl
  rw [hu] at h
  exact h.mono fun e' w' => made_r (by omega)
theorem same_rows {B1 B2 : Nat} (m : ByteArray) (a1 a2 : Option Addr) (n1 n2 c1 c2 : Nat) (r1 r2 : List Tg.LabM) (w : World) (h1 : Row w B1 (.slice a1 n1 c1) r1) (h2 : Row w B2 (.slice a2 n2 c2) r2) (hn : n1 ≤ 1000) (he : Tg.labs r1 = Tg.labs r2) :
    Calls Tryz.prog 38 #[.agg #[.string m, .slice a1 n1 c1], .agg #[.string m, .slice a2 n2 c2]] w fun e w' => e = .returned (.bool true) ∧ Below w.heap.size w w' := by
  obtain ⟨e1, l1⟩ := h1.labsAt
  obtain ⟨e2, l2⟩ := h2.labsAt
  refine refSame_any m a1 a2 c1 c2 n1 n2 (Tg.fnOf r1) (Tg.fnOf r2) (by unfold maxLen; omega) w l1 l2 ?_
  rw [e1, e2, Tg.upto_fnOf, Tg.upto_fnOf]
  exact he
theorem good_row {B : Nat} (m : ByteArray) (hm : m.size ≤ maxLen) (a : Option Addr) (n c : Nat) (r : List Tg.LabM) (w : World) (h : Row w B (.slice a n c) r) :
    Calls Tryz.prog 18 #[.agg #[.string m, .slice a n c]] w fun e w' => e = .returned (.bool (Tg.goodB m (Tg.labs r))) ∧ Below w.heap.size w w' := by
  obtain ⟨e1, l1⟩ := h.labsAt
  have h := good_any m hm a n c (Tg.fnOf r) w l1
  rw [show Tg.upto (Tg.fnOf r) n = r from by rw [e1]; exact Tg.upto_fnOf r] at h
  exact h
theorem rev_next (f : Nat → Tg.LabM) {c len : Nat} (h : c < len) : ((Tg.upto f len).drop c).reverse = ((Tg.upto f len).drop (c + 1)).reverse ++ [f c] := by
  rw [List.drop_eq_getElem_cons (by rw [Tg.upto_len]; exact h), List.reverse_cons]
  simp [Tg.upto]
end Go.Proofs.YtefnpfhhomkiaaaGreatDoor.Y2
