
/- What package rule's policyText answers, of a right policy. -/
import Derived.Test.YtiahelekgjdjlaaGreatDoorRuTextP
import Derived.Test.YtiahelekgjdjlaaGreatDoorGsXd
import Derived.Test.YtiahelekgjdjlaaGreatDoorGsK
namespace Go.Proofs.YtiahelekgjdjlaaGreatDoor
open Go.RowKit Go.Shelf
open Dp Gb
attribute [local go_sem] Oper.semAt_some
namespace Ru
attribute [local go_sem ↓] apR_eq
theorem itoaR_any (n : Int) (h0 : 0 ≤ n) (h1 : n ≤ 1099511627776) (w : World) (hE : EnvR w) :
    Calls Tryz.prog 56 #[.int .i64 n] w fun e w' => e = .returned (.string (B (Lib.itoa n))) ∧ Below w.heap.size w w' := by
  refine (Tryz.strconv_Itoa n (by omega) (by omega) w hE.pow).mono ?_
  rintro e w' ⟨rfl, k, os, rfl⟩
  exact ⟨rfl, Lib.below_grow _ w (Nat.le_refl _) k os⟩
/-- things more, and what it changes: the slice's own block alone, of its element type -/
theorem appL {α : Type} {P : Program} {t e : TypeId} {sz : Nat} {enc : α → List Value} (L : Vec.Lay P t e sz enc) {W : World} {Bs : Nat} {v : Value} {l : List α} (xs : List α) (cs : Array Value) (hcs : cs.toList = Vec.cells enc xs) (h : Vec.Own e sz enc W Bs v l) (hl : l.length ≤ 10000) (hxs : xs.length ≤ 100) (hB : Bs ≤ W.heap.size) :
    ∃ a n c W', (∀ ty, (ApR #[t, t] ty #[v, .slice (some ⟨W.heap.size, 0, none⟩) xs.length xs.length]).run P (W.alloc (.cells cs e)) = .ok (.slice a n c) W') ∧ Vec.Own e sz enc W' Bs (.slice a n c) (l ++ xs) ∧ Below Bs W W' := by
  have h1 : Vec.Own e sz enc (W.alloc (.cells cs e)) Bs v l := own_stays h (fun g cs k => k.alloc _)
  have hs : Vec.Src enc (W.alloc (.cells cs e)) (.slice (some ⟨W.heap.size, 0, none⟩) xs.length xs.length) xs := by
    refine ⟨some ⟨W.heap.size, 0, none⟩, xs.length, rfl, fun _ => ⟨W.heap.size, 0, rfl, fun j u hu => ?_⟩⟩
    have hb := Blk.new W e cs
    rw [Lib.cell_of_heap hb, Nat.zero_add, ← Array.getElem?_toList, hcs]
    exact hu
  obtain ⟨v', W', r1, o1, g1, _⟩ := Vec.run_app L _ t Bs h1 hs (by omega) (by simp; omega)
  have hown : ∃ a n c, v' = .slice a n c := by
    obtain ⟨a, c, e', _⟩ := o1.es
    exact ⟨a, _, c, e'⟩
  obtain ⟨a, n, c, rfl⟩ := hown
  exact ⟨a, n, c, W', fun _ => r1, o1, ((Below.refl Bs W).alloc hB _).grown g1 (by simp; omega) (fun g e => h1.geB g e)⟩
/-- a row that is built at once -/
theorem own_built (w : World) (xs : List (List UInt8)) (cs : Array Value) (hcs : cs.toList = xs.map fun x => .string (B x)) (Bs : Nat) (hB : Bs ≤ w.heap.size) (n : Nat) (hn : n = xs.length) (hx : xs.length ≤ 1000) :
    OwnT (w.alloc (.cells cs 9)) Bs (.slice (some ⟨w.heap.size, 0, none⟩) n n) xs := by
  subst hn
  have hc : cs.size = xs.length := by rw [← Array.length_toList, hcs, List.length_map]
  refine ⟨by rw [cellsT]; simp, .inr ⟨w.heap.size, xs.length, cs, rfl, hB, heap_alloc_new w _, Nat.le_refl _, by unfold maxLen; omega, by rw [hc]; simp, ?_⟩⟩
  rw [cellsT, hcs, List.take_of_length_le (by rw [List.length_map]; simp)]
theorem polIdx0 (a b c d : Int) (w : World) : (Instr.index 110 (.agg #[.int .i64 a, .int .i64 b, .int .i64 c, .int .i64 d]) (.int .i64 0)).run Tryz.prog w = .ok (.int .i64 a) w := by kernel_rfl
theorem polIdx1 (a b c d : Int) (w : World) : (Instr.index 110 (.agg #[.int .i64 a, .int .i64 b, .int .i64 c, .int .i64 d]) (.int .i64 1)).run Tryz.prog w = .ok (.int .i64 b) w := by kernel_rfl
theorem polIdx2 (a b c d : Int) (w : World) : (Instr.index 110 (.agg #[.int .i64 a, .int .i64 b, .int .i64 c, .int .i64 d]) (.int .i64 2)).run Tryz.prog w = .ok (.int .i64 c) w := by kernel_rfl
theorem polIdx3 (a b c d : Int) (w : World) : (Instr.index 110 (.agg #[.int .i64 a, .int .i64 b, .int .i64 c, .int .i64 d]) (.int .i64 3)).run Tryz.prog w = .ok (.int .i64 d) w := by kernel_rfl
set_option maxRecDepth 2000000 in
set_option maxHeartbeats 16000000 in
theorem policyText_any (p : Pol) (w : World) (hE : EnvR w) (hw : Tg.wordB p.name = true) (hr : ranged p = true) :
    Calls Tryz.prog 27 #[.agg #[.string (B p.name), .int .i64 p.size, .int .i64 p.slide, .int .i64 p.late, .int .i64 p.keep]] w fun e w' => ∃ a n c, e = .returned (.slice a n c) ∧ EsT w' (.slice a n c) (polLn p) ∧ Below w.heap.size w w' := by
  have hn := word_len hw
  unfold ranged within at hr
  simp only [Bool.and_eq_true, decide_eq_true_eq] at hr
  obtain ⟨pn, p1, p2, p3, p4⟩ := p
  simp only at hn hr ⊢
  have hz : ∀ n : Int, 0 ≤ n → n ≤ 1099511627776 → (B (Lib.itoa n)).size ≤ 13 := fun n h0 h1 => by
    rw [B_size, itoa_pos h0, Lib.decDigits_length]
    exact nDig_le 12 _ (by have : (10 : Nat) ^ 13 = 10000000000000 := by decide
                           rw [this]; omega)
  have z0 := hz p1 (by omega) (by omega)
  have z1 := hz p2 (by omega) (by omega)
  have z2 := hz p3 (by omega) (by omega)
  have z3 := hz p4 (by omega) (by omega)
  have HI0 := fun W (h : EnvR W) => Lib.hid (itoaR_any p1 (by omega) (by omega) W h)
  have HI1 := fun W (h : EnvR W) => Lib.hid (itoaR_any p2 (by omega) (by omega) W h)
  have HI2 := fun W (h : EnvR W) => Lib.hid (itoaR_any p3 (by omega) (by omega) W h)
  have HI3 := fun W (h : EnvR W) => Lib.hid (itoaR_any p4 (by omega) (by omega) W h)
  have HT0 : Hid ((polLn ⟨pn, p1, p2, p3, p4⟩).take 3 = (polLn ⟨pn, p1, p2, p3, p4⟩).take 2 ++ [fldT wSize p1]) := rfl
  have HT1 : Hid ((polLn ⟨pn, p1, p2, p3, p4⟩).take 4 = (polLn ⟨pn, p1, p2, p3, p4⟩).take 3 ++ [fldT wSlide p2]) := rfl
  have HT2 : Hid ((polLn ⟨pn, p1, p2, p3, p4⟩).take 5 = (polLn ⟨pn, p1, p2, p3, p4⟩).take 4 ++ [fldT wLate p3]) := rfl
  have HT3 : Hid ((polLn ⟨pn, p1, p2, p3, p4⟩).take 6 = (polLn ⟨pn, p1, p2, p3, p4⟩).take 5 ++ [fldT wKeep p4]) := rfl
  have HT6 : Hid ((polLn ⟨pn, p1, p2, p3, p4⟩).take 6 = polLn ⟨pn, p1, p2, p3, p4⟩) := rfl
  have HLN : Hid (∀ k, ((polLn ⟨pn, p1, p2, p3, p4⟩).take k).length ≤ 6) := fun k => by rw [List.length_take]; exact Nat.min_le_right _ _
  have HEE := Lib.hid hE
  have HFL : Hid (∀ (x : List UInt8) (n : Int), (B x ++ ⟨#[61]⟩) ++ B (Lib.itoa n) = B (fldT x n)) := fun x n => data_B (by simp [fldT])
  obtain ⟨X, hX⟩ : ∃ X, (w.alloc (.cells #[.string (B pn), .int .i64 p1, .int .i64 p2, .int .i64 p3, .int .i64 p4] 42)).alloc (.cells #[.string ⟨#[112, 111, 108, 105, 99, 121]⟩, .string (B pn)] 9) = X := ⟨_, rfl⟩
  have HX : Hid (Below w.heap.size w X ∧ OwnT X (w.heap.size + 1) (.slice (some ⟨w.heap.size + 1, 0, none⟩) 2 2) ((polLn ⟨pn, p1, p2, p3, p4⟩).take 2)) := by
    refine ⟨by rw [← hX]; exact ((Below.refl _ w).alloc (Nat.le_refl _) _).alloc (by simp) _, ?_⟩
    have := own_built (w.alloc (.cells #[.string (B pn), .int .i64 p1, .int .i64 p2, .int .i64 p3, .int .i64 p4] 42)) [wPolicy, pn] #[.string ⟨#[112, 111, 108, 105, 99, 121]⟩, .string (B pn)] rfl (w.heap.size + 1) (by simp) 2 rfl (by simp)
    rw [hX, World.size_alloc] at this
    exact this
  obtain ⟨ns, hns⟩ : ∃ t, B pn = t := ⟨_, rfl⟩
  rw [hns] at hX ⊢
  have HXE := Lib.hid hX
  have HXS : Hid (w.heap.size + 1 ≤ X.heap.size) := by show _ ≤ _; rw [← hX]; simp
  obtain ⟨PL, hPL⟩ : ∃ PL, polLn ⟨pn, p1, p2, p3, p4⟩ = PL := ⟨_, rfl⟩
  rw [hPL] at HT0 HT1 HT2 HT3 HT6 HLN HX ⊢
  have gi0 := polIdx0 p1 p2 p3 p4
  have gi1 := polIdx1 p1 p2 p3 p4
  have gi2 := polIdx2 p1 p2 p3 p4
  have gi3 := polIdx3 p1 p2 p3 p4
  clear hn hr hz hE hX hns hPL hw
  go_enter Tryz.func27, Tryz.ntmps27
  go_wp2
  rw [HXE.out]
  clear HXE
  go_loopw [3, 18] (fun s i wr => ∃ (k : Nat) (a : Option Addr) (n c : Nat), k ≤ 4 ∧ i = .int .i64 (k : Int) ∧ s = .slice a n c ∧ Hid (OwnT wr (w.heap.size + 1) (.slice a n c) (PL.take (2 + k)) ∧ Below w.heap.size w wr ∧ w.heap.size + 1 ≤ wr.heap.size)) (fun _ i _ => 4 - (intOf i).toNat)
  case atStart => exact ⟨0, _, _, _, Nat.zero_le _, rfl, rfl, HX.out.2, HX.out.1, HXS.out⟩
  case round =>
    clear HX HXS
    obtain ⟨k, a, n, c, hk, rfl, rfl, HR⟩ := hrel
    by_cases hlt : k < 4
    · have hc : k = 0 ∨ k = 1 ∨ k = 2 ∨ k = 3 := by omega
      clear hlt hk
      rcases hc with rfl | rfl | rfl | rfl
      · have HW := Lib.hid HR.out.2.1
        have HEN : Hid (∀ V, Below wr.heap.size wr V → EnvR V) := fun V h => (HEE.out.below HW.out).below h
        have HKG : Hid (∀ V, Below w.heap.size w V → V.cell? ⟨0, 0, none⟩ = some (.string ⟨#[115, 105, 122, 101]⟩)) := fun V h => (HEE.out.below h).f0
        have HAP : Hid (∀ V, Below wr.heap.size wr V → ∃ a' n' k' W', (∀ ty, (ApR #[58, 58] ty #[.slice a n c, .slice (some ⟨V.heap.size, 0, none⟩) 1 1]).run Tryz.prog (V.alloc (.cells #[.string (((⟨#[115, 105, 122, 101]⟩ : ByteArray) ++ ⟨#[61]⟩) ++ B (Lib.itoa p1))] 9)) = .ok (.slice a' n' k') W') ∧ OwnT W' (w.heap.size + 1) (.slice a' n' k') (PL.take 3) ∧ Below w.heap.size w W' ∧ w.heap.size + 1 ≤ W'.heap.size) := fun V hb => by
          have hs := hb.size
          have hs2 := HR.out.2.2
          obtain ⟨a', n', k', W', h1, h2, hsz, h3, -, -⟩ := app2 layT (W := V) (Bs := w.heap.size + 1) (v := .slice a n c) (fldT wSize p1) #[.string (B (fldT wSize p1))] rfl (own_stays HR.out.1 (fun g cs k => k.below hb k.lt)) (by have := HLN.out 2; show (PL.take 2).length ≤ _; omega) (by omega)
          rw [← HFL.out wSize p1] at h1
          rw [show (2 + 0 : Nat) = 2 from rfl, ← HT0.out] at h2
          exact ⟨a', n', k', W', h1, h2, (below_step HW.out (Nat.le_refl _) hb).trans (h3.mono (by omega)), by have := hsz.1; omega⟩
        have HIT := HI0
        have hds := z0
        clear HT0 HT1 HT2 HT3 HT6 HLN HI0 HI1 HI2 HI3 HFL HR z0 z1 z2 z3 HEE
        obtain ⟨ds, hds'⟩ : ∃ t, B (Lib.itoa p1) = t := ⟨_, rfl⟩
        simp only [hds'] at HAP HIT hds
        clear hds'
        go_wp2
        refine wp_region_held_drew (S := (fun w' => w'.cell? ⟨0, 0, none⟩ = some (.string ⟨#[115, 105, 122, 101]⟩))) (by kernel_rfl) (HKG.out _ (below_dr HW.out)) (fun hHeld => ?_)
        refine take_d (i := 0) (d := 22) (v := .slice a n c) rfl rfl (by kernel_rfl) (by kernel_rfl) (by kernel_rfl) (fun _ _ _ h => h) (Or.inl ⟨by kernel_rfl, ?_⟩) (by assumption) ?_
        · intro wS hSw
          go_simp
        simp only [Act.put, List.setIfInBounds_toArray, List.set_cons_zero, List.set_cons_succ]
        refine take_d (i := 1) (d := 23) (v := .int .i64 0) rfl rfl (by kernel_rfl) (by kernel_rfl) (by kernel_rfl) (fun _ _ _ h => h) (Or.inl ⟨by kernel_rfl, ?_⟩) (by assumption) ?_
        · intro wS hSw
          go_simp
        simp only [Act.put, List.setIfInBounds_toArray, List.set_cons_zero, List.set_cons_succ]
        refine take_d (i := 2) (d := 24) (v := .pointer (some ⟨0, 0, none⟩)) rfl rfl (by kernel_rfl) (by kernel_rfl) (by kernel_rfl) (fun _ _ _ h => h) (Or.inl ⟨by kernel_rfl, ?_⟩) (by assumption) ?_
        · intro wS hSw
          go_simp
        simp only [Act.put, List.setIfInBounds_toArray, List.set_cons_zero, List.set_cons_succ]
        refine take_d (i := 3) (d := 25) (v := .string ⟨#[115, 105, 122, 101]⟩) rfl rfl (by kernel_rfl) (by kernel_rfl) (by kernel_rfl) (fun _ _ _ h => h) (Or.inl ⟨by kernel_rfl, ?_⟩) (by assumption) ?_
        · intro wS hSw
          go_simp
        simp only [Act.put, List.setIfInBounds_toArray, List.set_cons_zero, List.set_cons_succ]
        refine take_d (i := 4) (d := 26) (v := .string ((⟨#[115, 105, 122, 101]⟩ : ByteArray) ++ ⟨#[61]⟩)) rfl rfl (by kernel_rfl) (by kernel_rfl) (by kernel_rfl) (fun _ _ _ h => h) (Or.inl ⟨by kernel_rfl, ?_⟩) (by assumption) ?_
        · intro wS hSw
          go_simp
          (try omega)
        simp only [Act.put, List.setIfInBounds_toArray, List.set_cons_zero, List.set_cons_succ]
        refine take_d (i := 5) (d := 27) (v := .int .i64 p1) rfl rfl (by kernel_rfl) (by kernel_rfl) (by kernel_rfl) (fun _ _ _ h => h) (Or.inl ⟨by kernel_rfl, ?_⟩) (by assumption) ?_
        · intro wS hSw
          go_simp
        simp only [Act.put, List.setIfInBounds_toArray, List.set_cons_zero, List.set_cons_succ]
        refine wpAnyH_ready (rs := [6]) (by kernel_rfl) (by simp) ?_
        refine AllReadyH.cons rfl (fun K hK => ?_) ?_
        · go_simp
          go_wp2_with (go_at_call 56; refine (HIT _ (HEN.out _ (below_dr (Below.refl _ _)))).out.mono ?_; rintro e V1 ⟨rfl, hb1⟩)
          obtain ⟨a', n', k', W', hap, h2, h3, h4⟩ := HAP.out V1 (below_step (below_dr0 wr) (Nat.le_refl _) hb1)
          have HN : Hid (OwnT W' (w.heap.size + 1) (.slice a' n' k') (PL.take 3) ∧ Below w.heap.size w W' ∧ w.heap.size + 1 ≤ W'.heap.size) := ⟨h2, h3, h4⟩
          have HV : Hid (Below w.heap.size w V1) := below_step HW.out (Nat.le_refl _) (below_step (below_dr0 wr) (Nat.le_refl _) hb1)
          clear h2 h3 h4 hb1 HAP
          refine hK.out _ _ ?_ (fun hHeld => ?_)
          · exact HKG.out _ HV.out
          clear hK K
          refine take_d (i := 7) (d := 29) (v := .string (((⟨#[115, 105, 122, 101]⟩ : ByteArray) ++ ⟨#[61]⟩) ++ ds)) rfl rfl (by kernel_rfl) (by kernel_rfl) (by kernel_rfl) (fun _ _ _ h => h) (Or.inl ⟨by kernel_rfl, ?_⟩) (by assumption) ?_
          · intro wS hSw
            go_simp
            (try omega)
          simp only [Act.put, List.setIfInBounds_toArray, List.set_cons_zero, List.set_cons_succ]
          refine wpAnyH_ready (rs := [8]) (by kernel_rfl) (by simp) ?_
          refine AllReadyH.cons rfl (fun K hK => ?_) ?_
          · go_simp
            refine hK.out _ _ ?_ (fun hHeld => ?_)
            · exact HKG.out _ (HV.out.alloc HV.out.size _)
            clear hK K
            refine wpAnyH_ready (rs := [9]) (by kernel_rfl) (by simp) ?_
            refine AllReadyH.cons rfl (fun K hK => ?_) ?_
            · go_simp
              refine hK.out _ _ ?_ (fun hHeld => ?_)
              · exact HKG.out _ HN.out.2.1
              clear hK K
              refine take_d (i := 10) (d := 3) (v := .slice a' n' k') rfl rfl (by kernel_rfl) (by kernel_rfl) (by kernel_rfl) (fun _ _ _ h => h) (Or.inl ⟨by kernel_rfl, ?_⟩) (by assumption) ?_
              · intro wS hSw
                go_simp
              simp only [Act.put, List.setIfInBounds_toArray, List.set_cons_zero, List.set_cons_succ]
              refine wpAnyH_done (by kernel_rfl) ?_ _
              go_wp2
              go_roundw
              case rel => exact ⟨1, a', n', k', by omega, by go_num, rfl, HN⟩
              case measure => simp [intOf]
            exact AllReadyH.nil
          exact AllReadyH.nil
        exact AllReadyH.nil
      · have HW := Lib.hid HR.out.2.1
        have HEN : Hid (∀ V, Below wr.heap.size wr V → EnvR V) := fun V h => (HEE.out.below HW.out).below h
        have HKG : Hid (∀ V, Below w.heap.size w V → V.cell? ⟨0, 1, none⟩ = some (.string ⟨#[115, 108, 105, 100, 101]⟩)) := fun V h => (HEE.out.below h).f1
        have HAP : Hid (∀ V, Below wr.heap.size wr V → ∃ a' n' k' W', (∀ ty, (ApR #[58, 58] ty #[.slice a n c, .slice (some ⟨V.heap.size, 0, none⟩) 1 1]).run Tryz.prog (V.alloc (.cells #[.string (((⟨#[115, 108, 105, 100, 101]⟩ : ByteArray) ++ ⟨#[61]⟩) ++ B (Lib.itoa p2))] 9)) = .ok (.slice a' n' k') W') ∧ OwnT W' (w.heap.size + 1) (.slice a' n' k') (PL.take 4) ∧ Below w.heap.size w W' ∧ w.heap.size + 1 ≤ W'.heap.size) := fun V hb => by
          have hs := hb.size
          have hs2 := HR.out.2.2
          obtain ⟨a', n', k', W', h1, h2, hsz, h3, -, -⟩ := app2 layT (W := V) (Bs := w.heap.size + 1) (v := .slice a n c) (fldT wSlide p2) #[.string (B (fldT wSlide p2))] rfl (own_stays HR.out.1 (fun g cs k => k.below hb k.lt)) (by have := HLN.out 3; show (PL.take 3).length ≤ _; omega) (by omega)
          rw [← HFL.out wSlide p2] at h1
          rw [show (2 + 1 : Nat) = 3 from rfl, ← HT1.out] at h2
          exact ⟨a', n', k', W', h1, h2, (below_step HW.out (Nat.le_refl _) hb).trans (h3.mono (by omega)), by have := hsz.1; omega⟩
        have HIT := HI1
        have hds := z1
        clear HT0 HT1 HT2 HT3 HT6 HLN HI0 HI1 HI2 HI3 HFL HR z0 z1 z2 z3 HEE
        obtain ⟨ds, hds'⟩ : ∃ t, B (Lib.itoa p2) = t := ⟨_, rfl⟩
        simp only [hds'] at HAP HIT hds
        clear hds'
        go_wp2
        refine wp_region_held_drew (S := (fun w' => w'.cell? ⟨0, 1, none⟩ = some (.string ⟨#[115, 108, 105, 100, 101]⟩))) (by kernel_rfl) (HKG.out _ (below_dr HW.out)) (fun hHeld => ?_)
        refine take_d (i := 0) (d := 22) (v := .slice a n c) rfl rfl (by kernel_rfl) (by kernel_rfl) (by kernel_rfl) (fun _ _ _ h => h) (Or.inl ⟨by kernel_rfl, ?_⟩) (by assumption) ?_
        · intro wS hSw
          go_simp
        simp only [Act.put, List.setIfInBounds_toArray, List.set_cons_zero, List.set_cons_succ]
        refine take_d (i := 1) (d := 23) (v := .int .i64 1) rfl rfl (by kernel_rfl) (by kernel_rfl) (by kernel_rfl) (fun _ _ _ h => h) (Or.inl ⟨by kernel_rfl, ?_⟩) (by assumption) ?_
        · intro wS hSw
          go_simp
        simp only [Act.put, List.setIfInBounds_toArray, List.set_cons_zero, List.set_cons_succ]
        refine take_d (i := 2) (d := 24) (v := .pointer (some ⟨0, 1, none⟩)) rfl rfl (by kernel_rfl) (by kernel_rfl) (by kernel_rfl) (fun _ _ _ h => h) (Or.inl ⟨by kernel_rfl, ?_⟩) (by assumption) ?_
        · intro wS hSw
          go_simp
        simp only [Act.put, List.setIfInBounds_toArray, List.set_cons_zero, List.set_cons_succ]
        refine take_d (i := 3) (d := 25) (v := .string ⟨#[115, 108, 105, 100, 101]⟩) rfl rfl (by kernel_rfl) (by kernel_rfl) (by kernel_rfl) (fun _ _ _ h => h) (Or.inl ⟨by kernel_rfl, ?_⟩) (by assumption) ?_
        · intro wS hSw
          go_simp
        simp only [Act.put, List.setIfInBounds_toArray, List.set_cons_zero, List.set_cons_succ]
        refine take_d (i := 4) (d := 26) (v := .string ((⟨#[115, 108, 105, 100, 101]⟩ : ByteArray) ++ ⟨#[61]⟩)) rfl rfl (by kernel_rfl) (by kernel_rfl) (by kernel_rfl) (fun _ _ _ h => h) (Or.inl ⟨by kernel_rfl, ?_⟩) (by assumption) ?_
        · intro wS hSw
          go_simp
          (try omega)
        simp only [Act.put, List.setIfInBounds_toArray, List.set_cons_zero, List.set_cons_succ]
        refine take_d (i := 5) (d := 27) (v := .int .i64 p2) rfl rfl (by kernel_rfl) (by kernel_rfl) (by kernel_rfl) (fun _ _ _ h => h) (Or.inl ⟨by kernel_rfl, ?_⟩) (by assumption) ?_
        · intro wS hSw
          go_simp
        simp only [Act.put, List.setIfInBounds_toArray, List.set_cons_zero, List.set_cons_succ]
        refine wpAnyH_ready (rs := [6]) (by kernel_rfl) (by simp) ?_
        refine AllReadyH.cons rfl (fun K hK => ?_) ?_
        · go_simp
          go_wp2_with (go_at_call 56; refine (HIT _ (HEN.out _ (below_dr (Below.refl _ _)))).out.mono ?_; rintro e V1 ⟨rfl, hb1⟩)
          obtain ⟨a', n', k', W', hap, h2, h3, h4⟩ := HAP.out V1 (below_step (below_dr0 wr) (Nat.le_refl _) hb1)
          have HN : Hid (OwnT W' (w.heap.size + 1) (.slice a' n' k') (PL.take 4) ∧ Below w.heap.size w W' ∧ w.heap.size + 1 ≤ W'.heap.size) := ⟨h2, h3, h4⟩
          have HV : Hid (Below w.heap.size w V1) := below_step HW.out (Nat.le_refl _) (below_step (below_dr0 wr) (Nat.le_refl _) hb1)
          clear h2 h3 h4 hb1 HAP
          refine hK.out _ _ ?_ (fun hHeld => ?_)
          · exact HKG.out _ HV.out
          clear hK K
          refine take_d (i := 7) (d := 29) (v := .string (((⟨#[115, 108, 105, 100, 101]⟩ : ByteArray) ++ ⟨#[61]⟩) ++ ds)) rfl rfl (by kernel_rfl) (by kernel_rfl) (by kernel_rfl) (fun _ _ _ h => h) (Or.inl ⟨by kernel_rfl, ?_⟩) (by assumption) ?_
          · intro wS hSw
            go_simp
            (try omega)
          simp only [Act.put, List.setIfInBounds_toArray, List.set_cons_zero, List.set_cons_succ]
          refine wpAnyH_ready (rs := [8]) (by kernel_rfl) (by simp) ?_
          refine AllReadyH.cons rfl (fun K hK => ?_) ?_
          · go_simp
            refine hK.out _ _ ?_ (fun hHeld => ?_)
            · exact HKG.out _ (HV.out.alloc HV.out.size _)
            clear hK K
            refine wpAnyH_ready (rs := [9]) (by kernel_rfl) (by simp) ?_
            refine AllReadyH.cons rfl (fun K hK => ?_) ?_
            · go_simp
              refine hK.out _ _ ?_ (fun hHeld => ?_)
              · exact HKG.out _ HN.out.2.1
              clear hK K
              refine take_d (i := 10) (d := 3) (v := .slice a' n' k') rfl rfl (by kernel_rfl) (by kernel_rfl) (by kernel_rfl) (fun _ _ _ h => h) (Or.inl ⟨by kernel_rfl, ?_⟩) (by assumption) ?_
              · intro wS hSw
                go_simp
              simp only [Act.put, List.setIfInBounds_toArray, List.set_cons_zero, List.set_cons_succ]
              refine wpAnyH_done (by kernel_rfl) ?_ _
              go_wp2
              go_roundw
              case rel => exact ⟨2, a', n', k', by omega, by go_num, rfl, HN⟩
              case measure => simp [intOf]
            exact AllReadyH.nil
          exact AllReadyH.nil
        exact AllReadyH.nil
      · have HW := Lib.hid HR.out.2.1
        have HEN : Hid (∀ V, Below wr.heap.size wr V → EnvR V) := fun V h => (HEE.out.below HW.out).below h
        have HKG : Hid (∀ V, Below w.heap.size w V → V.cell? ⟨0, 2, none⟩ = some (.string ⟨#[108, 97, 116, 101]⟩)) := fun V h => (HEE.out.below h).f2
        have HAP : Hid (∀ V, Below wr.heap.size wr V → ∃ a' n' k' W', (∀ ty, (ApR #[58, 58] ty #[.slice a n c, .slice (some ⟨V.heap.size, 0, none⟩) 1 1]).run Tryz.prog (V.alloc (.cells #[.string (((⟨#[108, 97, 116, 101]⟩ : ByteArray) ++ ⟨#[61]⟩) ++ B (Lib.itoa p3))] 9)) = .ok (.slice a' n' k') W') ∧ OwnT W' (w.heap.size + 1) (.slice a' n' k') (PL.take 5) ∧ Below w.heap.size w W' ∧ w.heap.size + 1 ≤ W'.heap.size) := fun V hb => by
          have hs := hb.size
          have hs2 := HR.out.2.2
          obtain ⟨a', n', k', W', h1, h2, hsz, h3, -, -⟩ := app2 layT (W := V) (Bs := w.heap.size + 1) (v := .slice a n c) (fldT wLate p3) #[.string (B (fldT wLate p3))] rfl (own_stays HR.out.1 (fun g cs k => k.below hb k.lt)) (by have := HLN.out 4; show (PL.take 4).length ≤ _; omega) (by omega)
          rw [← HFL.out wLate p3] at h1
          rw [show (2 + 2 : Nat) = 4 from rfl, ← HT2.out] at h2
          exact ⟨a', n', k', W', h1, h2, (below_step HW.out (Nat.le_refl _) hb).trans (h3.mono (by omega)), by have := hsz.1; omega⟩
        have HIT := HI2
        have hds := z2
        clear HT0 HT1 HT2 HT3 HT6 HLN HI0 HI1 HI2 HI3 HFL HR z0 z1 z2 z3 HEE
        obtain ⟨ds, hds'⟩ : ∃ t, B (Lib.itoa p3) = t := ⟨_, rfl⟩
        simp only [hds'] at HAP HIT hds
        clear hds'
        go_wp2
        refine wp_region_held_drew (S := (fun w' => w'.cell? ⟨0, 2, none⟩ = some (.string ⟨#[108, 97, 116, 101]⟩))) (by kernel_rfl) (HKG.out _ (below_dr HW.out)) (fun hHeld => ?_)
        refine take_d (i := 0) (d := 22) (v := .slice a n c) rfl rfl (by kernel_rfl) (by kernel_rfl) (by kernel_rfl) (fun _ _ _ h => h) (Or.inl ⟨by kernel_rfl, ?_⟩) (by assumption) ?_
        · intro wS hSw
          go_simp
        simp only [Act.put, List.setIfInBounds_toArray, List.set_cons_zero, List.set_cons_succ]
        refine take_d (i := 1) (d := 23) (v := .int .i64 2) rfl rfl (by kernel_rfl) (by kernel_rfl) (by kernel_rfl) (fun _ _ _ h => h) (Or.inl ⟨by kernel_rfl, ?_⟩) (by assumption) ?_
        · intro wS hSw
          go_simp
        simp only [Act.put, List.setIfInBounds_toArray, List.set_cons_zero, List.set_cons_succ]
        refine take_d (i := 2) (d := 24) (v := .pointer (some ⟨0, 2, none⟩)) rfl rfl (by kernel_rfl) (by kernel_rfl) (by kernel_rfl) (fun _ _ _ h => h) (Or.inl ⟨by kernel_rfl, ?_⟩) (by assumption) ?_
        · intro wS hSw
          go_simp
        simp only [Act.put, List.setIfInBounds_toArray, List.set_cons_zero, List.set_cons_succ]
        refine take_d (i := 3) (d := 25) (v := .string ⟨#[108, 97, 116, 101]⟩) rfl rfl (by kernel_rfl) (by kernel_rfl) (by kernel_rfl) (fun _ _ _ h => h) (Or.inl ⟨by kernel_rfl, ?_⟩) (by assumption) ?_
        · intro wS hSw
          go_simp
        simp only [Act.put, List.setIfInBounds_toArray, List.set_cons_zero, List.set_cons_succ]
        refine take_d (i := 4) (d := 26) (v := .string ((⟨#[108, 97, 116, 101]⟩ : ByteArray) ++ ⟨#[61]⟩)) rfl rfl (by kernel_rfl) (by kernel_rfl) (by kernel_rfl) (fun _ _ _ h => h) (Or.inl ⟨by kernel_rfl, ?_⟩) (by assumption) ?_
        · intro wS hSw
          go_simp
          (try omega)
        simp only [Act.put, List.setIfInBounds_toArray, List.set_cons_zero, List.set_cons_succ]
        refine take_d (i := 5) (d := 27) (v := .int .i64 p3) rfl rfl (by kernel_rfl) (by kernel_rfl) (by kernel_rfl) (fun _ _ _ h => h) (Or.inl ⟨by kernel_rfl, ?_⟩) (by assumption) ?_
        · intro wS hSw
          go_simp
        simp only [Act.put, List.setIfInBounds_toArray, List.set_cons_zero, List.set_cons_succ]
        refine wpAnyH_ready (rs := [6]) (by kernel_rfl) (by simp) ?_
        refine AllReadyH.cons rfl (fun K hK => ?_) ?_
        · go_simp
          go_wp2_with (go_at_call 56; refine (HIT _ (HEN.out _ (below_dr (Below.refl _ _)))).out.mono ?_; rintro e V1 ⟨rfl, hb1⟩)
          obtain ⟨a', n', k', W', hap, h2, h3, h4⟩ := HAP.out V1 (below_step (below_dr0 wr) (Nat.le_refl _) hb1)
          have HN : Hid (OwnT W' (w.heap.size + 1) (.slice a' n' k') (PL.take 5) ∧ Below w.heap.size w W' ∧ w.heap.size + 1 ≤ W'.heap.size) := ⟨h2, h3, h4⟩
          have HV : Hid (Below w.heap.size w V1) := below_step HW.out (Nat.le_refl _) (below_step (below_dr0 wr) (Nat.le_refl _) hb1)
          clear h2 h3 h4 hb1 HAP
          refine hK.out _ _ ?_ (fun hHeld => ?_)
          · exact HKG.out _ HV.out
          clear hK K
          refine take_d (i := 7) (d := 29) (v := .string (((⟨#[108, 97, 116, 101]⟩ : ByteArray) ++ ⟨#[61]⟩) ++ ds)) rfl rfl (by kernel_rfl) (by kernel_rfl) (by kernel_rfl) (fun _ _ _ h => h) (Or.inl ⟨by kernel_rfl, ?_⟩) (by assumption) ?_
          · intro wS hSw
            go_simp
            (try omega)
          simp only [Act.put, List.setIfInBounds_toArray, List.set_cons_zero, List.set_cons_succ]
          refine wpAnyH_ready (rs := [8]) (by kernel_rfl) (by simp) ?_
          refine AllReadyH.cons rfl (fun K hK => ?_) ?_
          · go_simp
            refine hK.out _ _ ?_ (fun hHeld => ?_)
            · exact HKG.out _ (HV.out.alloc HV.out.size _)
            clear hK K
            refine wpAnyH_ready (rs := [9]) (by kernel_rfl) (by simp) ?_
            refine AllReadyH.cons rfl (fun K hK => ?_) ?_
            · go_simp
              refine hK.out _ _ ?_ (fun hHeld => ?_)
              · exact HKG.out _ HN.out.2.1
              clear hK K
              refine take_d (i := 10) (d := 3) (v := .slice a' n' k') rfl rfl (by kernel_rfl) (by kernel_rfl) (by kernel_rfl) (fun _ _ _ h => h) (Or.inl ⟨by kernel_rfl, ?_⟩) (by assumption) ?_
              · intro wS hSw
                go_simp
              simp only [Act.put, List.setIfInBounds_toArray, List.set_cons_zero, List.set_cons_succ]
              refine wpAnyH_done (by kernel_rfl) ?_ _
              go_wp2
              go_roundw
              case rel => exact ⟨3, a', n', k', by omega, by go_num, rfl, HN⟩
              case measure => simp [intOf]
            exact AllReadyH.nil
          exact AllReadyH.nil
        exact AllReadyH.nil
      · have HW := Lib.hid HR.out.2.1
        have HEN : Hid (∀ V, Below wr.heap.size wr V → EnvR V) := fun V h => (HEE.out.below HW.out).below h
        have HKG : Hid (∀ V, Below w.heap.size w V → V.cell? ⟨0, 3, none⟩ = some (.string ⟨#[107, 101, 101, 112]⟩)) := fun V h => (HEE.out.below h).f3
        have HAP : Hid (∀ V, Below wr.heap.size wr V → ∃ a' n' k' W', (∀ ty, (ApR #[58, 58] ty #[.slice a n c, .slice (some ⟨V.heap.size, 0, none⟩) 1 1]).run Tryz.prog (V.alloc (.cells #[.string (((⟨#[107, 101, 101, 112]⟩ : ByteArray) ++ ⟨#[61]⟩) ++ B (Lib.itoa p4))] 9)) = .ok (.slice a' n' k') W') ∧ OwnT W' (w.heap.size + 1) (.slice a' n' k') (PL.take 6) ∧ Below w.heap.size w W' ∧ w.heap.size + 1 ≤ W'.heap.size) := fun V hb => by
          have hs := hb.size
          have hs2 := HR.out.2.2
          obtain ⟨a', n', k', W', h1, h2, hsz, h3, -, -⟩ := app2 layT (W := V) (Bs := w.heap.size + 1) (v := .slice a n c) (fldT wKeep p4) #[.string (B (fldT wKeep p4))] rfl (own_stays HR.out.1 (fun g cs k => k.below hb k.lt)) (by have := HLN.out 5; show (PL.take 5).length ≤ _; omega) (by omega)
          rw [← HFL.out wKeep p4] at h1
          rw [show (2 + 3 : Nat) = 5 from rfl, ← HT3.out] at h2
          exact ⟨a', n', k', W', h1, h2, (below_step HW.out (Nat.le_refl _) hb).trans (h3.mono (by omega)), by have := hsz.1; omega⟩
        have HIT := HI3
        have hds := z3
        clear HT0 HT1 HT2 HT3 HT6 HLN HI0 HI1 HI2 HI3 HFL HR z0 z1 z2 z3 HEE
        obtain ⟨ds, hds'⟩ : ∃ t, B (Lib.itoa p4) = t := ⟨_, rfl⟩
        simp only [hds'] at HAP HIT hds
        clear hds'
        go_wp2
        refine wp_region_held_drew (S := (fun w' => w'.cell? ⟨0, 3, none⟩ = some (.string ⟨#[107, 101, 101, 112]⟩))) (by kernel_rfl) (HKG.out _ (below_dr HW.out)) (fun hHeld => ?_)
        refine take_d (i := 0) (d := 22) (v := .slice a n c) rfl rfl (by kernel_rfl) (by kernel_rfl) (by kernel_rfl) (fun _ _ _ h => h) (Or.inl ⟨by kernel_rfl, ?_⟩) (by assumption) ?_
        · intro wS hSw
          go_simp
        simp only [Act.put, List.setIfInBounds_toArray, List.set_cons_zero, List.set_cons_succ]
        refine take_d (i := 1) (d := 23) (v := .int .i64 3) rfl rfl (by kernel_rfl) (by kernel_rfl) (by kernel_rfl) (fun _ _ _ h => h) (Or.inl ⟨by kernel_rfl, ?_⟩) (by assumption) ?_
        · intro wS hSw
          go_simp
        simp only [Act.put, List.setIfInBounds_toArray, List.set_cons_zero, List.set_cons_succ]
        refine take_d (i := 2) (d := 24) (v := .pointer (some ⟨0, 3, none⟩)) rfl rfl (by kernel_rfl) (by kernel_rfl) (by kernel_rfl) (fun _ _ _ h => h) (Or.inl ⟨by kernel_rfl, ?_⟩) (by assumption) ?_
        · intro wS hSw
          go_simp
        simp only [Act.put, List.setIfInBounds_toArray, List.set_cons_zero, List.set_cons_succ]
        refine take_d (i := 3) (d := 25) (v := .string ⟨#[107, 101, 101, 112]⟩) rfl rfl (by kernel_rfl) (by kernel_rfl) (by kernel_rfl) (fun _ _ _ h => h) (Or.inl ⟨by kernel_rfl, ?_⟩) (by assumption) ?_
        · intro wS hSw
          go_simp
        simp only [Act.put, List.setIfInBounds_toArray, List.set_cons_zero, List.set_cons_succ]
        refine take_d (i := 4) (d := 26) (v := .string ((⟨#[107, 101, 101, 112]⟩ : ByteArray) ++ ⟨#[61]⟩)) rfl rfl (by kernel_rfl) (by kernel_rfl) (by kernel_rfl) (fun _ _ _ h => h) (Or.inl ⟨by kernel_rfl, ?_⟩) (by assumption) ?_
        · intro wS hSw
          go_simp
          (try omega)
        simp only [Act.put, List.setIfInBounds_toArray, List.set_cons_zero, List.set_cons_succ]
        refine take_d (i := 5) (d := 27) (v := .int .i64 p4) rfl rfl (by kernel_rfl) (by kernel_rfl) (by kernel_rfl) (fun _ _ _ h => h) (Or.inl ⟨by kernel_rfl, ?_⟩) (by assumption) ?_
        · intro wS hSw
          go_simp
        simp only [Act.put, List.setIfInBounds_toArray, List.set_cons_zero, List.set_cons_succ]
        refine wpAnyH_ready (rs := [6]) (by kernel_rfl) (by simp) ?_
        refine AllReadyH.cons rfl (fun K hK => ?_) ?_
        · go_simp
          go_wp2_with (go_at_call 56; refine (HIT _ (HEN.out _ (below_dr (Below.refl _ _)))).out.mono ?_; rintro e V1 ⟨rfl, hb1⟩)
          obtain ⟨a', n', k', W', hap, h2, h3, h4⟩ := HAP.out V1 (below_step (below_dr0 wr) (Nat.le_refl _) hb1)
          have HN : Hid (OwnT W' (w.heap.size + 1) (.slice a' n' k') (PL.take 6) ∧ Below w.heap.size w W' ∧ w.heap.size + 1 ≤ W'.heap.size) := ⟨h2, h3, h4⟩
          have HV : Hid (Below w.heap.size w V1) := below_step HW.out (Nat.le_refl _) (below_step (below_dr0 wr) (Nat.le_refl _) hb1)
          clear h2 h3 h4 hb1 HAP
          refine hK.out _ _ ?_ (fun hHeld => ?_)
          · exact HKG.out _ HV.out
          clear hK K
          refine take_d (i := 7) (d := 29) (v := .string (((⟨#[107, 101, 101, 112]⟩ : ByteArray) ++ ⟨#[61]⟩) ++ ds)) rfl rfl (by kernel_rfl) (by kernel_rfl) (by kernel_rfl) (fun _ _ _ h => h) (Or.inl ⟨by kernel_rfl, ?_⟩) (by assumption) ?_
          · intro wS hSw
            go_simp
            (try omega)
          simp only [Act.put, List.setIfInBounds_toArray, List.set_cons_zero, List.set_cons_succ]
          refine wpAnyH_ready (rs := [8]) (by kernel_rfl) (by simp) ?_
          refine AllReadyH.cons rfl (fun K hK => ?_) ?_
          · go_simp
            refine hK.out _ _ ?_ (fun hHeld => ?_)
            · exact HKG.out _ (HV.out.alloc HV.out.size _)
            clear hK K
            refine wpAnyH_ready (rs := [9]) (by kernel_rfl) (by simp) ?_
            refine AllReadyH.cons rfl (fun K hK => ?_) ?_
            · go_simp
              refine hK.out _ _ ?_ (fun hHeld => ?_)
              · exact HKG.out _ HN.out.2.1
              clear hK K
              refine take_d (i := 10) (d := 3) (v := .slice a' n' k') rfl rfl (by kernel_rfl) (by kernel_rfl) (by kernel_rfl) (fun _ _ _ h => h) (Or.inl ⟨by kernel_rfl, ?_⟩) (by assumption) ?_
              · intro wS hSw
                go_simp
              simp only [Act.put, List.setIfInBounds_toArray, List.set_cons_zero, List.set_cons_succ]
              refine wpAnyH_done (by kernel_rfl) ?_ _
              go_wp2
              go_roundw
              case rel => exact ⟨4, a', n', k', by omega, by go_num, rfl, HN⟩
              case measure => simp [intOf]
            exact AllReadyH.nil
          exact AllReadyH.nil
        exact AllReadyH.nil
    · obtain rfl : k = 4 := by omega
      have HF : Hid (EsT wr (.slice a n c) PL ∧ Below w.heap.size w wr) := by
        have := HR.out.1
        rw [show 2 + 4 = 6 from rfl, HT6.out] at this
        exact ⟨this.es, HR.out.2.1⟩
      clear HR hlt hk HT0 HT1 HT2 HT3 HT6 HLN HI0 HI1 HI2 HI3 HFL HEE gi0 gi1 gi2 gi3
      go_wp2
      go_ret
      exact ⟨_, _, _, rfl, HF.out⟩
end Ru
end Go.Proofs.YtiahelekgjdjlaaGreatDoor
