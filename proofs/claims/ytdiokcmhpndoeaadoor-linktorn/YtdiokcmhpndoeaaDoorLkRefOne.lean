
/- The document's One: it answers Lk.one. -/
import Derived.Test.YtdiokcmhpndoeaaDoorLkOne
import Derived.Deep.RegionHeld
namespace Go.Proofs.YtdiokcmhpndoeaaDoor
open Go.RowKit
theorem pre_bl (s : ByteArray) (k : Nat) : Cl.bl (s.extract 0 k) = (Cl.bl s).take k := by
  unfold Cl.bl
  rw [Lib.extract_data]
  simp
set_option maxRecDepth 100000 in
set_option maxHeartbeats 1000000 in
theorem refOne_any (s : ByteArray) (hs : s.size ≤ 1000000) (w : World) :
    Calls Tryd.prog 17 #[.string s] w fun e w' => e = .returned (.tuple #[.string (Lk.one s).1, .int .i64 ((Lk.one s).2.1 : Nat), .int .i64 ((Lk.one s).2.2 : Nat)]) ∧ Below w.heap.size w w' := by
  by_cases h4 : s.size < 4
  · rw [Lk.one_short h4]
    go_enter Tryd.func17, Tryd.ntmps17
    go_wp2
    go_ret3
    exact ⟨rfl, Below.refl _ _⟩
  · have HT := Lib.hid (refTakeText_any (Cl.behind s 4) 200000 (by rw [Cl.behind_size]; unfold maxLen; omega) w)
    have hbd := Cl.takeText_bd (Cl.behind s 4) 200000
    rw [Cl.behind_size] at hbd
    by_cases h0 : (Cl.takeText (Cl.behind s 4) 200000).2.2 = 0
    · obtain ⟨p, m, c, ht⟩ : ∃ p m c, Cl.takeText (Cl.behind s 4) 200000 = (p, m, c) := ⟨_, _, _, rfl⟩
      have hps := (Cl.takeText_back (Cl.behind s 4) 200000 h0).2
      rw [ht] at HT hbd h0 hps
      dsimp only at HT hbd h0 hps
      subst h0
      have HFR : Hid (∀ w', Below w.heap.size w w' → Calls Tryd.prog 12 #[.string p] w' fun e wF => e = .returned (.string ⟨(Lk.frame (Cl.bl p)).toArray⟩) ∧ Below w.heap.size w wF) := fun w' hb => (refFrame_any p (by omega) w').mono fun e wF ⟨h1, h2⟩ => ⟨h1, hb.trans (h2.mono hb.size)⟩
      have hmb : m ≤ 1000000 := by omega
      have hwp : IntKind.i64.wrap (4 + (m : Int)) = 4 + (m : Int) := wrap_i64_in _ (by omega) (by omega)
      have hm1 : (0 : Int) ≤ 4 + (m : Int) := by omega
      have hm2 : (4 : Int) + (m : Int) ≤ (s.size : Int) := by omega
      have hm3 : ((4 : Int) + (m : Int)).toNat = 4 + m := by omega
      by_cases hf : Lk.frame (Cl.bl p) = (Cl.bl s).take (4 + m)
      · rw [Lk.one_yes h4 ht hf]
        have he : (⟨(Lk.frame (Cl.bl p)).toArray⟩ : ByteArray) = s.extract 0 (4 + m) := Cl.bl_inj (by rw [pre_bl, ← hf]; rfl)
        rw [he] at HFR
        clear ht hf he hbd hps
        have hee : (!((s.extract 0 (4 + m)).toList == (s.extract 0 (4 + m)).toList)) = false := by simp
        unfold Cl.behind at HT
        go_enter Tryd.func17, Tryd.ntmps17
        go_wp2_with fail
        refine HT.out.mono ?_
        rintro e w1 ⟨rfl, rfl⟩
        clear HT
        have hsl : ∀ u : World, (Instr.slice 9 (.string s) none (some (.int .i64 (4 + (m : Int)))) none).run Tryd.prog u = .ok (.string (s.extract 0 (4 + m))) u := fun u => by
          have := run_slice_string_h (P := Tryd.prog) (w := u) 9 s Tryd.underlying9 .i64 (4 + (m : Int)) hm1 hm2
          rw [hm3] at this
          exact this
        go_wp2
        go_region_held (fun w' => w.heap.size ≤ w'.heap.size) (first | exact BF.size | exact Nat.le_refl _) (first
          | (go_at_call 12; refine (HFR.out _ (below_dr0 _)).mono ?_; rintro e wF ⟨rfl, BF⟩))
        go_wp2
        go_ret3
        exact ⟨by simp, BF⟩
      · rw [Lk.one_sum h4 ht hf]
        have hne : (!((⟨(Lk.frame (Cl.bl p)).toArray⟩ : ByteArray).toList == (s.extract 0 (4 + m)).toList)) = true := by
          rw [Bool.not_eq_true', beq_eq_false_iff_ne]
          intro e
          have e2 : (⟨(Lk.frame (Cl.bl p)).toArray⟩ : ByteArray) = s.extract 0 (4 + m) := by
            rw [ByteArray.toList_eq, ByteArray.toList_eq] at e
            exact ByteArray.ext (Array.toList_inj.1 e)
          exact hf (by rw [← pre_bl, ← e2]; rfl)
        clear ht hf hbd hps
        generalize (⟨(Lk.frame (Cl.bl p)).toArray⟩ : ByteArray) = q at HFR hne
        unfold Cl.behind at HT
        go_enter Tryd.func17, Tryd.ntmps17
        go_wp2_with fail
        refine HT.out.mono ?_
        rintro e w1 ⟨rfl, rfl⟩
        clear HT
        have hsl : ∀ u : World, (Instr.slice 9 (.string s) none (some (.int .i64 (4 + (m : Int)))) none).run Tryd.prog u = .ok (.string (s.extract 0 (4 + m))) u := fun u => by
          have := run_slice_string_h (P := Tryd.prog) (w := u) 9 s Tryd.underlying9 .i64 (4 + (m : Int)) hm1 hm2
          rw [hm3] at this
          exact this
        go_wp2
        go_region_held (fun w' => w.heap.size ≤ w'.heap.size) (first | exact BF.size | exact Nat.le_refl _) (first
          | (go_at_call 12; refine (HFR.out _ (below_dr0 _)).mono ?_; rintro e wF ⟨rfl, BF⟩))
        go_wp2
        go_ret3
        exact ⟨rfl, BF⟩
    · obtain ⟨p, m, c, ht⟩ : ∃ p m c, Cl.takeText (Cl.behind s 4) 200000 = (p, m, c) := ⟨_, _, _, rfl⟩
      rw [Lk.one_text h4 (congrArg (fun x => x.2.2) ht) (by rw [ht] at h0; exact h0)]
      rw [ht] at HT hbd h0
      dsimp only at HT hbd h0
      have hc : (c : Int) ≠ 0 := by omega
      clear ht hbd h0
      unfold Cl.behind at HT
      go_enter Tryd.func17, Tryd.ntmps17
      go_wp2_with fail
      refine HT.out.mono ?_
      rintro e w1 ⟨rfl, rfl⟩
      clear HT
      go_wp2
      go_ret3
      exact ⟨rfl, Below.refl _ _⟩
end Go.Proofs.YtdiokcmhpndoeaaDoor
