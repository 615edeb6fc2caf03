
/- LinkSums: its walk. -/
import Derived.Test.YtdiokcmhpndoeaaDoorLkApp
import Derived.BigQuiet
import Derived.Deep.QuietTactic
namespace Go.Proofs.YtdiokcmhpndoeaaDoor
open Go.RowKit
attribute [local go_sem ↓] app_eq
set_option maxRecDepth 100000 in
set_option maxHeartbeats 1000000 in
theorem linkSums_walk (a : Option Addr) (s : ByteArray) (cap : Nat) (W : World) (hE : LkEnv W) (hs : s.size ≤ maxLen) (_hcap : s.size ≤ cap) (hB : BytesS W a s) :
    Calls Tryd.prog 3 #[.slice a s.size cap] W fun e W' => e = .returned (.bool true) ∧ Below W.heap.size W W' := by
  have HA := Lib.hid (lkAwake_any W hE)
  unfold maxLen at hs
  obtain ⟨n, hn⟩ : ∃ n, s.size = n := ⟨_, rfl⟩
  rw [hn] at hs ⊢
  have HN := Lib.hid hn
  clear hn
  by_cases h1 : 1000 < n
  · go_enter Tryd.func3, Tryd.ntmps3
    go_wp2_with fail
    refine HA.out.mono ?_
    rintro e w1 ⟨rfl, hb1⟩
    have HA2 := Lib.hid (lkAwake_any w1 (hE.below hb1 hE.1))
    have HB1 := Lib.hid hb1
    clear hb1
    go_wp2_with fail
    refine HA2.out.mono ?_
    rintro e w2 ⟨rfl, hb2⟩
    go_wp2
    go_ret
    exact ⟨rfl, HB1.out.trans (hb2.mono HB1.out.size)⟩
  · have HBS := Lib.hid hB
    have HE := Lib.hid hE
    clear hB hE
    go_enter Tryd.func3, Tryd.ntmps3
    go_wp2_with fail
    refine HA.out.mono ?_
    rintro e w1 ⟨rfl, hb1⟩
    have hB1 := HBS.out.below hb1
    obtain ⟨v', w2, hap, hrow, hb2⟩ := run_app_copy w1 a n cap s HN.out.symm (by rw [HN.out]; omega) hB1
    have HB1 := Lib.hid hb1
    have HB2 := Lib.hid hb2
    have HE2 := Lib.hid ((HE.out.below hb1 HE.out.1).below hb2 (HE.out.below hb1 HE.out.1).1)
    have HS2 := Lib.hid (hB1.below hb2)
    have hrow' := hrow
    obtain ⟨a2, c2, rfl, hs2⟩ := hrow.bytesS
    rw [Cl.back] at hs2
    have hcr : ∀ nq, (convert 22 9 (.slice a2 (Cl.bl s).length c2)).run Tryd.prog (w2.drewN nq) = .ok (.string s) (w2.drewN nq) := fun nq => by
      have := conv_row (W := w2.drewN nq) hrow'
      rw [Cl.back] at this
      exact this
    have hcb : ∀ nq, (convert 22 9 (.slice a n cap)).run Tryd.prog (w2.drewN nq) = .ok (.string s) (w2.drewN nq) := fun nq => conv_s (w := w2.drewN nq) HS2.out n cap HN.out.symm
    have HSU := fun nq => Lib.hid (sum_any a2 (Cl.bl s).length c2 s (Cl.bl_len s) (by rw [HN.out]; unfold maxLen; omega) (w2.drewN nq) HE2.out hs2)
    have HRS := fun nq => Lib.hid (refSum_any s (by rw [HN.out]; unfold maxLen; omega) (w2.drewN nq))
    have hss : (s.toList == s.toList) = true := by simp
    generalize (Cl.bl s).length = m at hap hcr HSU
    clear hs2 hrow hrow' hB1 hb1 hb2 HA
    go_wp2
    go_quiet (first | (go_at_call 8; exact quiet_same (HSU _).out) | (go_at_call 9; exact quiet_same (HRS _).out))
    go_wp2
    go_ret
    exact ⟨rfl, below_drewN (HB1.out.trans (HB2.out.mono HB1.out.size)) _⟩
end Go.Proofs.YtdiokcmhpndoeaaDoor
