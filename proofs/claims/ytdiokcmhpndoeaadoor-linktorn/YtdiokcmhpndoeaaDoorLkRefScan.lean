
/- The document's Scan: it answers Lk.scan. -/
import Derived.Test.YtdiokcmhpndoeaaDoorLkRefOne
import Derived.Test.YtdiokcmhpndoeaaDoorLkScanMath
import Derived.Test.YtdiokcmhpndoeaaDoorClTakeStr
namespace Go.Proofs.YtdiokcmhpndoeaaDoor
open Go.RowKit
attribute [local go_sem ↓] app_eq
set_option maxRecDepth 100000 in
set_option maxHeartbeats 2000000 in
theorem refScan_any (s : ByteArray) (hs : s.size ≤ 1000000) (w : World) :
    Calls Tryd.prog 14 #[.string s] w fun e w' => ∃ v, e = .returned (.tuple #[v, .int .i64 ((Lk.scan s).2.1 : Nat), .int .i64 ((Lk.scan s).2.2 : Nat)]) ∧ SRow w' w.heap.size v (Lk.scan s).1 ∧ Below w.heap.size w w' := by
  go_enter Tryd.func14, Tryd.ntmps14
  go_wp2
  go_loopw [5, 6] (fun o i wr => ∃ k at' : Nat, ∃ l : List (Nat × ByteArray), at' ≤ s.size ∧ i = .int .i64 at' ∧ Hid (Lk.scanN s k = (l, at') ∧ l.length = k) ∧ SRow wr w.heap.size o (l.map (·.2)) ∧ Below w.heap.size w wr) (fun _ i _ => s.size - (intOf i).toNat)
  case atStart => exact ⟨0, 0, [], Nat.zero_le _, rfl, Lib.hid ⟨rfl, rfl⟩, World.ownsRow_nil _ _ _ _, Below.refl _ _⟩
  case round =>
    obtain ⟨k, at', l, hat, rfl, HI, hrow, hb⟩ := hrel
    have HON := Lib.hid (refOne_any (Cl.behind s at') (by rw [Cl.behind_size]; omega) wr)
    have hob := Lk.one_bd (Cl.behind s at')
    rw [Cl.behind_size] at hob
    obtain ⟨p, kk, code, ho⟩ : ∃ p kk code, Lk.one (Cl.behind s at') = (p, kk, code) := ⟨_, _, _, rfl⟩
    rw [ho] at HON hob
    dsimp only at HON hob
    have HO := Lib.hid ho
    have HR := Lib.hid hrow
    have HB := Lib.hid hb
    have hkk : at' + kk ≤ s.size := by omega
    have HOB := Lib.hid hob
    obtain ⟨ao, co, rfl⟩ := hrow.slice
    have hlb : l.length ≤ 1000000 := by
      have := (Lk.scanN_bd s k).2.1
      rw [HI.out.1] at this
      dsimp only at this
      omega
    unfold Cl.behind at HON
    clear hrow hb ho hob
    by_cases h17 : code = 17
    · subst h17
      have HD := Lib.hid (Lk.done HI.out.1 HI.out.2 (by rw [HO.out]; simp))
      have HSC : Hid (Lk.scan s = (l.map (·.2), at', 0)) := Lib.hid (by unfold Lk.scan; rw [HD.out.2.2, HO.out, if_pos rfl, HD.out.1, HD.out.2.1])
      generalize (l.map (·.2)).length = m1 at HR
      go_wp2_with fail
      refine HON.out.mono ?_
      rintro e w2 ⟨rfl, hb2⟩
      go_wp2
      go_ret3
      rw [HSC.out]
      exact ⟨_, rfl, HR.out.grown ⟨hb2.os, hb2.tape, hb2.output, hb2.size, fun k hk _ => hb2.block k hk⟩ (row := none) (fun _ _ => by simp), HB.out.trans (hb2.mono HB.out.size)⟩
    · have h17' : ((code : Int) == 17) = false := by simp; omega
      by_cases h0 : code = 0
      · subst h0
        have h5 := (HOB.out.2.2.1 rfl).1
        have HN : Hid (Lk.scanN s (k + 1) = (l ++ [(at' + kk, p)], at' + kk) ∧ (l ++ [(at' + kk, p)]).length = k + 1) := Lib.hid ⟨Lk.scanN_step HI.out.1 HO.out, by rw [List.length_append, HI.out.2]; rfl⟩
        have hl1 : (l.map (·.2)).length ≤ 1000000 := by rw [List.length_map]; exact hlb
        generalize hm1 : (l.map (·.2)).length = m1 at HR
        clear hm1
        go_wp2_with fail
        refine HON.out.mono ?_
        rintro e w2 ⟨rfl, hb2⟩
        have hr2 := HR.out.grown ⟨hb2.os, hb2.tape, hb2.output, hb2.size, fun k hk _ => hb2.block k hk⟩ (row := none) (fun _ _ => by simp)
        have hbw := HB.out.trans (hb2.mono HB.out.size)
        obtain ⟨v', w3, hap, hr3, hg3⟩ := str_app w2 w.heap.size _ _ p hr2 (by omega) hbw.size
        have HR3 : Hid (SRow w3 w.heap.size v' ((l ++ [(at' + kk, p)]).map (·.2))) := Lib.hid (by rw [List.map_append]; exact hr3)
        have HB3 : Hid (Below w.heap.size w w3) := Lib.hid (hbw.grown hg3 hbw.size (fun g e => (World.ownsRow.lt hr2 g e).1))
        obtain ⟨a3, c3, rfl⟩ := hr3.slice
        generalize (l.map (·.2) ++ [p]).length = m3 at hap HR3
        clear hr2 hbw hr3 hg3 hb2 HON
        go_wp2
        go_roundw
        case rel => exact ⟨k + 1, at' + kk, _, hkk, by simp, HN, HR3.out, HB3.out⟩
        case measure => simp [intOf]; omega
      · have h0' : ((code : Int) != 0) = true := by simp; omega
        have HD := Lib.hid (Lk.done HI.out.1 HI.out.2 (by rw [HO.out]; exact h0))
        have HSC : Hid (Lk.scan s = ([], 0, code)) := Lib.hid (by unfold Lk.scan; rw [HD.out.2.2, HO.out, if_neg h17])
        generalize (l.map (·.2)).length = m1 at HR
        go_wp2_with fail
        refine HON.out.mono ?_
        rintro e w2 ⟨rfl, hb2⟩
        go_wp2
        go_ret3
        rw [HSC.out]
        exact ⟨_, rfl, World.ownsRow_nil _ _ _ _, HB.out.trans (hb2.mono HB.out.size)⟩
end Go.Proofs.YtdiokcmhpndoeaaDoor
