
/- The law's fixed fact: the document's example is parsed. -/
import Derived.Test.YtefnpfhhomkiaaaGreatDoorDpParse
namespace Go.Proofs.YtefnpfhhomkiaaaGreatDoor
open Go.RowKit Go.Shelf
namespace Dp
def exL : List UInt8 := [114, 101, 113, 115, 58, 50, 124, 99, 124, 64, 49, 48, 124, 35, 99, 111, 100, 101, 61, 50, 48, 48, 124, 84, 49, 55, 124, 83, 119, 101, 98, 46, 51]
theorem ex_err : parseE exL = 0 := by decide +kernel
theorem ex_kind : (parseV exL).kind = 1 := by decide +kernel
theorem ex_val : (parseV exL).val = 2000000 := by decide +kernel
theorem ex_rate : (parseV exL).rate = 10 := by decide +kernel
theorem ex_time : (parseV exL).time = 17 := by decide +kernel
theorem ex_src : (parseV exL).src = [119, 101, 98] := by decide +kernel
theorem ex_seq : (parseV exL).seq = 3 := by decide +kernel
theorem ex_labs : (parseV exL).labs.length = 1 := by decide +kernel
set_option maxRecDepth 100000 in
set_option maxHeartbeats 4000000 in
theorem awake_any (w : World) (hE : Env w) :
    Calls Tryz.prog 6 #[] w fun e w' => e = .returned (.bool true) ∧ Below w.heap.size w w' := by
  have HP := Lib.hid (parse_any exL w hE (by decide))
  have HX : Hid (parseE exL = 0 ∧ (parseV exL).kind = 1 ∧ (parseV exL).val = 2000000 ∧ (parseV exL).rate = 10 ∧ (parseV exL).time = 17 ∧ (parseV exL).src = [119, 101, 98] ∧ (parseV exL).seq = 3 ∧ (parseV exL).labs.length = 1) := ⟨ex_err, ex_kind, ex_val, ex_rate, ex_time, ex_src, ex_seq, ex_labs⟩
  unfold Parsed at HP
  generalize parseE exL = pe at HP HX
  generalize parseV exL = pv at HP HX
  change Hid (Calls Tryz.prog 11 #[.string ⟨#[114, 101, 113, 115, 58, 50, 124, 99, 124, 64, 49, 48, 124, 35, 99, 111, 100, 101, 61, 50, 48, 48, 124, 84, 49, 55, 124, 83, 119, 101, 98, 46, 51]⟩] w _) at HP
  obtain ⟨mt, lb, kd, vl, mm, rt, tm, sc, sq⟩ := pv
  have hX := HX.out
  dsimp only at hX
  obtain ⟨rfl, rfl, rfl, rfl, rfl, rfl, rfl, h7⟩ := hX
  clear hE HX
  go_enter Tryz.func6, Tryz.ntmps6
  go_wp2_with fail
  refine HP.out.mono ?_
  rintro e W1 ⟨x, rfl, ⟨a, n, c, r, rfl, hr, hl⟩, hb⟩
  have hn : n = 1 := by
    have e1 := (Y2.Row.labsAt hr).1
    have hl' : Y2.Tg.labs r = lb := hl
    rw [← hl'] at h7
    simp only [Y2.Tg.labs, List.length_map] at h7
    omega
  subst hn
  have HB := Lib.hid hb
  dsimp only [evV] at *
  obtain ⟨W2, hW2⟩ : ∃ W2, W1.alloc (.cells #[strV mt, .slice a 1 c, .int .i64 1, .int .i64 2000000, strV mm, .int .i64 10, .int .i64 17, strV [119, 101, 98], .int .i64 3] tE) = W2 := ⟨_, rfl⟩
  have HB2 : Hid (Below w.heap.size w W2) := by rw [← hW2]; exact HB.out.alloc HB.out.size _
  have hk := Blk.new W1 tE #[strV mt, .slice a 1 c, .int .i64 1, .int .i64 2000000, strV mm, .int .i64 10, .int .i64 17, strV [119, 101, 98], .int .i64 3]
  rw [hW2] at hk
  obtain ⟨p0, p1, p2, p3, p4, p5, p6, p7, p8⟩ := cells9 hk
  clear h7 hl hr hb hk
  go_wp2
  go_ret
  exact ⟨rfl, HB2.out⟩
end Dp
end Go.Proofs.YtefnpfhhomkiaaaGreatDoor
