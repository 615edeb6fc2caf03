
/- Racks of int,int: Get, At. -/
import Derived.Test.YtahkmdbbicpfcaaRkIRack
import Derived.Test.YtahkmdbbicpfcaaRkMath2
namespace Go.Proofs.Ytahkmdbbicpfcaa
open Go.RowKit
namespace Rk
set_option maxRecDepth 100000 in
set_option maxHeartbeats 4000000 in
theorem get_I (R : Nat) (T : Tr Int Int) (k : Int) (w : World) (h : RakI w R T) :
    Calls Try.prog 32 #[.pointer (some ⟨R, 0, none⟩), .int .i64 k] w fun e w' => e = .returned (.tuple #[.int .i64 ((T.get cI k).getD 0), .bool (T.get cI k).isSome]) ∧ Below w.heap.size w w' := by
  obtain ⟨p, hb, hi⟩ := h
  have h1 : w.cell? ⟨R, 1, none⟩ = some (.pointer p) := (hb.cl 1 _ rfl).1
  have HR0 : Hid (∀ w', Below w.heap.size w w' → w'.cell? ⟨R, 0, none⟩ = some (.func (.func 38) #[] #[])) := fun w' hb' => (hb'.cell hb.lt).trans (hb.cl 0 _ rfl).1
  have HI := Lib.hid hi
  obtain ⟨G, hG⟩ : ∃ g, T.get cI k = g := ⟨_, rfl⟩
  rw [hG]
  have HG := Lib.hid hG
  clear hb hi hG
  go_enter Try.func32, Try.ntmps32
  go_wp2
  go_loopg [6] T.ht (fun m pv wr => ∃ (T' : Tr Int Int) (q : Option Addr), pv = .pointer q ∧ Hid (InI wr T' q ∧ T'.ht ≤ m ∧ T'.get cI k = G ∧ Below w.heap.size w wr))
  case atStart => exact ⟨T, p, rfl, HI.out, Nat.le_refl _, HG.out, Below.refl _ _⟩
  case round =>
    obtain ⟨T', q, rfl, HREL⟩ := hrel
    cases T' with
    | nil =>
      obtain ⟨hin, -, hgt, hbw⟩ := HREL.out
      obtain rfl : q = none := hin
      have hgt' : G = none := hgt.symm
      have HGT := Lib.hid hgt'
      have HBW := Lib.hid hbw
      clear HREL hgt hgt' hbw
      go_wp2
      go_ret2
      exact ⟨by rw [HGT.out]; rfl, HBW.out⟩
    | node nk nv l r =>
      obtain ⟨hin, hht, hgt, hbw⟩ := HREL.out
      obtain ⟨b, pl, pr, rfl, hb, hl, hr⟩ := hin.open
      have h0 : wr.cell? ⟨b, 0, none⟩ = some (.int .i64 nk) := (hb.cl 0 _ rfl).1
      have h11 : wr.cell? ⟨b, 1, none⟩ = some (.int .i64 nv) := (hb.cl 1 _ rfl).1
      have h2 : wr.cell? ⟨b, 2, none⟩ = some (.pointer pl) := (hb.cl 2 _ rfl).1
      have h3 : wr.cell? ⟨b, 3, none⟩ = some (.pointer pr) := (hb.cl 3 _ rfl).1
      have hR0 := HR0.out wr hbw
      have HCM := Lib.hid (cmpI_any k nk wr.drew)
      have hhh : (Tr.node nk nv l r).ht = 1 + max l.ht r.ht := rfl
      have hgn : (Tr.node nk nv l r).get cI k = if cI k nk < 0 then l.get cI k else if 0 < cI k nk then r.get cI k else some nv := rfl
      rw [hgn] at hgt
      by_cases hc1 : cI k nk < 0
      · rw [if_pos hc1] at hgt
        have HN : Hid (InI wr.drew l pl ∧ l.ht ≤ l.ht ∧ l.get cI k = G ∧ Below w.heap.size w wr.drew) := ⟨hl.below (below_dr0 wr), Nat.le_refl _, hgt, below_dr hbw⟩
        have HM : Hid (l.ht < gk) := by unfold Hid; omega
        generalize cI k nk = c at HCM hc1
        clear hin hht hgt hbw hb hl hr hhh hgn HREL
        go_wp2_with fail
        go_region_held3 (fun w' => w'.cell? ⟨R, 0, none⟩ = some (.func (.func 38) #[] #[]) ∧ w'.cell? ⟨b, 0, none⟩ = some (.int .i64 nk)) (first | go_keep)
          (first
            | (go_at_call 38; refine HCM.out.mono ?_; rintro e wE ⟨rfl, rfl⟩))
        go_wp2
        go_roundg l.ht
        case measure => exact HM.out
        case rel => exact ⟨l, pl, rfl, HN.out⟩
      · rw [if_neg hc1] at hgt
        by_cases hc2 : 0 < cI k nk
        · rw [if_pos hc2] at hgt
          have HN : Hid (InI wr.drew r pr ∧ r.ht ≤ r.ht ∧ r.get cI k = G ∧ Below w.heap.size w wr.drew) := ⟨hr.below (below_dr0 wr), Nat.le_refl _, hgt, below_dr hbw⟩
          have HM : Hid (r.ht < gk) := by unfold Hid; omega
          generalize cI k nk = c at HCM hc1 hc2
          clear hin hht hgt hbw hb hl hr hhh hgn HREL
          go_wp2_with fail
          go_region_held3 (fun w' => w'.cell? ⟨R, 0, none⟩ = some (.func (.func 38) #[] #[]) ∧ w'.cell? ⟨b, 0, none⟩ = some (.int .i64 nk)) (first | go_keep)
            (first
              | (go_at_call 38; refine HCM.out.mono ?_; rintro e wE ⟨rfl, rfl⟩))
          go_wp2
          go_roundg r.ht
          case measure => exact HM.out
          case rel => exact ⟨r, pr, rfl, HN.out⟩
        · rw [if_neg hc2] at hgt
          have HGT : Hid (G = some nv) := hgt.symm
          have HBW : Hid (Below w.heap.size w wr.drew) := below_dr hbw
          have hcz : cI k nk = 0 := by omega
          rw [hcz] at HCM
          clear hin hht hgt hbw hb hl hr hhh hgn HREL hc1 hc2 hcz
          go_wp2_with fail
          go_region_held3 (fun w' => w'.cell? ⟨R, 0, none⟩ = some (.func (.func 38) #[] #[]) ∧ w'.cell? ⟨b, 0, none⟩ = some (.int .i64 nk)) (first | go_keep)
            (first
              | (go_at_call 38; refine HCM.out.mono ?_; rintro e wE ⟨rfl, rfl⟩))
          go_wp2
          go_ret2
          exact ⟨by rw [HGT.out]; rfl, HBW.out⟩
end Rk
end Go.Proofs.Ytahkmdbbicpfcaa
