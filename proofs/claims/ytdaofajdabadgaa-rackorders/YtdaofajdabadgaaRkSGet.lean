
/- Racks of string,int: Get, At. -/
import Derived.Test.YtdaofajdabadgaaRkSRack
import Derived.Test.YtdaofajdabadgaaRkMath2
namespace Go.Proofs.Ytdaofajdabadgaa
open Go.RowKit
namespace Rk
set_option maxRecDepth 100000 in
set_option maxHeartbeats 4000000 in
theorem get_S (R : Nat) (T : Tr ByteArray Int) (k : ByteArray) (w : World) (h : RakS w R T) :
    Calls Try.prog 16 #[.pointer (some ⟨R, 0, none⟩), .string k] w fun e w' => e = .returned (.tuple #[.int .i64 ((T.get cS k).getD 0), .bool (T.get cS k).isSome]) ∧ Below w.heap.size w w' := by
  obtain ⟨p, hb, hi⟩ := h
  have h1 : w.cell? ⟨R, 1, none⟩ = some (.pointer p) := (hb.cl 1 _ rfl).1
  have HR0 : Hid (∀ w', Below w.heap.size w w' → w'.cell? ⟨R, 0, none⟩ = some (.func (.func 37) #[] #[])) := fun w' hb' => (hb'.cell hb.lt).trans (hb.cl 0 _ rfl).1
  have HI := Lib.hid hi
  obtain ⟨G, hG⟩ : ∃ g, T.get cS k = g := ⟨_, rfl⟩
  rw [hG]
  have HG := Lib.hid hG
  clear hb hi hG
  go_enter Try.func16, Try.ntmps16
  go_wp2
  go_loopg [6] T.ht (fun m pv wr => ∃ (T' : Tr ByteArray Int) (q : Option Addr), pv = .pointer q ∧ Hid (InS wr T' q ∧ T'.ht ≤ m ∧ T'.get cS k = G ∧ Below w.heap.size w wr))
  case atStart => exact ⟨T, p, rfl, HI.out, Nat.le_refl _, HG.out, Below.refl _ _⟩
  case round =>
    obtain ⟨T', q, rfl, HREL⟩ := hrel
    cases T' with
    | nil =>
      obtain ⟨hin, -, hgt, hbw⟩ := HREL.out
      obtain rfl : q = none := hin
      have hgt' : G = none := hgt.symm
      have HGT := Lib.hid hgt'
      have HBW := Lib.hid hbw
      clear HREL hgt hgt' hbw
      go_wp2
      go_ret2
      exact ⟨by rw [HGT.out]; rfl, HBW.out⟩
    | node nk nv l r =>
      obtain ⟨hin, hht, hgt, hbw⟩ := HREL.out
      obtain ⟨b, pl, pr, rfl, hb, hl, hr⟩ := hin.open
      have h0 : wr.cell? ⟨b, 0, none⟩ = some (.string nk) := (hb.cl 0 _ rfl).1
      have h11 : wr.cell? ⟨b, 1, none⟩ = some (.int .i64 nv) := (hb.cl 1 _ rfl).1
      have h2 : wr.cell? ⟨b, 2, none⟩ = some (.pointer pl) := (hb.cl 2 _ rfl).1
      have h3 : wr.cell? ⟨b, 3, none⟩ = some (.pointer pr) := (hb.cl 3 _ rfl).1
      have hR0 := HR0.out wr hbw
      have HCM := Lib.hid (cmpS_any k nk wr.drew)
      have hhh : (Tr.node nk nv l r).ht = 1 + max l.ht r.ht := rfl
      have hgn : (Tr.node nk nv l r).get cS k = if cS k nk < 0 then l.get cS k else if 0 < cS k nk then r.get cS k else some nv := rfl
      rw [hgn] at hgt
      by_cases hc1 : cS k nk < 0
      · rw [if_pos hc1] at hgt
        have HN : Hid (InS wr.drew l pl ∧ l.ht ≤ l.ht ∧ l.get cS k = G ∧ Below w.heap.size w wr.drew) := ⟨hl.below (below_dr0 wr), Nat.le_refl _, hgt, below_dr hbw⟩
        have HM : Hid (l.ht < gk) := by unfold Hid; omega
        generalize cS k nk = c at HCM hc1
        clear hin hht hgt hbw hb hl hr hhh hgn HREL
        go_wp2_with fail
        go_region_held3 (fun w' => w'.cell? ⟨R, 0, none⟩ = some (.func (.func 37) #[] #[]) ∧ w'.cell? ⟨b, 0, none⟩ = some (.string nk)) (first | go_keep)
          (first
            | (go_at_call 37; refine HCM.out.mono ?_; rintro e wE ⟨rfl, rfl⟩))
        go_wp2
        go_roundg l.ht
        case measure => exact HM.out
        case rel => exact ⟨l, pl, rfl, HN.out⟩
      · rw [if_neg hc1] at hgt
        by_cases hc2 : 0 < cS k nk
        · rw [if_pos hc2] at hgt
          have HN : Hid (InS wr.drew r pr ∧ r.ht ≤ r.ht ∧ r.get cS k = G ∧ Below w.heap.size w wr.drew) := ⟨hr.below (below_dr0 wr), Nat.le_refl _, hgt, below_dr hbw⟩
          have HM : Hid (r.ht < gk) := by unfold Hid; omega
          generalize cS k nk = c at HCM hc1 hc2
          clear hin hht hgt hbw hb hl hr hhh hgn HREL
          go_wp2_with fail
          go_region_held3 (fun w' => w'.cell? ⟨R, 0, none⟩ = some (.func (.func 37) #[] #[]) ∧ w'.cell? ⟨b, 0, none⟩ = some (.string nk)) (first | go_keep)
            (first
              | (go_at_call 37; refine HCM.out.mono ?_; rintro e wE ⟨rfl, rfl⟩))
          go_wp2
          go_roundg r.ht
          case measure => exact HM.out
          case rel => exact ⟨r, pr, rfl, HN.out⟩
        · rw [if_neg hc2] at hgt
          have HGT : Hid (G = some nv) := hgt.symm
          have HBW : Hid (Below w.heap.size w wr.drew) := below_dr hbw
          have hcz : cS k nk = 0 := by omega
          rw [hcz] at HCM
          clear hin hht hgt hbw hb hl hr hhh hgn HREL hc1 hc2 hcz
          go_wp2_with fail
          go_region_held3 (fun w' => w'.cell? ⟨R, 0, none⟩ = some (.func (.func 37) #[] #[]) ∧ w'.cell? ⟨b, 0, none⟩ = some (.string nk)) (first | go_keep)
            (first
              | (go_at_call 37; refine HCM.out.mono ?_; rintro e wE ⟨rfl, rfl⟩))
          go_wp2
          go_ret2
          exact ⟨by rw [HGT.out]; rfl, HBW.out⟩
set_option maxRecDepth 100000 in
set_option maxHeartbeats 4000000 in
theorem at_S (R : Nat) (T : Tr ByteArray Int) (i : Int) (w : World) (hi1 : -9223372036854775808 ≤ i) (hi2 : i ≤ 9223372036854775807) (hc : T.cnt ≤ 80000) (h : RakS w R T) :
    Calls Try.prog 27 #[.pointer (some ⟨R, 0, none⟩), .int .i64 i] w fun e w' => e = .returned (.tuple #[.string ((T.at i).map (·.1) |>.getD ⟨#[]⟩), .int .i64 ((T.at i).map (·.2) |>.getD 0), .bool (T.at i).isSome]) ∧ Below w.heap.size w w' := by
  obtain ⟨p, hb, hi⟩ := h
  have h1 : w.cell? ⟨R, 1, none⟩ = some (.pointer p) := (hb.cl 1 _ rfl).1
  have HI := Lib.hid hi
  obtain ⟨G, hG⟩ : ∃ g, T.at i = g := ⟨_, rfl⟩
  rw [hG]
  have HG := Lib.hid hG
  have HC := Lib.hid hc
  clear hb hi hG hc
  go_enter Try.func27, Try.ntmps27
  go_wp2
  go_loopg [1, 7] T.ht (fun m iv pv wr => ∃ (T' : Tr ByteArray Int) (q : Option Addr) (i' : Int), iv = .int .i64 i' ∧ -9223372036854775808 ≤ i' ∧ i' ≤ 9223372036854775807 ∧ pv = .pointer q ∧ Hid (InS wr T' q ∧ T'.ht ≤ m ∧ T'.at i' = G ∧ T'.cnt ≤ 80000 ∧ Below w.heap.size w wr))
  case atStart => exact ⟨T, p, i, rfl, hi1, hi2, rfl, HI.out, Nat.le_refl _, HG.out, HC.out, Below.refl _ _⟩
  case round =>
    obtain ⟨T', q, i', rfl, hb1, hb2, rfl, HREL⟩ := hrel
    cases T' with
    | nil =>
      obtain ⟨hin, -, hgt, -, hbw⟩ := HREL.out
      obtain rfl : q = none := hin
      have HGT : Hid (G = none) := hgt.symm
      have HBW := Lib.hid hbw
      clear HREL hgt hbw
      go_wp2
      go_ret3
      exact ⟨by rw [HGT.out]; rfl, HBW.out⟩
    | node nk nv l r =>
      obtain ⟨hin, hht, hgt, hcn, hbw⟩ := HREL.out
      obtain ⟨b, pl, pr, rfl, hb, hl, hr⟩ := hin.open
      have h0 : wr.cell? ⟨b, 0, none⟩ = some (.string nk) := (hb.cl 0 _ rfl).1
      have h11 : wr.cell? ⟨b, 1, none⟩ = some (.int .i64 nv) := (hb.cl 1 _ rfl).1
      have h2 : wr.cell? ⟨b, 2, none⟩ = some (.pointer pl) := (hb.cl 2 _ rfl).1
      have h3 : wr.cell? ⟨b, 3, none⟩ = some (.pointer pr) := (hb.cl 3 _ rfl).1
      have HEN := Lib.hid (entries_S l pl wr hl)
      have hhh : (Tr.node nk nv l r).ht = 1 + max l.ht r.ht := rfl
      have hcc : (Tr.node nk nv l r).cnt = l.cnt + 1 + r.cnt := rfl
      have hgn : (Tr.node nk nv l r).at i' = if i' < l.cnt then l.at i' else if (l.cnt : Int) < i' then r.at (i' - (l.cnt + 1)) else some (nk, nv) := rfl
      rw [hgn] at hgt
      by_cases hc1 : i' < (l.cnt : Int)
      · rw [if_pos hc1] at hgt
        have HN : Hid (InS wr l pl ∧ l.ht ≤ l.ht ∧ l.at i' = G ∧ l.cnt ≤ 80000 ∧ Below w.heap.size w wr) := ⟨hl, Nat.le_refl _, hgt, by omega, hbw⟩
        have HM : Hid (l.ht < gk) := by unfold Hid; omega
        have hcb : l.cnt ≤ 80000 := by omega
        generalize l.cnt = cl at HEN hc1 hcb
        clear hin hht hgt hbw hb hl hr hhh hgn HREL hcn hcc
        go_wp2_with fail
        refine HEN.out.mono ?_
        rintro e w1 ⟨rfl, rfl⟩
        go_wp2
        go_roundg l.ht
        case measure => exact HM.out
        case rel => exact ⟨l, pl, i', rfl, hb1, hb2, rfl, HN.out⟩
      · rw [if_neg hc1] at hgt
        by_cases hc2 : (l.cnt : Int) < i'
        · rw [if_pos hc2] at hgt
          have HN : Hid (InS wr r pr ∧ r.ht ≤ r.ht ∧ r.at (i' - (l.cnt + 1)) = G ∧ r.cnt ≤ 80000 ∧ Below w.heap.size w wr) := ⟨hr, Nat.le_refl _, hgt, by omega, hbw⟩
          have HM : Hid (r.ht < gk) := by unfold Hid; omega
          have hcb : l.cnt ≤ 80000 := by omega
          generalize l.cnt = cl at HEN hc1 hc2 hcb HN
          clear hin hht hgt hbw hb hl hr hhh hgn HREL hcn hcc
          go_wp2_with fail
          refine HEN.out.mono ?_
          rintro e w1 ⟨rfl, rfl⟩
          go_wp2
          go_roundg r.ht
          case measure => exact HM.out
          case rel => exact ⟨r, pr, i' - (cl + 1), rfl, by omega, by omega, rfl, HN.out⟩
        · rw [if_neg hc2] at hgt
          have HGT : Hid (G = some (nk, nv)) := hgt.symm
          have HBW : Hid (Below w.heap.size w wr.drew) := below_dr hbw
          obtain rfl : i' = (l.cnt : Int) := by omega
          generalize l.cnt = cl at HEN hb1 hb2
          clear hin hht hgt hbw hb hl hr hhh hgn HREL hc1 hc2 hcn hcc
          go_wp2_with fail
          refine HEN.out.mono ?_
          rintro e w1 ⟨rfl, rfl⟩
          go_wp2_with fail
          go_region_held3 (fun w' => w'.cell? ⟨b, 0, none⟩ = some (.string nk) ∧ w'.cell? ⟨b, 1, none⟩ = some (.int .i64 nv)) (first | go_keep) (first | fail)
          go_wp2
          go_ret3
          exact ⟨by rw [HGT.out]; rfl, HBW.out⟩
end Rk
end Go.Proofs.Ytdaofajdabadgaa
