
/- Racks of int,bool: Rank, and entries gone through from a place on. -/
import Derived.Test.YtdaofajdabadgaaRkBRack
namespace Go.Proofs.Ytdaofajdabadgaa
open Go.RowKit
namespace Rk
set_option maxRecDepth 100000 in
set_option maxHeartbeats 4000000 in
theorem rank_B (R : Nat) (T : Tr Int Bool) (k : Int) (w : World) (hc : T.cnt ≤ 80000) (h : RakB w R T) :
    Calls Try.prog 63 #[.pointer (some ⟨R, 0, none⟩), .int .i64 k] w fun e w' => e = .returned (.int .i64 (T.rank cI k : Nat)) ∧ Below w.heap.size w w' := by
  obtain ⟨p, hb, hi⟩ := h
  have h1 : w.cell? ⟨R, 1, none⟩ = some (.pointer p) := (hb.cl 1 _ rfl).1
  have HR0 : Hid (∀ w', Below w.heap.size w w' → w'.cell? ⟨R, 0, none⟩ = some (.func (.func 30) #[] #[])) := fun w' hb' => (hb'.cell hb.lt).trans (hb.cl 0 _ rfl).1
  have HI := Lib.hid hi
  have HCT := Lib.hid hc
  clear hb hi hc
  go_enter Try.func63, Try.ntmps63
  go_wp2
  go_loopg [5, 6] T.ht (fun m rv pv wr => ∃ (T' : Tr Int Bool) (q : Option Addr) (n : Nat), rv = .int .i64 (n : Int) ∧ pv = .pointer q ∧ Hid (InB wr T' q ∧ T'.ht ≤ m ∧ n + T'.rank cI k = T.rank cI k ∧ n + T'.cnt ≤ T.cnt ∧ Below w.heap.size w wr))
  case atStart => exact ⟨T, p, 0, rfl, rfl, HI.out, Nat.le_refl _, Nat.zero_add _, by omega, Below.refl _ _⟩
  case round =>
    obtain ⟨T', q, n, rfl, rfl, HREL⟩ := hrel
    cases T' with
    | nil =>
      obtain ⟨hin, -, hrk, -, hbw⟩ := HREL.out
      obtain rfl : q = none := hin
      have hrk' : n = T.rank cI k := hrk
      rw [hrk'] 
      clear HREL hrk hrk'
      go_wp2
      go_ret
      exact ⟨rfl, hbw⟩
    | node nk nv l r =>
      obtain ⟨hin, hht, hrk, hcn, hbw⟩ := HREL.out
      obtain ⟨b, pl, pr, rfl, hb, hl, hr⟩ := hin.open
      have h0 : wr.cell? ⟨b, 0, none⟩ = some (.int .i64 nk) := (hb.cl 0 _ rfl).1
      have h2 : wr.cell? ⟨b, 2, none⟩ = some (.pointer pl) := (hb.cl 2 _ rfl).1
      have h3 : wr.cell? ⟨b, 3, none⟩ = some (.pointer pr) := (hb.cl 3 _ rfl).1
      have hR0 := HR0.out wr hbw
      have HCM := Lib.hid (cmpI_any nk k wr.drew)
      have HEN := Lib.hid (entries_B l pl wr.drew (hl.below (below_dr0 wr)))
      have hhh : (Tr.node nk nv l r).ht = 1 + max l.ht r.ht := rfl
      have hcc : (Tr.node nk nv l r).cnt = l.cnt + 1 + r.cnt := rfl
      have hct := HCT.out
      have hrn : (Tr.node nk nv l r).rank cI k = if cI nk k < 0 then l.cnt + 1 + r.rank cI k else l.rank cI k := rfl
      rw [hrn] at hrk
      by_cases hc1 : cI nk k < 0
      · rw [if_pos hc1] at hrk
        have HN : Hid (InB wr.drew r pr ∧ r.ht ≤ r.ht ∧ (n + (l.cnt + 1)) + r.rank cI k = T.rank cI k ∧ (n + (l.cnt + 1)) + r.cnt ≤ T.cnt ∧ Below w.heap.size w wr.drew) := ⟨hr.below (below_dr0 wr), Nat.le_refl _, by omega, by omega, below_dr hbw⟩
        have HM : Hid (r.ht < gk) := by unfold Hid; omega
        generalize cI nk k = c at HCM hc1
        obtain ⟨cl, hcl⟩ : ∃ x, l.cnt = x := ⟨_, rfl⟩
        rw [hcl] at HEN HN
        have hb1 : n ≤ 80000 := by omega
        have hb2 : cl ≤ 80000 := by omega
        clear hin hht hrk hcn hbw hb hl hr hhh hcc hct HREL hcl hrn
        go_wp2_with fail
        go_region_held3 (fun w' => w'.cell? ⟨R, 0, none⟩ = some (.func (.func 30) #[] #[]) ∧ w'.cell? ⟨b, 0, none⟩ = some (.int .i64 nk)) (first | go_keep)
          (first
            | (go_at_call 30; refine HCM.out.mono ?_; rintro e wE ⟨rfl, rfl⟩))
        go_wp2_with fail
        refine HEN.out.mono ?_
        rintro e w1 ⟨rfl, rfl⟩
        go_wp2
        go_roundg r.ht
        case measure => exact HM.out
        case rel => exact ⟨r, pr, n + (cl + 1), by congr 1 <;> omega, rfl, HN.out⟩
      · rw [if_neg hc1] at hrk
        have HN : Hid (InB wr.drew l pl ∧ l.ht ≤ l.ht ∧ n + l.rank cI k = T.rank cI k ∧ n + l.cnt ≤ T.cnt ∧ Below w.heap.size w wr.drew) := ⟨hl.below (below_dr0 wr), Nat.le_refl _, by omega, by omega, below_dr hbw⟩
        have HM : Hid (l.ht < gk) := by unfold Hid; omega
        generalize cI nk k = c at HCM hc1
        clear hin hht hrk hcn hbw hb hl hr hhh hcc hct HREL HEN hrn
        go_wp2_with fail
        go_region_held3 (fun w' => w'.cell? ⟨R, 0, none⟩ = some (.func (.func 30) #[] #[]) ∧ w'.cell? ⟨b, 0, none⟩ = some (.int .i64 nk)) (first | go_keep)
          (first
            | (go_at_call 30; refine HCM.out.mono ?_; rintro e wE ⟨rfl, rfl⟩))
        go_wp2
        go_roundg l.ht
        case measure => exact HM.out
        case rel => exact ⟨l, pl, n, rfl, rfl, HN.out⟩
end Rk
end Go.Proofs.Ytdaofajdabadgaa
