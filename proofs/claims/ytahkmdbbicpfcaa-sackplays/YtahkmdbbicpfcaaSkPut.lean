
/- Sacks: add, Add, Drop, Runs. -/
import Derived.Test.YtahkmdbbicpfcaaSkBase
namespace Go.Proofs.Ytahkmdbbicpfcaa
open Go.RowKit
namespace Sk
open Rk
/-- behind a change of the rack alone -/
theorem Sak.racked {w wA wB : World} {s R : Nat} {room : Int} {l : List Int} (h : Sak w s R room l) (hA : Below w.heap.size w wA) (hg : wA.grownBy wB (some R)) {T' : Tr Int Int} {m : List Int} (hr : RakI wB R T') (hp : Rep T' m) (hm : (m.length : Int) ≤ room) (hf : Fit m) :
    wB.cell? ⟨s, 2, none⟩ = some (.pointer (some ⟨R, 0, none⟩)) ∧ wB.cell? ⟨s, 1, none⟩ = some (.int .i64 (l.length : Int)) ∧ wB.frozen? ⟨s, 1, none⟩ = false ∧ Sak (wB.setCell ⟨s, 1, none⟩ (.int .i64 (m.length : Int))) s R room m ∧ Only [R, s] w (wB.setCell ⟨s, 1, none⟩ (.int .i64 (m.length : Int))) := by
  have hbB := (h.blk.below hA h.lt).grown hg (fun e => h.ne (by injection e))
  refine ⟨(hbB.cl 2 _ rfl).1, (hbB.cl 1 _ rfl).1, (hbB.cl 1 _ rfl).2, ⟨hbB.set 1 _, ⟨T', ?_, hp⟩, hm, h.room, hf⟩, ((Only.below hA _).trans (Only.grown hg (by simp))).trans (Only.set _ _ _ _ (by simp))⟩
  exact hr.grown (grown_set wB s 1 _) hbB (by decide) (Ne.symm h.ne)
set_option maxRecDepth 100000 in
set_option maxHeartbeats 2000000 in
theorem add_any {w : World} {s R : Nat} {room : Int} {l : List Int} (h : Sak w s R room l) (x : Int) (m : Nat) (hm : 1 ≤ m) (hx : IntKind.i64.wrap x = x) (hroom : (l.length : Int) + m ≤ room) :
    Calls Try.prog 29 #[.pointer (some ⟨s, 0, none⟩), .int .i64 x, .int .i64 (m : Int)] w fun e w' => (∃ v, e = .returned v) ∧ Sak w' s R room (put l (List.replicate m x)) ∧ Only [R, s] w w' := by
  obtain ⟨T, hr, hp⟩ := h.rak
  have h2 : w.cell? ⟨s, 2, none⟩ = some (.pointer (some ⟨R, 0, none⟩)) := (h.blk.cl 2 _ rfl).1
  have hc : T.cnt ≤ 80000 := by have := hp.cnt; have := h.len; have := h.room; omega
  have hcl : l.count x ≤ l.length := List.count_le_length
  have hrm := h.room
  have hlen : ((put l (List.replicate m x)).length : Int) = (l.length : Int) + m := by rw [put_len, List.length_replicate]; omega
  have HM := Lib.hid (smany_any (h.below (below_dr0 w)) x)
  have HP : Hid (∀ w', Below w.heap.size w w' → Calls Try.prog 31 #[.pointer (some ⟨R, 0, none⟩), .int .i64 x, .int .i64 ((l.count x : Int) + m)] w' fun e w'' => (∃ b, e = .returned (.bool b)) ∧ RakI w'' R (T.ins cI x ((l.count x : Int) + m)) ∧ w'.grownBy w'' (some R)) :=
    fun w' hb' => (put_I R T x _ w' hc (hr.below hb')).mono fun e w'' ⟨a, b, c⟩ => ⟨⟨_, a⟩, b, c⟩
  have HF : Hid (∀ wA wB, Below w.heap.size w wA → RakI wB R (T.ins cI x ((l.count x : Int) + m)) → wA.grownBy wB (some R) → wB.cell? ⟨s, 2, none⟩ = some (.pointer (some ⟨R, 0, none⟩)) ∧ wB.cell? ⟨s, 1, none⟩ = some (.int .i64 (l.length : Int)) ∧ wB.frozen? ⟨s, 1, none⟩ = false ∧
      Hid (Sak (wB.setCell ⟨s, 1, none⟩ (.int .i64 ((l.length : Int) + m))) s R room (put l (List.replicate m x)) ∧ Only [R, s] w (wB.setCell ⟨s, 1, none⟩ (.int .i64 ((l.length : Int) + m))))) := fun wA wB hA hB hg => by
    have := h.racked hA hg hB (hp.add x m hm) (by rw [hlen]; exact hroom) (fit_put h.fit (fun y hy => by rw [(List.mem_replicate.1 hy).2]; exact hx))
    rw [hlen] at this
    exact ⟨this.1, this.2.1, this.2.2.1, this.2.2.2⟩
  have HC : Hid (∀ w', Below w.heap.size w w' → w'.cell? ⟨s, 2, none⟩ = some (.pointer (some ⟨R, 0, none⟩))) := fun w' hb' => (hb'.cell h.lt).trans h2
  have e1 : IntKind.i64.wrap ((l.count x : Int) + (m : Int)) = (l.count x : Int) + m := wr64 _ (by omega) (by omega)
  have e2 : IntKind.i64.wrap ((l.length : Int) + (m : Int)) = (l.length : Int) + m := wr64 _ (by have := h.len; omega) (by omega)
  generalize (l.count x : Int) = c at HM HP HF e1
  generalize (l.length : Int) = n at HF e2
  generalize (m : Int) = mi at HP HF e1 e2 ⊢
  clear h hr hp hc hcl hrm hlen hm hroom
  go_enter Try.func29, Try.ntmps29
  go_wp2_with fail
  go_region_held3 (fun w' => w'.cell? ⟨s, 2, none⟩ = some (.pointer (some ⟨R, 0, none⟩))) (first | go_keep | exact (HF.out _ _ B1 R2 G2).1 | exact HC.out _ B1)
    (first
      | (go_at_call 31; refine (HP.out _ B1).mono ?_; rintro e wB ⟨⟨b, rfl⟩, R2, G2⟩)
      | (go_at_call 17; refine HM.out.mono ?_; rintro e wA ⟨rfl, B1'⟩; have B1 := below_step (below_dr0 w) (Nat.le_refl _) B1'))
  all_goals
    obtain ⟨-, c1, f1, HZ⟩ := HF.out _ _ B1 R2 G2
    clear B1 B1' R2 G2
    go_wp2
    go_end0
    exact ⟨⟨_, rfl⟩, HZ.out⟩
set_option maxRecDepth 100000 in
set_option maxHeartbeats 2000000 in
theorem Add_yes {w : World} {s R : Nat} {room : Int} {l : List Int} (h : Sak w s R room l) (x : Int) (hx : IntKind.i64.wrap x = x) (hroom : (l.length : Int) < room) :
    Calls Try.prog 10 #[.pointer (some ⟨s, 0, none⟩), .int .i64 x] w fun e w' => e = .returned (.int .i64 0) ∧ Sak w' s R room (ins x l) ∧ Only [R, s] w w' := by
  have HR := Lib.hid (sroom_any h)
  have HA : Hid (∀ w', Below w.heap.size w w' → Calls Try.prog 29 #[.pointer (some ⟨s, 0, none⟩), .int .i64 x, .int .i64 1] w' fun e w'' => (∃ v, e = .returned v) ∧ Sak w'' s R room (ins x l) ∧ Only [R, s] w w'') := fun w' hb =>
    (add_any (h.below hb) x 1 (Nat.le_refl _) hx (by omega)).mono fun e w'' ⟨a, b, c⟩ => ⟨a, b, (Only.below hb _).trans c⟩
  have hne : (room - (l.length : Int) == 0) = false := by simp; omega
  generalize room - (l.length : Int) = d at HR hne
  clear h hroom
  go_enter Try.func10, Try.ntmps10
  go_wp2_with fail
  refine HR.out.mono ?_
  rintro e w1 ⟨rfl, hb1⟩
  have HA1 := Lib.hid (HA.out _ hb1)
  clear hb1
  go_wp2_with fail
  refine HA1.out.mono ?_
  rintro e w2 ⟨⟨v, rfl⟩, H⟩
  have HH := Lib.hid H
  clear H
  go_wp2
  go_ret
  exact ⟨rfl, HH.out⟩
set_option maxRecDepth 100000 in
set_option maxHeartbeats 2000000 in
theorem Add_no {w : World} {s R : Nat} {room : Int} {l : List Int} (h : Sak w s R room l) (x : Int) (hroom : (l.length : Int) = room) :
    Calls Try.prog 10 #[.pointer (some ⟨s, 0, none⟩), .int .i64 x] w fun e w' => e = .returned (.int .i64 3) ∧ Below w.heap.size w w' := by
  have HR := Lib.hid (sroom_any h)
  rw [show room - (l.length : Int) = 0 by omega] at HR
  clear h hroom
  go_enter Try.func10, Try.ntmps10
  go_wp2_with fail
  refine HR.out.mono ?_
  rintro e w1 ⟨rfl, hb1⟩
  have HB := Lib.hid hb1
  clear hb1
  go_wp2
  go_ret
  exact ⟨rfl, HB.out⟩
set_option maxRecDepth 100000 in
set_option maxHeartbeats 2000000 in
theorem Drop_no {w : World} {s R : Nat} {room : Int} {l : List Int} (h : Sak w s R room l) (x : Int) (hx : l.count x = 0) :
    Calls Try.prog 13 #[.pointer (some ⟨s, 0, none⟩), .int .i64 x] w fun e w' => e = .returned (.int .i64 5) ∧ Below w.heap.size w w' := by
  have HM := Lib.hid (smany_any h x)
  rw [hx] at HM
  clear h hx
  go_enter Try.func13, Try.ntmps13
  go_wp2_with fail
  refine HM.out.mono ?_
  rintro e w1 ⟨rfl, hb1⟩
  have HB := Lib.hid hb1
  clear hb1
  go_wp2
  go_ret
  exact ⟨rfl, HB.out⟩
set_option maxRecDepth 100000 in
set_option maxHeartbeats 2000000 in
theorem Drop_yes {w : World} {s R : Nat} {room : Int} {l : List Int} (h : Sak w s R room l) (x : Int) (hx : 1 ≤ l.count x) :
    Calls Try.prog 13 #[.pointer (some ⟨s, 0, none⟩), .int .i64 x] w fun e w' => e = .returned (.int .i64 0) ∧ Sak w' s R room (l.erase x) ∧ Only [R, s] w w' := by
  obtain ⟨T, hr, hp⟩ := h.rak
  have hc : T.cnt ≤ 80000 := by have := hp.cnt; have := h.len; have := h.room; omega
  have hcl : l.count x ≤ l.length := List.count_le_length
  have hrm := h.room
  have hln := h.len
  have hlen : ((l.erase x).length : Int) = (l.length : Int) - 1 := by rw [List.length_erase_of_mem (List.count_pos_iff.1 hx)]; omega
  have HM := Lib.hid (smany_any h x)
  have HC : Hid (∀ w', Below w.heap.size w w' → w'.cell? ⟨s, 2, none⟩ = some (.pointer (some ⟨R, 0, none⟩))) := fun w' hb' => (hb'.cell h.lt).trans (h.blk.cl 2 _ rfl).1
  have e2 : IntKind.i64.wrap ((l.length : Int) - 1) = (l.length : Int) - 1 := wr64 _ (by omega) (by omega)
  by_cases h1 : l.count x = 1
  · have HP : Hid (∀ w', Below w.heap.size w w' → Calls Try.prog 30 #[.pointer (some ⟨R, 0, none⟩), .int .i64 x] w' fun e w'' => (∃ b, e = .returned (.bool b)) ∧ RakI w'' R (T.del cI x) ∧ w'.grownBy w'' (some R)) :=
      fun w' hb' => (drop_I R T x w' hc (hr.below hb')).mono fun e w'' ⟨a, b, c⟩ => ⟨⟨_, a⟩, b, c⟩
    have HF : Hid (∀ wA wB, Below w.heap.size w wA → RakI wB R (T.del cI x) → wA.grownBy wB (some R) → wB.cell? ⟨s, 1, none⟩ = some (.int .i64 (l.length : Int)) ∧ wB.frozen? ⟨s, 1, none⟩ = false ∧
        Hid (Sak (wB.setCell ⟨s, 1, none⟩ (.int .i64 ((l.length : Int) - 1))) s R room (l.erase x) ∧ Only [R, s] w (wB.setCell ⟨s, 1, none⟩ (.int .i64 ((l.length : Int) - 1))))) := fun wA wB hA hB hg => by
      have := h.racked hA hg hB (hp.gone x h1) (by rw [hlen]; omega) (fit_erase h.fit x)
      rw [hlen] at this
      exact ⟨this.2.1, this.2.2.1, this.2.2.2⟩
    rw [h1] at HM
    generalize (l.length : Int) = n at HF e2
    clear h hr hp hc hcl hrm hlen hln hx h1
    go_enter Try.func13, Try.ntmps13
    go_wp2_with fail
    refine HM.out.mono ?_
    rintro e w1 ⟨rfl, hb1⟩
    have HP1 := Lib.hid (HP.out _ hb1)
    have hc1 := HC.out _ hb1
    have HF1 := Lib.hid (fun wB => HF.out w1 wB hb1)
    clear hb1
    go_wp2_with fail
    refine HP1.out.mono ?_
    rintro e w2 ⟨⟨b, rfl⟩, hr2, hg2⟩
    obtain ⟨c1, f1, HZ⟩ := HF1.out _ hr2 hg2
    clear hr2 hg2
    go_wp2
    go_ret
    exact ⟨rfl, HZ.out⟩
  · have HP : Hid (∀ w', Below w.heap.size w w' → Calls Try.prog 31 #[.pointer (some ⟨R, 0, none⟩), .int .i64 x, .int .i64 ((l.count x : Int) - 1)] w' fun e w'' => (∃ b, e = .returned (.bool b)) ∧ RakI w'' R (T.ins cI x ((l.count x : Int) - 1)) ∧ w'.grownBy w'' (some R)) :=
      fun w' hb' => (put_I R T x _ w' hc (hr.below hb')).mono fun e w'' ⟨a, b, c⟩ => ⟨⟨_, a⟩, b, c⟩
    have HF : Hid (∀ wA wB, Below w.heap.size w wA → RakI wB R (T.ins cI x ((l.count x : Int) - 1)) → wA.grownBy wB (some R) → wB.cell? ⟨s, 1, none⟩ = some (.int .i64 (l.length : Int)) ∧ wB.frozen? ⟨s, 1, none⟩ = false ∧
        Hid (Sak (wB.setCell ⟨s, 1, none⟩ (.int .i64 ((l.length : Int) - 1))) s R room (l.erase x) ∧ Only [R, s] w (wB.setCell ⟨s, 1, none⟩ (.int .i64 ((l.length : Int) - 1))))) := fun wA wB hA hB hg => by
      have := h.racked hA hg hB (hp.less x (by omega)) (by rw [hlen]; omega) (fit_erase h.fit x)
      rw [hlen] at this
      exact ⟨this.2.1, this.2.2.1, this.2.2.2⟩
    have e1 : IntKind.i64.wrap ((l.count x : Int) - 1) = (l.count x : Int) - 1 := wr64 _ (by omega) (by omega)
    have d0 : ((l.count x : Int) == 0) = false := by simp; omega
    have d1 : ((l.count x : Int) == 1) = false := by simp; omega
    generalize (l.count x : Int) = c at HM HP HF e1 d0 d1
    generalize (l.length : Int) = n at HF e2
    clear h hr hp hc hcl hrm hlen hln hx h1
    go_enter Try.func13, Try.ntmps13
    go_wp2_with fail
    refine HM.out.mono ?_
    rintro e w1 ⟨rfl, hb1⟩
    have HP1 := Lib.hid (HP.out _ hb1)
    have hc1 := HC.out _ hb1
    have HF1 := Lib.hid (fun wB => HF.out w1 wB hb1)
    clear hb1
    go_wp2_with fail
    refine HP1.out.mono ?_
    rintro e w2 ⟨⟨b, rfl⟩, hr2, hg2⟩
    obtain ⟨c1, f1, HZ⟩ := HF1.out _ hr2 hg2
    clear hr2 hg2
    go_wp2
    go_ret
    exact ⟨rfl, HZ.out⟩
set_option maxRecDepth 100000 in
theorem Runs_any {w : World} {s R : Nat} {room : Int} {l : List Int} (h : Sak w s R room l) : Calls Try.prog 26 #[.pointer (some ⟨s, 0, none⟩)] w fun e w' => ∃ f, e = .returned f ∧ BothI w' f (runs l) ∧ Below w.heap.size w w' := by
  have h2 : w.cell? ⟨s, 2, none⟩ = some (.pointer (some ⟨R, 0, none⟩)) := (h.blk.cl 2 _ rfl).1
  obtain ⟨T, hr, hp⟩ := h.rak
  have hc : T.cnt ≤ 80000 := by have := hp.cnt; have := h.len; have := h.room; omega
  have HG := Lib.hid (allB_I R T w hc hr)
  rw [hp.runs] at HG
  clear h hr hp hc
  go_enter Try.func26, Try.ntmps26
  go_wp2_with fail
  refine HG.out.mono ?_
  rintro e w1 ⟨f, rfl, H⟩
  have HH := Lib.hid H
  clear H
  go_wp2
  go_ret
  exact ⟨_, rfl, HH.out⟩
end Sk
end Go.Proofs.Ytahkmdbbicpfcaa
