
/- Trees of int,int: up, ranged over. -/
import Derived.Test.YtahkmdbbicpfcaaRkIRack
import Derived.Test.YtahkmdbbicpfcaaRkRun
import Derived.Test.YtahkmdbbicpfcaaRangeR
namespace Go.Proofs.Ytahkmdbbicpfcaa
open Go.RowKit
namespace Rk
section
variable (lp : Nat) (cont : List (Int × Int) → Bool) (J : List (Int × Int) → World → Prop) (Jx : World → Prop)
  (hJd : ∀ l A, J l A → J l A.drew)
  (hY : ∀ x rest W, J (x :: rest) W → YieldAt Fence.wide 0 Try.prog lp #[.int .i64 x.1, .int .i64 x.2] W fun e W' => e = .returned (.bool (cont rest)) ∧ Res J Jx (cont rest) rest W' ∧ Keeps 76 W W')
include hJd hY
set_option maxRecDepth 100000 in
set_option maxHeartbeats 4000000 in
theorem upY_I : ∀ (T : Tr Int Int) (p : Option Addr) (place : Int) (rest : List (Int × Int)) (w : World), T.cnt ≤ 80000 → -100000 ≤ place - T.cnt → place ≤ 100000 → InI w T p → J (T.inl.drop place.toNat ++ rest) w →
    Calls Try.prog 49 #[.pointer p, .int .i64 place, .func (.yield lp) #[] #[]] w fun e w' => e = .returned (.bool (run cont (T.inl.drop place.toNat) rest)) ∧ Res J Jx (run cont (T.inl.drop place.toNat) rest) rest w' ∧ Keeps 76 w w' := by
  have HJD := Lib.hid hJd
  have HY := Lib.hid hY
  clear hJd hY
  intro T
  induction T with
  | nil =>
    intro p place rest w _ _ _ h hJ
    obtain rfl : p = none := h
    have HFIN : Hid (Res J Jx (run cont ((Tr.nil : Tr Int Int).inl.drop place.toNat) rest) rest w ∧ Keeps 76 w w) := by
      rw [show (Tr.nil : Tr Int Int).inl.drop place.toNat = [] from List.drop_nil] at hJ ⊢
      exact ⟨⟨fun _ => hJ, fun h => by cases h⟩, Keeps.refl _ _⟩
    have e1 : run cont ((Tr.nil : Tr Int Int).inl.drop place.toNat) rest = true := by
      rw [show (Tr.nil : Tr Int Int).inl.drop place.toNat = [] from List.drop_nil]; rfl
    rw [e1] at HFIN ⊢
    clear hJ e1
    refine (callsIn_wide (n := 2)).1 ?_
    refine callsIn_of_wp Try.func49 rfl trivial ?_ rfl
    simp only [Try.ntmps49, List.size_toArray, List.length_cons, List.length_nil, Nat.reduceAdd, Nat.reduceSub, Array.replicate_succ, Array.replicate_zero, List.push_toArray, List.append_toArray, List.nil_append, List.cons_append]
    gi_wp2
    go_ret
    exact ⟨rfl, HFIN.out⟩
  | node k v l r ihl ihr =>
    intro p place rest w hcnt hp1 hp2 h hJ
    obtain ⟨b, pl, pr, rfl, hb, hl, hr⟩ := h.open
    have hcn : (Tr.node k v l r).cnt = l.cnt + 1 + r.cnt := rfl
    have hinl : (Tr.node k v l r).inl = l.inl ++ (k, v) :: r.inl := rfl
    have hll := l.cnt_inl
    have hrl := r.cnt_inl
    have h0 : w.cell? ⟨b, 0, none⟩ = some (.int .i64 k) := (hb.cl 0 _ rfl).1
    have h1 : w.cell? ⟨b, 1, none⟩ = some (.int .i64 v) := (hb.cl 1 _ rfl).1
    have h2 : w.cell? ⟨b, 2, none⟩ = some (.pointer pl) := (hb.cl 2 _ rfl).1
    have h3 : w.cell? ⟨b, 3, none⟩ = some (.pointer pr) := (hb.cl 3 _ rfl).1
    have h4 : w.cell? ⟨b, 4, none⟩ = some (.int .i64 ((l.cnt : Int) + 1 + r.cnt)) := by
      have := (hb.cl 4 _ rfl).1
      rw [this]; simp
    have HC : Hid (∀ w', Keeps 76 w w' → w'.cell? ⟨b, 2, none⟩ = some (.pointer pl) ∧ w'.cell? ⟨b, 0, none⟩ = some (.int .i64 k) ∧ w'.cell? ⟨b, 1, none⟩ = some (.int .i64 v) ∧ w'.cell? ⟨b, 3, none⟩ = some (.pointer pr)) := fun w' hk =>
      ⟨((hk _ _ hb).cl 2 _ rfl).1, ((hk _ _ hb).cl 0 _ rfl).1, ((hk _ _ hb).cl 1 _ rfl).1, ((hk _ _ hb).cl 3 _ rfl).1⟩
    have HKD : Hid (Keeps 76 w w.drew) := Keeps.below (below_dr0 w)
    by_cases hge : ((l.cnt : Int) + 1 + r.cnt) ≤ place
    · have e0 : (Tr.node k v l r).inl.drop place.toNat = [] := List.drop_eq_nil_of_le (by rw [hinl]; simp; omega)
      rw [e0] at hJ ⊢
      have e1 : run cont [] rest = true := rfl
      rw [e1]
      have HFIN : Hid (Res J Jx true rest w ∧ Keeps 76 w w) := ⟨⟨fun _ => hJ, fun h => by cases h⟩, Keeps.refl _ _⟩
      have hbd : (l.cnt : Int) ≤ 80000 ∧ (r.cnt : Int) ≤ 80000 := by omega
      generalize l.cnt = cl at h4 hge hbd
      generalize r.cnt = cr at h4 hge hbd
      clear hJ ihl ihr hb hl hr h hcn hinl hll hrl e0 e1 hcnt hp1
      refine (callsIn_wide (n := 2)).1 ?_
      refine callsIn_of_wp Try.func49 rfl trivial ?_ rfl
      simp only [Try.ntmps49, List.size_toArray, List.length_cons, List.length_nil, Nat.reduceAdd, Nat.reduceSub, Array.replicate_succ, Array.replicate_zero, List.push_toArray, List.append_toArray, List.nil_append, List.cons_append]
      gi_wp2
      go_ret
      exact ⟨rfl, HFIN.out⟩
    · have hlt : place < ((l.cnt : Int) + 1 + r.cnt) := by omega
      have HEN := Lib.hid (entries_I l pl w hl)
      have HUL : Hid (∀ rest', J (l.inl.drop place.toNat ++ rest') w.drew → Calls Try.prog 49 #[.pointer pl, .int .i64 place, .func (.yield lp) #[] #[]] w.drew fun e w' => e = .returned (.bool (run cont (l.inl.drop place.toNat) rest')) ∧ Res J Jx (run cont (l.inl.drop place.toNat) rest') rest' w' ∧ Keeps 76 w.drew w') :=
        fun rest' hj => ihl pl place rest' w.drew (by omega) (by omega) hp2 (hl.below (below_dr0 w)) hj
      have HUR : Hid (∀ w', Keeps 76 w w' → J (r.inl.drop (place - l.cnt - 1).toNat ++ rest) w' → Calls Try.prog 49 #[.pointer pr, .int .i64 (place - l.cnt - 1), .func (.yield lp) #[] #[]] w' fun e w'' => e = .returned (.bool (run cont (r.inl.drop (place - l.cnt - 1).toNat) rest)) ∧ Res J Jx (run cont (r.inl.drop (place - l.cnt - 1).toNat) rest) rest w'' ∧ Keeps 76 w' w'') :=
        fun w' hk hj => ihr pr (place - l.cnt - 1) rest w' (by omega) (by omega) (by omega) (hr.keeps hk) hj
      have e1 : IntKind.i64.wrap (place - (l.cnt : Int)) = place - (l.cnt : Int) := wr64 _ (by omega) (by omega)
      have e2 : IntKind.i64.wrap (place - (l.cnt : Int) - 1) = place - (l.cnt : Int) - 1 := wr64 _ (by omega) (by omega)
      have hJ' := HJD.out _ _ hJ
      by_cases hA : (l.cnt : Int) < place
      · have d1 : l.inl.drop place.toNat = [] := List.drop_eq_nil_of_le (by omega)
        have d2 : (Tr.node k v l r).inl.drop place.toNat = r.inl.drop (place - l.cnt - 1).toNat := by
          rw [hinl, List.drop_append, List.drop_eq_nil_of_le (by omega), List.nil_append, show place.toNat - l.inl.length = (place - l.cnt - 1).toNat + 1 by omega, List.drop_succ_cons]
        rw [d2] at hJ' ⊢
        have HU1 := Lib.hid (HUL.out (r.inl.drop (place - l.cnt - 1).toNat ++ rest) (by rw [d1]; exact hJ'))
        rw [d1, show run cont ([] : List (Int × Int)) (r.inl.drop (place - l.cnt - 1).toNat ++ rest) = true from rfl] at HU1
        generalize r.inl.drop (place - l.cnt - 1).toNat = l2 at HU1 HUR ⊢
        generalize run cont l2 rest = bb at HUR ⊢
        have hbd : (l.cnt : Int) ≤ 80000 ∧ (r.cnt : Int) ≤ 80000 := by omega
        generalize l.cnt = cl at *
        generalize r.cnt = cr at *
        clear hJ hJ' ihl ihr hb hl hr h hcn hinl hll hrl d1 d2 hcnt hp1 HUL hge
        refine (callsIn_wide (n := 2)).1 ?_
        refine callsIn_of_wp Try.func49 rfl trivial ?_ rfl
        simp only [Try.ntmps49, List.size_toArray, List.length_cons, List.length_nil, Nat.reduceAdd, Nat.reduceSub, Array.replicate_succ, Array.replicate_zero, List.push_toArray, List.append_toArray, List.nil_append, List.cons_append]
        gi_wp2_with (first | (refine ⟨trivial, ?_⟩; gi_at_call 45; refine (callsIn_wide.2 HEN.out).mono ?_; rintro e w1 ⟨rfl, rfl⟩))
        refine region_i (S := (fun w' => w'.cell? ⟨b, 2, none⟩ = some (.pointer pl) ∧ w'.cell? ⟨b, 0, none⟩ = some (.int .i64 k) ∧ w'.cell? ⟨b, 1, none⟩ = some (.int .i64 v) ∧ w'.cell? ⟨b, 3, none⟩ = some (.pointer pr))) (by kernel_rfl) (HC.out _ HKD.out) (fun hHeld => ?_)
        refine take_i (fun _ => trivial) rfl (i := 0) (d := 23) (v := .pointer (some ⟨b, 0, none⟩)) rfl rfl (by kernel_rfl) (by kernel_rfl) (by kernel_rfl) (fun _ _ _ h => h) (Or.inl ⟨by kernel_rfl, ?_⟩) (by assumption) ?_
        · intro wS hSw
          obtain ⟨hS0, hS1, hS2, hS3⟩ := hSw
          go_simp
        simp only [Act.put, List.setIfInBounds_toArray, List.set_cons_zero, List.set_cons_succ]
        refine take_i (fun _ => trivial) rfl (i := 1) (d := 24) (v := .pointer (some ⟨b, 0, none⟩)) rfl rfl (by kernel_rfl) (by kernel_rfl) (by kernel_rfl) (fun _ _ _ h => h) (Or.inl ⟨by kernel_rfl, ?_⟩) (by assumption) ?_
        · intro wS hSw
          obtain ⟨hS0, hS1, hS2, hS3⟩ := hSw
          go_simp
        simp only [Act.put, List.setIfInBounds_toArray, List.set_cons_zero, List.set_cons_succ]
        refine take_i (fun _ => trivial) rfl (i := 2) (d := 25) (v := .pointer (some ⟨b, 2, none⟩)) rfl rfl (by kernel_rfl) (by kernel_rfl) (by kernel_rfl) (fun _ _ _ h => h) (Or.inl ⟨by kernel_rfl, ?_⟩) (by assumption) ?_
        · intro wS hSw
          obtain ⟨hS0, hS1, hS2, hS3⟩ := hSw
          go_simp
        simp only [Act.put, List.setIfInBounds_toArray, List.set_cons_zero, List.set_cons_succ]
        refine take_i (fun _ => trivial) rfl (i := 3) (d := 26) (v := .pointer pl) rfl rfl (by kernel_rfl) (by kernel_rfl) (by kernel_rfl) (fun _ _ _ h => h) (Or.inl ⟨by kernel_rfl, ?_⟩) (by assumption) ?_
        · intro wS hSw
          obtain ⟨hS0, hS1, hS2, hS3⟩ := hSw
          go_simp
        simp only [Act.put, List.setIfInBounds_toArray, List.set_cons_zero, List.set_cons_succ]
        refine take_i (fun _ => trivial) rfl (i := 4) (d := 27) (v := .int .i64 place) rfl rfl (by kernel_rfl) (by kernel_rfl) (by kernel_rfl) (fun _ _ _ h => h) (Or.inl ⟨by kernel_rfl, ?_⟩) (by assumption) ?_
        · intro wS hSw
          obtain ⟨hS0, hS1, hS2, hS3⟩ := hSw
          go_simp
        simp only [Act.put, List.setIfInBounds_toArray, List.set_cons_zero, List.set_cons_succ]
        refine take_i (fun _ => trivial) rfl (i := 5) (d := 28) (v := .func (.yield lp) #[] #[]) rfl rfl (by kernel_rfl) (by kernel_rfl) (by kernel_rfl) (fun _ _ _ h => h) (Or.inl ⟨by kernel_rfl, ?_⟩) (by assumption) ?_
        · intro wS hSw
          obtain ⟨hS0, hS1, hS2, hS3⟩ := hSw
          go_simp
        simp only [Act.put, List.setIfInBounds_toArray, List.set_cons_zero, List.set_cons_succ]
        refine ready_i (i := 6) (by kernel_rfl) rfl (by kernel_rfl) (fun K hK => ?_)
        go_simp
        gi_wp2_with (refine ⟨trivial, ?_⟩; gi_at_call 49; refine (callsIn_wide.2 HU1.out).mono ?_; rintro e wA ⟨rfl, R1, K1'⟩)
        have K1 := HKD.out.trans K1'
        refine hK.out _ _ ?_ (fun hHeld => ?_)
        · exact HC.out _ K1
        clear hK K
        refine take_i (fun _ => trivial) rfl (i := 7) (d := 30) (v := .bool true) rfl rfl (by kernel_rfl) (by kernel_rfl) (by kernel_rfl) (fun _ _ _ h => h) (Or.inl ⟨by kernel_rfl, ?_⟩) (by assumption) ?_
        · intro wS hSw
          obtain ⟨hS0, hS1, hS2, hS3⟩ := hSw
          go_simp
        simp only [Act.put, List.setIfInBounds_toArray, List.set_cons_zero, List.set_cons_succ]
        refine take_i (fun _ => trivial) rfl (i := 8) (d := 31) (v := .int .i64 (cl : Int)) rfl rfl (by kernel_rfl) (by kernel_rfl) (by kernel_rfl) (fun _ _ _ h => h) (Or.inl ⟨by kernel_rfl, ?_⟩) (by assumption) ?_
        · intro wS hSw
          obtain ⟨hS0, hS1, hS2, hS3⟩ := hSw
          go_simp
        simp only [Act.put, List.setIfInBounds_toArray, List.set_cons_zero, List.set_cons_succ]
        refine take_i (fun _ => trivial) rfl (i := 9) (d := 32) (v := .int .i64 place) rfl rfl (by kernel_rfl) (by kernel_rfl) (by kernel_rfl) (fun _ _ _ h => h) (Or.inl ⟨by kernel_rfl, ?_⟩) (by assumption) ?_
        · intro wS hSw
          obtain ⟨hS0, hS1, hS2, hS3⟩ := hSw
          go_simp
        simp only [Act.put, List.setIfInBounds_toArray, List.set_cons_zero, List.set_cons_succ]
        refine take_i (fun _ => trivial) rfl (i := 10) (d := 33) (v := .bool true) rfl rfl (by kernel_rfl) (by kernel_rfl) (by kernel_rfl) (fun _ _ _ h => h) (Or.inl ⟨by kernel_rfl, ?_⟩) (by assumption) ?_
        · intro wS hSw
          obtain ⟨hS0, hS1, hS2, hS3⟩ := hSw
          go_simp
        simp only [Act.put, List.setIfInBounds_toArray, List.set_cons_zero, List.set_cons_succ]
        refine take_i (fun _ => trivial) rfl (i := 11) (d := 34) (v := .bool true) rfl rfl (by kernel_rfl) (by kernel_rfl) (by kernel_rfl) (fun _ _ _ h => h) (Or.inl ⟨by kernel_rfl, ?_⟩) (by assumption) ?_
        · intro wS hSw
          obtain ⟨hS0, hS1, hS2, hS3⟩ := hSw
          go_simp
        simp only [Act.put, List.setIfInBounds_toArray, List.set_cons_zero, List.set_cons_succ]
        refine take_i (fun _ => trivial) rfl (i := 12) (d := 35) (v := undef) rfl rfl (by kernel_rfl) (by kernel_rfl) (by kernel_rfl) (fun _ _ _ h => h) (Or.inr ⟨by kernel_rfl, rfl⟩) (by assumption) ?_
        simp only [Act.put, List.setIfInBounds_toArray, List.set_cons_zero, List.set_cons_succ]
        refine take_i (fun _ => trivial) rfl (i := 13) (d := 36) (v := undef) rfl rfl (by kernel_rfl) (by kernel_rfl) (by kernel_rfl) (fun _ _ _ h => h) (Or.inr ⟨by kernel_rfl, rfl⟩) (by assumption) ?_
        simp only [Act.put, List.setIfInBounds_toArray, List.set_cons_zero, List.set_cons_succ]
        refine take_i (fun _ => trivial) rfl (i := 14) (d := 37) (v := undef) rfl rfl (by kernel_rfl) (by kernel_rfl) (by kernel_rfl) (fun _ _ _ h => h) (Or.inr ⟨by kernel_rfl, rfl⟩) (by assumption) ?_
        simp only [Act.put, List.setIfInBounds_toArray, List.set_cons_zero, List.set_cons_succ]
        refine take_i (fun _ => trivial) rfl (i := 15) (d := 38) (v := undef) rfl rfl (by kernel_rfl) (by kernel_rfl) (by kernel_rfl) (fun _ _ _ h => h) (Or.inr ⟨by kernel_rfl, rfl⟩) (by assumption) ?_
        simp only [Act.put, List.setIfInBounds_toArray, List.set_cons_zero, List.set_cons_succ]
        refine take_i (fun _ => trivial) rfl (i := 16) (d := 39) (v := undef) rfl rfl (by kernel_rfl) (by kernel_rfl) (by kernel_rfl) (fun _ _ _ h => h) (Or.inr ⟨by kernel_rfl, rfl⟩) (by assumption) ?_
        simp only [Act.put, List.setIfInBounds_toArray, List.set_cons_zero, List.set_cons_succ]
        refine take_i (fun _ => trivial) rfl (i := 17) (d := 40) (v := undef) rfl rfl (by kernel_rfl) (by kernel_rfl) (by kernel_rfl) (fun _ _ _ h => h) (Or.inr ⟨by kernel_rfl, rfl⟩) (by assumption) ?_
        simp only [Act.put, List.setIfInBounds_toArray, List.set_cons_zero, List.set_cons_succ]
        refine take_i (fun _ => trivial) rfl (i := 18) (d := 41) (v := undef) rfl rfl (by kernel_rfl) (by kernel_rfl) (by kernel_rfl) (fun _ _ _ h => h) (Or.inr ⟨by kernel_rfl, rfl⟩) (by assumption) ?_
        simp only [Act.put, List.setIfInBounds_toArray, List.set_cons_zero, List.set_cons_succ]
        refine take_i (fun _ => trivial) rfl (i := 19) (d := 42) (v := undef) rfl rfl (by kernel_rfl) (by kernel_rfl) (by kernel_rfl) (fun _ _ _ h => h) (Or.inr ⟨by kernel_rfl, rfl⟩) (by assumption) ?_
        simp only [Act.put, List.setIfInBounds_toArray, List.set_cons_zero, List.set_cons_succ]
        refine take_i (fun _ => trivial) rfl (i := 20) (d := 43) (v := undef) rfl rfl (by kernel_rfl) (by kernel_rfl) (by kernel_rfl) (fun _ _ _ h => h) (Or.inr ⟨by kernel_rfl, rfl⟩) (by assumption) ?_
        simp only [Act.put, List.setIfInBounds_toArray, List.set_cons_zero, List.set_cons_succ]
        refine take_i (fun _ => trivial) rfl (i := 21) (d := 44) (v := undef) rfl rfl (by kernel_rfl) (by kernel_rfl) (by kernel_rfl) (fun _ _ _ h => h) (Or.inr ⟨by kernel_rfl, rfl⟩) (by assumption) ?_
        simp only [Act.put, List.setIfInBounds_toArray, List.set_cons_zero, List.set_cons_succ]
        refine take_i (fun _ => trivial) rfl (i := 22) (d := 45) (v := .bool true) rfl rfl (by kernel_rfl) (by kernel_rfl) (by kernel_rfl) (fun _ _ _ h => h) (Or.inl ⟨by kernel_rfl, ?_⟩) (by assumption) ?_
        · intro wS hSw
          obtain ⟨hS0, hS1, hS2, hS3⟩ := hSw
          go_simp
        simp only [Act.put, List.setIfInBounds_toArray, List.set_cons_zero, List.set_cons_succ]
        refine take_i (fun _ => trivial) rfl (i := 23) (d := 46) (v := .bool true) rfl rfl (by kernel_rfl) (by kernel_rfl) (by kernel_rfl) (fun _ _ _ h => h) (Or.inl ⟨by kernel_rfl, ?_⟩) (by assumption) ?_
        · intro wS hSw
          obtain ⟨hS0, hS1, hS2, hS3⟩ := hSw
          go_simp
        simp only [Act.put, List.setIfInBounds_toArray, List.set_cons_zero, List.set_cons_succ]
        refine take_i (fun _ => trivial) rfl (i := 24) (d := 47) (v := .bool true) rfl rfl (by kernel_rfl) (by kernel_rfl) (by kernel_rfl) (fun _ _ _ h => h) (Or.inl ⟨by kernel_rfl, ?_⟩) (by assumption) ?_
        · intro wS hSw
          obtain ⟨hS0, hS1, hS2, hS3⟩ := hSw
          go_simp
        simp only [Act.put, List.setIfInBounds_toArray, List.set_cons_zero, List.set_cons_succ]
        refine take_i (fun _ => trivial) rfl (i := 25) (d := 48) (v := .pointer (some ⟨b, 0, none⟩)) rfl rfl (by kernel_rfl) (by kernel_rfl) (by kernel_rfl) (fun _ _ _ h => h) (Or.inl ⟨by kernel_rfl, ?_⟩) (by assumption) ?_
        · intro wS hSw
          obtain ⟨hS0, hS1, hS2, hS3⟩ := hSw
          go_simp
        simp only [Act.put, List.setIfInBounds_toArray, List.set_cons_zero, List.set_cons_succ]
        refine take_i (fun _ => trivial) rfl (i := 26) (d := 49) (v := .pointer (some ⟨b, 0, none⟩)) rfl rfl (by kernel_rfl) (by kernel_rfl) (by kernel_rfl) (fun _ _ _ h => h) (Or.inl ⟨by kernel_rfl, ?_⟩) (by assumption) ?_
        · intro wS hSw
          obtain ⟨hS0, hS1, hS2, hS3⟩ := hSw
          go_simp
        simp only [Act.put, List.setIfInBounds_toArray, List.set_cons_zero, List.set_cons_succ]
        refine take_i (fun _ => trivial) rfl (i := 27) (d := 50) (v := .pointer (some ⟨b, 3, none⟩)) rfl rfl (by kernel_rfl) (by kernel_rfl) (by kernel_rfl) (fun _ _ _ h => h) (Or.inl ⟨by kernel_rfl, ?_⟩) (by assumption) ?_
        · intro wS hSw
          obtain ⟨hS0, hS1, hS2, hS3⟩ := hSw
          go_simp
        simp only [Act.put, List.setIfInBounds_toArray, List.set_cons_zero, List.set_cons_succ]
        refine take_i (fun _ => trivial) rfl (i := 28) (d := 51) (v := .pointer pr) rfl rfl (by kernel_rfl) (by kernel_rfl) (by kernel_rfl) (fun _ _ _ h => h) (Or.inl ⟨by kernel_rfl, ?_⟩) (by assumption) ?_
        · intro wS hSw
          obtain ⟨hS0, hS1, hS2, hS3⟩ := hSw
          go_simp
        simp only [Act.put, List.setIfInBounds_toArray, List.set_cons_zero, List.set_cons_succ]
        refine take_i (fun _ => trivial) rfl (i := 29) (d := 52) (v := .int .i64 place) rfl rfl (by kernel_rfl) (by kernel_rfl) (by kernel_rfl) (fun _ _ _ h => h) (Or.inl ⟨by kernel_rfl, ?_⟩) (by assumption) ?_
        · intro wS hSw
          obtain ⟨hS0, hS1, hS2, hS3⟩ := hSw
          go_simp
        simp only [Act.put, List.setIfInBounds_toArray, List.set_cons_zero, List.set_cons_succ]
        refine take_i (fun _ => trivial) rfl (i := 30) (d := 53) (v := .int .i64 (cl : Int)) rfl rfl (by kernel_rfl) (by kernel_rfl) (by kernel_rfl) (fun _ _ _ h => h) (Or.inl ⟨by kernel_rfl, ?_⟩) (by assumption) ?_
        · intro wS hSw
          obtain ⟨hS0, hS1, hS2, hS3⟩ := hSw
          go_simp
        simp only [Act.put, List.setIfInBounds_toArray, List.set_cons_zero, List.set_cons_succ]
        refine take_i (fun _ => trivial) rfl (i := 31) (d := 54) (v := .int .i64 (place - (cl : Int))) rfl rfl (by kernel_rfl) (by kernel_rfl) (by kernel_rfl) (fun _ _ _ h => h) (Or.inl ⟨by kernel_rfl, ?_⟩) (by assumption) ?_
        · intro wS hSw
          obtain ⟨hS0, hS1, hS2, hS3⟩ := hSw
          go_simp
        simp only [Act.put, List.setIfInBounds_toArray, List.set_cons_zero, List.set_cons_succ]
        refine take_i (fun _ => trivial) rfl (i := 32) (d := 55) (v := .int .i64 (place - (cl : Int) - 1)) rfl rfl (by kernel_rfl) (by kernel_rfl) (by kernel_rfl) (fun _ _ _ h => h) (Or.inl ⟨by kernel_rfl, ?_⟩) (by assumption) ?_
        · intro wS hSw
          obtain ⟨hS0, hS1, hS2, hS3⟩ := hSw
          go_simp
        simp only [Act.put, List.setIfInBounds_toArray, List.set_cons_zero, List.set_cons_succ]
        refine take_i (fun _ => trivial) rfl (i := 33) (d := 56) (v := .func (.yield lp) #[] #[]) rfl rfl (by kernel_rfl) (by kernel_rfl) (by kernel_rfl) (fun _ _ _ h => h) (Or.inl ⟨by kernel_rfl, ?_⟩) (by assumption) ?_
        · intro wS hSw
          obtain ⟨hS0, hS1, hS2, hS3⟩ := hSw
          go_simp
        simp only [Act.put, List.setIfInBounds_toArray, List.set_cons_zero, List.set_cons_succ]
        refine ready_i (i := 34) (by kernel_rfl) rfl (by kernel_rfl) (fun K hK => ?_)
        go_simp
        gi_wp2_with (refine ⟨trivial, ?_⟩; gi_at_call 49; refine (callsIn_wide.2 (HUR.out _ K1 (R1.1 rfl))).mono ?_; rintro e wC ⟨rfl, RZ, KZ'⟩)
        have KZ := K1.trans KZ'
        refine hK.out _ _ ?_ (fun hHeld => ?_)
        · exact HC.out _ KZ
        clear hK K
        refine take_i (fun _ => trivial) rfl (i := 35) (d := 58) (v := .bool bb) rfl rfl (by kernel_rfl) (by kernel_rfl) (by kernel_rfl) (fun _ _ _ h => h) (Or.inl ⟨by kernel_rfl, ?_⟩) (by assumption) ?_
        · intro wS hSw
          obtain ⟨hS0, hS1, hS2, hS3⟩ := hSw
          go_simp
        simp only [Act.put, List.setIfInBounds_toArray, List.set_cons_zero, List.set_cons_succ]
        refine take_i (fun _ => trivial) rfl (i := 36) (d := 6) (v := .bool bb) rfl rfl (by kernel_rfl) (by kernel_rfl) (by kernel_rfl) (fun _ _ _ h => h) (Or.inl ⟨by kernel_rfl, ?_⟩) (by assumption) ?_
        · intro wS hSw
          obtain ⟨hS0, hS1, hS2, hS3⟩ := hSw
          go_simp
        simp only [Act.put, List.setIfInBounds_toArray, List.set_cons_zero, List.set_cons_succ]
        refine done_i (by kernel_rfl) ?_ _
        gi_wp2
        go_ret
        exact ⟨rfl, RZ, KZ⟩
      · have hB : decide ((l.cnt : Int) < place) = false := decide_eq_false hA
        have d2 : (Tr.node k v l r).inl.drop place.toNat = l.inl.drop place.toNat ++ (k, v) :: r.inl := by
          rw [hinl, List.drop_append_of_le_length (by omega)]
        have d3 : r.inl.drop (place - l.cnt - 1).toNat = r.inl := by rw [show (place - (l.cnt : Int) - 1).toNat = 0 by omega]; rfl
        rw [d2, List.append_assoc, List.cons_append] at hJ'
        rw [d2, run_app]
        rw [d3] at HUR
        have HU1 := Lib.hid (HUL.out ((k, v) :: (r.inl ++ rest)) hJ')
        have HYX : Hid (∀ W, J ((k, v) :: (r.inl ++ rest)) W → YieldAt Fence.wide 0 Try.prog lp #[.int .i64 k, .int .i64 v] W fun e W' => e = .returned (.bool (cont (r.inl ++ rest))) ∧ Res J Jx (cont (r.inl ++ rest)) (r.inl ++ rest) W' ∧ Keeps 76 W W') := fun W hj => HY.out (k, v) (r.inl ++ rest) W hj
        have e4 : run cont ((k, v) :: r.inl) rest = (cont (r.inl ++ rest) && run cont r.inl rest) := rfl
        rw [e4]
        generalize l.inl.drop place.toNat = l1 at HU1 ⊢
        generalize hl2 : r.inl = l2 at HU1 HUR HYX ⊢
        rw [List.cons_append]
        generalize hb3 : run cont l2 rest = b3 at HUR ⊢
        generalize hb2 : cont (l2 ++ rest) = b2 at HYX ⊢
        generalize hb1 : run cont l1 ((k, v) :: (l2 ++ rest)) = b1 at HU1 ⊢
        have hbd : (l.cnt : Int) ≤ 80000 ∧ (r.cnt : Int) ≤ 80000 := by omega
        generalize l.cnt = cl at *
        generalize r.cnt = cr at *
        clear hJ hJ' ihl ihr hb hl hr h hcn hinl hll hrl d2 d3 hcnt hp1 HUL hge e4 hl2 hb1 hb2 hb3
        cases b1 with
        | false =>
          refine (callsIn_wide (n := 2)).1 ?_
          refine callsIn_of_wp Try.func49 rfl trivial ?_ rfl
          simp only [Try.ntmps49, List.size_toArray, List.length_cons, List.length_nil, Nat.reduceAdd, Nat.reduceSub, Array.replicate_succ, Array.replicate_zero, List.push_toArray, List.append_toArray, List.nil_append, List.cons_append]
          gi_wp2_with (first | (refine ⟨trivial, ?_⟩; gi_at_call 45; refine (callsIn_wide.2 HEN.out).mono ?_; rintro e w1 ⟨rfl, rfl⟩))
          refine region_i (S := (fun w' => w'.cell? ⟨b, 2, none⟩ = some (.pointer pl) ∧ w'.cell? ⟨b, 0, none⟩ = some (.int .i64 k) ∧ w'.cell? ⟨b, 1, none⟩ = some (.int .i64 v) ∧ w'.cell? ⟨b, 3, none⟩ = some (.pointer pr))) (by kernel_rfl) (HC.out _ HKD.out) (fun hHeld => ?_)
          refine take_i (fun _ => trivial) rfl (i := 0) (d := 23) (v := .pointer (some ⟨b, 0, none⟩)) rfl rfl (by kernel_rfl) (by kernel_rfl) (by kernel_rfl) (fun _ _ _ h => h) (Or.inl ⟨by kernel_rfl, ?_⟩) (by assumption) ?_
          · intro wS hSw
            obtain ⟨hS0, hS1, hS2, hS3⟩ := hSw
            go_simp
          simp only [Act.put, List.setIfInBounds_toArray, List.set_cons_zero, List.set_cons_succ]
          refine take_i (fun _ => trivial) rfl (i := 1) (d := 24) (v := .pointer (some ⟨b, 0, none⟩)) rfl rfl (by kernel_rfl) (by kernel_rfl) (by kernel_rfl) (fun _ _ _ h => h) (Or.inl ⟨by kernel_rfl, ?_⟩) (by assumption) ?_
          · intro wS hSw
            obtain ⟨hS0, hS1, hS2, hS3⟩ := hSw
            go_simp
          simp only [Act.put, List.setIfInBounds_toArray, List.set_cons_zero, List.set_cons_succ]
          refine take_i (fun _ => trivial) rfl (i := 2) (d := 25) (v := .pointer (some ⟨b, 2, none⟩)) rfl rfl (by kernel_rfl) (by kernel_rfl) (by kernel_rfl) (fun _ _ _ h => h) (Or.inl ⟨by kernel_rfl, ?_⟩) (by assumption) ?_
          · intro wS hSw
            obtain ⟨hS0, hS1, hS2, hS3⟩ := hSw
            go_simp
          simp only [Act.put, List.setIfInBounds_toArray, List.set_cons_zero, List.set_cons_succ]
          refine take_i (fun _ => trivial) rfl (i := 3) (d := 26) (v := .pointer pl) rfl rfl (by kernel_rfl) (by kernel_rfl) (by kernel_rfl) (fun _ _ _ h => h) (Or.inl ⟨by kernel_rfl, ?_⟩) (by assumption) ?_
          · intro wS hSw
            obtain ⟨hS0, hS1, hS2, hS3⟩ := hSw
            go_simp
          simp only [Act.put, List.setIfInBounds_toArray, List.set_cons_zero, List.set_cons_succ]
          refine take_i (fun _ => trivial) rfl (i := 4) (d := 27) (v := .int .i64 place) rfl rfl (by kernel_rfl) (by kernel_rfl) (by kernel_rfl) (fun _ _ _ h => h) (Or.inl ⟨by kernel_rfl, ?_⟩) (by assumption) ?_
          · intro wS hSw
            obtain ⟨hS0, hS1, hS2, hS3⟩ := hSw
            go_simp
          simp only [Act.put, List.setIfInBounds_toArray, List.set_cons_zero, List.set_cons_succ]
          refine take_i (fun _ => trivial) rfl (i := 5) (d := 28) (v := .func (.yield lp) #[] #[]) rfl rfl (by kernel_rfl) (by kernel_rfl) (by kernel_rfl) (fun _ _ _ h => h) (Or.inl ⟨by kernel_rfl, ?_⟩) (by assumption) ?_
          · intro wS hSw
            obtain ⟨hS0, hS1, hS2, hS3⟩ := hSw
            go_simp
          simp only [Act.put, List.setIfInBounds_toArray, List.set_cons_zero, List.set_cons_succ]
          refine ready_i (i := 6) (by kernel_rfl) rfl (by kernel_rfl) (fun K hK => ?_)
          go_simp
          gi_wp2_with (refine ⟨trivial, ?_⟩; gi_at_call 49; refine (callsIn_wide.2 HU1.out).mono ?_; rintro e wA ⟨rfl, R1, K1'⟩)
          have K1 := HKD.out.trans K1'
          refine hK.out _ _ ?_ (fun hHeld => ?_)
          · exact HC.out _ K1
          clear hK K
          refine take_i (fun _ => trivial) rfl (i := 7) (d := 30) (v := .bool false) rfl rfl (by kernel_rfl) (by kernel_rfl) (by kernel_rfl) (fun _ _ _ h => h) (Or.inl ⟨by kernel_rfl, ?_⟩) (by assumption) ?_
          · intro wS hSw
            obtain ⟨hS0, hS1, hS2, hS3⟩ := hSw
            go_simp
          simp only [Act.put, List.setIfInBounds_toArray, List.set_cons_zero, List.set_cons_succ]
          refine take_i (fun _ => trivial) rfl (i := 8) (d := 31) (v := undef) rfl rfl (by kernel_rfl) (by kernel_rfl) (by kernel_rfl) (fun _ _ _ h => h) (Or.inr ⟨by kernel_rfl, rfl⟩) (by assumption) ?_
          simp only [Act.put, List.setIfInBounds_toArray, List.set_cons_zero, List.set_cons_succ]
          refine take_i (fun _ => trivial) rfl (i := 9) (d := 32) (v := undef) rfl rfl (by kernel_rfl) (by kernel_rfl) (by kernel_rfl) (fun _ _ _ h => h) (Or.inr ⟨by kernel_rfl, rfl⟩) (by assumption) ?_
          simp only [Act.put, List.setIfInBounds_toArray, List.set_cons_zero, List.set_cons_succ]
          refine take_i (fun _ => trivial) rfl (i := 10) (d := 33) (v := undef) rfl rfl (by kernel_rfl) (by kernel_rfl) (by kernel_rfl) (fun _ _ _ h => h) (Or.inr ⟨by kernel_rfl, rfl⟩) (by assumption) ?_
          simp only [Act.put, List.setIfInBounds_toArray, List.set_cons_zero, List.set_cons_succ]
          refine take_i (fun _ => trivial) rfl (i := 11) (d := 34) (v := undef) rfl rfl (by kernel_rfl) (by kernel_rfl) (by kernel_rfl) (fun _ _ _ h => h) (Or.inr ⟨by kernel_rfl, rfl⟩) (by assumption) ?_
          simp only [Act.put, List.setIfInBounds_toArray, List.set_cons_zero, List.set_cons_succ]
          refine take_i (fun _ => trivial) rfl (i := 12) (d := 35) (v := undef) rfl rfl (by kernel_rfl) (by kernel_rfl) (by kernel_rfl) (fun _ _ _ h => h) (Or.inr ⟨by kernel_rfl, rfl⟩) (by assumption) ?_
          simp only [Act.put, List.setIfInBounds_toArray, List.set_cons_zero, List.set_cons_succ]
          refine take_i (fun _ => trivial) rfl (i := 13) (d := 36) (v := undef) rfl rfl (by kernel_rfl) (by kernel_rfl) (by kernel_rfl) (fun _ _ _ h => h) (Or.inr ⟨by kernel_rfl, rfl⟩) (by assumption) ?_
          simp only [Act.put, List.setIfInBounds_toArray, List.set_cons_zero, List.set_cons_succ]
          refine take_i (fun _ => trivial) rfl (i := 14) (d := 37) (v := undef) rfl rfl (by kernel_rfl) (by kernel_rfl) (by kernel_rfl) (fun _ _ _ h => h) (Or.inr ⟨by kernel_rfl, rfl⟩) (by assumption) ?_
          simp only [Act.put, List.setIfInBounds_toArray, List.set_cons_zero, List.set_cons_succ]
          refine take_i (fun _ => trivial) rfl (i := 15) (d := 38) (v := undef) rfl rfl (by kernel_rfl) (by kernel_rfl) (by kernel_rfl) (fun _ _ _ h => h) (Or.inr ⟨by kernel_rfl, rfl⟩) (by assumption) ?_
          simp only [Act.put, List.setIfInBounds_toArray, List.set_cons_zero, List.set_cons_succ]
          refine take_i (fun _ => trivial) rfl (i := 16) (d := 39) (v := undef) rfl rfl (by kernel_rfl) (by kernel_rfl) (by kernel_rfl) (fun _ _ _ h => h) (Or.inr ⟨by kernel_rfl, rfl⟩) (by assumption) ?_
          simp only [Act.put, List.setIfInBounds_toArray, List.set_cons_zero, List.set_cons_succ]
          refine take_i (fun _ => trivial) rfl (i := 17) (d := 40) (v := undef) rfl rfl (by kernel_rfl) (by kernel_rfl) (by kernel_rfl) (fun _ _ _ h => h) (Or.inr ⟨by kernel_rfl, rfl⟩) (by assumption) ?_
          simp only [Act.put, List.setIfInBounds_toArray, List.set_cons_zero, List.set_cons_succ]
          refine take_i (fun _ => trivial) rfl (i := 18) (d := 41) (v := undef) rfl rfl (by kernel_rfl) (by kernel_rfl) (by kernel_rfl) (fun _ _ _ h => h) (Or.inr ⟨by kernel_rfl, rfl⟩) (by assumption) ?_
          simp only [Act.put, List.setIfInBounds_toArray, List.set_cons_zero, List.set_cons_succ]
          refine take_i (fun _ => trivial) rfl (i := 19) (d := 42) (v := undef) rfl rfl (by kernel_rfl) (by kernel_rfl) (by kernel_rfl) (fun _ _ _ h => h) (Or.inr ⟨by kernel_rfl, rfl⟩) (by assumption) ?_
          simp only [Act.put, List.setIfInBounds_toArray, List.set_cons_zero, List.set_cons_succ]
          refine take_i (fun _ => trivial) rfl (i := 20) (d := 43) (v := undef) rfl rfl (by kernel_rfl) (by kernel_rfl) (by kernel_rfl) (fun _ _ _ h => h) (Or.inr ⟨by kernel_rfl, rfl⟩) (by assumption) ?_
          simp only [Act.put, List.setIfInBounds_toArray, List.set_cons_zero, List.set_cons_succ]
          refine take_i (fun _ => trivial) rfl (i := 21) (d := 44) (v := undef) rfl rfl (by kernel_rfl) (by kernel_rfl) (by kernel_rfl) (fun _ _ _ h => h) (Or.inr ⟨by kernel_rfl, rfl⟩) (by assumption) ?_
          simp only [Act.put, List.setIfInBounds_toArray, List.set_cons_zero, List.set_cons_succ]
          refine take_i (fun _ => trivial) rfl (i := 22) (d := 45) (v := undef) rfl rfl (by kernel_rfl) (by kernel_rfl) (by kernel_rfl) (fun _ _ _ h => h) (Or.inr ⟨by kernel_rfl, rfl⟩) (by assumption) ?_
          simp only [Act.put, List.setIfInBounds_toArray, List.set_cons_zero, List.set_cons_succ]
          refine take_i (fun _ => trivial) rfl (i := 23) (d := 46) (v := .bool false) rfl rfl (by kernel_rfl) (by kernel_rfl) (by kernel_rfl) (fun _ _ _ h => h) (Or.inl ⟨by kernel_rfl, ?_⟩) (by assumption) ?_
          · intro wS hSw
            obtain ⟨hS0, hS1, hS2, hS3⟩ := hSw
            go_simp
          simp only [Act.put, List.setIfInBounds_toArray, List.set_cons_zero, List.set_cons_succ]
          refine take_i (fun _ => trivial) rfl (i := 24) (d := 47) (v := .bool false) rfl rfl (by kernel_rfl) (by kernel_rfl) (by kernel_rfl) (fun _ _ _ h => h) (Or.inl ⟨by kernel_rfl, ?_⟩) (by assumption) ?_
          · intro wS hSw
            obtain ⟨hS0, hS1, hS2, hS3⟩ := hSw
            go_simp
          simp only [Act.put, List.setIfInBounds_toArray, List.set_cons_zero, List.set_cons_succ]
          refine take_i (fun _ => trivial) rfl (i := 25) (d := 48) (v := undef) rfl rfl (by kernel_rfl) (by kernel_rfl) (by kernel_rfl) (fun _ _ _ h => h) (Or.inr ⟨by kernel_rfl, rfl⟩) (by assumption) ?_
          simp only [Act.put, List.setIfInBounds_toArray, List.set_cons_zero, List.set_cons_succ]
          refine take_i (fun _ => trivial) rfl (i := 26) (d := 49) (v := undef) rfl rfl (by kernel_rfl) (by kernel_rfl) (by kernel_rfl) (fun _ _ _ h => h) (Or.inr ⟨by kernel_rfl, rfl⟩) (by assumption) ?_
          simp only [Act.put, List.setIfInBounds_toArray, List.set_cons_zero, List.set_cons_succ]
          refine take_i (fun _ => trivial) rfl (i := 27) (d := 50) (v := undef) rfl rfl (by kernel_rfl) (by kernel_rfl) (by kernel_rfl) (fun _ _ _ h => h) (Or.inr ⟨by kernel_rfl, rfl⟩) (by assumption) ?_
          simp only [Act.put, List.setIfInBounds_toArray, List.set_cons_zero, List.set_cons_succ]
          refine take_i (fun _ => trivial) rfl (i := 28) (d := 51) (v := undef) rfl rfl (by kernel_rfl) (by kernel_rfl) (by kernel_rfl) (fun _ _ _ h => h) (Or.inr ⟨by kernel_rfl, rfl⟩) (by assumption) ?_
          simp only [Act.put, List.setIfInBounds_toArray, List.set_cons_zero, List.set_cons_succ]
          refine take_i (fun _ => trivial) rfl (i := 29) (d := 52) (v := undef) rfl rfl (by kernel_rfl) (by kernel_rfl) (by kernel_rfl) (fun _ _ _ h => h) (Or.inr ⟨by kernel_rfl, rfl⟩) (by assumption) ?_
          simp only [Act.put, List.setIfInBounds_toArray, List.set_cons_zero, List.set_cons_succ]
          refine take_i (fun _ => trivial) rfl (i := 30) (d := 53) (v := undef) rfl rfl (by kernel_rfl) (by kernel_rfl) (by kernel_rfl) (fun _ _ _ h => h) (Or.inr ⟨by kernel_rfl, rfl⟩) (by assumption) ?_
          simp only [Act.put, List.setIfInBounds_toArray, List.set_cons_zero, List.set_cons_succ]
          refine take_i (fun _ => trivial) rfl (i := 31) (d := 54) (v := undef) rfl rfl (by kernel_rfl) (by kernel_rfl) (by kernel_rfl) (fun _ _ _ h => h) (Or.inr ⟨by kernel_rfl, rfl⟩) (by assumption) ?_
          simp only [Act.put, List.setIfInBounds_toArray, List.set_cons_zero, List.set_cons_succ]
          refine take_i (fun _ => trivial) rfl (i := 32) (d := 55) (v := undef) rfl rfl (by kernel_rfl) (by kernel_rfl) (by kernel_rfl) (fun _ _ _ h => h) (Or.inr ⟨by kernel_rfl, rfl⟩) (by assumption) ?_
          simp only [Act.put, List.setIfInBounds_toArray, List.set_cons_zero, List.set_cons_succ]
          refine take_i (fun _ => trivial) rfl (i := 33) (d := 56) (v := undef) rfl rfl (by kernel_rfl) (by kernel_rfl) (by kernel_rfl) (fun _ _ _ h => h) (Or.inr ⟨by kernel_rfl, rfl⟩) (by assumption) ?_
          simp only [Act.put, List.setIfInBounds_toArray, List.set_cons_zero, List.set_cons_succ]
          refine take_i (fun _ => trivial) rfl (i := 34) (d := 57) (v := undef) rfl rfl (by kernel_rfl) (by kernel_rfl) (by kernel_rfl) (fun _ _ _ h => h) (Or.inr ⟨by kernel_rfl, rfl⟩) (by assumption) ?_
          simp only [Act.put, List.setIfInBounds_toArray, List.set_cons_zero, List.set_cons_succ]
          refine take_i (fun _ => trivial) rfl (i := 35) (d := 58) (v := .bool false) rfl rfl (by kernel_rfl) (by kernel_rfl) (by kernel_rfl) (fun _ _ _ h => h) (Or.inl ⟨by kernel_rfl, ?_⟩) (by assumption) ?_
          · intro wS hSw
            obtain ⟨hS0, hS1, hS2, hS3⟩ := hSw
            go_simp
          simp only [Act.put, List.setIfInBounds_toArray, List.set_cons_zero, List.set_cons_succ]
          refine take_i (fun _ => trivial) rfl (i := 36) (d := 6) (v := .bool false) rfl rfl (by kernel_rfl) (by kernel_rfl) (by kernel_rfl) (fun _ _ _ h => h) (Or.inl ⟨by kernel_rfl, ?_⟩) (by assumption) ?_
          · intro wS hSw
            obtain ⟨hS0, hS1, hS2, hS3⟩ := hSw
            go_simp
          simp only [Act.put, List.setIfInBounds_toArray, List.set_cons_zero, List.set_cons_succ]
          refine done_i (by kernel_rfl) ?_ _
          gi_wp2
          go_ret
          exact ⟨rfl, ⟨fun h => (by cases h), fun _ => R1.2 rfl⟩, K1⟩
        | true =>
          cases b2 with
          | false =>
            refine (callsIn_wide (n := 2)).1 ?_
            refine callsIn_of_wp Try.func49 rfl trivial ?_ rfl
            simp only [Try.ntmps49, List.size_toArray, List.length_cons, List.length_nil, Nat.reduceAdd, Nat.reduceSub, Array.replicate_succ, Array.replicate_zero, List.push_toArray, List.append_toArray, List.nil_append, List.cons_append]
            gi_wp2_with (first | (refine ⟨trivial, ?_⟩; gi_at_call 45; refine (callsIn_wide.2 HEN.out).mono ?_; rintro e w1 ⟨rfl, rfl⟩))
            refine region_i (S := (fun w' => w'.cell? ⟨b, 2, none⟩ = some (.pointer pl) ∧ w'.cell? ⟨b, 0, none⟩ = some (.int .i64 k) ∧ w'.cell? ⟨b, 1, none⟩ = some (.int .i64 v) ∧ w'.cell? ⟨b, 3, none⟩ = some (.pointer pr))) (by kernel_rfl) (HC.out _ HKD.out) (fun hHeld => ?_)
            refine take_i (fun _ => trivial) rfl (i := 0) (d := 23) (v := .pointer (some ⟨b, 0, none⟩)) rfl rfl (by kernel_rfl) (by kernel_rfl) (by kernel_rfl) (fun _ _ _ h => h) (Or.inl ⟨by kernel_rfl, ?_⟩) (by assumption) ?_
            · intro wS hSw
              obtain ⟨hS0, hS1, hS2, hS3⟩ := hSw
              go_simp
            simp only [Act.put, List.setIfInBounds_toArray, List.set_cons_zero, List.set_cons_succ]
            refine take_i (fun _ => trivial) rfl (i := 1) (d := 24) (v := .pointer (some ⟨b, 0, none⟩)) rfl rfl (by kernel_rfl) (by kernel_rfl) (by kernel_rfl) (fun _ _ _ h => h) (Or.inl ⟨by kernel_rfl, ?_⟩) (by assumption) ?_
            · intro wS hSw
              obtain ⟨hS0, hS1, hS2, hS3⟩ := hSw
              go_simp
            simp only [Act.put, List.setIfInBounds_toArray, List.set_cons_zero, List.set_cons_succ]
            refine take_i (fun _ => trivial) rfl (i := 2) (d := 25) (v := .pointer (some ⟨b, 2, none⟩)) rfl rfl (by kernel_rfl) (by kernel_rfl) (by kernel_rfl) (fun _ _ _ h => h) (Or.inl ⟨by kernel_rfl, ?_⟩) (by assumption) ?_
            · intro wS hSw
              obtain ⟨hS0, hS1, hS2, hS3⟩ := hSw
              go_simp
            simp only [Act.put, List.setIfInBounds_toArray, List.set_cons_zero, List.set_cons_succ]
            refine take_i (fun _ => trivial) rfl (i := 3) (d := 26) (v := .pointer pl) rfl rfl (by kernel_rfl) (by kernel_rfl) (by kernel_rfl) (fun _ _ _ h => h) (Or.inl ⟨by kernel_rfl, ?_⟩) (by assumption) ?_
            · intro wS hSw
              obtain ⟨hS0, hS1, hS2, hS3⟩ := hSw
              go_simp
            simp only [Act.put, List.setIfInBounds_toArray, List.set_cons_zero, List.set_cons_succ]
            refine take_i (fun _ => trivial) rfl (i := 4) (d := 27) (v := .int .i64 place) rfl rfl (by kernel_rfl) (by kernel_rfl) (by kernel_rfl) (fun _ _ _ h => h) (Or.inl ⟨by kernel_rfl, ?_⟩) (by assumption) ?_
            · intro wS hSw
              obtain ⟨hS0, hS1, hS2, hS3⟩ := hSw
              go_simp
            simp only [Act.put, List.setIfInBounds_toArray, List.set_cons_zero, List.set_cons_succ]
            refine take_i (fun _ => trivial) rfl (i := 5) (d := 28) (v := .func (.yield lp) #[] #[]) rfl rfl (by kernel_rfl) (by kernel_rfl) (by kernel_rfl) (fun _ _ _ h => h) (Or.inl ⟨by kernel_rfl, ?_⟩) (by assumption) ?_
            · intro wS hSw
              obtain ⟨hS0, hS1, hS2, hS3⟩ := hSw
              go_simp
            simp only [Act.put, List.setIfInBounds_toArray, List.set_cons_zero, List.set_cons_succ]
            refine ready_i (i := 6) (by kernel_rfl) rfl (by kernel_rfl) (fun K hK => ?_)
            go_simp
            gi_wp2_with (refine ⟨trivial, ?_⟩; gi_at_call 49; refine (callsIn_wide.2 HU1.out).mono ?_; rintro e wA ⟨rfl, R1, K1'⟩)
            have K1 := HKD.out.trans K1'
            refine hK.out _ _ ?_ (fun hHeld => ?_)
            · exact HC.out _ K1
            clear hK K
            refine take_i (fun _ => trivial) rfl (i := 7) (d := 30) (v := .bool true) rfl rfl (by kernel_rfl) (by kernel_rfl) (by kernel_rfl) (fun _ _ _ h => h) (Or.inl ⟨by kernel_rfl, ?_⟩) (by assumption) ?_
            · intro wS hSw
              obtain ⟨hS0, hS1, hS2, hS3⟩ := hSw
              go_simp
            simp only [Act.put, List.setIfInBounds_toArray, List.set_cons_zero, List.set_cons_succ]
            refine take_i (fun _ => trivial) rfl (i := 8) (d := 31) (v := .int .i64 (cl : Int)) rfl rfl (by kernel_rfl) (by kernel_rfl) (by kernel_rfl) (fun _ _ _ h => h) (Or.inl ⟨by kernel_rfl, ?_⟩) (by assumption) ?_
            · intro wS hSw
              obtain ⟨hS0, hS1, hS2, hS3⟩ := hSw
              go_simp
            simp only [Act.put, List.setIfInBounds_toArray, List.set_cons_zero, List.set_cons_succ]
            refine take_i (fun _ => trivial) rfl (i := 9) (d := 32) (v := .int .i64 place) rfl rfl (by kernel_rfl) (by kernel_rfl) (by kernel_rfl) (fun _ _ _ h => h) (Or.inl ⟨by kernel_rfl, ?_⟩) (by assumption) ?_
            · intro wS hSw
              obtain ⟨hS0, hS1, hS2, hS3⟩ := hSw
              go_simp
            simp only [Act.put, List.setIfInBounds_toArray, List.set_cons_zero, List.set_cons_succ]
            refine take_i (fun _ => trivial) rfl (i := 10) (d := 33) (v := .bool false) rfl rfl (by kernel_rfl) (by kernel_rfl) (by kernel_rfl) (fun _ _ _ h => h) (Or.inl ⟨by kernel_rfl, ?_⟩) (by assumption) ?_
            · intro wS hSw
              obtain ⟨hS0, hS1, hS2, hS3⟩ := hSw
              go_simp
            simp only [Act.put, List.setIfInBounds_toArray, List.set_cons_zero, List.set_cons_succ]
            refine take_i (fun _ => trivial) rfl (i := 11) (d := 34) (v := .bool false) rfl rfl (by kernel_rfl) (by kernel_rfl) (by kernel_rfl) (fun _ _ _ h => h) (Or.inl ⟨by kernel_rfl, ?_⟩) (by assumption) ?_
            · intro wS hSw
              obtain ⟨hS0, hS1, hS2, hS3⟩ := hSw
              go_simp
            simp only [Act.put, List.setIfInBounds_toArray, List.set_cons_zero, List.set_cons_succ]
            refine take_i (fun _ => trivial) rfl (i := 12) (d := 35) (v := .func (.yield lp) #[] #[]) rfl rfl (by kernel_rfl) (by kernel_rfl) (by kernel_rfl) (fun _ _ _ h => h) (Or.inl ⟨by kernel_rfl, ?_⟩) (by assumption) ?_
            · intro wS hSw
              obtain ⟨hS0, hS1, hS2, hS3⟩ := hSw
              go_simp
            simp only [Act.put, List.setIfInBounds_toArray, List.set_cons_zero, List.set_cons_succ]
            refine take_i (fun _ => trivial) rfl (i := 13) (d := 36) (v := .pointer (some ⟨b, 0, none⟩)) rfl rfl (by kernel_rfl) (by kernel_rfl) (by kernel_rfl) (fun _ _ _ h => h) (Or.inl ⟨by kernel_rfl, ?_⟩) (by assumption) ?_
            · intro wS hSw
              obtain ⟨hS0, hS1, hS2, hS3⟩ := hSw
              go_simp
            simp only [Act.put, List.setIfInBounds_toArray, List.set_cons_zero, List.set_cons_succ]
            refine take_i (fun _ => trivial) rfl (i := 14) (d := 37) (v := .pointer (some ⟨b, 0, none⟩)) rfl rfl (by kernel_rfl) (by kernel_rfl) (by kernel_rfl) (fun _ _ _ h => h) (Or.inl ⟨by kernel_rfl, ?_⟩) (by assumption) ?_
            · intro wS hSw
              obtain ⟨hS0, hS1, hS2, hS3⟩ := hSw
              go_simp
            simp only [Act.put, List.setIfInBounds_toArray, List.set_cons_zero, List.set_cons_succ]
            refine take_i (fun _ => trivial) rfl (i := 15) (d := 38) (v := .pointer (some ⟨b, 0, none⟩)) rfl rfl (by kernel_rfl) (by kernel_rfl) (by kernel_rfl) (fun _ _ _ h => h) (Or.inl ⟨by kernel_rfl, ?_⟩) (by assumption) ?_
            · intro wS hSw
              obtain ⟨hS0, hS1, hS2, hS3⟩ := hSw
              go_simp
            simp only [Act.put, List.setIfInBounds_toArray, List.set_cons_zero, List.set_cons_succ]
            refine take_i (fun _ => trivial) rfl (i := 16) (d := 39) (v := .int .i64 k) rfl rfl (by kernel_rfl) (by kernel_rfl) (by kernel_rfl) (fun _ _ _ h => h) (Or.inl ⟨by kernel_rfl, ?_⟩) (by assumption) ?_
            · intro wS hSw
              obtain ⟨hS0, hS1, hS2, hS3⟩ := hSw
              go_simp
            simp only [Act.put, List.setIfInBounds_toArray, List.set_cons_zero, List.set_cons_succ]
            refine take_i (fun _ => trivial) rfl (i := 17) (d := 40) (v := .pointer (some ⟨b, 0, none⟩)) rfl rfl (by kernel_rfl) (by kernel_rfl) (by kernel_rfl) (fun _ _ _ h => h) (Or.inl ⟨by kernel_rfl, ?_⟩) (by assumption) ?_
            · intro wS hSw
              obtain ⟨hS0, hS1, hS2, hS3⟩ := hSw
              go_simp
            simp only [Act.put, List.setIfInBounds_toArray, List.set_cons_zero, List.set_cons_succ]
            refine take_i (fun _ => trivial) rfl (i := 18) (d := 41) (v := .pointer (some ⟨b, 0, none⟩)) rfl rfl (by kernel_rfl) (by kernel_rfl) (by kernel_rfl) (fun _ _ _ h => h) (Or.inl ⟨by kernel_rfl, ?_⟩) (by assumption) ?_
            · intro wS hSw
              obtain ⟨hS0, hS1, hS2, hS3⟩ := hSw
              go_simp
            simp only [Act.put, List.setIfInBounds_toArray, List.set_cons_zero, List.set_cons_succ]
            refine take_i (fun _ => trivial) rfl (i := 19) (d := 42) (v := .pointer (some ⟨b, 1, none⟩)) rfl rfl (by kernel_rfl) (by kernel_rfl) (by kernel_rfl) (fun _ _ _ h => h) (Or.inl ⟨by kernel_rfl, ?_⟩) (by assumption) ?_
            · intro wS hSw
              obtain ⟨hS0, hS1, hS2, hS3⟩ := hSw
              go_simp
            simp only [Act.put, List.setIfInBounds_toArray, List.set_cons_zero, List.set_cons_succ]
            refine take_i (fun _ => trivial) rfl (i := 20) (d := 43) (v := .int .i64 v) rfl rfl (by kernel_rfl) (by kernel_rfl) (by kernel_rfl) (fun _ _ _ h => h) (Or.inl ⟨by kernel_rfl, ?_⟩) (by assumption) ?_
            · intro wS hSw
              obtain ⟨hS0, hS1, hS2, hS3⟩ := hSw
              go_simp
            simp only [Act.put, List.setIfInBounds_toArray, List.set_cons_zero, List.set_cons_succ]
            obtain ⟨fn, tm, asg, bd, hy, hR⟩ := HYX.out _ (R1.1 rfl)
            refine ready_i (i := 21) (by kernel_rfl) rfl (by kernel_rfl) (fun K hK => ?_)
            go_simp
            gi_wp2_with (refine (round_any hR).mono ?_; rintro e wB ⟨rfl, R2, K2'⟩)
            have K2 := K1.trans K2'
            refine hK.out _ _ ?_ (fun hHeld => ?_)
            · exact HC.out _ K2
            clear hK K
            refine take_i (fun _ => trivial) rfl (i := 22) (d := 45) (v := .bool false) rfl rfl (by kernel_rfl) (by kernel_rfl) (by kernel_rfl) (fun _ _ _ h => h) (Or.inl ⟨by kernel_rfl, ?_⟩) (by assumption) ?_
            · intro wS hSw
              obtain ⟨hS0, hS1, hS2, hS3⟩ := hSw
              go_simp
            simp only [Act.put, List.setIfInBounds_toArray, List.set_cons_zero, List.set_cons_succ]
            refine take_i (fun _ => trivial) rfl (i := 23) (d := 46) (v := .bool false) rfl rfl (by kernel_rfl) (by kernel_rfl) (by kernel_rfl) (fun _ _ _ h => h) (Or.inl ⟨by kernel_rfl, ?_⟩) (by assumption) ?_
            · intro wS hSw
              obtain ⟨hS0, hS1, hS2, hS3⟩ := hSw
              go_simp
            simp only [Act.put, List.setIfInBounds_toArray, List.set_cons_zero, List.set_cons_succ]
            refine take_i (fun _ => trivial) rfl (i := 24) (d := 47) (v := .bool false) rfl rfl (by kernel_rfl) (by kernel_rfl) (by kernel_rfl) (fun _ _ _ h => h) (Or.inl ⟨by kernel_rfl, ?_⟩) (by assumption) ?_
            · intro wS hSw
              obtain ⟨hS0, hS1, hS2, hS3⟩ := hSw
              go_simp
            simp only [Act.put, List.setIfInBounds_toArray, List.set_cons_zero, List.set_cons_succ]
            refine take_i (fun _ => trivial) rfl (i := 25) (d := 48) (v := undef) rfl rfl (by kernel_rfl) (by kernel_rfl) (by kernel_rfl) (fun _ _ _ h => h) (Or.inr ⟨by kernel_rfl, rfl⟩) (by assumption) ?_
            simp only [Act.put, List.setIfInBounds_toArray, List.set_cons_zero, List.set_cons_succ]
            refine take_i (fun _ => trivial) rfl (i := 26) (d := 49) (v := undef) rfl rfl (by kernel_rfl) (by kernel_rfl) (by kernel_rfl) (fun _ _ _ h => h) (Or.inr ⟨by kernel_rfl, rfl⟩) (by assumption) ?_
            simp only [Act.put, List.setIfInBounds_toArray, List.set_cons_zero, List.set_cons_succ]
            refine take_i (fun _ => trivial) rfl (i := 27) (d := 50) (v := undef) rfl rfl (by kernel_rfl) (by kernel_rfl) (by kernel_rfl) (fun _ _ _ h => h) (Or.inr ⟨by kernel_rfl, rfl⟩) (by assumption) ?_
            simp only [Act.put, List.setIfInBounds_toArray, List.set_cons_zero, List.set_cons_succ]
            refine take_i (fun _ => trivial) rfl (i := 28) (d := 51) (v := undef) rfl rfl (by kernel_rfl) (by kernel_rfl) (by kernel_rfl) (fun _ _ _ h => h) (Or.inr ⟨by kernel_rfl, rfl⟩) (by assumption) ?_
            simp only [Act.put, List.setIfInBounds_toArray, List.set_cons_zero, List.set_cons_succ]
            refine take_i (fun _ => trivial) rfl (i := 29) (d := 52) (v := undef) rfl rfl (by kernel_rfl) (by kernel_rfl) (by kernel_rfl) (fun _ _ _ h => h) (Or.inr ⟨by kernel_rfl, rfl⟩) (by assumption) ?_
            simp only [Act.put, List.setIfInBounds_toArray, List.set_cons_zero, List.set_cons_succ]
            refine take_i (fun _ => trivial) rfl (i := 30) (d := 53) (v := undef) rfl rfl (by kernel_rfl) (by kernel_rfl) (by kernel_rfl) (fun _ _ _ h => h) (Or.inr ⟨by kernel_rfl, rfl⟩) (by assumption) ?_
            simp only [Act.put, List.setIfInBounds_toArray, List.set_cons_zero, List.set_cons_succ]
            refine take_i (fun _ => trivial) rfl (i := 31) (d := 54) (v := undef) rfl rfl (by kernel_rfl) (by kernel_rfl) (by kernel_rfl) (fun _ _ _ h => h) (Or.inr ⟨by kernel_rfl, rfl⟩) (by assumption) ?_
            simp only [Act.put, List.setIfInBounds_toArray, List.set_cons_zero, List.set_cons_succ]
            refine take_i (fun _ => trivial) rfl (i := 32) (d := 55) (v := undef) rfl rfl (by kernel_rfl) (by kernel_rfl) (by kernel_rfl) (fun _ _ _ h => h) (Or.inr ⟨by kernel_rfl, rfl⟩) (by assumption) ?_
            simp only [Act.put, List.setIfInBounds_toArray, List.set_cons_zero, List.set_cons_succ]
            refine take_i (fun _ => trivial) rfl (i := 33) (d := 56) (v := undef) rfl rfl (by kernel_rfl) (by kernel_rfl) (by kernel_rfl) (fun _ _ _ h => h) (Or.inr ⟨by kernel_rfl, rfl⟩) (by assumption) ?_
            simp only [Act.put, List.setIfInBounds_toArray, List.set_cons_zero, List.set_cons_succ]
            refine take_i (fun _ => trivial) rfl (i := 34) (d := 57) (v := undef) rfl rfl (by kernel_rfl) (by kernel_rfl) (by kernel_rfl) (fun _ _ _ h => h) (Or.inr ⟨by kernel_rfl, rfl⟩) (by assumption) ?_
            simp only [Act.put, List.setIfInBounds_toArray, List.set_cons_zero, List.set_cons_succ]
            refine take_i (fun _ => trivial) rfl (i := 35) (d := 58) (v := .bool false) rfl rfl (by kernel_rfl) (by kernel_rfl) (by kernel_rfl) (fun _ _ _ h => h) (Or.inl ⟨by kernel_rfl, ?_⟩) (by assumption) ?_
            · intro wS hSw
              obtain ⟨hS0, hS1, hS2, hS3⟩ := hSw
              go_simp
            simp only [Act.put, List.setIfInBounds_toArray, List.set_cons_zero, List.set_cons_succ]
            refine take_i (fun _ => trivial) rfl (i := 36) (d := 6) (v := .bool false) rfl rfl (by kernel_rfl) (by kernel_rfl) (by kernel_rfl) (fun _ _ _ h => h) (Or.inl ⟨by kernel_rfl, ?_⟩) (by assumption) ?_
            · intro wS hSw
              obtain ⟨hS0, hS1, hS2, hS3⟩ := hSw
              go_simp
            simp only [Act.put, List.setIfInBounds_toArray, List.set_cons_zero, List.set_cons_succ]
            refine done_i (by kernel_rfl) ?_ _
            gi_wp2
            go_ret
            exact ⟨rfl, ⟨fun h => (by cases h), fun _ => R2.2 rfl⟩, K2⟩
          | true =>
            refine (callsIn_wide (n := 2)).1 ?_
            refine callsIn_of_wp Try.func49 rfl trivial ?_ rfl
            simp only [Try.ntmps49, List.size_toArray, List.length_cons, List.length_nil, Nat.reduceAdd, Nat.reduceSub, Array.replicate_succ, Array.replicate_zero, List.push_toArray, List.append_toArray, List.nil_append, List.cons_append]
            gi_wp2_with (first | (refine ⟨trivial, ?_⟩; gi_at_call 45; refine (callsIn_wide.2 HEN.out).mono ?_; rintro e w1 ⟨rfl, rfl⟩))
            refine region_i (S := (fun w' => w'.cell? ⟨b, 2, none⟩ = some (.pointer pl) ∧ w'.cell? ⟨b, 0, none⟩ = some (.int .i64 k) ∧ w'.cell? ⟨b, 1, none⟩ = some (.int .i64 v) ∧ w'.cell? ⟨b, 3, none⟩ = some (.pointer pr))) (by kernel_rfl) (HC.out _ HKD.out) (fun hHeld => ?_)
            refine take_i (fun _ => trivial) rfl (i := 0) (d := 23) (v := .pointer (some ⟨b, 0, none⟩)) rfl rfl (by kernel_rfl) (by kernel_rfl) (by kernel_rfl) (fun _ _ _ h => h) (Or.inl ⟨by kernel_rfl, ?_⟩) (by assumption) ?_
            · intro wS hSw
              obtain ⟨hS0, hS1, hS2, hS3⟩ := hSw
              go_simp
            simp only [Act.put, List.setIfInBounds_toArray, List.set_cons_zero, List.set_cons_succ]
            refine take_i (fun _ => trivial) rfl (i := 1) (d := 24) (v := .pointer (some ⟨b, 0, none⟩)) rfl rfl (by kernel_rfl) (by kernel_rfl) (by kernel_rfl) (fun _ _ _ h => h) (Or.inl ⟨by kernel_rfl, ?_⟩) (by assumption) ?_
            · intro wS hSw
              obtain ⟨hS0, hS1, hS2, hS3⟩ := hSw
              go_simp
            simp only [Act.put, List.setIfInBounds_toArray, List.set_cons_zero, List.set_cons_succ]
            refine take_i (fun _ => trivial) rfl (i := 2) (d := 25) (v := .pointer (some ⟨b, 2, none⟩)) rfl rfl (by kernel_rfl) (by kernel_rfl) (by kernel_rfl) (fun _ _ _ h => h) (Or.inl ⟨by kernel_rfl, ?_⟩) (by assumption) ?_
            · intro wS hSw
              obtain ⟨hS0, hS1, hS2, hS3⟩ := hSw
              go_simp
            simp only [Act.put, List.setIfInBounds_toArray, List.set_cons_zero, List.set_cons_succ]
            refine take_i (fun _ => trivial) rfl (i := 3) (d := 26) (v := .pointer pl) rfl rfl (by kernel_rfl) (by kernel_rfl) (by kernel_rfl) (fun _ _ _ h => h) (Or.inl ⟨by kernel_rfl, ?_⟩) (by assumption) ?_
            · intro wS hSw
              obtain ⟨hS0, hS1, hS2, hS3⟩ := hSw
              go_simp
            simp only [Act.put, List.setIfInBounds_toArray, List.set_cons_zero, List.set_cons_succ]
            refine take_i (fun _ => trivial) rfl (i := 4) (d := 27) (v := .int .i64 place) rfl rfl (by kernel_rfl) (by kernel_rfl) (by kernel_rfl) (fun _ _ _ h => h) (Or.inl ⟨by kernel_rfl, ?_⟩) (by assumption) ?_
            · intro wS hSw
              obtain ⟨hS0, hS1, hS2, hS3⟩ := hSw
              go_simp
            simp only [Act.put, List.setIfInBounds_toArray, List.set_cons_zero, List.set_cons_succ]
            refine take_i (fun _ => trivial) rfl (i := 5) (d := 28) (v := .func (.yield lp) #[] #[]) rfl rfl (by kernel_rfl) (by kernel_rfl) (by kernel_rfl) (fun _ _ _ h => h) (Or.inl ⟨by kernel_rfl, ?_⟩) (by assumption) ?_
            · intro wS hSw
              obtain ⟨hS0, hS1, hS2, hS3⟩ := hSw
              go_simp
            simp only [Act.put, List.setIfInBounds_toArray, List.set_cons_zero, List.set_cons_succ]
            refine ready_i (i := 6) (by kernel_rfl) rfl (by kernel_rfl) (fun K hK => ?_)
            go_simp
            gi_wp2_with (refine ⟨trivial, ?_⟩; gi_at_call 49; refine (callsIn_wide.2 HU1.out).mono ?_; rintro e wA ⟨rfl, R1, K1'⟩)
            have K1 := HKD.out.trans K1'
            refine hK.out _ _ ?_ (fun hHeld => ?_)
            · exact HC.out _ K1
            clear hK K
            refine take_i (fun _ => trivial) rfl (i := 7) (d := 30) (v := .bool true) rfl rfl (by kernel_rfl) (by kernel_rfl) (by kernel_rfl) (fun _ _ _ h => h) (Or.inl ⟨by kernel_rfl, ?_⟩) (by assumption) ?_
            · intro wS hSw
              obtain ⟨hS0, hS1, hS2, hS3⟩ := hSw
              go_simp
            simp only [Act.put, List.setIfInBounds_toArray, List.set_cons_zero, List.set_cons_succ]
            refine take_i (fun _ => trivial) rfl (i := 8) (d := 31) (v := .int .i64 (cl : Int)) rfl rfl (by kernel_rfl) (by kernel_rfl) (by kernel_rfl) (fun _ _ _ h => h) (Or.inl ⟨by kernel_rfl, ?_⟩) (by assumption) ?_
            · intro wS hSw
              obtain ⟨hS0, hS1, hS2, hS3⟩ := hSw
              go_simp
            simp only [Act.put, List.setIfInBounds_toArray, List.set_cons_zero, List.set_cons_succ]
            refine take_i (fun _ => trivial) rfl (i := 9) (d := 32) (v := .int .i64 place) rfl rfl (by kernel_rfl) (by kernel_rfl) (by kernel_rfl) (fun _ _ _ h => h) (Or.inl ⟨by kernel_rfl, ?_⟩) (by assumption) ?_
            · intro wS hSw
              obtain ⟨hS0, hS1, hS2, hS3⟩ := hSw
              go_simp
            simp only [Act.put, List.setIfInBounds_toArray, List.set_cons_zero, List.set_cons_succ]
            refine take_i (fun _ => trivial) rfl (i := 10) (d := 33) (v := .bool false) rfl rfl (by kernel_rfl) (by kernel_rfl) (by kernel_rfl) (fun _ _ _ h => h) (Or.inl ⟨by kernel_rfl, ?_⟩) (by assumption) ?_
            · intro wS hSw
              obtain ⟨hS0, hS1, hS2, hS3⟩ := hSw
              go_simp
            simp only [Act.put, List.setIfInBounds_toArray, List.set_cons_zero, List.set_cons_succ]
            refine take_i (fun _ => trivial) rfl (i := 11) (d := 34) (v := .bool false) rfl rfl (by kernel_rfl) (by kernel_rfl) (by kernel_rfl) (fun _ _ _ h => h) (Or.inl ⟨by kernel_rfl, ?_⟩) (by assumption) ?_
            · intro wS hSw
              obtain ⟨hS0, hS1, hS2, hS3⟩ := hSw
              go_simp
            simp only [Act.put, List.setIfInBounds_toArray, List.set_cons_zero, List.set_cons_succ]
            refine take_i (fun _ => trivial) rfl (i := 12) (d := 35) (v := .func (.yield lp) #[] #[]) rfl rfl (by kernel_rfl) (by kernel_rfl) (by kernel_rfl) (fun _ _ _ h => h) (Or.inl ⟨by kernel_rfl, ?_⟩) (by assumption) ?_
            · intro wS hSw
              obtain ⟨hS0, hS1, hS2, hS3⟩ := hSw
              go_simp
            simp only [Act.put, List.setIfInBounds_toArray, List.set_cons_zero, List.set_cons_succ]
            refine take_i (fun _ => trivial) rfl (i := 13) (d := 36) (v := .pointer (some ⟨b, 0, none⟩)) rfl rfl (by kernel_rfl) (by kernel_rfl) (by kernel_rfl) (fun _ _ _ h => h) (Or.inl ⟨by kernel_rfl, ?_⟩) (by assumption) ?_
            · intro wS hSw
              obtain ⟨hS0, hS1, hS2, hS3⟩ := hSw
              go_simp
            simp only [Act.put, List.setIfInBounds_toArray, List.set_cons_zero, List.set_cons_succ]
            refine take_i (fun _ => trivial) rfl (i := 14) (d := 37) (v := .pointer (some ⟨b, 0, none⟩)) rfl rfl (by kernel_rfl) (by kernel_rfl) (by kernel_rfl) (fun _ _ _ h => h) (Or.inl ⟨by kernel_rfl, ?_⟩) (by assumption) ?_
            · intro wS hSw
              obtain ⟨hS0, hS1, hS2, hS3⟩ := hSw
              go_simp
            simp only [Act.put, List.setIfInBounds_toArray, List.set_cons_zero, List.set_cons_succ]
            refine take_i (fun _ => trivial) rfl (i := 15) (d := 38) (v := .pointer (some ⟨b, 0, none⟩)) rfl rfl (by kernel_rfl) (by kernel_rfl) (by kernel_rfl) (fun _ _ _ h => h) (Or.inl ⟨by kernel_rfl, ?_⟩) (by assumption) ?_
            · intro wS hSw
              obtain ⟨hS0, hS1, hS2, hS3⟩ := hSw
              go_simp
            simp only [Act.put, List.setIfInBounds_toArray, List.set_cons_zero, List.set_cons_succ]
            refine take_i (fun _ => trivial) rfl (i := 16) (d := 39) (v := .int .i64 k) rfl rfl (by kernel_rfl) (by kernel_rfl) (by kernel_rfl) (fun _ _ _ h => h) (Or.inl ⟨by kernel_rfl, ?_⟩) (by assumption) ?_
            · intro wS hSw
              obtain ⟨hS0, hS1, hS2, hS3⟩ := hSw
              go_simp
            simp only [Act.put, List.setIfInBounds_toArray, List.set_cons_zero, List.set_cons_succ]
            refine take_i (fun _ => trivial) rfl (i := 17) (d := 40) (v := .pointer (some ⟨b, 0, none⟩)) rfl rfl (by kernel_rfl) (by kernel_rfl) (by kernel_rfl) (fun _ _ _ h => h) (Or.inl ⟨by kernel_rfl, ?_⟩) (by assumption) ?_
            · intro wS hSw
              obtain ⟨hS0, hS1, hS2, hS3⟩ := hSw
              go_simp
            simp only [Act.put, List.setIfInBounds_toArray, List.set_cons_zero, List.set_cons_succ]
            refine take_i (fun _ => trivial) rfl (i := 18) (d := 41) (v := .pointer (some ⟨b, 0, none⟩)) rfl rfl (by kernel_rfl) (by kernel_rfl) (by kernel_rfl) (fun _ _ _ h => h) (Or.inl ⟨by kernel_rfl, ?_⟩) (by assumption) ?_
            · intro wS hSw
              obtain ⟨hS0, hS1, hS2, hS3⟩ := hSw
              go_simp
            simp only [Act.put, List.setIfInBounds_toArray, List.set_cons_zero, List.set_cons_succ]
            refine take_i (fun _ => trivial) rfl (i := 19) (d := 42) (v := .pointer (some ⟨b, 1, none⟩)) rfl rfl (by kernel_rfl) (by kernel_rfl) (by kernel_rfl) (fun _ _ _ h => h) (Or.inl ⟨by kernel_rfl, ?_⟩) (by assumption) ?_
            · intro wS hSw
              obtain ⟨hS0, hS1, hS2, hS3⟩ := hSw
              go_simp
            simp only [Act.put, List.setIfInBounds_toArray, List.set_cons_zero, List.set_cons_succ]
            refine take_i (fun _ => trivial) rfl (i := 20) (d := 43) (v := .int .i64 v) rfl rfl (by kernel_rfl) (by kernel_rfl) (by kernel_rfl) (fun _ _ _ h => h) (Or.inl ⟨by kernel_rfl, ?_⟩) (by assumption) ?_
            · intro wS hSw
              obtain ⟨hS0, hS1, hS2, hS3⟩ := hSw
              go_simp
            simp only [Act.put, List.setIfInBounds_toArray, List.set_cons_zero, List.set_cons_succ]
            obtain ⟨fn, tm, asg, bd, hy, hR⟩ := HYX.out _ (R1.1 rfl)
            refine ready_i (i := 21) (by kernel_rfl) rfl (by kernel_rfl) (fun K hK => ?_)
            go_simp
            gi_wp2_with (refine (round_any hR).mono ?_; rintro e wB ⟨rfl, R2, K2'⟩)
            have K2 := K1.trans K2'
            refine hK.out _ _ ?_ (fun hHeld => ?_)
            · exact HC.out _ K2
            clear hK K
            refine take_i (fun _ => trivial) rfl (i := 22) (d := 45) (v := .bool true) rfl rfl (by kernel_rfl) (by kernel_rfl) (by kernel_rfl) (fun _ _ _ h => h) (Or.inl ⟨by kernel_rfl, ?_⟩) (by assumption) ?_
            · intro wS hSw
              obtain ⟨hS0, hS1, hS2, hS3⟩ := hSw
              go_simp
            simp only [Act.put, List.setIfInBounds_toArray, List.set_cons_zero, List.set_cons_succ]
            refine take_i (fun _ => trivial) rfl (i := 23) (d := 46) (v := .bool true) rfl rfl (by kernel_rfl) (by kernel_rfl) (by kernel_rfl) (fun _ _ _ h => h) (Or.inl ⟨by kernel_rfl, ?_⟩) (by assumption) ?_
            · intro wS hSw
              obtain ⟨hS0, hS1, hS2, hS3⟩ := hSw
              go_simp
            simp only [Act.put, List.setIfInBounds_toArray, List.set_cons_zero, List.set_cons_succ]
            refine take_i (fun _ => trivial) rfl (i := 24) (d := 47) (v := .bool true) rfl rfl (by kernel_rfl) (by kernel_rfl) (by kernel_rfl) (fun _ _ _ h => h) (Or.inl ⟨by kernel_rfl, ?_⟩) (by assumption) ?_
            · intro wS hSw
              obtain ⟨hS0, hS1, hS2, hS3⟩ := hSw
              go_simp
            simp only [Act.put, List.setIfInBounds_toArray, List.set_cons_zero, List.set_cons_succ]
            refine take_i (fun _ => trivial) rfl (i := 25) (d := 48) (v := .pointer (some ⟨b, 0, none⟩)) rfl rfl (by kernel_rfl) (by kernel_rfl) (by kernel_rfl) (fun _ _ _ h => h) (Or.inl ⟨by kernel_rfl, ?_⟩) (by assumption) ?_
            · intro wS hSw
              obtain ⟨hS0, hS1, hS2, hS3⟩ := hSw
              go_simp
            simp only [Act.put, List.setIfInBounds_toArray, List.set_cons_zero, List.set_cons_succ]
            refine take_i (fun _ => trivial) rfl (i := 26) (d := 49) (v := .pointer (some ⟨b, 0, none⟩)) rfl rfl (by kernel_rfl) (by kernel_rfl) (by kernel_rfl) (fun _ _ _ h => h) (Or.inl ⟨by kernel_rfl, ?_⟩) (by assumption) ?_
            · intro wS hSw
              obtain ⟨hS0, hS1, hS2, hS3⟩ := hSw
              go_simp
            simp only [Act.put, List.setIfInBounds_toArray, List.set_cons_zero, List.set_cons_succ]
            refine take_i (fun _ => trivial) rfl (i := 27) (d := 50) (v := .pointer (some ⟨b, 3, none⟩)) rfl rfl (by kernel_rfl) (by kernel_rfl) (by kernel_rfl) (fun _ _ _ h => h) (Or.inl ⟨by kernel_rfl, ?_⟩) (by assumption) ?_
            · intro wS hSw
              obtain ⟨hS0, hS1, hS2, hS3⟩ := hSw
              go_simp
            simp only [Act.put, List.setIfInBounds_toArray, List.set_cons_zero, List.set_cons_succ]
            refine take_i (fun _ => trivial) rfl (i := 28) (d := 51) (v := .pointer pr) rfl rfl (by kernel_rfl) (by kernel_rfl) (by kernel_rfl) (fun _ _ _ h => h) (Or.inl ⟨by kernel_rfl, ?_⟩) (by assumption) ?_
            · intro wS hSw
              obtain ⟨hS0, hS1, hS2, hS3⟩ := hSw
              go_simp
            simp only [Act.put, List.setIfInBounds_toArray, List.set_cons_zero, List.set_cons_succ]
            refine take_i (fun _ => trivial) rfl (i := 29) (d := 52) (v := .int .i64 place) rfl rfl (by kernel_rfl) (by kernel_rfl) (by kernel_rfl) (fun _ _ _ h => h) (Or.inl ⟨by kernel_rfl, ?_⟩) (by assumption) ?_
            · intro wS hSw
              obtain ⟨hS0, hS1, hS2, hS3⟩ := hSw
              go_simp
            simp only [Act.put, List.setIfInBounds_toArray, List.set_cons_zero, List.set_cons_succ]
            refine take_i (fun _ => trivial) rfl (i := 30) (d := 53) (v := .int .i64 (cl : Int)) rfl rfl (by kernel_rfl) (by kernel_rfl) (by kernel_rfl) (fun _ _ _ h => h) (Or.inl ⟨by kernel_rfl, ?_⟩) (by assumption) ?_
            · intro wS hSw
              obtain ⟨hS0, hS1, hS2, hS3⟩ := hSw
              go_simp
            simp only [Act.put, List.setIfInBounds_toArray, List.set_cons_zero, List.set_cons_succ]
            refine take_i (fun _ => trivial) rfl (i := 31) (d := 54) (v := .int .i64 (place - (cl : Int))) rfl rfl (by kernel_rfl) (by kernel_rfl) (by kernel_rfl) (fun _ _ _ h => h) (Or.inl ⟨by kernel_rfl, ?_⟩) (by assumption) ?_
            · intro wS hSw
              obtain ⟨hS0, hS1, hS2, hS3⟩ := hSw
              go_simp
            simp only [Act.put, List.setIfInBounds_toArray, List.set_cons_zero, List.set_cons_succ]
            refine take_i (fun _ => trivial) rfl (i := 32) (d := 55) (v := .int .i64 (place - (cl : Int) - 1)) rfl rfl (by kernel_rfl) (by kernel_rfl) (by kernel_rfl) (fun _ _ _ h => h) (Or.inl ⟨by kernel_rfl, ?_⟩) (by assumption) ?_
            · intro wS hSw
              obtain ⟨hS0, hS1, hS2, hS3⟩ := hSw
              go_simp
            simp only [Act.put, List.setIfInBounds_toArray, List.set_cons_zero, List.set_cons_succ]
            refine take_i (fun _ => trivial) rfl (i := 33) (d := 56) (v := .func (.yield lp) #[] #[]) rfl rfl (by kernel_rfl) (by kernel_rfl) (by kernel_rfl) (fun _ _ _ h => h) (Or.inl ⟨by kernel_rfl, ?_⟩) (by assumption) ?_
            · intro wS hSw
              obtain ⟨hS0, hS1, hS2, hS3⟩ := hSw
              go_simp
            simp only [Act.put, List.setIfInBounds_toArray, List.set_cons_zero, List.set_cons_succ]
            refine ready_i (i := 34) (by kernel_rfl) rfl (by kernel_rfl) (fun K hK => ?_)
            go_simp
            gi_wp2_with (refine ⟨trivial, ?_⟩; gi_at_call 49; refine (callsIn_wide.2 (HUR.out _ K2 (R2.1 rfl))).mono ?_; rintro e wC ⟨rfl, RZ, KZ'⟩)
            have KZ := K2.trans KZ'
            refine hK.out _ _ ?_ (fun hHeld => ?_)
            · exact HC.out _ KZ
            clear hK K
            refine take_i (fun _ => trivial) rfl (i := 35) (d := 58) (v := .bool b3) rfl rfl (by kernel_rfl) (by kernel_rfl) (by kernel_rfl) (fun _ _ _ h => h) (Or.inl ⟨by kernel_rfl, ?_⟩) (by assumption) ?_
            · intro wS hSw
              obtain ⟨hS0, hS1, hS2, hS3⟩ := hSw
              go_simp
            simp only [Act.put, List.setIfInBounds_toArray, List.set_cons_zero, List.set_cons_succ]
            refine take_i (fun _ => trivial) rfl (i := 36) (d := 6) (v := .bool b3) rfl rfl (by kernel_rfl) (by kernel_rfl) (by kernel_rfl) (fun _ _ _ h => h) (Or.inl ⟨by kernel_rfl, ?_⟩) (by assumption) ?_
            · intro wS hSw
              obtain ⟨hS0, hS1, hS2, hS3⟩ := hSw
              go_simp
            simp only [Act.put, List.setIfInBounds_toArray, List.set_cons_zero, List.set_cons_succ]
            refine done_i (by kernel_rfl) ?_ _
            gi_wp2
            go_ret
            exact ⟨rfl, RZ, KZ⟩
end
end Rk
end Go.Proofs.Ytahkmdbbicpfcaa
