
/- Trees of int,int: first, without. -/
import Derived.Test.YtahkmdbbicpfcaaRkIWith
namespace Go.Proofs.Ytahkmdbbicpfcaa
open Go.RowKit
namespace Rk
/-- what first answers: a node with the first entry, and the tree without it -/
def LeastI (x : Int × Int) (T : Tr Int Int) (w : World) (e : Ending) (w' : World) : Prop := ∃ b p, e = .returned (.tuple #[.pointer (some ⟨b, 0, none⟩), .pointer p]) ∧ KvI w' b x.1 x.2 ∧ InI w' T p ∧ Below w.heap.size w w'
set_option maxRecDepth 100000 in
set_option maxHeartbeats 4000000 in
theorem first_I : ∀ (l : Tr Int Int) (k : Int) (v : Int) (r : Tr Int Int) (p : Option Addr) (w : World), (Tr.node k v l r).cnt ≤ 80000 → InI w (.node k v l r) p →
    Calls Try.prog 47 #[.pointer p] w (LeastI (Tr.fst k v l r).1 (Tr.fst k v l r).2 w) := by
  intro l
  induction l with
  | nil =>
    intro k v r p w _ h
    obtain ⟨b, pl, pr, rfl, hb, hl, hr⟩ := h.open
    obtain rfl : pl = none := hl
    have h2 : w.cell? ⟨b, 2, none⟩ = some (.pointer none) := (hb.cl 2 _ rfl).1
    have h3 : w.cell? ⟨b, 3, none⟩ = some (.pointer pr) := (hb.cl 3 _ rfl).1
    have HFIN : Hid (LeastI (k, v) r w (.returned (.tuple #[.pointer (some ⟨b, 0, none⟩), .pointer pr])) w.drew) := ⟨b, pr, rfl, (InI.kv hb).below (below_dr0 w), hr.below (below_dr0 w), below_dr0 w⟩
    clear h hb hr
    go_enter Try.func47, Try.ntmps47
    go_wp2_with fail
    go_region_held3 (fun w' => w'.cell? ⟨b, 3, none⟩ = some (.pointer pr)) (first | go_keep) (first | fail)
    go_wp2
    go_ret2
    exact HFIN.out
  | node lk lv ll lr ihl _ =>
    intro k v r p w hcnt h
    obtain ⟨b, pl, pr, rfl, hb, hl, hr⟩ := h.open
    have hcn : (Tr.node k v (.node lk lv ll lr) r).cnt = (Tr.node lk lv ll lr).cnt + 1 + r.cnt := rfl
    have hfc := fst_cnt lk lv ll lr
    have hlt := hb.lt
    have hkv := InI.kv hb
    have h2 : w.cell? ⟨b, 2, none⟩ = some (.pointer pl) := (hb.cl 2 _ rfl).1
    have h3 : w.cell? ⟨b, 3, none⟩ = some (.pointer pr) := (hb.cl 3 _ rfl).1
    have HF := Lib.hid (ihl lk lv lr pl w (by omega) hl)
    have HE : Hid (∀ w' p1, Below w.heap.size w w' → InI w' (Tr.fst lk lv ll lr).2 p1 → Calls Try.prog 46 #[.pointer (some ⟨b, 0, none⟩), .pointer p1, .pointer pr] w' (TreeI (.even k v (Tr.fst lk lv ll lr).2 r) w')) := fun w' p1 hb' h1 => even_I' b k v _ r p1 pr (by omega) hkv w' hb' h1 (hr.below hb')
    have HC3 : Hid (∀ w', Below w.heap.size w w' → w'.cell? ⟨b, 3, none⟩ = some (.pointer pr)) := fun w' hb' => (hb'.cell hlt).trans h3
    have e1 : (Tr.fst k v (.node lk lv ll lr) r) = ((Tr.fst lk lv ll lr).1, .even k v (Tr.fst lk lv ll lr).2 r) := rfl
    rw [e1]
    obtain ⟨bl, pll, plr, rfl, -, -, -⟩ := hl.open
    clear ihl hcnt h hb hl hr hkv hcn hlt hfc e1
    go_enter Try.func47, Try.ntmps47
    go_wp2_with fail
    refine HF.out.mono ?_
    rintro e w1 ⟨b1, p1, rfl, hk1, hi1, hb1⟩
    have h31 := HC3.out w1 hb1
    have HE1 := Lib.hid (HE.out w1 p1 hb1 hi1)
    go_wp2_with fail
    refine HE1.out.mono ?_
    rintro e w2 ⟨p2, rfl, hi2, hb2⟩
    go_wp2
    go_ret2
    exact ⟨b1, p2, rfl, hk1.below hb2, hi2, below_step hb1 (Nat.le_refl _) hb2⟩
set_option maxRecDepth 100000 in
set_option maxHeartbeats 4000000 in
theorem without_I (R : Nat) (k : Int) : ∀ (T : Tr Int Int) (p : Option Addr) (w : World), T.cnt ≤ 80000 → RcI w R → InI w T p →
    Calls Try.prog 40 #[.pointer (some ⟨R, 0, none⟩), .pointer p, .int .i64 k] w (TreeI (T.del cI k) w) := by
  intro T
  induction T with
  | nil =>
    intro p w _ _ h
    obtain rfl : p = none := h
    go_enter Try.func40, Try.ntmps40
    go_wp2
    go_ret
    exact ⟨none, rfl, rfl, Below.refl _ _⟩
  | node nk nv l r ihl ihr =>
    intro p w hcnt hR h
    obtain ⟨b, pl, pr, rfl, hb, hl, hr⟩ := h.open
    have hkv := InI.kv hb
    have hcn : (Tr.node nk nv l r).cnt = l.cnt + 1 + r.cnt := rfl
    have hlt := hb.lt
    have h0 : w.cell? ⟨b, 0, none⟩ = some (.int .i64 nk) := (hb.cl 0 _ rfl).1
    have h2 : w.cell? ⟨b, 2, none⟩ = some (.pointer pl) := (hb.cl 2 _ rfl).1
    have h3 : w.cell? ⟨b, 3, none⟩ = some (.pointer pr) := (hb.cl 3 _ rfl).1
    have hR0 := hR.2
    have HCM := Lib.hid (cmpI_any k nk w.drew)
    unfold Tr.del
    have HC : Hid (∀ w', Below w.heap.size w w' → w'.cell? ⟨b, 2, none⟩ = some (.pointer pl) ∧ w'.cell? ⟨b, 3, none⟩ = some (.pointer pr)) := fun w' hb' => ⟨(hb'.cell hlt).trans h2, (hb'.cell hlt).trans h3⟩
    by_cases hc1 : cI k nk < 0
    · rw [if_pos hc1]
      have hci := del_cnt (c := cI) k l
      have HW : Hid (∀ w', Below w.heap.size w w' → Calls Try.prog 40 #[.pointer (some ⟨R, 0, none⟩), .pointer pl, .int .i64 k] w' (TreeI (l.del cI k) w')) := fun w' hb' => ihl pl w' (by omega) (hR.below hb') (hl.below hb')
      have HE : Hid (∀ w' p1, Below w.heap.size w w' → InI w' (l.del cI k) p1 → Calls Try.prog 46 #[.pointer (some ⟨b, 0, none⟩), .pointer p1, .pointer pr] w' (TreeI (.even nk nv (l.del cI k) r) w')) := fun w' p1 hb' h1 => even_I' b nk nv _ r p1 pr (by omega) hkv w' hb' h1 (hr.below hb')
      generalize cI k nk = c at HCM hc1
      clear ihl ihr hcnt hR h hb hl hr hkv hcn hlt hci
      go_enter Try.func40, Try.ntmps40
      go_wp2_with fail
      go_region_held3 (fun w' => w'.cell? ⟨R, 0, none⟩ = some (.func (.func 38) #[] #[]) ∧ w'.cell? ⟨b, 0, none⟩ = some (.int .i64 nk)) (first | go_keep)
        (first
          | (go_at_call 38; refine HCM.out.mono ?_; rintro e wE ⟨rfl, rfl⟩))
      go_wp2_with fail
      go_region_held3 (fun w' => w'.cell? ⟨b, 2, none⟩ = some (.pointer pl) ∧ w'.cell? ⟨b, 3, none⟩ = some (.pointer pr)) (first | go_keep | exact HC.out _ B1 | exact HC.out _ B2)
        (first
          | (go_at_call 46; refine (HE.out _ p1 B1 I1).mono ?_; rintro e wB ⟨p2, rfl, I2, B2'⟩; have B2 := below_step B1 (Nat.le_refl _) B2')
          | (go_at_call 40; refine (HW.out _ (below_dr (below_dr0 _))).mono ?_; rintro e wA ⟨p1, rfl, I1, B1'⟩; have B1 := below_step (below_dr (below_dr0 _)) (Nat.le_refl _) B1'))
      all_goals
        go_wp2
        go_ret
        exact ⟨p2, rfl, I2, B2⟩
    · rw [if_neg hc1]
      by_cases hc2 : 0 < cI k nk
      · rw [if_pos hc2]
        have hci := del_cnt (c := cI) k r
        have HW : Hid (∀ w', Below w.heap.size w w' → Calls Try.prog 40 #[.pointer (some ⟨R, 0, none⟩), .pointer pr, .int .i64 k] w' (TreeI (r.del cI k) w')) := fun w' hb' => ihr pr w' (by omega) (hR.below hb') (hr.below hb')
        have HE : Hid (∀ w' p1, Below w.heap.size w w' → InI w' (r.del cI k) p1 → Calls Try.prog 46 #[.pointer (some ⟨b, 0, none⟩), .pointer pl, .pointer p1] w' (TreeI (.even nk nv l (r.del cI k)) w')) := fun w' p1 hb' h1 => even_I' b nk nv l _ pl p1 (by omega) hkv w' hb' (hl.below hb') h1
        generalize cI k nk = c at HCM hc1 hc2
        clear ihl ihr hcnt hR h hb hl hr hkv hcn hlt hci
        go_enter Try.func40, Try.ntmps40
        go_wp2_with fail
        go_region_held3 (fun w' => w'.cell? ⟨R, 0, none⟩ = some (.func (.func 38) #[] #[]) ∧ w'.cell? ⟨b, 0, none⟩ = some (.int .i64 nk)) (first | go_keep)
          (first
            | (go_at_call 38; refine HCM.out.mono ?_; rintro e wE ⟨rfl, rfl⟩))
        go_wp2_with fail
        go_region_held3 (fun w' => w'.cell? ⟨b, 2, none⟩ = some (.pointer pl) ∧ w'.cell? ⟨b, 3, none⟩ = some (.pointer pr)) (first | go_keep | exact HC.out _ B1 | exact HC.out _ B2)
          (first
            | (go_at_call 46; refine (HE.out _ p1 B1 I1).mono ?_; rintro e wB ⟨p2, rfl, I2, B2'⟩; have B2 := below_step B1 (Nat.le_refl _) B2')
            | (go_at_call 40; refine (HW.out _ (below_dr (below_dr0 _))).mono ?_; rintro e wA ⟨p1, rfl, I1, B1'⟩; have B1 := below_step (below_dr (below_dr0 _)) (Nat.le_refl _) B1'))
        all_goals
          go_wp2
          go_ret
          exact ⟨p2, rfl, I2, B2⟩
      · rw [if_neg hc2]
        have hcz : cI k nk = 0 := by omega
        rw [hcz] at HCM
        cases r with
        | nil =>
          obtain rfl : pr = none := hr
          have HFIN : Hid (TreeI l w (.returned (.pointer pl)) w.drew) := ⟨pl, rfl, hl.below (below_dr0 w), below_dr0 w⟩
          clear hc1 hc2 hcz ihl ihr hcnt hR h hb hl hkv hcn HC
          go_enter Try.func40, Try.ntmps40
          go_wp2_with fail
          go_region_held3 (fun w' => w'.cell? ⟨R, 0, none⟩ = some (.func (.func 38) #[] #[]) ∧ w'.cell? ⟨b, 0, none⟩ = some (.int .i64 nk)) (first | go_keep)
            (first
              | (go_at_call 38; refine HCM.out.mono ?_; rintro e wE ⟨rfl, rfl⟩))
          go_wp2
          go_ret
          exact HFIN.out
        | node rk rv rl rr =>
          have hfc := fst_cnt rk rv rl rr
          have HF := Lib.hid (first_I rl rk rv rr pr w.drew (by omega) (hr.below (below_dr0 w)))
          have HE : Hid (∀ w' b1 p1, Below w.heap.size w w' → KvI w' b1 (Tr.fst rk rv rl rr).1.1 (Tr.fst rk rv rl rr).1.2 → InI w' (Tr.fst rk rv rl rr).2 p1 → Calls Try.prog 46 #[.pointer (some ⟨b1, 0, none⟩), .pointer pl, .pointer p1] w' (TreeI (.even (Tr.fst rk rv rl rr).1.1 (Tr.fst rk rv rl rr).1.2 l (Tr.fst rk rv rl rr).2) w')) := fun w' b1 p1 hb' hk1 h1 => even_I b1 _ _ l _ pl p1 (by omega) w' hk1 (hl.below hb') h1
          obtain ⟨br, prl, prr, rfl, -, -, -⟩ := hr.open
          clear hc1 hc2 hcz ihl ihr hcnt hR h hb hl hr hkv hcn hfc
          go_enter Try.func40, Try.ntmps40
          go_wp2_with fail
          go_region_held3 (fun w' => w'.cell? ⟨R, 0, none⟩ = some (.func (.func 38) #[] #[]) ∧ w'.cell? ⟨b, 0, none⟩ = some (.int .i64 nk)) (first | go_keep)
            (first
              | (go_at_call 38; refine HCM.out.mono ?_; rintro e wE ⟨rfl, rfl⟩))
          go_wp2_with fail
          refine HF.out.mono ?_
          rintro e w1 ⟨b1, p1, rfl, hk1, hi1, hb1'⟩
          have hb1 := below_step (below_dr0 w) (Nat.le_refl _) hb1'
          have h21 := (HC.out w1 hb1).1
          have HE1 := Lib.hid (HE.out w1 b1 p1 hb1 hk1 hi1)
          clear HE HC HF hk1 hi1 hb1'
          go_wp2_with fail
          refine HE1.out.mono ?_
          rintro e w2 ⟨p2, rfl, hi2, hb2⟩
          go_wp2
          go_ret
          exact ⟨p2, rfl, hi2, below_step hb1 (Nat.le_refl _) hb2⟩
end Rk
end Go.Proofs.Ytahkmdbbicpfcaa
