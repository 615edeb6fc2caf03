
/- Trees of int,int: with. -/
import Derived.Test.YtahkmdbbicpfcaaRkIEven
import Derived.Test.YtahkmdbbicpfcaaRkCmp
namespace Go.Proofs.Ytahkmdbbicpfcaa
open Go.RowKit
namespace Rk
/-- a rack's comparison -/
def RcI (w : World) (R : Nat) : Prop := R < w.heap.size ∧ w.cell? ⟨R, 0, none⟩ = some (.func (.func 38) #[] #[])
theorem RcI.below {w w' : World} {R : Nat} (h : RcI w R) (hb : Below w.heap.size w w') : RcI w' R := ⟨Nat.lt_of_lt_of_le h.1 hb.size, (hb.cell h.1).trans h.2⟩
/-- even, in whatever world that only grew -/
theorem even_I' {w : World} (b : Nat) (k : Int) (v : Int) (l r : Tr Int Int) (pl pr : Option Addr) (hc : l.cnt + r.cnt ≤ 90000) (hkv : KvI w b k v) (w' : World) (hb : Below w.heap.size w w') (hl : InI w' l pl) (hr : InI w' r pr) :
    Calls Try.prog 46 #[.pointer (some ⟨b, 0, none⟩), .pointer pl, .pointer pr] w' (TreeI (.even k v l r) w') := even_I b k v l r pl pr hc w' (hkv.below hb) hl hr
set_option maxRecDepth 100000 in
set_option maxHeartbeats 4000000 in
theorem with_I (R : Nat) (k : Int) (v : Int) : ∀ (T : Tr Int Int) (p : Option Addr) (w : World), T.cnt ≤ 80000 → RcI w R → InI w T p →
    Calls Try.prog 41 #[.pointer (some ⟨R, 0, none⟩), .pointer p, .int .i64 k, .int .i64 v] w (TreeI (T.ins cI k v) w) := by
  intro T
  induction T with
  | nil =>
    intro p w _ _ h
    obtain rfl : p = none := h
    have HFIN : Hid (TreeI (Tr.node k v .nil .nil) w (.returned (.pointer (some ⟨w.heap.size, 0, none⟩))) (w.alloc (.cells #[.int .i64 k, .int .i64 v, .pointer none, .pointer none, .int .i64 1, .int .i64 1] 76))) :=
      ⟨_, rfl, ⟨w.heap.size, none, none, rfl, Blk.new w _ _, rfl, rfl⟩, (Below.refl _ _).alloc (Nat.le_refl _) _⟩
    go_enter Try.func41, Try.ntmps41
    go_wp2
    go_ret
    exact HFIN.out
  | node nk nv l r ihl ihr =>
    intro p w hcnt hR h
    obtain ⟨b, pl, pr, rfl, hb, hl, hr⟩ := h.open
    have hkv := InI.kv hb
    have hcn : (Tr.node nk nv l r).cnt = l.cnt + 1 + r.cnt := rfl
    have hlt := hb.lt
    have h0 : w.cell? ⟨b, 0, none⟩ = some (.int .i64 nk) := (hb.cl 0 _ rfl).1
    have h2 : w.cell? ⟨b, 2, none⟩ = some (.pointer pl) := (hb.cl 2 _ rfl).1
    have h3 : w.cell? ⟨b, 3, none⟩ = some (.pointer pr) := (hb.cl 3 _ rfl).1
    have hR0 := hR.2
    have HCM := Lib.hid (cmpI_any k nk w.drew)
    unfold Tr.ins
    have HC : Hid (∀ w', Below w.heap.size w w' → w'.cell? ⟨b, 2, none⟩ = some (.pointer pl) ∧ w'.cell? ⟨b, 3, none⟩ = some (.pointer pr)) := fun w' hb' => ⟨(hb'.cell hlt).trans h2, (hb'.cell hlt).trans h3⟩
    by_cases hc1 : cI k nk < 0
    · rw [if_pos hc1]
      have hci := ins_cnt (c := cI) k v l
      have HW : Hid (∀ w', Below w.heap.size w w' → Calls Try.prog 41 #[.pointer (some ⟨R, 0, none⟩), .pointer pl, .int .i64 k, .int .i64 v] w' (TreeI (l.ins cI k v) w')) := fun w' hb' => ihl pl w' (by omega) (hR.below hb') (hl.below hb')
      have HE : Hid (∀ w' p1, Below w.heap.size w w' → InI w' (l.ins cI k v) p1 → Calls Try.prog 46 #[.pointer (some ⟨b, 0, none⟩), .pointer p1, .pointer pr] w' (TreeI (.even nk nv (l.ins cI k v) r) w')) := fun w' p1 hb' h1 => even_I' b nk nv _ r p1 pr (by omega) hkv w' hb' h1 (hr.below hb')
      generalize cI k nk = c at HCM hc1
      clear ihl ihr hcnt hR h hb hl hr hkv hcn hlt hci
      go_enter Try.func41, Try.ntmps41
      go_wp2_with fail
      go_region_held3 (fun w' => w'.cell? ⟨R, 0, none⟩ = some (.func (.func 38) #[] #[]) ∧ w'.cell? ⟨b, 0, none⟩ = some (.int .i64 nk)) (first | go_keep)
        (first
          | (go_at_call 38; refine HCM.out.mono ?_; rintro e wE ⟨rfl, rfl⟩))
      go_wp2_with fail
      go_region_held3 (fun w' => w'.cell? ⟨b, 2, none⟩ = some (.pointer pl) ∧ w'.cell? ⟨b, 3, none⟩ = some (.pointer pr)) (first | go_keep | exact HC.out _ B1 | exact HC.out _ B2)
        (first
          | (go_at_call 46; refine (HE.out _ p1 B1 I1).mono ?_; rintro e wB ⟨p2, rfl, I2, B2'⟩; have B2 := below_step B1 (Nat.le_refl _) B2')
          | (go_at_call 41; refine (HW.out _ (below_dr (below_dr0 _))).mono ?_; rintro e wA ⟨p1, rfl, I1, B1'⟩; have B1 := below_step (below_dr (below_dr0 _)) (Nat.le_refl _) B1'))
      all_goals
        go_wp2
        go_ret
        exact ⟨p2, rfl, I2, B2⟩
    · rw [if_neg hc1]
      by_cases hc2 : 0 < cI k nk
      · rw [if_pos hc2]
        have hci := ins_cnt (c := cI) k v r
        have HW : Hid (∀ w', Below w.heap.size w w' → Calls Try.prog 41 #[.pointer (some ⟨R, 0, none⟩), .pointer pr, .int .i64 k, .int .i64 v] w' (TreeI (r.ins cI k v) w')) := fun w' hb' => ihr pr w' (by omega) (hR.below hb') (hr.below hb')
        have HE : Hid (∀ w' p1, Below w.heap.size w w' → InI w' (r.ins cI k v) p1 → Calls Try.prog 46 #[.pointer (some ⟨b, 0, none⟩), .pointer pl, .pointer p1] w' (TreeI (.even nk nv l (r.ins cI k v)) w')) := fun w' p1 hb' h1 => even_I' b nk nv l _ pl p1 (by omega) hkv w' hb' (hl.below hb') h1
        generalize cI k nk = c at HCM hc1 hc2
        clear ihl ihr hcnt hR h hb hl hr hkv hcn hlt hci
        go_enter Try.func41, Try.ntmps41
        go_wp2_with fail
        go_region_held3 (fun w' => w'.cell? ⟨R, 0, none⟩ = some (.func (.func 38) #[] #[]) ∧ w'.cell? ⟨b, 0, none⟩ = some (.int .i64 nk)) (first | go_keep)
          (first
            | (go_at_call 38; refine HCM.out.mono ?_; rintro e wE ⟨rfl, rfl⟩))
        go_wp2_with fail
        go_region_held3 (fun w' => w'.cell? ⟨b, 2, none⟩ = some (.pointer pl) ∧ w'.cell? ⟨b, 3, none⟩ = some (.pointer pr)) (first | go_keep | exact HC.out _ B1 | exact HC.out _ B2)
          (first
            | (go_at_call 46; refine (HE.out _ p1 B1 I1).mono ?_; rintro e wB ⟨p2, rfl, I2, B2'⟩; have B2 := below_step B1 (Nat.le_refl _) B2')
            | (go_at_call 41; refine (HW.out _ (below_dr (below_dr0 _))).mono ?_; rintro e wA ⟨p1, rfl, I1, B1'⟩; have B1 := below_step (below_dr (below_dr0 _)) (Nat.le_refl _) B1'))
        all_goals
          go_wp2
          go_ret
          exact ⟨p2, rfl, I2, B2⟩
      · rw [if_neg hc2]
        have hcz : cI k nk = 0 := by omega
        rw [hcz] at HCM
        have HFIN : ∃ n4 n5 : Int, w.cell? ⟨b, 4, none⟩ = some (.int .i64 n4) ∧ w.cell? ⟨b, 5, none⟩ = some (.int .i64 n5) ∧ Hid (TreeI (Tr.node nk v l r) w (.returned (.pointer (some ⟨w.heap.size, 0, none⟩))) (w.alloc (.cells #[.int .i64 nk, .int .i64 v, .pointer pl, .pointer pr, .int .i64 n4, .int .i64 n5] 76)).drew) := by
          refine ⟨_, _, (hb.cl 4 _ rfl).1, (hb.cl 5 _ rfl).1, ?_⟩
          have hb1 : Below w.heap.size w (w.alloc (.cells #[.int .i64 nk, .int .i64 v, .pointer pl, .pointer pr, .int .i64 ((l.cnt + 1 + r.cnt : Nat) : Int), .int .i64 ((1 + max l.ht r.ht : Nat) : Int)] 76)).drew := below_dr ((Below.refl _ _).alloc (Nat.le_refl _) _)
          exact ⟨_, rfl, ⟨w.heap.size, pl, pr, rfl, Blk.new w _ _, hl.below hb1, hr.below hb1⟩, hb1⟩
        obtain ⟨n4, n5, h4, h5, HFIN⟩ := HFIN
        have h0 : w.cell? ⟨b, 0, none⟩ = some (.int .i64 nk) := (hb.cl 0 _ rfl).1
        have h1 : w.cell? ⟨b, 1, none⟩ = some (.int .i64 nv) := (hb.cl 1 _ rfl).1
        have h2 : w.cell? ⟨b, 2, none⟩ = some (.pointer pl) := (hb.cl 2 _ rfl).1
        have h3 : w.cell? ⟨b, 3, none⟩ = some (.pointer pr) := (hb.cl 3 _ rfl).1
        clear hc1 hc2 hcz ihl ihr hcnt hR h hb hl hr hkv hcn
        go_enter Try.func41, Try.ntmps41
        go_wp2_with fail
        go_region_held3 (fun w' => w'.cell? ⟨R, 0, none⟩ = some (.func (.func 38) #[] #[]) ∧ w'.cell? ⟨b, 0, none⟩ = some (.int .i64 nk)) (first | go_keep)
          (first
            | (go_at_call 38; refine HCM.out.mono ?_; rintro e wE ⟨rfl, rfl⟩))
        go_wp2
        go_ret
        exact HFIN.out
end Rk
end Go.Proofs.Ytahkmdbbicpfcaa
