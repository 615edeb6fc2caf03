
/- Trees of string,int: with. -/
import Derived.Test.YtdaofajdabadgaaRkSEven
import Derived.Test.YtdaofajdabadgaaRkCmp
namespace Go.Proofs.Ytdaofajdabadgaa
open Go.RowKit
namespace Rk
/-- a rack's comparison -/
def RcS (w : World) (R : Nat) : Prop := R < w.heap.size ∧ w.cell? ⟨R, 0, none⟩ = some (.func (.func 37) #[] #[])
theorem RcS.below {w w' : World} {R : Nat} (h : RcS w R) (hb : Below w.heap.size w w') : RcS w' R := ⟨Nat.lt_of_lt_of_le h.1 hb.size, (hb.cell h.1).trans h.2⟩
/-- even, in whatever world that only grew -/
theorem even_S' {w : World} (b : Nat) (k : ByteArray) (v : Int) (l r : Tr ByteArray Int) (pl pr : Option Addr) (hc : l.cnt + r.cnt ≤ 90000) (hkv : KvS w b k v) (w' : World) (hb : Below w.heap.size w w') (hl : InS w' l pl) (hr : InS w' r pr) :
    Calls Try.prog 66 #[.pointer (some ⟨b, 0, none⟩), .pointer pl, .pointer pr] w' (TreeS (.even k v l r) w') := even_S b k v l r pl pr hc w' (hkv.below hb) hl hr
set_option maxRecDepth 100000 in
set_option maxHeartbeats 4000000 in
theorem with_S (R : Nat) (k : ByteArray) (v : Int) : ∀ (T : Tr ByteArray Int) (p : Option Addr) (w : World), T.cnt ≤ 80000 → RcS w R → InS w T p →
    Calls Try.prog 44 #[.pointer (some ⟨R, 0, none⟩), .pointer p, .string k, .int .i64 v] w (TreeS (T.ins cS k v) w) := by
  intro T
  induction T with
  | nil =>
    intro p w _ _ h
    obtain rfl : p = none := h
    have HFIN : Hid (TreeS (Tr.node k v .nil .nil) w (.returned (.pointer (some ⟨w.heap.size, 0, none⟩))) (w.alloc (.cells #[.string k, .int .i64 v, .pointer none, .pointer none, .int .i64 1, .int .i64 1] 77))) :=
      ⟨_, rfl, ⟨w.heap.size, none, none, rfl, Blk.new w _ _, rfl, rfl⟩, (Below.refl _ _).alloc (Nat.le_refl _) _⟩
    go_enter Try.func44, Try.ntmps44
    go_wp2
    go_ret
    exact HFIN.out
  | node nk nv l r ihl ihr =>
    intro p w hcnt hR h
    obtain ⟨b, pl, pr, rfl, hb, hl, hr⟩ := h.open
    have hkv := InS.kv hb
    have hcn : (Tr.node nk nv l r).cnt = l.cnt + 1 + r.cnt := rfl
    have hlt := hb.lt
    have h0 : w.cell? ⟨b, 0, none⟩ = some (.string nk) := (hb.cl 0 _ rfl).1
    have h2 : w.cell? ⟨b, 2, none⟩ = some (.pointer pl) := (hb.cl 2 _ rfl).1
    have h3 : w.cell? ⟨b, 3, none⟩ = some (.pointer pr) := (hb.cl 3 _ rfl).1
    have hR0 := hR.2
    have HCM := Lib.hid (cmpS_any k nk w.drew)
    unfold Tr.ins
    have HC : Hid (∀ w', Below w.heap.size w w' → w'.cell? ⟨b, 2, none⟩ = some (.pointer pl) ∧ w'.cell? ⟨b, 3, none⟩ = some (.pointer pr)) := fun w' hb' => ⟨(hb'.cell hlt).trans h2, (hb'.cell hlt).trans h3⟩
    by_cases hc1 : cS k nk < 0
    · rw [if_pos hc1]
      have hci := ins_cnt (c := cS) k v l
      have HW : Hid (∀ w', Below w.heap.size w w' → Calls Try.prog 44 #[.pointer (some ⟨R, 0, none⟩), .pointer pl, .string k, .int .i64 v] w' (TreeS (l.ins cS k v) w')) := fun w' hb' => ihl pl w' (by omega) (hR.below hb') (hl.below hb')
      have HE : Hid (∀ w' p1, Below w.heap.size w w' → InS w' (l.ins cS k v) p1 → Calls Try.prog 66 #[.pointer (some ⟨b, 0, none⟩), .pointer p1, .pointer pr] w' (TreeS (.even nk nv (l.ins cS k v) r) w')) := fun w' p1 hb' h1 => even_S' b nk nv _ r p1 pr (by omega) hkv w' hb' h1 (hr.below hb')
      generalize cS k nk = c at HCM hc1
      clear ihl ihr hcnt hR h hb hl hr hkv hcn hlt hci
      go_enter Try.func44, Try.ntmps44
      go_wp2_with fail
      go_region_held3 (fun w' => w'.cell? ⟨R, 0, none⟩ = some (.func (.func 37) #[] #[]) ∧ w'.cell? ⟨b, 0, none⟩ = some (.string nk)) (first | go_keep)
        (first
          | (go_at_call 37; refine HCM.out.mono ?_; rintro e wE ⟨rfl, rfl⟩))
      go_wp2_with fail
      go_region_held3 (fun w' => w'.cell? ⟨b, 2, none⟩ = some (.pointer pl) ∧ w'.cell? ⟨b, 3, none⟩ = some (.pointer pr)) (first | go_keep | exact HC.out _ B1 | exact HC.out _ B2)
        (first
          | (go_at_call 66; refine (HE.out _ p1 B1 I1).mono ?_; rintro e wB ⟨p2, rfl, I2, B2'⟩; have B2 := below_step B1 (Nat.le_refl _) B2')
          | (go_at_call 44; refine (HW.out _ (below_dr (below_dr0 _))).mono ?_; rintro e wA ⟨p1, rfl, I1, B1'⟩; have B1 := below_step (below_dr (below_dr0 _)) (Nat.le_refl _) B1'))
      all_goals
        go_wp2
        go_ret
        exact ⟨p2, rfl, I2, B2⟩
    · rw [if_neg hc1]
      by_cases hc2 : 0 < cS k nk
      · rw [if_pos hc2]
        have hci := ins_cnt (c := cS) k v r
        have HW : Hid (∀ w', Below w.heap.size w w' → Calls Try.prog 44 #[.pointer (some ⟨R, 0, none⟩), .pointer pr, .string k, .int .i64 v] w' (TreeS (r.ins cS k v) w')) := fun w' hb' => ihr pr w' (by omega) (hR.below hb') (hr.below hb')
        have HE : Hid (∀ w' p1, Below w.heap.size w w' → InS w' (r.ins cS k v) p1 → Calls Try.prog 66 #[.pointer (some ⟨b, 0, none⟩), .pointer pl, .pointer p1] w' (TreeS (.even nk nv l (r.ins cS k v)) w')) := fun w' p1 hb' h1 => even_S' b nk nv l _ pl p1 (by omega) hkv w' hb' (hl.below hb') h1
        generalize cS k nk = c at HCM hc1 hc2
        clear ihl ihr hcnt hR h hb hl hr hkv hcn hlt hci
        go_enter Try.func44, Try.ntmps44
        go_wp2_with fail
        go_region_held3 (fun w' => w'.cell? ⟨R, 0, none⟩ = some (.func (.func 37) #[] #[]) ∧ w'.cell? ⟨b, 0, none⟩ = some (.string nk)) (first | go_keep)
          (first
            | (go_at_call 37; refine HCM.out.mono ?_; rintro e wE ⟨rfl, rfl⟩))
        go_wp2_with fail
        go_region_held3 (fun w' => w'.cell? ⟨b, 2, none⟩ = some (.pointer pl) ∧ w'.cell? ⟨b, 3, none⟩ = some (.pointer pr)) (first | go_keep | exact HC.out _ B1 | exact HC.out _ B2)
          (first
            | (go_at_call 66; refine (HE.out _ p1 B1 I1).mono ?_; rintro e wB ⟨p2, rfl, I2, B2'⟩; have B2 := below_step B1 (Nat.le_refl _) B2')
            | (go_at_call 44; refine (HW.out _ (below_dr (below_dr0 _))).mono ?_; rintro e wA ⟨p1, rfl, I1, B1'⟩; have B1 := below_step (below_dr (below_dr0 _)) (Nat.le_refl _) B1'))
        all_goals
          go_wp2
          go_ret
          exact ⟨p2, rfl, I2, B2⟩
      · rw [if_neg hc2]
        have hcz : cS k nk = 0 := by omega
        rw [hcz] at HCM
        have HFIN : ∃ n4 n5 : Int, w.cell? ⟨b, 4, none⟩ = some (.int .i64 n4) ∧ w.cell? ⟨b, 5, none⟩ = some (.int .i64 n5) ∧ Hid (TreeS (Tr.node nk v l r) w (.returned (.pointer (some ⟨w.heap.size, 0, none⟩))) (w.alloc (.cells #[.string nk, .int .i64 v, .pointer pl, .pointer pr, .int .i64 n4, .int .i64 n5] 77)).drew) := by
          refine ⟨_, _, (hb.cl 4 _ rfl).1, (hb.cl 5 _ rfl).1, ?_⟩
          have hb1 : Below w.heap.size w (w.alloc (.cells #[.string nk, .int .i64 v, .pointer pl, .pointer pr, .int .i64 ((l.cnt + 1 + r.cnt : Nat) : Int), .int .i64 ((1 + max l.ht r.ht : Nat) : Int)] 77)).drew := below_dr ((Below.refl _ _).alloc (Nat.le_refl _) _)
          exact ⟨_, rfl, ⟨w.heap.size, pl, pr, rfl, Blk.new w _ _, hl.below hb1, hr.below hb1⟩, hb1⟩
        obtain ⟨n4, n5, h4, h5, HFIN⟩ := HFIN
        have h0 : w.cell? ⟨b, 0, none⟩ = some (.string nk) := (hb.cl 0 _ rfl).1
        have h1 : w.cell? ⟨b, 1, none⟩ = some (.int .i64 nv) := (hb.cl 1 _ rfl).1
        have h2 : w.cell? ⟨b, 2, none⟩ = some (.pointer pl) := (hb.cl 2 _ rfl).1
        have h3 : w.cell? ⟨b, 3, none⟩ = some (.pointer pr) := (hb.cl 3 _ rfl).1
        clear hc1 hc2 hcz ihl ihr hcnt hR h hb hl hr hkv hcn
        go_enter Try.func44, Try.ntmps44
        go_wp2_with fail
        go_region_held3 (fun w' => w'.cell? ⟨R, 0, none⟩ = some (.func (.func 37) #[] #[]) ∧ w'.cell? ⟨b, 0, none⟩ = some (.string nk)) (first | go_keep)
          (first
            | (go_at_call 37; refine HCM.out.mono ?_; rintro e wE ⟨rfl, rfl⟩))
        go_wp2
        go_ret
        exact HFIN.out
end Rk
end Go.Proofs.Ytdaofajdabadgaa
