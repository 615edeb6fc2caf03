
/- Trees of int,int: entries, levels, over. -/
import Derived.Test.YtahkmdbbicpfcaaRkBase
namespace Go.Proofs.Ytahkmdbbicpfcaa
open Go.RowKit
namespace Rk
abbrev InI (w : World) (T : Tr Int Int) (p : Option Addr) : Prop := In 76 (fun k => Value.int .i64 k) (fun v => Value.int .i64 v) w T p
/-- a node's key and value -/
def KvI (w : World) (b : Nat) (k : Int) (v : Int) : Prop := b < w.heap.size ∧ w.cell? ⟨b, 0, none⟩ = some (.int .i64 k) ∧ w.cell? ⟨b, 1, none⟩ = some (.int .i64 v)
theorem KvI.below {w w' : World} {b : Nat} {k : Int} {v : Int} (h : KvI w b k v) (hb : Below w.heap.size w w') : KvI w' b k v :=
  ⟨Nat.lt_of_lt_of_le h.1 hb.size, (hb.cell h.1).trans h.2.1, (hb.cell h.1).trans h.2.2⟩
theorem InI.open {w : World} {k : Int} {v : Int} {l r : Tr Int Int} {p : Option Addr} (h : InI w (.node k v l r) p) :
    ∃ b pl pr, p = some ⟨b, 0, none⟩ ∧ Blk w b 76 #[.int .i64 k, .int .i64 v, .pointer pl, .pointer pr, .int .i64 ((l.cnt + 1 + r.cnt : Nat) : Int), .int .i64 ((1 + max l.ht r.ht : Nat) : Int)] ∧ InI w l pl ∧ InI w r pr := h
theorem InI.kv {w : World} {b : Nat} {k : Int} {v : Int} {a0 a1 a2 a3 : Value} (h : Blk w b 76 #[.int .i64 k, .int .i64 v, a0, a1, a2, a3]) : KvI w b k v := ⟨h.lt, (h.cl 0 _ rfl).1, (h.cl 1 _ rfl).1⟩
set_option maxRecDepth 100000 in
theorem entries_I (T : Tr Int Int) (p : Option Addr) (w : World) (h : InI w T p) :
    Calls Try.prog 45 #[.pointer p] w fun e w' => e = .returned (.int .i64 (T.cnt : Nat)) ∧ w = w' := by
  cases T with
  | nil =>
    obtain rfl : p = none := h
    go_enter Try.func45, Try.ntmps45
    go_wp2
    go_ret
    exact ⟨rfl, rfl⟩
  | node k v l r =>
    obtain ⟨b, pl, pr, rfl, hb, -, -⟩ := h.open
    have h4 := (hb.cl 4 _ rfl).1
    clear hb
    go_enter Try.func45, Try.ntmps45
    go_wp2
    go_ret
    exact ⟨rfl, rfl⟩
set_option maxRecDepth 100000 in
theorem levels_I (T : Tr Int Int) (p : Option Addr) (w : World) (h : InI w T p) :
    Calls Try.prog 50 #[.pointer p] w fun e w' => e = .returned (.int .i64 (T.ht : Nat)) ∧ w = w' := by
  cases T with
  | nil =>
    obtain rfl : p = none := h
    go_enter Try.func50, Try.ntmps50
    go_wp2
    go_ret
    exact ⟨rfl, rfl⟩
  | node k v l r =>
    obtain ⟨b, pl, pr, rfl, hb, -, -⟩ := h.open
    have h4 := (hb.cl 5 _ rfl).1
    clear hb
    go_enter Try.func50, Try.ntmps50
    go_wp2
    go_ret
    exact ⟨rfl, rfl⟩
/-- what a call answers that makes a tree -/
def TreeI (T : Tr Int Int) (w : World) (e : Ending) (w' : World) : Prop := ∃ p, e = .returned (.pointer p) ∧ InI w' T p ∧ Below w.heap.size w w'
set_option maxRecDepth 100000 in
set_option maxHeartbeats 2000000 in
theorem over_I (b : Nat) (k : Int) (v : Int) (l r : Tr Int Int) (pl pr : Option Addr) (hc : l.cnt + r.cnt ≤ 1000000) (w : World) (hkv : KvI w b k v) (hl : InI w l pl) (hr : InI w r pr) :
    Calls Try.prog 51 #[.pointer (some ⟨b, 0, none⟩), .pointer pl, .pointer pr] w (TreeI (.node k v l r) w) := by
  have HEL := Lib.hid (entries_I l pl w.drew (hl.below (below_dr0 w)))
  have HER := Lib.hid (entries_I r pr w.drew (hr.below (below_dr0 w)))
  have HLL := Lib.hid (levels_I l pl w.drew (hl.below (below_dr0 w)))
  have HLR := Lib.hid (levels_I r pr w.drew (hr.below (below_dr0 w)))
  have hhl := l.ht_cnt
  have hhr := r.ht_cnt
  obtain ⟨cl, hcl⟩ : ∃ n, l.cnt = n := ⟨_, rfl⟩
  obtain ⟨cr, hcr⟩ : ∃ n, r.cnt = n := ⟨_, rfl⟩
  obtain ⟨tl, htl⟩ : ∃ n, l.ht = n := ⟨_, rfl⟩
  obtain ⟨tr, htr⟩ : ∃ n, r.ht = n := ⟨_, rfl⟩
  have HFIN : Hid (∀ g : Nat, g = w.heap.size → TreeI (.node k v l r) w (.returned (.pointer (some ⟨g, 0, none⟩))) (w.drew.alloc (.cells #[.int .i64 k, .int .i64 v, .pointer pl, .pointer pr, .int .i64 ((cl : Int) + 1 + cr), .int .i64 (1 + max (tl : Int) tr)] 76))) := fun g hg => by
    subst hg
    have hb1 : Below w.heap.size w (w.drew.alloc (.cells #[.int .i64 k, .int .i64 v, .pointer pl, .pointer pr, .int .i64 ((cl : Int) + 1 + cr), .int .i64 (1 + max (tl : Int) tr)] 76)) := (below_dr0 w).alloc (Nat.le_refl _) _
    refine ⟨_, rfl, ⟨w.heap.size, pl, pr, rfl, ?_, hl.below hb1, hr.below hb1⟩, hb1⟩
    have hbn := Blk.new w.drew 76 #[.int .i64 k, .int .i64 v, .pointer pl, .pointer pr, .int .i64 ((cl : Int) + 1 + cr), .int .i64 (1 + max (tl : Int) tr)]
    rw [hcl, hcr, htl, htr, show ((cl + 1 + cr : Nat) : Int) = (cl : Int) + 1 + cr by omega, show ((1 + max tl tr : Nat) : Int) = 1 + max (tl : Int) tr by omega]
    exact hbn
  rw [hcl] at HEL hc hhl
  rw [hcr] at HER hc hhr
  rw [htl] at HLL hhl
  rw [htr] at HLR hhr
  obtain ⟨-, h0, h1⟩ := hkv
  have e1 : IntKind.i64.wrap ((cl : Int) + 1) = (cl : Int) + 1 := wr64 _ (by omega) (by omega)
  have e2 : IntKind.i64.wrap ((cl : Int) + 1 + cr) = (cl : Int) + 1 + cr := wr64 _ (by omega) (by omega)
  have e3 : IntKind.i64.wrap (1 + max (tl : Int) tr) = 1 + max (tl : Int) tr := wr64 _ (by omega) (by omega)
  clear hl hr hcl hcr htl htr hhl hhr
  go_enter Try.func51, Try.ntmps51
  go_wp2_with fail
  go_region_held3 (fun w' => w'.cell? ⟨b, 0, none⟩ = some (.int .i64 k) ∧ w'.cell? ⟨b, 1, none⟩ = some (.int .i64 v)) (first | go_keep)
    (first
      | (go_at_call_of 50 (Value.pointer pr); refine HLR.out.mono ?_; rintro e wE ⟨rfl, rfl⟩)
      | (go_at_call_of 50 (Value.pointer pl); refine HLL.out.mono ?_; rintro e wE ⟨rfl, rfl⟩)
      | (go_at_call_of 45 (Value.pointer pr); refine HER.out.mono ?_; rintro e wE ⟨rfl, rfl⟩)
      | (go_at_call_of 45 (Value.pointer pl); refine HEL.out.mono ?_; rintro e wE ⟨rfl, rfl⟩))
  all_goals
    go_wp2
    go_ret
    exact HFIN.out _ rfl
end Rk
end Go.Proofs.Ytahkmdbbicpfcaa
