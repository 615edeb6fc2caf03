
/- Trees of string,int: entries, levels, over. -/
import Derived.Test.YtdaofajdabadgaaRkBase
namespace Go.Proofs.Ytdaofajdabadgaa
open Go.RowKit
namespace Rk
abbrev InS (w : World) (T : Tr ByteArray Int) (p : Option Addr) : Prop := In 77 (fun k => Value.string k) (fun v => Value.int .i64 v) w T p
/-- a node's key and value -/
def KvS (w : World) (b : Nat) (k : ByteArray) (v : Int) : Prop := b < w.heap.size ∧ w.cell? ⟨b, 0, none⟩ = some (.string k) ∧ w.cell? ⟨b, 1, none⟩ = some (.int .i64 v)
theorem KvS.below {w w' : World} {b : Nat} {k : ByteArray} {v : Int} (h : KvS w b k v) (hb : Below w.heap.size w w') : KvS w' b k v :=
  ⟨Nat.lt_of_lt_of_le h.1 hb.size, (hb.cell h.1).trans h.2.1, (hb.cell h.1).trans h.2.2⟩
theorem InS.open {w : World} {k : ByteArray} {v : Int} {l r : Tr ByteArray Int} {p : Option Addr} (h : InS w (.node k v l r) p) :
    ∃ b pl pr, p = some ⟨b, 0, none⟩ ∧ Blk w b 77 #[.string k, .int .i64 v, .pointer pl, .pointer pr, .int .i64 ((l.cnt + 1 + r.cnt : Nat) : Int), .int .i64 ((1 + max l.ht r.ht : Nat) : Int)] ∧ InS w l pl ∧ InS w r pr := h
theorem InS.kv {w : World} {b : Nat} {k : ByteArray} {v : Int} {a0 a1 a2 a3 : Value} (h : Blk w b 77 #[.string k, .int .i64 v, a0, a1, a2, a3]) : KvS w b k v := ⟨h.lt, (h.cl 0 _ rfl).1, (h.cl 1 _ rfl).1⟩
set_option maxRecDepth 100000 in
theorem entries_S (T : Tr ByteArray Int) (p : Option Addr) (w : World) (h : InS w T p) :
    Calls Try.prog 46 #[.pointer p] w fun e w' => e = .returned (.int .i64 (T.cnt : Nat)) ∧ w = w' := by
  cases T with
  | nil =>
    obtain rfl : p = none := h
    go_enter Try.func46, Try.ntmps46
    go_wp2
    go_ret
    exact ⟨rfl, rfl⟩
  | node k v l r =>
    obtain ⟨b, pl, pr, rfl, hb, -, -⟩ := h.open
    have h4 := (hb.cl 4 _ rfl).1
    clear hb
    go_enter Try.func46, Try.ntmps46
    go_wp2
    go_ret
    exact ⟨rfl, rfl⟩
set_option maxRecDepth 100000 in
theorem levels_S (T : Tr ByteArray Int) (p : Option Addr) (w : World) (h : InS w T p) :
    Calls Try.prog 51 #[.pointer p] w fun e w' => e = .returned (.int .i64 (T.ht : Nat)) ∧ w = w' := by
  cases T with
  | nil =>
    obtain rfl : p = none := h
    go_enter Try.func51, Try.ntmps51
    go_wp2
    go_ret
    exact ⟨rfl, rfl⟩
  | node k v l r =>
    obtain ⟨b, pl, pr, rfl, hb, -, -⟩ := h.open
    have h4 := (hb.cl 5 _ rfl).1
    clear hb
    go_enter Try.func51, Try.ntmps51
    go_wp2
    go_ret
    exact ⟨rfl, rfl⟩
/-- what a call answers that makes a tree -/
def TreeS (T : Tr ByteArray Int) (w : World) (e : Ending) (w' : World) : Prop := ∃ p, e = .returned (.pointer p) ∧ InS w' T p ∧ Below w.heap.size w w'
set_option maxRecDepth 100000 in
set_option maxHeartbeats 2000000 in
theorem over_S (b : Nat) (k : ByteArray) (v : Int) (l r : Tr ByteArray Int) (pl pr : Option Addr) (hc : l.cnt + r.cnt ≤ 1000000) (w : World) (hkv : KvS w b k v) (hl : InS w l pl) (hr : InS w r pr) :
    Calls Try.prog 75 #[.pointer (some ⟨b, 0, none⟩), .pointer pl, .pointer pr] w (TreeS (.node k v l r) w) := by
  have HEL := Lib.hid (entries_S l pl w.drew (hl.below (below_dr0 w)))
  have HER := Lib.hid (entries_S r pr w.drew (hr.below (below_dr0 w)))
  have HLL := Lib.hid (levels_S l pl w.drew (hl.below (below_dr0 w)))
  have HLR := Lib.hid (levels_S r pr w.drew (hr.below (below_dr0 w)))
  have hhl := l.ht_cnt
  have hhr := r.ht_cnt
  obtain ⟨cl, hcl⟩ : ∃ n, l.cnt = n := ⟨_, rfl⟩
  obtain ⟨cr, hcr⟩ : ∃ n, r.cnt = n := ⟨_, rfl⟩
  obtain ⟨tl, htl⟩ : ∃ n, l.ht = n := ⟨_, rfl⟩
  obtain ⟨tr, htr⟩ : ∃ n, r.ht = n := ⟨_, rfl⟩
  have HFIN : Hid (∀ g : Nat, g = w.heap.size → TreeS (.node k v l r) w (.returned (.pointer (some ⟨g, 0, none⟩))) (w.drew.alloc (.cells #[.string k, .int .i64 v, .pointer pl, .pointer pr, .int .i64 ((cl : Int) + 1 + cr), .int .i64 (1 + max (tl : Int) tr)] 77))) := fun g hg => by
    subst hg
    have hb1 : Below w.heap.size w (w.drew.alloc (.cells #[.string k, .int .i64 v, .pointer pl, .pointer pr, .int .i64 ((cl : Int) + 1 + cr), .int .i64 (1 + max (tl : Int) tr)] 77)) := (below_dr0 w).alloc (Nat.le_refl _) _
    refine ⟨_, rfl, ⟨w.heap.size, pl, pr, rfl, ?_, hl.below hb1, hr.below hb1⟩, hb1⟩
    have hbn := Blk.new w.drew 77 #[.string k, .int .i64 v, .pointer pl, .pointer pr, .int .i64 ((cl : Int) + 1 + cr), .int .i64 (1 + max (tl : Int) tr)]
    rw [hcl, hcr, htl, htr, show ((cl + 1 + cr : Nat) : Int) = (cl : Int) + 1 + cr by omega, show ((1 + max tl tr : Nat) : Int) = 1 + max (tl : Int) tr by omega]
    exact hbn
  rw [hcl] at HEL hc hhl
  rw [hcr] at HER hc hhr
  rw [htl] at HLL hhl
  rw [htr] at HLR hhr
  obtain ⟨-, h0, h1⟩ := hkv
  have e1 : IntKind.i64.wrap ((cl : Int) + 1) = (cl : Int) + 1 := wr64 _ (by omega) (by omega)
  have e2 : IntKind.i64.wrap ((cl : Int) + 1 + cr) = (cl : Int) + 1 + cr := wr64 _ (by omega) (by omega)
  have e3 : IntKind.i64.wrap (1 + max (tl : Int) tr) = 1 + max (tl : Int) tr := wr64 _ (by omega) (by omega)
  clear hl hr hcl hcr htl htr hhl hhr
  go_enter Try.func75, Try.ntmps75
  go_wp2_with fail
  go_region_held3 (fun w' => w'.cell? ⟨b, 0, none⟩ = some (.string k) ∧ w'.cell? ⟨b, 1, none⟩ = some (.int .i64 v)) (first | go_keep)
    (first
      | (go_at_call_of 51 (Value.pointer pr); refine HLR.out.mono ?_; rintro e wE ⟨rfl, rfl⟩)
      | (go_at_call_of 51 (Value.pointer pl); refine HLL.out.mono ?_; rintro e wE ⟨rfl, rfl⟩)
      | (go_at_call_of 46 (Value.pointer pr); refine HER.out.mono ?_; rintro e wE ⟨rfl, rfl⟩)
      | (go_at_call_of 46 (Value.pointer pl); refine HEL.out.mono ?_; rintro e wE ⟨rfl, rfl⟩))
  all_goals
    go_wp2
    go_ret
    exact HFIN.out _ rfl
end Rk
end Go.Proofs.Ytdaofajdabadgaa
