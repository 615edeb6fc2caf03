
/- Sacks in memory: New, Len, Room, Many. -/
import Derived.Test.YtahkmdbbicpfcaaOnly
import Derived.Test.YtahkmdbbicpfcaaSkMath
import Derived.Test.YtahkmdbbicpfcaaRkIAll
import Derived.Test.YtahkmdbbicpfcaaRkIGet
namespace Go.Proofs.Ytahkmdbbicpfcaa
open Go.RowKit
namespace Sk
open Rk
/-- numbers that an int may be -/
def Fit (l : List Int) : Prop := ∀ x ∈ l, IntKind.i64.wrap x = x
/-- the sack at s, whose rack is at R, has the things l -/
structure Sak (w : World) (s R : Nat) (room : Int) (l : List Int) : Prop where
  blk : Blk w s 63 #[.int .i64 room, .int .i64 (l.length : Int), .pointer (some ⟨R, 0, none⟩)]
  rak : ∃ T, RakI w R T ∧ Rep T l
  len : (l.length : Int) ≤ room
  room : room ≤ 1000
  fit : Fit l
section
variable {w w' : World} {s R : Nat} {room : Int} {l : List Int} (h : Sak w s R room l)
include h
theorem Sak.lt : s < w.heap.size := h.blk.lt
theorem Sak.rack : ∃ cs, Blk w R 73 cs := by
  obtain ⟨T, ⟨p, hb, -⟩, -⟩ := h.rak
  exact ⟨_, hb⟩
theorem Sak.rlt : R < w.heap.size := by
  obtain ⟨cs, hb⟩ := h.rack
  exact hb.lt
theorem Sak.ne : s ≠ R := by
  obtain ⟨cs, hb⟩ := h.rack
  exact h.blk.apart hb (by decide)
theorem Sak.keep (hk : Keeps 76 w w') (hs : w'.heap[s]? = w.heap[s]?) (hR : w'.heap[R]? = w.heap[R]?) : Sak w' s R room l := by
  obtain ⟨T, hr, hp⟩ := h.rak
  exact ⟨hs.trans h.blk, ⟨T, hr.keep hk hR, hp⟩, h.len, h.room, h.fit⟩
theorem Sak.below (hb : Below w.heap.size w w') : Sak w' s R room l := h.keep (Keeps.below hb) (hb.block _ h.lt) (hb.block _ h.rlt)
theorem Sak.free (hf : Free w w') : Sak w' s R room l := by
  obtain ⟨cs, hb⟩ := h.rack
  exact h.keep (hf.keeps _) (hf.heap h.blk) (hf.heap hb)
/-- another sack's call lets it be -/
theorem Sak.only {ks : List Nat} (ho : Only ks w w') (hk : ∀ k ∈ ks, ∃ t2 cs2, Blk w k t2 cs2 ∧ 76 ≠ t2) (hs : s ∉ ks) (hR : R ∉ ks) : Sak w' s R room l :=
  h.keep (ho.keeps _ hk) (ho.block _ h.lt hs) (ho.block _ h.rlt hR)
theorem Sak.srt : srt l := by
  obtain ⟨T, -, hp⟩ := h.rak
  exact hp.srt
end
theorem fit_put {l xs : List Int} (h : Fit l) (h2 : Fit xs) : Fit (put l xs) := fun x hx => by
  have := List.count_pos_iff.2 hx
  rw [put_count] at this
  by_cases e : 0 < l.count x
  · exact h x (List.count_pos_iff.1 e)
  · exact h2 x (List.count_pos_iff.1 (by omega))
theorem fit_erase {l : List Int} (h : Fit l) (x : Int) : Fit (l.erase x) := fun y hy => h y (List.mem_of_mem_erase hy)
set_option maxRecDepth 100000 in
set_option maxHeartbeats 1000000 in
theorem empty_any (room : Int) (h0 : 0 ≤ room) (h1 : room ≤ 1000) (w : World) :
    Calls Try.prog 28 #[.int .i64 room] w fun e w' => ∃ s R, e = .returned (.pointer (some ⟨s, 0, none⟩)) ∧ Sak w' s R room [] ∧ w.heap.size ≤ s ∧ w.heap.size ≤ R ∧ Below w.heap.size w w' := by
  have HN := Lib.hid (new_I w)
  have H0 := Lib.hid h0
  have H1 := Lib.hid h1
  clear h0 h1
  go_enter Try.func28, Try.ntmps28
  go_wp2_with fail
  refine HN.out.mono ?_
  rintro e w1 ⟨rfl, hr1, hb1⟩
  have hb2 : Below w.heap.size w (w1.alloc (.cells #[.int .i64 room, .int .i64 0, .pointer (some ⟨w.heap.size, 0, none⟩)] 63)) := hb1.alloc hb1.size _
  have HFIN : Hid (Sak (w1.alloc (.cells #[.int .i64 room, .int .i64 0, .pointer (some ⟨w.heap.size, 0, none⟩)] 63)) w1.heap.size w.heap.size room [] ∧ w.heap.size ≤ w1.heap.size ∧ w.heap.size ≤ w.heap.size ∧ Below w.heap.size w (w1.alloc (.cells #[.int .i64 room, .int .i64 0, .pointer (some ⟨w.heap.size, 0, none⟩)] 63))) :=
    ⟨⟨Blk.new w1 _ _, ⟨.nil, hr1.below ((Below.refl _ w1).alloc (Nat.le_refl _) _), Rep.nil⟩, H0.out, H1.out, fun _ h => (by cases h)⟩, hb1.size, Nat.le_refl _, hb2⟩
  clear hr1 hb1 hb2
  go_wp2
  go_ret
  exact ⟨_, _, rfl, HFIN.out⟩
set_option maxRecDepth 100000 in
theorem new_no (room : Int) (h : room < 0 ∨ 1000 < room) (w : World) :
    Calls Try.prog 8 #[.int .i64 room] w fun e w' => e = .returned (.tuple #[.pointer none, .int .i64 1]) ∧ w = w' := by
  by_cases h0 : room < 0
  · have hd : decide (room < 0) = true := decide_eq_true h0
    clear h
    go_enter Try.func8, Try.ntmps8
    go_wp2
    go_ret2
    exact ⟨rfl, rfl⟩
  · have h1 : 1000 < room := by omega
    have hd : decide (room < 0) = false := decide_eq_false h0
    have hd1 : decide (1000 < room) = true := decide_eq_true h1
    clear h
    go_enter Try.func8, Try.ntmps8
    go_wp2
    go_ret2
    exact ⟨rfl, rfl⟩
set_option maxRecDepth 100000 in
theorem new_yes (room : Int) (h0 : 0 ≤ room) (h1 : room ≤ 1000) (w : World) :
    Calls Try.prog 8 #[.int .i64 room] w fun e w' => ∃ s R, e = .returned (.tuple #[.pointer (some ⟨s, 0, none⟩), .int .i64 0]) ∧ Sak w' s R room [] ∧ w.heap.size ≤ s ∧ w.heap.size ≤ R ∧ Below w.heap.size w w' := by
  have HE := Lib.hid (empty_any room h0 h1 w)
  have hd : decide (room < 0) = false := decide_eq_false (by omega)
  have hd1 : decide (1000 < room) = false := decide_eq_false (by omega)
  clear h0 h1
  go_enter Try.func8, Try.ntmps8
  go_wp2_with fail
  refine HE.out.mono ?_
  rintro e w1 ⟨s, R, rfl, H⟩
  have HH := Lib.hid H
  clear H
  go_wp2
  go_ret2
  exact ⟨_, _, rfl, HH.out⟩
set_option maxRecDepth 100000 in
theorem slen_any {w : World} {s R : Nat} {room : Int} {l : List Int} (h : Sak w s R room l) : Calls Try.prog 15 #[.pointer (some ⟨s, 0, none⟩)] w fun e w' => e = .returned (.int .i64 (l.length : Int)) ∧ w = w' := by
  have h1 : w.cell? ⟨s, 1, none⟩ = some (.int .i64 (l.length : Int)) := (h.blk.cl 1 _ rfl).1
  generalize l.length = n at h1 ⊢
  clear h
  go_enter Try.func15, Try.ntmps15
  go_wp2
  go_ret
  exact ⟨rfl, rfl⟩
set_option maxRecDepth 100000 in
theorem sroom_any {w : World} {s R : Nat} {room : Int} {l : List Int} (h : Sak w s R room l) : Calls Try.prog 16 #[.pointer (some ⟨s, 0, none⟩)] w fun e w' => e = .returned (.int .i64 (room - (l.length : Int))) ∧ Below w.heap.size w w' := by
  have h0 : w.cell? ⟨s, 0, none⟩ = some (.int .i64 room) := (h.blk.cl 0 _ rfl).1
  have h1 : w.cell? ⟨s, 1, none⟩ = some (.int .i64 (l.length : Int)) := (h.blk.cl 1 _ rfl).1
  have hl := h.len
  have hr := h.room
  have e1 : IntKind.i64.wrap (room - (l.length : Int)) = room - (l.length : Int) := wr64 _ (by omega) (by omega)
  have HB := Lib.hid (below_dr0 w)
  generalize (l.length : Int) = n at h1 e1 ⊢
  clear h hl hr
  go_enter Try.func16, Try.ntmps16
  go_wp2_with fail
  go_region_held3 (fun w' => w'.cell? ⟨s, 0, none⟩ = some (.int .i64 room) ∧ w'.cell? ⟨s, 1, none⟩ = some (.int .i64 n)) (first | go_keep) (first | fail)
  go_wp2
  go_ret
  exact ⟨rfl, HB.out⟩
set_option maxRecDepth 100000 in
theorem smany_any {w : World} {s R : Nat} {room : Int} {l : List Int} (h : Sak w s R room l) (x : Int) : Calls Try.prog 17 #[.pointer (some ⟨s, 0, none⟩), .int .i64 x] w fun e w' => e = .returned (.int .i64 (l.count x : Int)) ∧ Below w.heap.size w w' := by
  have h2 : w.cell? ⟨s, 2, none⟩ = some (.pointer (some ⟨R, 0, none⟩)) := (h.blk.cl 2 _ rfl).1
  obtain ⟨T, hr, hp⟩ := h.rak
  have HG := Lib.hid (get_I R T x w hr)
  rw [hp.get x] at HG
  generalize (T.get cI x).isSome = b at HG
  generalize (l.count x : Int) = n at HG ⊢
  clear h hr hp
  go_enter Try.func17, Try.ntmps17
  go_wp2_with fail
  refine HG.out.mono ?_
  rintro e w1 ⟨rfl, hb1⟩
  have HB := Lib.hid hb1
  clear hb1
  go_wp2
  go_ret
  exact ⟨rfl, HB.out⟩
end Sk
end Go.Proofs.Ytahkmdbbicpfcaa
