/- The text of labels that are such; 'awake' answers true: the document's example of layer 2. -/
import Derived.Test.YtpfhfiokmhijmaaTgText
import Derived.Test.YtpfhfiokmhijmaaTgMake
namespace Go.Proofs.Ytpfhfiokmhijmaa
open Go.RowKit Go.Shelf
namespace Tg
def sDef : LabS := ⟨(⟨#[]⟩, ⟨#[]⟩), by decide⟩
/-- a label that is such isn't long -/
def toS (x : LabM) : LabS := if h : labB x.1 = true then ⟨x.1, by have := (nm_len h).2; unfold nm at this; rwa [← Lib.size_eq] at this, by have := (val_len h).2; rwa [← Lib.size_eq] at this⟩ else sDef
theorem toS_val (x : LabM) (h : labB x.1 = true) : (toS x).1 = x.1 := by unfold toS; rw [dif_pos h]
theorem labsS_toS (f : Nat → LabM) (n : Nat) (h : ∀ j, j < n → labB (f j).1 = true) : labsS (upto (fun j => toS (f j)) n) = labs (upto f n) := by
  unfold labsS labs upto
  rw [List.map_map, List.map_map]
  apply List.map_congr_left
  intro j hj
  exact toS_val _ (h j (List.mem_range.1 hj))
theorem all_at {f : Nat → LabM} {n : Nat} (h : ∀ x ∈ labs (upto f n), labB x = true) (j : Nat) (hj : j < n) : labB (f j).1 = true :=
  h _ (by unfold labs upto; rw [List.map_map]; exact List.mem_map.2 ⟨j, List.mem_range.2 hj, rfl⟩)
end Tg
theorem text_good (m : ByteArray) (hm : m.size ≤ 24) (a : Option Addr) (len cap : Nat) (f : Nat → Tg.LabM) (hlen : len ≤ 6) (w : World) (hI : LabsAt (·.1) w.heap.size w a len f) (hall : ∀ x ∈ Tg.labs (Tg.upto f len), Tg.labB x = true) :
    Calls Try.prog 14 #[.agg #[.string m, .slice a len cap]] w fun e w' => e = .returned (.string ⟨(Tg.textL m.data.toList (Tg.labs (Tg.upto f len))).toArray⟩) ∧ Below w.heap.size w w' := by
  have hj := fun j hj => Tg.all_at hall j hj
  have h := text_any m hm a len cap (fun j => Tg.toS (f j)) hlen w (by
    rcases hI with h | ⟨b, off, e, hb, hc⟩
    · exact .inl h
    · exact .inr ⟨b, off, e, hb, fun j h => by dsimp only; rw [Tg.toS_val _ (hj j h)]; exact hc j h⟩)
  rw [Tg.labsS_toS f len hj] at h
  exact h
theorem text_row {B : Nat} (m : ByteArray) (hm : m.size ≤ 24) (a : Option Addr) (n cap : Nat) (r : List Tg.LabM) (w : World) (hr : Row w B (.slice a n cap) r) (hlen : n ≤ 6) (hall : ∀ x ∈ Tg.labs r, Tg.labB x = true) :
    Calls Try.prog 14 #[.agg #[.string m, .slice a n cap]] w fun e w' => e = .returned (.string ⟨(Tg.textL m.data.toList (Tg.labs r)).toArray⟩) ∧ Below w.heap.size w w' := by
  obtain ⟨hn, hl⟩ := hr.labsAt
  have hu : Tg.upto (Tg.fnOf r) n = r := by rw [hn]; exact Tg.upto_fnOf r
  have h := text_good m hm a n cap (Tg.fnOf r) hlen w hl (by rw [hu]; exact hall)
  rw [hu] at h
  exact h
namespace Tg
def ex0 : LabM := ⟨(⟨#[122, 111, 110, 101]⟩, ⟨#[98]⟩), by decide⟩
def ex1 : LabM := ⟨(⟨#[99, 111, 100, 101]⟩, ⟨#[50, 48, 48]⟩), by decide⟩
def exM : ByteArray := ⟨#[114, 101, 113, 115]⟩
theorem ex_make : makeE exM (labs [ex0, ex1]) = 0 := by decide +kernel
theorem ex_sort : sortL (labs [ex0, ex1]) = labs [ex1, ex0] := by decide +kernel
theorem ex_all : (labs [ex1, ex0]).all labB = true := by decide +kernel
theorem ex_text : textL exM.data.toList (labs [ex1, ex0]) = [114, 101, 113, 115, 123, 99, 111, 100, 101, 61, 50, 48, 48, 44, 122, 111, 110, 101, 61, 98, 125] := by decide +kernel
end Tg
set_option maxHeartbeats 1000000 in
set_option maxRecDepth 100000 in
theorem awake_any (w : World) :
    Calls Try.prog 5 #[] w fun e w' => e = .returned (.bool true) ∧ Below w.heap.size w w' := by
  go_enter Try.func5, Try.ntmps5
  go_wp2_with fail
  have hI : LabsAt (·.1) (w.alloc (.cells #[.string ⟨#[122, 111, 110, 101]⟩, .string ⟨#[98]⟩, .string ⟨#[99, 111, 100, 101]⟩, .string ⟨#[50, 48, 48]⟩] 32)).heap.size (w.alloc (.cells #[.string ⟨#[122, 111, 110, 101]⟩, .string ⟨#[98]⟩, .string ⟨#[99, 111, 100, 101]⟩, .string ⟨#[50, 48, 48]⟩] 32)) (some ⟨w.heap.size, 0, none⟩) 2 (Tg.fnOf [Tg.ex0, Tg.ex1]) := by
    have hb := Blk.new w 32 #[.string ⟨#[122, 111, 110, 101]⟩, .string ⟨#[98]⟩, .string ⟨#[99, 111, 100, 101]⟩, .string ⟨#[50, 48, 48]⟩]
    refine .inr ⟨_, _, rfl, by simp, fun j hj => ?_⟩
    match j, hj with
    | 0, _ => exact ⟨(hb.cl 0 _ rfl).1, (hb.cl 1 _ rfl).1⟩
    | 1, _ => exact ⟨(hb.cl 2 _ rfl).1, (hb.cl 3 _ rfl).1⟩
  have HM := Lib.hid (make_any Tg.exM (by decide) _ 2 2 _ (by decide) _ hI)
  have hu : Tg.upto (Tg.fnOf [Tg.ex0, Tg.ex1]) 2 = [Tg.ex0, Tg.ex1] := Tg.upto_fnOf [Tg.ex0, Tg.ex1]
  rw [hu] at HM
  clear hu
  have hB0 : Below w.heap.size w (w.alloc (.cells #[.string ⟨#[122, 111, 110, 101]⟩, .string ⟨#[98]⟩, .string ⟨#[99, 111, 100, 101]⟩, .string ⟨#[50, 48, 48]⟩] 32)) := (Below.refl _ w).alloc (Nat.le_refl _) _
  refine HM.out.mono ?_
  rintro e w1 ⟨m', v, r, rfl, hrow, hb1, _, hok⟩
  obtain ⟨rfl, hr⟩ := hok Tg.ex_make
  rw [Tg.ex_sort] at hr
  rw [Tg.ex_make]
  have hB1 : Below w.heap.size w w1 := hB0.trans (hb1.mono (by simp))
  obtain ⟨a1, cap1, rfl, _⟩ := hrow.labs
  have hrl : r.length = 2 := by have := congrArg List.length hr; simpa [Tg.labs] using this
  rw [hrl] at hrow ⊢
  have hrow2 := hrow.below ((Below.refl w1.heap.size w1).alloc (Nat.le_refl _) (.cells #[.string Tg.exM, .slice a1 2 cap1] 25)) (Nat.le_refl _)
  have HT := Lib.hid (text_row Tg.exM (by decide) a1 2 cap1 r _ hrow2 (by decide) (by rw [hr]; exact List.all_eq_true.1 Tg.ex_all))
  rw [hr, Tg.ex_text] at HT
  clear hrow hrow2 hr hrl HM hI
  go_wp2_with fail
  refine HT.out.mono ?_
  rintro e w2 ⟨rfl, hb2⟩
  go_wp2
  go_ret
  exact ⟨rfl, (hB1.alloc hB1.size _).trans (hb2.mono (by have := hB1.size; simp; omega))⟩
end Go.Proofs.Ytpfhfiokmhijmaa
