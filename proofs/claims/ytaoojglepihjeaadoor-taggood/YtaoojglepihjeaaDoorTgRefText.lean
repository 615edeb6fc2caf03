/- What the document's Text (tidemillref02) answers, of a series whose parts aren't long. -/
import Derived.Test.YtaoojglepihjeaaDoorTgRef
import Derived.Test.YtaoojglepihjeaaDoorTgAwake
namespace Go.Proofs.YtaoojglepihjeaaDoor
open Go.RowKit
namespace Tg
theorem sep_zero {l : List Lab} (h : l.length = 0) : (sepT l).data.toList = [123] := by
  have : l = [] := List.length_eq_zero_iff.1 h
  rw [this]; rfl
theorem sep_more {l : List Lab} (h : l.length ≠ 0) : (sepT l).data.toList = [44] := by
  cases l with
  | nil => exact absurd rfl h
  | cons _ _ => rfl
theorem labsS_len (f : Nat → LabS) (k : Nat) : (labsS (upto f k)).length = k := by simp [labsS, upto_len]
end Tg
set_option maxHeartbeats 2000000 in
set_option maxRecDepth 100000 in
theorem refText_main (m : ByteArray) (hm : m.size ≤ 24) (b off len cap : Nat) (f : Nat → Tg.LabS) (hlen : len ≤ 6) (h0 : 0 < len) (w : World) (hb : b < w.heap.size)
    (hc : ∀ j, j < len → w.cell? ⟨b, off + j * 2, none⟩ = some (.string (f j).1.1) ∧ w.cell? ⟨b, off + j * 2 + 1, none⟩ = some (.string (f j).1.2)) :
    Calls Tryd.prog 11 #[.agg #[.string m, .slice (some ⟨b, off, none⟩) len cap]] w fun e w' => e = .returned (.string ⟨(Tg.textL m.data.toList (Tg.labsS (Tg.upto f len))).toArray⟩) ∧ Below w.heap.size w w' := by
  have HC := Lib.hid hc
  clear hc
  have hB0 : Below w.heap.size w (w.alloc (.cells #[.string m, .slice (some ⟨b, off, none⟩) len cap] 24)) := (Below.refl _ w).alloc (Nat.le_refl _) _
  have x1 := Blk.new w 24 #[.string m, .slice (some ⟨b, off, none⟩) len cap]
  go_enter Tryd.func11, Tryd.ntmps11
  go_wp2
  obtain ⟨W0, hW0⟩ : ∃ W0, w.alloc (.cells #[.string m, .slice (some ⟨b, off, none⟩) len cap] 24) = W0 := ⟨_, rfl⟩
  rw [hW0] at hB0 x1 ⊢
  clear hW0
  go_loopw [3, 4, 10] (fun o _ i wr => ∃ (k : Nat) (t : ByteArray), k ≤ len ∧ i = .int .i64 k ∧ o = .string t ∧ t.data.toList = m.data.toList ++ Tg.openT (Tg.labsS (Tg.upto f k)) ∧ Dr W0 wr) (fun _ _ i _ => len - (intOf i).toNat)
  case atStart => exact ⟨0, m, Nat.zero_le _, rfl, rfl, by simp [Tg.upto, Tg.labsS, Tg.openT], Dr.refl _⟩
  case round =>
    obtain ⟨k, t, hk, rfl, rfl, ht, hdr⟩ := hrel
    have HT := Lib.hid ht
    have hts : t.size ≤ 400 := by
      have h1 := congrArg List.length ht
      rw [Tg.len_data, List.length_append, Tg.len_data] at h1
      have h2 := Tg.openT_le (Tg.upto f k)
      rw [Tg.upto_len] at h2
      omega
    clear ht
    have s1 : wr.cell? ⟨w.heap.size, 1, none⟩ = some (.slice (some ⟨b, off, none⟩) len cap) := (hdr.cell _).trans (x1.cl 1 _ rfl).1
    by_cases hlt : k < len
    · have p1 : wr.cell? ⟨b, off + k * 2, none⟩ = some (.string (f k).1.1) := (hdr.cell _).trans ((hB0.cell (p := ⟨b, off + k * 2, none⟩) hb).trans (HC.out k hlt).1)
      have p2 : wr.cell? ⟨b, off + k * 2 + 1, none⟩ = some (.string (f k).1.2) := (hdr.cell _).trans ((hB0.cell (p := ⟨b, off + k * 2 + 1, none⟩) hb).trans (HC.out k hlt).2)
      have hkn : (k : Int) < (len : Int) := by omega
      have HN : Hid (Tg.openT (Tg.labsS (Tg.upto f (k + 1))) = Tg.openT (Tg.labsS (Tg.upto f k)) ++ ((Tg.sepT (Tg.labsS (Tg.upto f k))).data.toList ++ (f k).1.1.data.toList ++ [61] ++ (f k).1.2.data.toList)) := by
        show _ = _
        rw [Tg.upto_succ, Tg.labsS_snoc, Tg.openT_snoc]
      have hl1 := (f k).2.1
      have hl2 := (f k).2.2
      generalize (f k).1.1 = y1 at p1 HN hl1
      generalize (f k).1.2 = y2 at p2 HN hl2
      by_cases hk0 : k = 0
      · have hkz : ((k : Int) == 0) = true := beq_iff_eq.2 (by omega)
        have HSP := Lib.hid (Tg.sep_zero ((Tg.labsS_len f k).trans hk0))
        clear hk0
        go_wp2
        go_quiet (fail)
        go_wp2
        go_roundw
        case rel => exact ⟨k + 1, _, by omega, by go_num, rfl, by rw [HN.out, HSP.out]; simp [HT.out], hdr.more _⟩
        case measure => simp [intOf]; omega
      · have hkz : ((k : Int) == 0) = false := beq_eq_false_iff_ne.2 (by omega)
        have HSP := Lib.hid (Tg.sep_more (l := Tg.labsS (Tg.upto f k)) (by rw [Tg.labsS_len]; exact hk0))
        clear hk0
        go_wp2
        go_quiet (fail)
        go_wp2
        go_roundw
        case rel => exact ⟨k + 1, _, by omega, by go_num, rfl, by rw [HN.out, HSP.out]; simp [HT.out], hdr.more _⟩
        case measure => simp [intOf]; omega
    · obtain rfl : k = len := by omega
      have h0' : (0 : Int) < (k : Int) := by omega
      go_wp2
      go_ret
      refine ⟨?_, hdr.below hB0⟩
      have he : (⟨(Tg.textL m.data.toList (Tg.labsS (Tg.upto f k))).toArray⟩ : ByteArray) = t ++ ⟨#[125]⟩ := by
        have hne : (Tg.labsS (Tg.upto f k)).isEmpty = false := by
          cases hl : Tg.labsS (Tg.upto f k) with
          | nil => have := Tg.labsS_len f k; rw [hl] at this; simp at this; omega
          | cons _ _ => rfl
        apply ByteArray.ext
        apply Array.ext'
        unfold Tg.textL
        rw [hne]
        simp [HT.out]
      rw [he]
      rfl
set_option maxHeartbeats 1000000 in
set_option maxRecDepth 100000 in
theorem refText_zero (m : ByteArray) (a : Option Addr) (cap : Nat) (w : World) :
    Calls Tryd.prog 11 #[.agg #[.string m, .slice a 0 cap]] w fun e w' => e = .returned (.string m) ∧ Below w.heap.size w w' := by
  go_enter Tryd.func11, Tryd.ntmps11
  go_wp2
  go_loopw [3, 4, 10] (fun o _ i wr => o = .string m ∧ i = .int .i64 0 ∧ wr = w.alloc (.cells #[.string m, .slice a 0 cap] 24)) (fun _ _ _ _ => 0)
  case atStart => exact ⟨rfl, rfl, rfl⟩
  case round =>
    obtain ⟨rfl, rfl, rfl⟩ := hrel
    go_wp2
    go_ret
    exact ⟨rfl, (Below.refl _ w).alloc (Nat.le_refl _) _⟩
theorem refText_any (m : ByteArray) (hm : m.size ≤ 24) (a : Option Addr) (len cap : Nat) (f : Nat → Tg.LabM) (hlen : len ≤ 6) (w : World) (hI : LabsAt (·.1) w.heap.size w a len f) (hall : ∀ x ∈ Tg.labs (Tg.upto f len), Tg.labB x = true) :
    Calls Tryd.prog 11 #[.agg #[.string m, .slice a len cap]] w fun e w' => e = .returned (.string ⟨(Tg.textL m.data.toList (Tg.labs (Tg.upto f len))).toArray⟩) ∧ Below w.heap.size w w' := by
  have hj := fun j hj => Tg.all_at hall j hj
  by_cases h0 : len = 0
  · subst h0
    have he : (⟨(Tg.textL m.data.toList (Tg.labs (Tg.upto f 0))).toArray⟩ : ByteArray) = m := by simp [Tg.upto, Tg.labs, Tg.textL, Tg.openT]
    rw [he]
    exact refText_zero m a cap w
  · obtain ⟨b, off, rfl, hb, hc⟩ := hI.resolve_left h0
    have h := refText_main m hm b off len cap (fun j => Tg.toS (f j)) hlen (by omega) w hb (fun j h => by rw [Tg.toS_val _ (hj j h)]; exact hc j h)
    rw [Tg.labsS_toS f len hj] at h
    exact h
end Go.Proofs.YtaoojglepihjeaaDoor
