
/- A slice of acts, opened; few. -/
import Derived.Test.YtdaofajdabadgaaOpens
import Derived.Test.YtdaofajdabadgaaMem
namespace Go.Proofs.Ytdaofajdabadgaa
open Go.Joins Go.ChangeShapes Go.WideShapes Go.RowKit Go.Deep
namespace Rk
/-- an act -/
structure Act where
  kind : Int
  key : ByteArray
  val : Int
def Act.wf (x : Act) : Prop := x.key.size ≤ maxLen ∧ (-9223372036854775808 ≤ x.kind ∧ x.kind ≤ 9223372036854775807) ∧ (-9223372036854775808 ≤ x.val ∧ x.val ≤ 9223372036854775807)
def ActsAt (W : World) (a : Option Addr) (len : Nat) (f : Nat → Act) : Prop :=
  len = 0 ∨ ∃ b o, a = some ⟨b, o, none⟩ ∧ b < W.heap.size ∧ ∀ i, i < len → W.cell? ⟨b, o + i * 3, none⟩ = some (.int .i64 (f i).kind) ∧ W.cell? ⟨b, o + i * 3 + 1, none⟩ = some (.string (f i).key) ∧ W.cell? ⟨b, o + i * 3 + 2, none⟩ = some (.int .i64 (f i).val)
theorem ActsAt.below {W W' : World} {a : Option Addr} {len : Nat} {f : Nat → Act} (h : ActsAt W a len f) (hb : Below W.heap.size W W') : ActsAt W' a len f := by
  rcases h with h | ⟨b, o, rfl, hlt, hc⟩
  · exact .inl h
  · exact .inr ⟨b, o, rfl, Nat.lt_of_lt_of_le hlt hb.size, fun i hi => ⟨(hb.cell hlt).trans (hc i hi).1, (hb.cell hlt).trans (hc i hi).2.1, (hb.cell hlt).trans (hc i hi).2.2⟩⟩
theorem open_acts {H : Type} {enc : TypeId × Value → H} {W : World} {base : Nat} {spare : Nat → Bool} {held : Bool} {fuel : Nat} {v : Value} {x : DataW H × List MemPlace}
    (h : DataW.trod enc Try.prog W base spare held fuel 22 [v] = some x) : ∃ (a : Option Addr) (len cap : Nat) (f : Nat → Act), v = .slice a len cap ∧ len ≤ maxLen ∧ (∀ i, i < len → (f i).wf) ∧ ActsAt W a len f := by
  have hs : ∃ f0 f1 f2 : Field, Try.prog.underlying 29 = some (.struct #[f0, f1, f2]) ∧ f0.type = 3 ∧ f1.type = 9 ∧ f2.type = 3 ∧ oneCellFields Try.prog #[f0, f1, f2] = true := ⟨_, _, _, Try.underlying29, rfl, rfl, rfl, by kernel_rfl⟩
  obtain ⟨f0, f1, f2, hu, t0, t1, t2, hone⟩ := hs
  rcases open_rows Try.underlying22 hu hone (by kernel_rfl) h with h0 | ⟨a, len, cap, hcs, hl, hm, hi⟩
  · simp only [List.cons.injEq, and_true] at h0
    exact ⟨none, 0, 0, fun _ => ⟨0, ⟨#[]⟩, 0⟩, h0, Nat.zero_le _, fun i hi => absurd hi (Nat.not_lt_zero _), .inl rfl⟩
  · simp only [List.cons.injEq, and_true] at hcs
    by_cases h0 : len = 0
    · exact ⟨some a, len, cap, fun _ => ⟨0, ⟨#[]⟩, 0⟩, hcs, by omega, fun i hi => by omega, .inl h0⟩
    · have hs : ∀ i, i < len → ∃ y : Act, (W.cell? (a.add (i * 3)) = some (.int .i64 y.kind) ∧ W.cell? (a.add (i * 3 + 1)) = some (.string y.key) ∧ W.cell? (a.add (i * 3 + 2)) = some (.int .i64 y.val)) ∧ y.wf := fun i hlt => by
        obtain ⟨n, hf⟩ := hi i hlt
        obtain ⟨v0, y0, c0, r0⟩ := hf 0 f0 rfl
        obtain ⟨v1, y1, c1, r1⟩ := hf 1 f1 rfl
        obtain ⟨v2, y2, c2, r2⟩ := hf 2 f2 rfl
        rw [t0] at r0
        rw [t1] at r1
        rw [t2] at r2
        obtain ⟨s0, e0, _, b0⟩ := DataW.trod_int Try.underlying3 r0
        obtain ⟨s1, e1, _, b1⟩ := DataW.trod_string Try.underlying9 r1
        obtain ⟨s2, e2, _, b2⟩ := DataW.trod_int Try.underlying3 r2
        simp only [List.cons.injEq, and_true] at e0 e1 e2
        subst e0 e1 e2
        exact ⟨⟨s0, s1, s2⟩, ⟨c0, c1, c2⟩, b1, wf_i64 b0, wf_i64 b2⟩
      have hch : ∃ f : Nat → Act, ∀ i, i < len → (W.cell? (a.add (i * 3)) = some (.int .i64 (f i).kind) ∧ W.cell? (a.add (i * 3 + 1)) = some (.string (f i).key) ∧ W.cell? (a.add (i * 3 + 2)) = some (.int .i64 (f i).val)) ∧ (f i).wf :=
        ⟨fun i => if h : i < len then (hs i h).choose else ⟨0, ⟨#[]⟩, 0⟩, fun i h => by dsimp only; rw [dif_pos h]; exact (hs i h).choose_spec⟩
      obtain ⟨f, hf⟩ := hch
      obtain ⟨b, off, spot⟩ := a
      have hspot : spot = none := by
        have := World.cell?_spot (hf 0 (by omega)).1.1
        simpa [Addr.add] using this
      subst hspot
      have hlt : b < W.heap.size := by
        have h1 := (hf 0 (by omega)).1.1
        rw [Go.WideShapes.add_plain] at h1
        by_cases hn : b < W.heap.size
        · exact hn
        · simp [World.cell?, Array.getElem?_eq_none (show W.heap.size ≤ b by omega)] at h1
      refine ⟨_, len, cap, f, hcs, by omega, fun i hi => (hf i hi).2, .inr ⟨b, off, rfl, hlt, fun j hj => ?_⟩⟩
      have := (hf j hj).1
      rw [Go.WideShapes.add_plain, Go.WideShapes.add_plain, Go.WideShapes.add_plain] at this
      exact this
set_option maxRecDepth 100000 in
set_option maxHeartbeats 2000000 in
theorem few_any (a : Option Addr) (n c : Nat) (f : Nat → Act) (w : World) (hn : n ≤ maxLen) (hw : ∀ i, i < n → (f i).wf) (h : ActsAt w a n f) :
    Calls Try.prog 10 #[.slice a n c] w fun e w' => (∃ b : Bool, e = .returned (.bool b) ∧ (b = true → n ≤ 120 ∧ ∀ i, i < n → (f i).key.size ≤ 100)) ∧ Below w.heap.size w w' := by
  unfold maxLen at hn
  have HA := Lib.hid h
  have HW := Lib.hid hw
  clear h hw
  go_enter Try.func10, Try.ntmps10
  go_wp2
  go_loopw [7] (fun iv wr => ∃ j : Nat, j ≤ n ∧ iv = .int .i64 (j : Int) ∧ Hid ((∀ i, i < j → (f i).key.size ≤ 100) ∧ Below w.heap.size w wr)) (fun iv _ => n - (intOf iv).toNat)
  case atStart => exact ⟨0, Nat.zero_le _, rfl, fun i hi => absurd hi (Nat.not_lt_zero _), Below.refl _ _⟩
  case round =>
    obtain ⟨j, hj, rfl, HREL⟩ := hrel
    by_cases hlt : j < n
    · have hb := HREL.out.2
      rcases HA.out.below hb with h0 | ⟨b, o, rfl, hbl, hc⟩
      · omega
      · obtain ⟨c0, c1, c2⟩ := hc j hlt
        have hsz := (HW.out j hlt).1
        unfold maxLen at hsz
        have HB := Lib.hid hb
        by_cases h100 : (f j).key.size ≤ 100
        · have HN : Hid (∀ i, i < j + 1 → (f i).key.size ≤ 100) := fun i hi => by
            by_cases e : i = j
            · rw [e]; exact h100
            · exact HREL.out.1 i (by omega)
          generalize (f j).kind = k0 at c0
          generalize (f j).key = k1 at c1 h100 hsz
          generalize (f j).val = k2 at c2
          have HB2 : Hid (Below w.heap.size w (wr.alloc (.cells #[.int .i64 k0, .string k1, .int .i64 k2] 29))) := hb.alloc hb.size _
          clear hc hb HREL HB
          go_wp2
          go_roundw
          case rel => exact ⟨j + 1, by omega, by go_num, HN.out, HB2.out⟩
          case measure => simp [intOf]; omega
        · generalize (f j).kind = k0 at c0
          generalize (f j).key = k1 at c1 h100 hsz
          generalize (f j).val = k2 at c2
          have HB2 : Hid (Below w.heap.size w (wr.alloc (.cells #[.int .i64 k0, .string k1, .int .i64 k2] 29))) := hb.alloc hb.size _
          clear hc hb HREL HB
          go_wp2
          go_ret
          exact ⟨⟨false, rfl, fun h => by cases h⟩, HB2.out⟩
    · obtain rfl : j = n := by omega
      have HB := Lib.hid HREL.out.2
      have HK := Lib.hid HREL.out.1
      clear HREL
      go_wp2
      go_ret
      exact ⟨⟨decide ((j : Int) ≤ 120), by simp, fun h => ⟨by have := of_decide_eq_true h; omega, HK.out⟩⟩, HB.out⟩
end Rk
end Go.Proofs.Ytdaofajdabadgaa
