
/- What the document puts: a number from 0 on, any number, a text, a mark. -/
import Derived.Test.YtdiokcmhpndoeaaDoorClPut
namespace Go.Proofs.YtdiokcmhpndoeaaDoor
open Go.RowKit
/-- a text of one byte, made now -/
theorem conv_one (w : World) (x : Nat) (hx : x < 256) : (convert 22 9 (.slice (some ⟨w.heap.size, 0, none⟩) 1 1)).run Tryd.prog (w.alloc (.cells #[.int .u8 (x : Int)] 5)) = .ok (.string ⟨#[UInt8.ofNat x]⟩) (w.alloc (.cells #[.int .u8 (x : Int)] 5)) := by
  refine Lib.run_convert_whole (P := Tryd.prog) _ 22 5 9 Tryd.underlying22 Tryd.underlying5 Tryd.underlying9 w.heap.size 0 ⟨#[UInt8.ofNat x]⟩ ?_ 1
  intro i hi
  have hi0 : i = 0 := by simpa [ByteArray.size] using hi
  subst hi0
  have h1 := ((Blk.new w 5 #[.int .u8 (x : Int)]).cl 0 _ rfl).1
  have h2 : ((⟨#[UInt8.ofNat x]⟩ : ByteArray)[0]).toNat = x := Cl.toNat_of hx
  rw [h2]
  exact h1
theorem bl_cons (b : UInt8) (s : ByteArray) : Cl.bl (⟨#[b]⟩ ++ s) = b :: Cl.bl s := by rw [Cl.bl_app]; rfl
set_option maxRecDepth 100000 in
set_option maxHeartbeats 1000000 in
theorem refUp_any (n : Nat) (hn : n < 9223372036854775808) (w : World) :
    Calls Tryd.prog 35 #[.int .i64 n] w fun e w' => e = .returned (.string (Cl.up n)) ∧ Below w.heap.size w w' := by
  have hcv0 := conv_one w (n % 128) (by omega)
  rw [show ((n % 128 : Nat) : Int) = (n : Int) % 128 by omega] at hcv0
  have HB0 := Lib.hid ((Below.refl w.heap.size w).alloc (Nat.le_refl _) (.cells #[.int .u8 ((n : Int) % 128)] 5))
  go_enter Tryd.func35, Tryd.ntmps35
  go_wp2
  clear hcv0
  go_loopw [0, 3] (fun nv sv wr => ∃ (m : Nat) (s : ByteArray), m < 9223372036854775808 ∧ nv = .int .i64 m ∧ sv = .string s ∧ Hid (Cl.upHi m ++ Cl.bl s = Cl.upL n) ∧ s.size ≤ 100 ∧ Hid (Below w.heap.size w wr)) (fun nv _ _ => (intOf nv).toNat)
  case atStart => exact ⟨n / 128, ⟨#[UInt8.ofNat (n % 128)]⟩, by omega, by simp, rfl, Lib.hid rfl, by simp [ByteArray.size], HB0⟩
  case round =>
    clear HB0
    obtain ⟨m, s, hm, rfl, rfl, HE, hs, HB⟩ := hrel
    by_cases h0 : m = 0
    · subst h0
      go_wp2
      go_ret
      have he := HE.out
      rw [Cl.upHi_zero, List.nil_append] at he
      refine ⟨?_, HB.out⟩
      rw [show s = Cl.up n from Cl.bl_inj he]
      rfl
    · have hcv := conv_one wr (m % 128 + 128) (by omega)
      rw [show ((m % 128 + 128 : Nat) : Int) = (m : Int) % 128 + 128 by omega] at hcv
      have HBN := Lib.hid (HB.out.alloc HB.out.size (.cells #[.int .u8 ((m : Int) % 128 + 128)] 5))
      have HE2 : Hid (Cl.upHi (m / 128) ++ Cl.bl (⟨#[UInt8.ofNat (m % 128 + 128)]⟩ ++ s) = Cl.upL n) := by
        show _ = _
        rw [bl_cons, ← HE.out, Cl.upHi_pos h0, List.append_assoc, List.singleton_append]
      have hl : s.size ≤ 9 := by
        have h1 := congrArg List.length HE.out
        have h2 := Cl.up_len n hn
        rw [List.length_append, Cl.bl_len] at h1
        omega
      have HSZ : Hid ((⟨#[UInt8.ofNat (m % 128 + 128)]⟩ ++ s : ByteArray).size ≤ 100) := by
        show _ ≤ _
        have : (⟨#[UInt8.ofNat (m % 128 + 128)]⟩ ++ s : ByteArray).size = s.size + 1 := by rw [← Cl.bl_len, bl_cons, List.length_cons, Cl.bl_len]
        omega
      go_wp2
      go_roundw
      case rel => exact ⟨m / 128, ⟨#[UInt8.ofNat (m % 128 + 128)]⟩ ++ s, by omega, by simp, by simp, HE2, HSZ.out, HBN⟩
      case measure => simp [intOf]; omega
set_option maxRecDepth 100000 in
theorem refText_any (s : ByteArray) (hs : s.size ≤ 100000000) (w : World) :
    Calls Tryd.prog 24 #[.string s] w fun e w' => e = .returned (.string (Cl.up s.size ++ s)) ∧ Below w.heap.size w w' := by
  have HU := Lib.hid (refUp_any s.size (by omega) w)
  have hz : (Cl.up s.size).size ≤ 9 := by rw [Cl.up_size]; exact Cl.up_len _ (by omega)
  go_enter Tryd.func24, Tryd.ntmps24
  go_wp2_with fail
  refine HU.out.mono ?_
  rintro e w1 ⟨rfl, hb⟩
  go_wp2
  go_ret
  exact ⟨rfl, hb⟩
/-- a mark -/
def Cl.mk (y : Bool) : ByteArray := ⟨#[if y then 1 else 0]⟩
theorem CoilAt.but {W W' : World} {C D B B' : Nat} {l : List UInt8} (h : CoilAt W C B l) (hb : But B' D W W') (hB : W.heap.size ≤ B') (hne : C ≠ D) {t : TypeId} {cs : Array Value} (hD : Blk W D t cs) (ht : t ≠ 5) : CoilAt W' C B l := by
  obtain ⟨v, hv, hr⟩ := h
  refine ⟨v, (hb.block C (Nat.lt_of_lt_of_le hv.lt hB) hne).trans hv, ?_⟩
  rcases hr.2 with h0 | ⟨g, cap, cur, e, hg, hh, r⟩
  · exact ⟨hr.1, .inl h0⟩
  · have hlt := (Array.getElem?_eq_some_iff.1 hh).1
    refine ⟨hr.1, .inr ⟨g, cap, cur, e, hg, (hb.block g (by omega) (fun e' => ?_)).trans hh, r⟩⟩
    rw [e', show W.heap[D]? = _ from hD] at hh
    injection hh with hh
    injection hh with _ h2 _
    exact ht h2
theorem CoilAt.below {W W' : World} {C B n : Nat} {l : List UInt8} (h : CoilAt W C B l) (hb : Below n W W') (hn : W.heap.size ≤ n) : CoilAt W' C B l := by
  obtain ⟨v, hv, hr⟩ := h
  exact ⟨v, hv.below hb (Nat.lt_of_lt_of_le hv.lt hn), hr.stay fun g _ hg => hb.block g (by omega)⟩
theorem CoilAt.base {W : World} {C B B' : Nat} {l : List UInt8} (h : CoilAt W C B l) (hB : B' ≤ B) : CoilAt W C B' l := by
  obtain ⟨v, hv, hr⟩ := h
  refine ⟨v, hv, ?_⟩
  rcases hr.2 with h0 | ⟨g, cap, cur, e, hg, r⟩
  · exact ⟨hr.1, .inl h0⟩
  · exact ⟨hr.1, .inr ⟨g, cap, cur, e, by omega, r⟩⟩
theorem CoilAt.lt {W : World} {C B : Nat} {l : List UInt8} (h : CoilAt W C B l) : C < W.heap.size := by
  obtain ⟨v, hv, _⟩ := h
  exact hv.lt
/-- a new Reel upon a row of one's own -/
theorem reel_row {W : World} {B : Nat} {v : Value} {l : List UInt8} (h : BRow W B v l) (hl : l.length ≤ 1000000000) : ∃ a n cap, v = .slice a n cap ∧ ReelAt (W.alloc (.cells #[v, .int .i64 0] 77)) W.heap.size ⟨l.toArray⟩ 0 := by
  have hsz : (⟨l.toArray⟩ : ByteArray).size = l.length := by simp [ByteArray.size]
  rcases h.bytes with ⟨rfl, rfl⟩ | ⟨g, cap, rfl, _, hg, hn, _, hB⟩
  · exact ⟨_, _, _, rfl, none, 0, Blk.new W _ _, Nat.zero_le _, Nat.zero_le _, .inl rfl⟩
  · refine ⟨_, _, _, rfl, some ⟨g, 0, none⟩, cap, ?_, by rw [hsz]; exact hn, by rw [hsz]; unfold maxLen; omega, .inr ⟨g, 0, rfl, by omega, by simp; omega, fun i hi => ?_⟩⟩
    · rw [hsz]; exact Blk.new W _ _
    · exact (((Below.refl W.heap.size W).alloc (Nat.le_refl _) _).cell (p := ⟨g, 0 + i, none⟩) hg).trans (hB i hi)
end Go.Proofs.YtdiokcmhpndoeaaDoor
