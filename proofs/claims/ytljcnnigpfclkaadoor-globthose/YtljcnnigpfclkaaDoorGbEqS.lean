
/- slices.Equal of two slices that hold the same texts. -/
import Derived.Test.YtljcnnigpfclkaaDoorGbBase
namespace Go.Proofs.YtljcnnigpfclkaaDoor
open Go.RowKit Go.Shelf
open Dp
namespace Gb
def Dw (a b : World) : Prop := ∃ q, b = a.drewN q
theorem Dw.refl (a : World) : Dw a a := ⟨0, rfl⟩
theorem Dw.more {a b : World} (h : Dw a b) (n : Nat) : Dw a (b.drewN n) := by obtain ⟨q, rfl⟩ := h; exact ⟨q + n, by rw [World.drewN_drewN]⟩
theorem Dw.cell {a b : World} (h : Dw a b) (p : Addr) : b.cell? p = a.cell? p := by obtain ⟨q, rfl⟩ := h; rfl
theorem Dw.below {a b : World} (h : Dw a b) : Below a.heap.size a b := by obtain ⟨q, rfl⟩ := h; exact below_drewN (Below.refl _ _) q
set_option maxRecDepth 100000 in
set_option maxHeartbeats 1000000 in
theorem equal_any (L : List (List UInt8)) (a1 a2 : Option Addr) (c1 c2 : Nat) (w : World) (hL : L.length ≤ 1000) (h1 : EsT w (.slice a1 L.length c1) L) (h2 : EsT w (.slice a2 L.length c2) L) :
    Calls Tryd.prog 12 #[.slice a1 L.length c1, .slice a2 L.length c2] w fun e w' => e = .returned (.bool true) ∧ Below w.heap.size w w' := by
  have H1 := Lib.hid h1
  have H2 := Lib.hid h2
  obtain ⟨n, hn⟩ : ∃ n, L.length = n := ⟨_, rfl⟩
  rw [hn] at H1 H2 hL ⊢
  have HN := Lib.hid hn
  have hnn : ((n : Int) != (n : Int)) = false := by simp
  clear h1 h2 hn
  go_enter Tryd.func12, Tryd.ntmps12
  go_wp2
  go_loopw [5, 13] (fun _ i wr => ∃ k : Nat, k ≤ n ∧ i = .int .i64 (k : Int) ∧ Hid (Dw w wr)) (fun _ i _ => n - (intOf i).toNat)
  case atStart => exact ⟨0, Nat.zero_le _, rfl, Dw.refl _⟩
  case round =>
    obtain ⟨k, hk, rfl, HD⟩ := hrel
    by_cases hlt : k < n
    · have hkL : k < L.length := by rw [HN.out]; exact hlt
      obtain ⟨a, c, hx, hc, hat⟩ := EsT.at H1.out
      injection hx with ha hx2 hcc
      obtain ⟨b, o, hbo, hcell⟩ := hat (by omega)
      obtain rfl : a1 = some ⟨b, o, none⟩ := ha.trans hbo
      obtain ⟨a', c', hx', hc', hat'⟩ := EsT.at H2.out
      injection hx' with ha' hx2' hcc'
      obtain ⟨b', o', hbo', hcell'⟩ := hat' (by omega)
      obtain rfl : a2 = some ⟨b', o', none⟩ := ha'.trans hbo'
      have p1 : wr.cell? ⟨b, o + k, none⟩ = some (.string (B L[k])) := (HD.out.cell _).trans (hcell k _ (List.getElem?_eq_getElem hkL))
      have p2 : wr.cell? ⟨b', o' + k, none⟩ = some (.string (B L[k])) := (HD.out.cell _).trans (hcell' k _ (List.getElem?_eq_getElem hkL))
      have hkn : (k : Int) < (n : Int) := by omega
      have hee : ((B L[k]).toList != (B L[k]).toList) = false := by simp
      generalize B L[k] = x at p1 p2 hee
      clear ha hx2 hcc hbo hcell hat hc ha' hx2' hcc' hbo' hcell' hat' hc' hkL
      go_wp2
      go_quiet (fail)
      go_wp2
      go_roundw
      case rel => exact ⟨k + 1, hlt, by go_num, HD.out.more _⟩
      case measure => simp [intOf]; omega
    · obtain rfl : k = n := by omega
      have HB : Hid (Below w.heap.size w wr) := HD.out.below
      go_wp2
      go_ret
      exact ⟨rfl, HB.out⟩
end Gb
end Go.Proofs.YtljcnnigpfclkaaDoor
