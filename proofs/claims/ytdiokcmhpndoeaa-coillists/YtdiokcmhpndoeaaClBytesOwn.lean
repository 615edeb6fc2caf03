
/- Rows of one's own, and a Reel over them. -/
import Derived.Test.YtdiokcmhpndoeaaClBytesS
import Derived.Test.YtdiokcmhpndoeaaClReelN
namespace Go.Proofs.Ytdiokcmhpndoeaa
open Go.RowKit
/-- a Reel over bytes of one's own -/
theorem reel_own {W : World} {B : Nat} {v : Value} {l : List UInt8} (h : BRow W B v l) (hl : l.length ≤ 1000000000) : ∃ a n cap, v = .slice a n cap ∧ Rn.ReelAt W.heap.size (W.alloc (.cells #[v, .int .i64 0] 63)) W.heap.size ⟨l.toArray⟩ 0 := by
  have hz : (⟨l.toArray⟩ : ByteArray).size = l.length := by simp [ByteArray.size]
  rcases h.bytes with ⟨rfl, rfl⟩ | ⟨g, cap, rfl, hg, hlt, hn, hcap, hB⟩
  · exact ⟨_, _, _, rfl, none, 0, Blk.new W _ _, Nat.le_refl _, by decide, .inl rfl⟩
  · refine ⟨_, _, _, rfl, some ⟨g, 0, none⟩, cap, by rw [hz]; exact Blk.new W _ _, by rw [hz]; exact hn, by rw [hz]; unfold maxLen; omega, .inr ⟨g, 0, rfl, by omega, ⟨by simp; omega, hlt⟩, ?_⟩⟩
    exact bytes_grown (World.grownBy_alloc W _ none) hlt (by simp) hB
theorem BRow.but {W W' : World} {B B' R : Nat} {v : Value} {l : List UInt8} {t : TypeId} {cs : Array Value} (h : BRow W B v l) (hb : But B' R W W') (hB : W.heap.size ≤ B') (hR : Blk W R t cs) (ht : t ≠ 5) : BRow W' B v l := by
  rcases h.2 with h0 | ⟨g, cap, cur, e, hg, hh, r⟩
  · exact ⟨h.1, .inl h0⟩
  · have hlt := (Array.getElem?_eq_some_iff.1 hh).1
    refine ⟨h.1, .inr ⟨g, cap, cur, e, hg, (hb.block g (by omega) (fun e' => ?_)).trans hh, r⟩⟩
    subst e'
    have := (show W.heap[g]? = _ from hR).symm.trans hh
    simp at this
    exact ht this.2
theorem BytesS.but {W W' : World} {B' R : Nat} {a : Option Addr} {s : ByteArray} (h : BytesS W a s) (hlow : ∀ b o, a = some ⟨b, o, none⟩ → b < B' ∧ b ≠ R) (hb : But B' R W W') : BytesS W' a s := by
  rcases h with h | ⟨b, o, e, hlt, hB⟩
  · exact .inl h
  · exact .inr ⟨b, o, e, Nat.lt_of_lt_of_le hlt hb.size, fun i hi => (World.cell?_of_block (w := W) (a := ⟨b, o + i, none⟩) (hb.block b (hlow b o e).1 (hlow b o e).2)).trans (hB i hi)⟩
end Go.Proofs.Ytdiokcmhpndoeaa
