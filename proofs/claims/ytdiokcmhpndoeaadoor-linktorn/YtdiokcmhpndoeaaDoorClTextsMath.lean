
/- Texts and marks as bytes, one behind the other, and how they are taken. -/
import Derived.Test.YtdiokcmhpndoeaaDoorClRefPut
import Derived.Test.YtdiokcmhpndoeaaDoorClReel2
import Derived.Test.YtdiokcmhpndoeaaDoorClOpen
import Derived.Lib.ConvBytes
namespace Go.Proofs.YtdiokcmhpndoeaaDoor
open Go.RowKit
namespace Cl
/-- the first k -/
def upto {α : Type} (f : Nat → α) (k : Nat) : List α := (List.range k).map f
theorem upto_succ {α : Type} (f : Nat → α) (k : Nat) : upto f (k + 1) = upto f k ++ [f k] := by simp [upto, List.range_succ]
theorem upto_len {α : Type} (f : Nat → α) (k : Nat) : (upto f k).length = k := by simp [upto]
theorem upto_drop {α : Type} (f : Nat → α) {k n : Nat} (h : k < n) : (upto f n).drop k = f k :: (upto f n).drop (k + 1) := by
  rw [List.drop_eq_getElem_cons (by rw [upto_len]; exact h)]
  simp [upto]
/-- texts as bytes -/
def TL (l : List ByteArray) : List UInt8 := l.flatMap fun s => upL s.size ++ bl s
/-- marks as bytes -/
def ML (l : List Bool) : List UInt8 := l.map fun y => if y then 1 else 0
theorem TL_snoc (l : List ByteArray) (s : ByteArray) : TL (l ++ [s]) = TL l ++ upL s.size ++ bl s := by simp [TL]
theorem TL_cons (s : ByteArray) (l : List ByteArray) : TL (s :: l) = upL s.size ++ (bl s ++ TL l) := by simp [TL]
theorem ML_snoc (l : List Bool) (y : Bool) : ML (l ++ [y]) = ML l ++ [if y then 1 else 0] := by simp [ML]
theorem ML_len (l : List Bool) : (ML l).length = l.length := by simp [ML]
/-- bytes as a text -/
def tx (l : List UInt8) : ByteArray := ⟨l.toArray⟩
theorem bl_tx (l : List UInt8) : bl (tx l) = l := rfl
theorem tx_bl (s : ByteArray) : tx (bl s) = s := bl_inj rfl
theorem tx_size (l : List UInt8) : (tx l).size = l.length := by rw [← bl_len, bl_tx]
theorem tx_app (a b : List UInt8) : tx (a ++ b) = tx a ++ tx b := bl_inj (by rw [bl_app, bl_tx, bl_tx, bl_tx])
theorem up_tx (n : Nat) : up n = tx (upL n) := rfl
theorem take_text (s : ByteArray) (r : List UInt8) (most : Int) (h : (s.size : Int) ≤ most) (hs : s.size < 9223372036854775808) :
    takeText (tx (upL s.size ++ (bl s ++ r))) most = (s, (upL s.size).length + s.size, 0) := by
  have e : tx (upL s.size ++ (bl s ++ r)) = up s.size ++ (s ++ tx r) := by rw [tx_app, tx_app, tx_bl, up_tx]
  have ht : takeUp (tx (upL s.size ++ (bl s ++ r))) most = (s.size, (upL s.size).length, 0) := by rw [e, takeUp_up s.size hs _ most h, up_size]
  unfold takeText
  rw [ht]
  dsimp only
  rw [if_neg (by simp), if_neg (by rw [tx_size, List.length_append, List.length_append, bl_len]; omega)]
  refine Prod.ext (bl_inj ?_) rfl
  unfold bl
  rw [Lib.extract_data, Nat.add_sub_cancel_left]
  show ((upL s.size ++ (bl s ++ r)).drop (upL s.size).length).take s.size = bl s
  rw [List.drop_left, ← bl_len, List.take_left]
theorem behind_text (s : ByteArray) (r : List UInt8) : behind (tx (upL s.size ++ (bl s ++ r))) ((upL s.size).length + s.size) = tx r := bl_inj (by
  rw [bl_behind, bl_tx, bl_tx, ← List.append_assoc]
  have : (upL s.size).length + s.size = (upL s.size ++ bl s).length := by rw [List.length_append, bl_len]
  rw [this, List.drop_left])
theorem take_mark (y : Bool) (r : List UInt8) : takeMark (tx ((if y then 1 else 0) :: r)) = (y, 1, 0) := by
  unfold takeMark
  rw [dif_pos (by rw [tx_size]; simp)]
  have h0 : (tx ((if y then 1 else 0) :: r))[0]'(by rw [tx_size]; simp) = if y then 1 else 0 := rfl
  rw [h0]
  cases y <;> rfl
theorem behind_mark (x : UInt8) (r : List UInt8) : behind (tx (x :: r)) 1 = tx r := bl_inj (by rw [bl_behind]; rfl)
theorem TL_len {l : List ByteArray} (h : ∀ s ∈ l, s.size ≤ 500) : (TL l).length ≤ l.length * 509 := by
  induction l with
  | nil => simp [TL]
  | cons s l ih =>
    have h1 := h s (by simp)
    have h2 := ih (fun x hx => h x (by simp [hx]))
    have h3 := up_len s.size (by omega)
    rw [TL_cons, List.length_append, List.length_append, bl_len, List.length_cons]
    omega
end Cl
theorem Holds.below {α : Type} {c : α → Value} {W W' : World} {a : Option Addr} {len : Nat} {f : Nat → α} (h : Holds c W a len f) {n : Nat} (hb : Below n W W') (hn : W.heap.size ≤ n) : Holds c W' a len f := by
  rcases h with h | ⟨b, o, e, hlt, hc⟩
  · exact .inl h
  · exact .inr ⟨b, o, e, Nat.lt_of_lt_of_le hlt hb.size, fun i hi => (hb.cell (p := ⟨b, o + i, none⟩) (Nat.lt_of_lt_of_le hlt hn)).trans (hc i hi)⟩
/-- a new Reel upon bytes that lay before -/
theorem reel_new {W : World} {a : Option Addr} {s : ByteArray} {cap : Nat} (h : BytesS W a s) (hc : s.size ≤ cap) (hm : s.size ≤ maxLen) : ReelAt (W.alloc (.cells #[.slice a s.size cap, .int .i64 0] 77)) W.heap.size s 0 := by
  refine ⟨a, cap, Blk.new W _ _, hc, hm, ?_⟩
  rcases h with h | ⟨b, o, rfl, hlt, hB⟩
  · exact .inl h
  · refine .inr ⟨b, o, rfl, by omega, by simp; omega, fun i hi => ?_⟩
    exact (((Below.refl W.heap.size W).alloc (Nat.le_refl _) _).cell (p := ⟨b, o + i, none⟩) hlt).trans (hB i hi)
/-- a text as new bytes -/
theorem bytes_world (w : World) (s : ByteArray) : ∃ cap Wb, (convert 9 22 (.string s)).run Tryd.prog w = .ok (.slice (some ⟨w.heap.size, 0, none⟩) s.size cap) Wb ∧ Below w.heap.size w Wb ∧ s.size ≤ cap ∧ BytesS Wb (some ⟨w.heap.size, 0, none⟩) s := by
  refine ⟨_, _, Lib.run_convert_string_bytes w 9 22 5 s Tryd.underlying9 Tryd.underlying22 Tryd.underlying5, ⟨rfl, rfl, rfl, by rw [Lib.bytesWorld_size]; omega, fun k hk => Lib.bytesWorld_at_old w _ s k hk⟩, grownCap_ge w s.size 0 _, .inr ⟨w.heap.size, 0, rfl, by rw [Lib.bytesWorld_size]; omega, fun i hi => ?_⟩⟩
  rw [Nat.zero_add, Lib.bytesWorld_cell w _ s i hi]
  congr 3
  have e : s.data[i]? = some s[i] := Array.getElem?_eq_getElem (show i < s.data.size from hi)
  simp [List.getD, e]
end Go.Proofs.YtdiokcmhpndoeaaDoor
