
/- A Reel in memory, and what each of its calls does. -/
import Derived.Test.YtdiokcmhpndoeaaDoorClRefTake
import Derived.RangeFuncBox
namespace Go.Proofs.YtdiokcmhpndoeaaDoor
open Go.RowKit
/-- the cell at a holds v, and may be written -/
def Cel (W : World) (a : Addr) (v : Value) : Prop := W.cell? a = some v ∧ W.frozen? a = false
/-- block g is just these cells, none frozen -/
def Blk (w : World) (g : Nat) (t : TypeId) (cs : Array Value) : Prop := w.heap[g]? = some (.cells cs t (0, 0))
theorem heap_set {W : World} {p : Addr} {u : Value} {k : Nat} (h : p.block ≠ k) : (W.setCell p u).heap[k]? = W.heap[k]? := Below.heap_setCell W p u k (fun e => h e.symm)
section
variable {w w' : World} {g : Nat} {t : TypeId} {cs : Array Value}
theorem Blk.cl (h : Blk w g t cs) (i : Nat) (u : Value) (hu : cs[i]? = some u) : Cel w ⟨g, i, none⟩ u := ⟨by rw [Lib.cell_of_heap h, hu], Lib.frozen_of_heap h i⟩
theorem Blk.new (w : World) (t : TypeId) (cs : Array Value) : Blk (w.alloc (.cells cs t)) w.heap.size t cs := heap_alloc_new w _
theorem Blk.grown {row : Option Nat} (h : Blk w g t cs) (hg : w.grownBy w' row) (hr : some g ≠ row) : Blk w' g t cs :=
  (hg.block g (Array.getElem?_eq_some_iff.1 h).1 hr).trans h
theorem Blk.alloc (h : Blk w g t cs) (o : Obj) : Blk (w.alloc o) g t cs := h.grown (World.grownBy_alloc w o none) (by simp)
theorem Blk.below {n : Nat} (h : Blk w g t cs) (hb : Below n w w') (hg : g < n) : Blk w' g t cs := (hb.block g hg).trans h
theorem Blk.set (h : Blk w g t cs) (i : Nat) (u : Value) : Blk (w.setCell ⟨g, i, none⟩ u) g t (cs.setIfInBounds i u) := by
  unfold Blk at *
  simp [World.setCell, Array.getElem?_modify, h]
theorem Blk.other (h : Blk w g t cs) {p : Addr} (hp : p.block ≠ g) (u : Value) : Blk (w.setCell p u) g t cs := (heap_set hp).trans h
theorem Blk.lt (h : Blk w g t cs) : g < w.heap.size := (Array.getElem?_eq_some_iff.1 h).1
end
theorem grown_set (W : World) (b i : Nat) (v : Value) : W.grownBy (W.setCell ⟨b, i, none⟩ v) (some b) :=
  ⟨rfl, rfl, rfl, by simp, fun k _ h => heap_set (fun e => h (congrArg some e.symm))⟩
theorem grown_trans {a b c : World} {row : Option Nat} (h : a.grownBy b row) (k : b.grownBy c row) : a.grownBy c row :=
  ⟨k.os.trans h.os, k.tape.trans h.tape, k.output.trans h.output, Nat.le_trans h.size k.size, fun i hi hr => (k.block i (Nat.lt_of_lt_of_le hi h.size) hr).trans (h.block i hi hr)⟩
theorem bytes_grown {w w' : World} {row : Option Nat} (hg : w.grownBy w' row) {b o : Nat} {s : ByteArray} (hb : b < w.heap.size) (hr : some b ≠ row) (h : Lib.Bytes w b o s) : Lib.Bytes w' b o s := fun i hi =>
  (World.cell?_of_block (w := w) (a := ⟨b, o + i, none⟩) (hg.block b hb hr)).trans (h i hi)
/-- The Reel at R: the bytes s are left, at a; it failed with f. -/
def RS (W : World) (R : Nat) (a : Option Addr) (cap : Nat) (s : ByteArray) (f : Nat) : Prop :=
  Blk W R 77 #[.slice a s.size cap, .int .i64 f] ∧ s.size ≤ cap ∧ s.size ≤ maxLen ∧ (s.size = 0 ∨ ∃ b o, a = some ⟨b, o, none⟩ ∧ b ≠ R ∧ b < W.heap.size ∧ Lib.Bytes W b o s)
def ReelAt (W : World) (R : Nat) (s : ByteArray) (f : Nat) : Prop := ∃ a cap, RS W R a cap s f
section
variable {W W' : World} {R cap f : Nat} {a : Option Addr} {s : ByteArray}
theorem RS.bytesS (h : RS W R a cap s f) : BytesS W a s := by
  obtain ⟨_, hc, _, h0 | ⟨b, o, e, _, hb, hB⟩⟩ := h
  · exact .inl h0
  · exact .inr ⟨b, o, e, hb, hB⟩
theorem RS.left (h : RS W R a cap s f) : Cel W ⟨R, 0, none⟩ (.slice a s.size cap) := h.1.cl 0 _ rfl
theorem RS.fail (h : RS W R a cap s f) : Cel W ⟨R, 1, none⟩ (.int .i64 f) := h.1.cl 1 _ rfl
theorem RS.setFail (h : RS W R a cap s f) (c : Nat) : RS (W.setCell ⟨R, 1, none⟩ (.int .i64 c)) R a cap s c := by
  obtain ⟨hb, h1, h2, h3⟩ := h
  refine ⟨hb.set 1 _, h1, h2, ?_⟩
  rcases h3 with h3 | ⟨b, o, e, hne, hlt, hB⟩
  · exact .inl h3
  · exact .inr ⟨b, o, e, hne, by simpa using hlt, bytes_grown (grown_set W R 1 _) hlt (fun e => hne (by injection e)) hB⟩
theorem RS.setLeft (h : RS W R a cap s f) (t : ByteArray) (a' : Option Addr) (cap' : Nat) (h1 : t.size ≤ cap') (h2 : t.size ≤ maxLen)
    (h3 : t.size = 0 ∨ ∃ b o, a' = some ⟨b, o, none⟩ ∧ b ≠ R ∧ b < W.heap.size ∧ Lib.Bytes W b o t) : RS (W.setCell ⟨R, 0, none⟩ (.slice a' t.size cap')) R a' cap' t f := by
  refine ⟨h.1.set 0 _, h1, h2, ?_⟩
  rcases h3 with h3 | ⟨b, o, e, hne, hlt, hB⟩
  · exact .inl h3
  · exact .inr ⟨b, o, e, hne, by simpa using hlt, bytes_grown (grown_set W R 0 _) hlt (fun e => hne (by injection e)) hB⟩
theorem RS.grown {row : Option Nat} (h : RS W R a cap s f) (hg : W.grownBy W' row) (hR : some R ≠ row) (hr : ∀ b o, a = some ⟨b, o, none⟩ → some b ≠ row) : RS W' R a cap s f := by
  obtain ⟨hb, h1, h2, h3⟩ := h
  refine ⟨hb.grown hg hR, h1, h2, ?_⟩
  rcases h3 with h3 | ⟨b, o, e, hne, hlt, hB⟩
  · exact .inl h3
  · exact .inr ⟨b, o, e, hne, Nat.lt_of_lt_of_le hlt hg.size, bytes_grown hg hlt (hr b o e) hB⟩
end
theorem bytes_behind {w : World} {b o : Nat} {s : ByteArray} (k : Nat) (h : Lib.Bytes w b o s) : Lib.Bytes w b (o + k) (Cl.behind s k) := fun i hi => by
  have hs := Cl.behind_size s k
  have := h (k + i) (by omega)
  rw [Cl.behind_at s k i hi (by omega), Nat.add_assoc]
  exact this
set_option maxRecDepth 100000 in
set_option maxHeartbeats 1000000 in
theorem take_any (R : Nat) (a : Option Addr) (cap : Nat) (s : ByteArray) (f k : Nat) (hk : k ≤ s.size) (w : World) (h : RS w R a cap s f) :
    Calls Tryd.prog 39 #[.pointer (some ⟨R, 0, none⟩), .int .i64 k] w fun e w' => e = .returned (.slice a k k) ∧ ReelAt w' R (Cl.behind s k) f ∧ w.grownBy w' (some R) := by
  have HS := Lib.hid h
  obtain ⟨hc, hfz⟩ := h.left
  obtain ⟨hb, h1, h2, h3⟩ := h
  clear hb
  have HZ := Lib.hid (Cl.behind_size s k)
  unfold maxLen at h2
  generalize hn : s.size = n at hk hc h1 h2 HZ
  have HN := Lib.hid hn
  clear hn
  rcases h3 with h0 | ⟨b, o, rfl, hne, hlt, hB⟩
  · obtain rfl : n = 0 := HN.out.symm.trans h0
    obtain rfl : k = 0 := by omega
    clear h0
    have hfin : ∀ a' : Option Addr, ∀ c' : Nat, ReelAt (w.setCell ⟨R, 0, none⟩ (.slice a' 0 c')) R (Cl.behind s 0) f := fun a' c' => by
      have hz := HZ.out
      have hq := HS.out.setLeft (Cl.behind s 0) a' c' (by rw [hz]; omega) (by rw [hz]; exact Nat.zero_le _) (.inl hz)
      rw [hz] at hq
      exact ⟨_, _, hq⟩
    have HF := Lib.hid hfin
    clear hfin
    cases a
    all_goals
      go_enter Tryd.func39, Tryd.ntmps39
      go_wp2
    all_goals
      go_ret
      exact ⟨rfl, HF.out _ _, grown_set _ _ _ _⟩
  · have HB := Lib.hid hB
    clear hB
    go_enter Tryd.func39, Tryd.ntmps39
    go_wp2
    · go_ret
      refine ⟨rfl, ⟨some ⟨b, o, none⟩, 0, ?_⟩, grown_set _ _ _ _⟩
      have hz := HZ.out
      have h0 : n - k = 0 := by omega
      rw [← hz]
      refine HS.out.setLeft (Cl.behind s k) _ 0 (by omega) (by unfold maxLen; omega) (.inr ⟨b, o, rfl, hne, hlt, fun i hi => absurd hi (by omega)⟩)
    · go_ret
      refine ⟨rfl, ⟨some ⟨b, o + k, none⟩, cap - k, ?_⟩, grown_set _ _ _ _⟩
      have hz := HZ.out
      rw [← hz]
      exact HS.out.setLeft (Cl.behind s k) _ _ (by omega) (by unfold maxLen; omega) (.inr ⟨b, o + k, rfl, hne, hlt, bytes_behind k HB.out⟩)
set_option maxRecDepth 100000 in
theorem next_failed (R : Nat) (a : Option Addr) (cap : Nat) (s : ByteArray) (f : Nat) (most : Int) (hf : f ≠ 0) (w : World) (h : RS w R a cap s f) :
    Calls Tryd.prog 38 #[.pointer (some ⟨R, 0, none⟩), .int .i64 most] w fun e w' => e = .returned (.tuple #[.int .i64 0, .int .i64 0]) ∧ w = w' := by
  obtain ⟨hc, hfz⟩ := h.fail
  clear h
  go_enter Tryd.func38, Tryd.ntmps38
  go_wp2
  go_ret2
  exact ⟨rfl, rfl⟩
set_option maxRecDepth 100000 in
set_option maxHeartbeats 1000000 in
theorem next_any (R : Nat) (a : Option Addr) (cap : Nat) (s : ByteArray) (most : Int) (w : World) (h : RS w R a cap s 0) :
    Calls Tryd.prog 38 #[.pointer (some ⟨R, 0, none⟩), .int .i64 most] w fun e w' => e = .returned (.tuple #[.int .i64 (Cl.takeUp s most).1, .int .i64 (Cl.takeUp s most).2.1]) ∧ RS w' R a cap s (Cl.takeUp s most).2.2 ∧ w.grownBy w' (some R) := by
  have HS := Lib.hid h
  have HU := Lib.hid (number_any a s.size cap s rfl h.2.2.1 w h.bytesS)
  obtain ⟨hc, hfz⟩ := h.left
  obtain ⟨hc1, hfz1⟩ := h.fail
  clear h
  have hb := Cl.num_bd s
  unfold Cl.takeUp
  generalize Cl.num s = p at HU hb ⊢
  obtain ⟨n, k, c⟩ := p
  dsimp only at HU hb ⊢
  obtain ⟨hb1, hb2, hb3, -, -⟩ := hb
  generalize hn : s.size = z at HU hc hb2
  clear hn
  by_cases h0 : c = 0
  · subst h0
    clear hb3
    by_cases hm : most < (n : Int)
    · rw [if_pos ⟨rfl, hm⟩]
      go_enter Tryd.func38, Tryd.ntmps38
      go_wp2_with fail
      refine HU.out.mono ?_
      rintro e w1 ⟨rfl, rfl⟩
      go_wp2
      go_ret2
      exact ⟨rfl, HS.out.setFail 1, grown_set _ _ _ _⟩
    · rw [if_neg (fun h => hm h.2)]
      go_enter Tryd.func38, Tryd.ntmps38
      go_wp2_with fail
      refine HU.out.mono ?_
      rintro e w1 ⟨rfl, rfl⟩
      go_wp2
      go_ret2
      exact ⟨rfl, HS.out, World.grownBy.refl _ _⟩
  · rw [if_neg (fun h => h0 h.1)]
    obtain ⟨rfl, rfl⟩ : n = 0 ∧ k = 0 := hb3.resolve_left h0
    clear hb3
    go_enter Tryd.func38, Tryd.ntmps38
    go_wp2_with fail
    refine HU.out.mono ?_
    rintro e w1 ⟨rfl, rfl⟩
    go_wp2
    go_ret2
    exact ⟨rfl, HS.out.setFail c, grown_set _ _ _ _⟩
/-- what a Reel with the bytes s that failed with f answers: how it is behind it -/
def Cl.after {α : Type} (s : ByteArray) (f : Nat) (z : α) (t : α × Nat × Nat) : α × ByteArray × Nat := if f = 0 then (t.1, Cl.behind s t.2.1, t.2.2) else (z, s, f)
set_option maxRecDepth 100000 in
set_option maxHeartbeats 1000000 in
theorem up_any (R : Nat) (s : ByteArray) (f : Nat) (most : Int) (w : World) (h : ReelAt w R s f) :
    Calls Tryd.prog 31 #[.pointer (some ⟨R, 0, none⟩), .int .i64 most] w fun e w' => e = .returned (.int .i64 (Cl.after s f 0 (Cl.takeUp s most)).1) ∧ ReelAt w' R (Cl.after s f 0 (Cl.takeUp s most)).2.1 (Cl.after s f 0 (Cl.takeUp s most)).2.2 ∧ w.grownBy w' (some R) := by
  obtain ⟨a, cap, h⟩ := h
  unfold Cl.after
  by_cases hf : f = 0
  · subst hf
    rw [if_pos rfl]
    have HU := Lib.hid (next_any R a cap s most w h)
    have hb := Cl.takeUp_bd s most
    obtain ⟨hb1, hb2, -, -, -⟩ := hb
    clear h
    go_enter Tryd.func31, Tryd.ntmps31
    go_wp2_with fail
    refine HU.out.mono ?_
    rintro e w1 ⟨rfl, hs1, hg1⟩
    have HT := Lib.hid (take_any R a cap s _ (Cl.takeUp s most).2.1 hb2 w1 hs1)
    go_wp2_with fail
    refine HT.out.mono ?_
    rintro e w2 ⟨rfl, hs2, hg2⟩
    go_wp2
    go_ret
    exact ⟨rfl, hs2, grown_trans hg1 hg2⟩
  · rw [if_neg hf]
    have HU := Lib.hid (next_failed R a cap s f most hf w h)
    have HT := Lib.hid (take_any R a cap s f 0 (Nat.zero_le _) w h)
    clear h
    go_enter Tryd.func31, Tryd.ntmps31
    go_wp2_with fail
    refine HU.out.mono ?_
    rintro e w1 ⟨rfl, rfl⟩
    go_wp2_with fail
    refine HT.out.mono ?_
    rintro e w2 ⟨rfl, hs2, hg2⟩
    go_wp2
    go_ret
    rw [Cl.behind_zero] at hs2
    exact ⟨rfl, hs2, hg2⟩
end Go.Proofs.YtdiokcmhpndoeaaDoor
