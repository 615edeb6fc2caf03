
/- A Reel in memory whose bytes lie below block N, and what each of its calls does. -/
import Derived.Test.YtdiokcmhpndoeaaDoorClReel2
namespace Go.Proofs.YtdiokcmhpndoeaaDoor
open Go.RowKit
namespace Rn
variable {N : Nat}
/-- The Reel at R: the bytes s are left, at a; it failed with f. -/
def RS (N : Nat) (W : World) (R : Nat) (a : Option Addr) (cap : Nat) (s : ByteArray) (f : Nat) : Prop :=
  Blk W R 77 #[.slice a s.size cap, .int .i64 f] ∧ s.size ≤ cap ∧ s.size ≤ maxLen ∧ (s.size = 0 ∨ ∃ b o, a = some ⟨b, o, none⟩ ∧ b ≠ R ∧ (b < W.heap.size ∧ b < N) ∧ Lib.Bytes W b o s)
def ReelAt (N : Nat) (W : World) (R : Nat) (s : ByteArray) (f : Nat) : Prop := ∃ a cap, RS N W R a cap s f
section
variable {W W' : World} {R cap f : Nat} {a : Option Addr} {s : ByteArray}
theorem RS.bytesS (h : RS N W R a cap s f) : BytesS W a s := by
  obtain ⟨_, hc, _, h0 | ⟨b, o, e, _, hb, hB⟩⟩ := h
  · exact .inl h0
  · exact .inr ⟨b, o, e, hb.1, hB⟩
theorem RS.left (h : RS N W R a cap s f) : Cel W ⟨R, 0, none⟩ (.slice a s.size cap) := h.1.cl 0 _ rfl
theorem RS.fail (h : RS N W R a cap s f) : Cel W ⟨R, 1, none⟩ (.int .i64 f) := h.1.cl 1 _ rfl
theorem RS.setFail (h : RS N W R a cap s f) (c : Nat) : RS N (W.setCell ⟨R, 1, none⟩ (.int .i64 c)) R a cap s c := by
  obtain ⟨hb, h1, h2, h3⟩ := h
  refine ⟨hb.set 1 _, h1, h2, ?_⟩
  rcases h3 with h3 | ⟨b, o, e, hne, hlt, hB⟩
  · exact .inl h3
  · exact .inr ⟨b, o, e, hne, ⟨by simpa using hlt.1, hlt.2⟩, bytes_grown (grown_set W R 1 _) hlt.1 (fun e => hne (by injection e)) hB⟩
theorem RS.setLeft (h : RS N W R a cap s f) (t : ByteArray) (a' : Option Addr) (cap' : Nat) (h1 : t.size ≤ cap') (h2 : t.size ≤ maxLen)
    (h3 : t.size = 0 ∨ ∃ b o, a' = some ⟨b, o, none⟩ ∧ b ≠ R ∧ (b < W.heap.size ∧ b < N) ∧ Lib.Bytes W b o t) : RS N (W.setCell ⟨R, 0, none⟩ (.slice a' t.size cap')) R a' cap' t f := by
  refine ⟨h.1.set 0 _, h1, h2, ?_⟩
  rcases h3 with h3 | ⟨b, o, e, hne, hlt, hB⟩
  · exact .inl h3
  · exact .inr ⟨b, o, e, hne, ⟨by simpa using hlt.1, hlt.2⟩, bytes_grown (grown_set W R 0 _) hlt.1 (fun e => hne (by injection e)) hB⟩
theorem RS.grown {row : Option Nat} (h : RS N W R a cap s f) (hg : W.grownBy W' row) (hR : some R ≠ row) (hr : ∀ b o, a = some ⟨b, o, none⟩ → some b ≠ row) : RS N W' R a cap s f := by
  obtain ⟨hb, h1, h2, h3⟩ := h
  refine ⟨hb.grown hg hR, h1, h2, ?_⟩
  rcases h3 with h3 | ⟨b, o, e, hne, hlt, hB⟩
  · exact .inl h3
  · exact .inr ⟨b, o, e, hne, ⟨Nat.lt_of_lt_of_le hlt.1 hg.size, hlt.2⟩, bytes_grown hg hlt.1 (hr b o e) hB⟩
end
set_option maxRecDepth 100000 in
set_option maxHeartbeats 1000000 in
theorem take_any (R : Nat) (a : Option Addr) (cap : Nat) (s : ByteArray) (f k : Nat) (hk : k ≤ s.size) (w : World) (h : RS N w R a cap s f) :
    Calls Tryd.prog 39 #[.pointer (some ⟨R, 0, none⟩), .int .i64 k] w fun e w' => e = .returned (.slice a k k) ∧ ReelAt N w' R (Cl.behind s k) f ∧ w.grownBy w' (some R) := by
  have HS := Lib.hid h
  obtain ⟨hc, hfz⟩ := h.left
  obtain ⟨hb, h1, h2, h3⟩ := h
  clear hb
  have HZ := Lib.hid (Cl.behind_size s k)
  unfold maxLen at h2
  generalize hn : s.size = n at hk hc h1 h2 HZ
  have HN := Lib.hid hn
  clear hn
  rcases h3 with h0 | ⟨b, o, rfl, hne, hlt, hB⟩
  · obtain rfl : n = 0 := HN.out.symm.trans h0
    obtain rfl : k = 0 := by omega
    clear h0
    have hfin : ∀ a' : Option Addr, ∀ c' : Nat, ReelAt N (w.setCell ⟨R, 0, none⟩ (.slice a' 0 c')) R (Cl.behind s 0) f := fun a' c' => by
      have hz := HZ.out
      have hq := HS.out.setLeft (Cl.behind s 0) a' c' (by rw [hz]; omega) (by rw [hz]; exact Nat.zero_le _) (.inl hz)
      rw [hz] at hq
      exact ⟨_, _, hq⟩
    have HF := Lib.hid hfin
    clear hfin
    cases a
    all_goals
      go_enter Tryd.func39, Tryd.ntmps39
      go_wp2
    all_goals
      go_ret
      exact ⟨rfl, HF.out _ _, grown_set _ _ _ _⟩
  · have HB := Lib.hid hB
    clear hB
    go_enter Tryd.func39, Tryd.ntmps39
    go_wp2
    · go_ret
      refine ⟨rfl, ⟨some ⟨b, o, none⟩, 0, ?_⟩, grown_set _ _ _ _⟩
      have hz := HZ.out
      have h0 : n - k = 0 := by omega
      rw [← hz]
      refine HS.out.setLeft (Cl.behind s k) _ 0 (by omega) (by unfold maxLen; omega) (.inr ⟨b, o, rfl, hne, hlt, fun i hi => absurd hi (by omega)⟩)
    · go_ret
      refine ⟨rfl, ⟨some ⟨b, o + k, none⟩, cap - k, ?_⟩, grown_set _ _ _ _⟩
      have hz := HZ.out
      rw [← hz]
      exact HS.out.setLeft (Cl.behind s k) _ _ (by omega) (by unfold maxLen; omega) (.inr ⟨b, o + k, rfl, hne, hlt, bytes_behind k HB.out⟩)
set_option maxRecDepth 100000 in
theorem next_failed (R : Nat) (a : Option Addr) (cap : Nat) (s : ByteArray) (f : Nat) (most : Int) (hf : f ≠ 0) (w : World) (h : RS N w R a cap s f) :
    Calls Tryd.prog 38 #[.pointer (some ⟨R, 0, none⟩), .int .i64 most] w fun e w' => e = .returned (.tuple #[.int .i64 0, .int .i64 0]) ∧ w = w' := by
  obtain ⟨hc, hfz⟩ := h.fail
  clear h
  go_enter Tryd.func38, Tryd.ntmps38
  go_wp2
  go_ret2
  exact ⟨rfl, rfl⟩
set_option maxRecDepth 100000 in
set_option maxHeartbeats 1000000 in
theorem next_any (R : Nat) (a : Option Addr) (cap : Nat) (s : ByteArray) (most : Int) (w : World) (h : RS N w R a cap s 0) :
    Calls Tryd.prog 38 #[.pointer (some ⟨R, 0, none⟩), .int .i64 most] w fun e w' => e = .returned (.tuple #[.int .i64 (Cl.takeUp s most).1, .int .i64 (Cl.takeUp s most).2.1]) ∧ RS N w' R a cap s (Cl.takeUp s most).2.2 ∧ w.grownBy w' (some R) := by
  have HS := Lib.hid h
  have HU := Lib.hid (number_any a s.size cap s rfl h.2.2.1 w h.bytesS)
  obtain ⟨hc, hfz⟩ := h.left
  obtain ⟨hc1, hfz1⟩ := h.fail
  clear h
  have hb := Cl.num_bd s
  unfold Cl.takeUp
  generalize Cl.num s = p at HU hb ⊢
  obtain ⟨n, k, c⟩ := p
  dsimp only at HU hb ⊢
  obtain ⟨hb1, hb2, hb3, -, -⟩ := hb
  generalize hn : s.size = z at HU hc hb2
  clear hn
  by_cases h0 : c = 0
  · subst h0
    clear hb3
    by_cases hm : most < (n : Int)
    · rw [if_pos ⟨rfl, hm⟩]
      go_enter Tryd.func38, Tryd.ntmps38
      go_wp2_with fail
      refine HU.out.mono ?_
      rintro e w1 ⟨rfl, rfl⟩
      go_wp2
      go_ret2
      exact ⟨rfl, HS.out.setFail 1, grown_set _ _ _ _⟩
    · rw [if_neg (fun h => hm h.2)]
      go_enter Tryd.func38, Tryd.ntmps38
      go_wp2_with fail
      refine HU.out.mono ?_
      rintro e w1 ⟨rfl, rfl⟩
      go_wp2
      go_ret2
      exact ⟨rfl, HS.out, World.grownBy.refl _ _⟩
  · rw [if_neg (fun h => h0 h.1)]
    obtain ⟨rfl, rfl⟩ : n = 0 ∧ k = 0 := hb3.resolve_left h0
    clear hb3
    go_enter Tryd.func38, Tryd.ntmps38
    go_wp2_with fail
    refine HU.out.mono ?_
    rintro e w1 ⟨rfl, rfl⟩
    go_wp2
    go_ret2
    exact ⟨rfl, HS.out.setFail c, grown_set _ _ _ _⟩
set_option maxRecDepth 100000 in
set_option maxHeartbeats 1000000 in
theorem up_any (R : Nat) (s : ByteArray) (f : Nat) (most : Int) (w : World) (h : ReelAt N w R s f) :
    Calls Tryd.prog 31 #[.pointer (some ⟨R, 0, none⟩), .int .i64 most] w fun e w' => e = .returned (.int .i64 (Cl.after s f 0 (Cl.takeUp s most)).1) ∧ ReelAt N w' R (Cl.after s f 0 (Cl.takeUp s most)).2.1 (Cl.after s f 0 (Cl.takeUp s most)).2.2 ∧ w.grownBy w' (some R) := by
  obtain ⟨a, cap, h⟩ := h
  unfold Cl.after
  by_cases hf : f = 0
  · subst hf
    rw [if_pos rfl]
    have HU := Lib.hid (next_any R a cap s most w h)
    have hb := Cl.takeUp_bd s most
    obtain ⟨hb1, hb2, -, -, -⟩ := hb
    clear h
    go_enter Tryd.func31, Tryd.ntmps31
    go_wp2_with fail
    refine HU.out.mono ?_
    rintro e w1 ⟨rfl, hs1, hg1⟩
    have HT := Lib.hid (take_any R a cap s _ (Cl.takeUp s most).2.1 hb2 w1 hs1)
    go_wp2_with fail
    refine HT.out.mono ?_
    rintro e w2 ⟨rfl, hs2, hg2⟩
    go_wp2
    go_ret
    exact ⟨rfl, hs2, grown_trans hg1 hg2⟩
  · rw [if_neg hf]
    have HU := Lib.hid (next_failed R a cap s f most hf w h)
    have HT := Lib.hid (take_any R a cap s f 0 (Nat.zero_le _) w h)
    clear h
    go_enter Tryd.func31, Tryd.ntmps31
    go_wp2_with fail
    refine HU.out.mono ?_
    rintro e w1 ⟨rfl, rfl⟩
    go_wp2_with fail
    refine HT.out.mono ?_
    rintro e w2 ⟨rfl, hs2, hg2⟩
    go_wp2
    go_ret
    rw [Cl.behind_zero] at hs2
    exact ⟨rfl, hs2, hg2⟩
theorem conv_pre {w w' : World} {a : Option Addr} {s : ByteArray} {R cap f : Nat} (h : RS N w R a cap s f) (hg : w.grownBy w' (some R)) (n : Nat) (hn : n ≤ s.size) :
    (convert 22 9 (.slice a n n)).run Tryd.prog w' = .ok (.string (s.extract 0 n)) w' := by
  obtain ⟨_, h1, _, h0 | ⟨b, o, rfl, hne, hlt, hB⟩⟩ := h
  · obtain rfl : n = 0 := by omega
    have : s.extract 0 0 = ⟨#[]⟩ := Cl.bl_inj (List.length_eq_zero_iff.1 (by rw [Cl.bl_len]; simp))
    rw [this]
    exact conv_zero w' a 0
  · have := Lib.run_convert_window (P := Tryd.prog) w' 22 5 9 Tryd.underlying22 Tryd.underlying5 Tryd.underlying9 b o s (bytes_grown hg hlt.1 (fun e => hne (by injection e)) hB) 0 n n (by omega)
    rw [Nat.add_zero, Nat.zero_add] at this
    exact this
set_option maxRecDepth 100000 in
theorem left_any (R : Nat) (s : ByteArray) (f : Nat) (w : World) (h : ReelAt N w R s f) :
    Calls Tryd.prog 33 #[.pointer (some ⟨R, 0, none⟩)] w fun e w' => e = .returned (.int .i64 s.size) ∧ w = w' := by
  obtain ⟨a, cap, h⟩ := h
  obtain ⟨hc0, hz0⟩ := h.left
  clear h
  go_enter Tryd.func33, Tryd.ntmps33
  go_wp2
  go_ret
  exact ⟨rfl, rfl⟩
set_option maxRecDepth 100000 in
theorem fail_any (R : Nat) (s : ByteArray) (f : Nat) (w : World) (h : ReelAt N w R s f) :
    Calls Tryd.prog 32 #[.pointer (some ⟨R, 0, none⟩)] w fun e w' => e = .returned (.int .i64 f) ∧ w = w' := by
  obtain ⟨a, cap, h⟩ := h
  obtain ⟨hc0, hz0⟩ := h.fail
  clear h
  go_enter Tryd.func32, Tryd.ntmps32
  go_wp2
  go_ret
  exact ⟨rfl, rfl⟩
end Rn
end Go.Proofs.YtdiokcmhpndoeaaDoor
