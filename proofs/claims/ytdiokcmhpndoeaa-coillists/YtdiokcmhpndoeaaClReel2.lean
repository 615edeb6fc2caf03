
/- A Reel's other calls: any number, a text, a mark, what is left, how it failed, how it ended; a new one. -/
import Derived.Test.YtdiokcmhpndoeaaClReel
namespace Go.Proofs.Ytdiokcmhpndoeaa
open Go.RowKit
theorem Cl.after_bd (s : ByteArray) (f : Nat) (most : Int) : (Cl.after s f 0 (Cl.takeUp s most)).1 < 9223372036854775808 := by
  unfold Cl.after
  split
  · exact (Cl.takeUp_bd s most).1
  · simp
theorem Cl.after_int (s : ByteArray) (f : Nat) : (Cl.after s f 0 (Cl.unInt (Cl.takeUp s 9223372036854775807).1, (Cl.takeUp s 9223372036854775807).2)) = (Cl.unInt (Cl.after s f 0 (Cl.takeUp s 9223372036854775807)).1, (Cl.after s f 0 (Cl.takeUp s 9223372036854775807)).2) := by
  unfold Cl.after
  split
  · rfl
  · simp [Cl.unInt]
set_option maxRecDepth 100000 in
set_option maxHeartbeats 1000000 in
theorem int_any (R : Nat) (s : ByteArray) (f : Nat) (w : World) (h : ReelAt w R s f) :
    Calls Try.prog 16 #[.pointer (some ⟨R, 0, none⟩)] w fun e w' => e = .returned (.int .i64 (Cl.after s f 0 (Cl.unInt (Cl.takeUp s 9223372036854775807).1, (Cl.takeUp s 9223372036854775807).2)).1) ∧ ReelAt w' R (Cl.after s f 0 (Cl.unInt (Cl.takeUp s 9223372036854775807).1, (Cl.takeUp s 9223372036854775807).2)).2.1 (Cl.after s f 0 (Cl.unInt (Cl.takeUp s 9223372036854775807).1, (Cl.takeUp s 9223372036854775807).2)).2.2 ∧ w.grownBy w' (some R) := by
  have HU := Lib.hid (up_any R s f 9223372036854775807 w h)
  clear h
  have hb := Cl.after_bd s f 9223372036854775807
  rw [Cl.after_int]
  generalize Cl.after s f 0 (Cl.takeUp s 9223372036854775807) = p at HU hb ⊢
  obtain ⟨n, q⟩ := p
  dsimp only at HU hb ⊢
  by_cases hn : n % 2 = 1
  · have HI : Hid (Cl.unInt n = -1 - ((n : Int) / 2)) := by show _ = _; unfold Cl.unInt; rw [if_pos hn]; omega
    go_enter Try.func16, Try.ntmps16
    go_wp2_with fail
    refine HU.out.mono ?_
    rintro e w1 ⟨rfl, hs, hg⟩
    go_wp2
    go_ret
    rw [HI.out]
    exact ⟨by simp, hs, hg⟩
  · have HI : Hid (Cl.unInt n = ((n : Int) / 2)) := by show _ = _; unfold Cl.unInt; rw [if_neg hn]; omega
    go_enter Try.func16, Try.ntmps16
    go_wp2_with fail
    refine HU.out.mono ?_
    rintro e w1 ⟨rfl, hs, hg⟩
    go_wp2
    go_ret
    rw [HI.out]
    exact ⟨by simp, hs, hg⟩
theorem conv_none (w : World) (c : Nat) : (convert 27 9 (.slice none 0 c)).run Try.prog w = .ok (.string ⟨#[]⟩) w := by
  rw [run_convert_bytes_string w _ _ 5 none 0 c Try.underlying27 Try.underlying5 Try.underlying9]
  rfl
theorem conv_zero (w : World) (a : Option Addr) (c : Nat) : (convert 27 9 (.slice a 0 c)).run Try.prog w = .ok (.string ⟨#[]⟩) w := by
  cases a with
  | none => exact conv_none w c
  | some a =>
    rw [run_convert_bytes_string w _ _ 5 (some a) 0 c Try.underlying27 Try.underlying5 Try.underlying9]
    exact run_bytesToString w a 0 c [] rfl
theorem conv_pre {w w' : World} {a : Option Addr} {s : ByteArray} {R cap f : Nat} (h : RS w R a cap s f) (hg : w.grownBy w' (some R)) (n : Nat) (hn : n ≤ s.size) :
    (convert 27 9 (.slice a n n)).run Try.prog w' = .ok (.string (s.extract 0 n)) w' := by
  obtain ⟨_, h1, _, h0 | ⟨b, o, rfl, hne, hlt, hB⟩⟩ := h
  · obtain rfl : n = 0 := by omega
    have : s.extract 0 0 = ⟨#[]⟩ := Cl.bl_inj (List.length_eq_zero_iff.1 (by rw [Cl.bl_len]; simp))
    rw [this]
    exact conv_zero w' a 0
  · have := Lib.run_convert_window (P := Try.prog) w' 27 5 9 Try.underlying27 Try.underlying5 Try.underlying9 b o s (bytes_grown hg hlt (fun e => hne (by injection e)) hB) 0 n n (by omega)
    rw [Nat.add_zero, Nat.zero_add] at this
    exact this
theorem behind_ext (s : ByteArray) (k n : Nat) : (Cl.behind s k).extract 0 n = s.extract k (k + n) := Cl.bl_inj (by
  unfold Cl.bl
  rw [Lib.extract_data, Lib.extract_data]
  have := Cl.bl_behind s k
  unfold Cl.bl at this
  rw [this]
  simp)
theorem behind_behind (s : ByteArray) (k n : Nat) : Cl.behind (Cl.behind s k) n = Cl.behind s (k + n) := Cl.bl_inj (by rw [Cl.bl_behind, Cl.bl_behind, Cl.bl_behind, List.drop_drop])
set_option maxRecDepth 100000 in
set_option maxHeartbeats 1000000 in
theorem text_any (R : Nat) (s : ByteArray) (f : Nat) (most : Int) (w : World) (h : ReelAt w R s f) :
    Calls Try.prog 21 #[.pointer (some ⟨R, 0, none⟩), .int .i64 most] w fun e w' => e = .returned (.string (Cl.after s f ⟨#[]⟩ (Cl.takeText s most)).1) ∧ ReelAt w' R (Cl.after s f ⟨#[]⟩ (Cl.takeText s most)).2.1 (Cl.after s f ⟨#[]⟩ (Cl.takeText s most)).2.2 ∧ w.grownBy w' (some R) := by
  obtain ⟨a, cap, h⟩ := h
  have hs := h.2.2.1
  unfold Cl.after Cl.takeText
  unfold maxLen at hs
  by_cases hf : f = 0
  · subst hf
    rw [if_pos rfl]
    have HU := Lib.hid (next_any R a cap s most w h)
    have hb := Cl.takeUp_bd s most
    obtain ⟨hb1, hb2, hb3, -, -⟩ := hb
    clear h
    generalize (Cl.takeUp s most).1 = n at HU hb1 hb3 ⊢
    generalize (Cl.takeUp s most).2.1 = k at HU hb2 hb3 ⊢
    generalize (Cl.takeUp s most).2.2 = c at HU hb3 ⊢
    by_cases hc : c = 0
    · subst hc
      clear hb3
      rw [if_neg (by simp)]
      by_cases hn : s.size < k + n
      · rw [if_pos hn]
        go_enter Try.func21, Try.ntmps21
        go_wp2_with fail
        refine HU.out.mono ?_
        rintro e w1 ⟨rfl, hs1, hg1⟩
        obtain ⟨hc0, hz0⟩ := hs1.left
        obtain ⟨hc1, hz1⟩ := hs1.fail
        have HS := Lib.hid hs1
        clear hs1
        go_wp2
        go_ret
        refine ⟨rfl, ?_, grown_trans hg1 (grown_set _ _ _ _)⟩
        rw [Cl.behind_zero]
        exact ⟨_, _, HS.out.setFail 17⟩
      · rw [if_neg hn]
        go_enter Try.func21, Try.ntmps21
        go_wp2_with fail
        refine HU.out.mono ?_
        rintro e w1 ⟨rfl, hs1, hg1⟩
        obtain ⟨hc0, hz0⟩ := hs1.left
        have HT := Lib.hid (take_any R a cap s _ k hb2 w1 hs1)
        clear hs1
        go_wp2_with fail
        refine HT.out.mono ?_
        rintro e w2 ⟨rfl, ⟨a2, cap2, hs2⟩, hg2⟩
        clear hc0 hz0
        have hz := Cl.behind_size s k
        have HT2 := Lib.hid (take_any R a2 cap2 (Cl.behind s k) _ n (by omega) w2 hs2)
        go_wp2_with fail
        refine HT2.out.mono ?_
        rintro e w3 ⟨rfl, ⟨a3, cap3, hs3⟩, hg3⟩
        have hcv := conv_pre hs2 hg3 n (by omega)
        have HS3 := Lib.hid hs3
        clear hs2 hs3 hz
        go_wp2
        go_ret
        refine ⟨by rw [← behind_ext]; rfl, ?_, grown_trans (grown_trans hg1 hg2) hg3⟩
        rw [← behind_behind]
        exact ⟨_, _, HS3.out⟩
    · rw [if_pos hc]
      obtain ⟨rfl, rfl⟩ : n = 0 ∧ k = 0 := hb3.resolve_left hc
      clear hb3
      go_enter Try.func21, Try.ntmps21
      go_wp2_with fail
      refine HU.out.mono ?_
      rintro e w1 ⟨rfl, hs1, hg1⟩
      obtain ⟨hc0, hz0⟩ := hs1.left
      have HT := Lib.hid (take_any R a cap s c 0 (Nat.zero_le _) w1 hs1)
      clear hs1
      go_wp2_with fail
      refine HT.out.mono ?_
      rintro e w2 ⟨rfl, ⟨a2, cap2, hs2⟩, hg2⟩
      clear hc0 hz0
      have HT2 := Lib.hid (take_any R a2 cap2 (Cl.behind s 0) _ 0 (Nat.zero_le _) w2 hs2)
      go_wp2_with fail
      refine HT2.out.mono ?_
      rintro e w3 ⟨rfl, ⟨a3, cap3, hs3⟩, hg3⟩
      have hcv := conv_pre hs2 hg3 0 (Nat.zero_le _)
      rw [show (Cl.behind s 0).extract 0 0 = ⟨#[]⟩ from Cl.bl_inj (List.length_eq_zero_iff.1 (by rw [Cl.bl_len]; simp))] at hcv
      have HS3 := Lib.hid hs3
      clear hs2 hs3
      go_wp2
      go_ret
      refine ⟨rfl, ?_, grown_trans (grown_trans hg1 hg2) hg3⟩
      have := HS3.out
      rw [behind_behind] at this
      exact ⟨_, _, this⟩
  · rw [if_neg hf]
    have HU := Lib.hid (next_failed R a cap s f most hf w h)
    obtain ⟨hc0, hz0⟩ := h.left
    have HT := Lib.hid (take_any R a cap s f 0 (Nat.zero_le _) w h)
    clear h
    go_enter Try.func21, Try.ntmps21
    go_wp2_with fail
    refine HU.out.mono ?_
    rintro e w1 ⟨rfl, rfl⟩
    go_wp2_with fail
    refine HT.out.mono ?_
    rintro e w2 ⟨rfl, ⟨a2, cap2, hs2⟩, hg2⟩
    clear hc0 hz0
    have HT2 := Lib.hid (take_any R a2 cap2 (Cl.behind s 0) _ 0 (Nat.zero_le _) w2 hs2)
    go_wp2_with fail
    refine HT2.out.mono ?_
    rintro e w3 ⟨rfl, ⟨a3, cap3, hs3⟩, hg3⟩
    have hcv := conv_pre hs2 hg3 0 (Nat.zero_le _)
    rw [show (Cl.behind s 0).extract 0 0 = ⟨#[]⟩ from Cl.bl_inj (List.length_eq_zero_iff.1 (by rw [Cl.bl_len]; simp))] at hcv
    have HS3 := Lib.hid hs3
    clear hs2 hs3
    go_wp2
    go_ret
    refine ⟨rfl, ?_, grown_trans hg2 hg3⟩
    have := HS3.out
    rw [behind_behind, Cl.behind_zero] at this
    exact ⟨_, _, this⟩
def Cl.endOf (s : ByteArray) (f : Nat) : Nat := if f = 0 ∧ 0 < s.size then 2 else f
set_option maxRecDepth 100000 in
set_option maxHeartbeats 1000000 in
theorem end_any (R : Nat) (s : ByteArray) (f : Nat) (w : World) (h : ReelAt w R s f) :
    Calls Try.prog 17 #[.pointer (some ⟨R, 0, none⟩)] w fun e w' => e = .returned (.int .i64 (Cl.endOf s f)) ∧ w = w' := by
  obtain ⟨a, cap, h⟩ := h
  obtain ⟨hc0, hz0⟩ := h.left
  obtain ⟨hc1, hz1⟩ := h.fail
  clear h
  unfold Cl.endOf
  by_cases hf : f = 0
  · subst hf
    by_cases h0 : 0 < s.size
    · rw [if_pos ⟨rfl, h0⟩]
      go_enter Try.func17, Try.ntmps17
      go_wp2
      go_ret
      exact ⟨rfl, rfl⟩
    · rw [if_neg (fun h => h0 h.2)]
      have hz : s.size = 0 := by omega
      rw [hz] at hc0
      go_enter Try.func17, Try.ntmps17
      go_wp2
      go_ret
      exact ⟨rfl, rfl⟩
  · rw [if_neg (fun h => hf h.1)]
    go_enter Try.func17, Try.ntmps17
    go_wp2
    go_ret
    exact ⟨rfl, rfl⟩
set_option maxRecDepth 100000 in
theorem open_any (a : Option Addr) (n cap : Nat) (w : World) :
    Calls Try.prog 12 #[.slice a n cap] w fun e w' => e = .returned (.pointer (some ⟨w.heap.size, 0, none⟩)) ∧ w.alloc (.cells #[.slice a n cap, .int .i64 0] 63) = w' := by
  go_enter Try.func12, Try.ntmps12
  go_wp2
  go_ret
  exact ⟨rfl, rfl⟩
end Go.Proofs.Ytdiokcmhpndoeaa
