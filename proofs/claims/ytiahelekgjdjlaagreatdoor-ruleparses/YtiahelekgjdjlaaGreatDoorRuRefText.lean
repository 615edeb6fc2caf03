
/- What the document's own commas, Line and Print answer, of a right set. -/
import Derived.Test.YtiahelekgjdjlaaGreatDoorRuRefLine
import Derived.Test.YtiahelekgjdjlaaGreatDoorRuRefForm
namespace Go.Proofs.YtiahelekgjdjlaaGreatDoor
open Go.RowKit Go.Shelf
open Dp Gb
attribute [local go_sem] Oper.semAt_some
namespace Ru
theorem joinB_snoc (c : UInt8) : ∀ (l : List (List UInt8)) (x : List UInt8), l ≠ [] → joinB c (l ++ [x]) = joinB c l ++ c :: x
  | [], _, h => absurd rfl h
  | [y], _, _ => rfl
  | y :: z :: l, x, _ => by
    rw [List.cons_append, joinB_cons c y (by simp), joinB_cons c y (by simp), joinB_snoc c (z :: l) x (by simp)]
    simp
theorem joinB_bound (c : UInt8) (M : Nat) : ∀ (l : List (List UInt8)), (∀ x ∈ l, x.length ≤ M) → (joinB c l).length ≤ l.length * (M + 1)
  | [], _ => Nat.zero_le _
  | [x], h => by
    have := h x (by simp)
    simpa [joinB] using Nat.le_succ_of_le this
  | x :: y :: l, h => by
    have h1 := h x (by simp)
    have ih := joinB_bound c M (y :: l) (fun z hz => h z (List.mem_cons_of_mem _ hz))
    rw [joinB_cons c x (by simp), List.length_append, List.length_cons, List.length_cons (a := x), Nat.add_mul (y :: l).length 1]
    omega
theorem size_data {t : ByteArray} {l : List UInt8} (h : t.data.toList = l) : t.size = l.length := by rw [← h, Lib.size_eq]
theorem data_B {t : ByteArray} {l : List UInt8} (h : t.data.toList = l) : t = B l := (B_data t).symm.trans (by rw [h])
set_option maxRecDepth 100000 in
set_option maxHeartbeats 4000000 in
theorem refCommas_any (v : Value) (l : List (List UInt8)) (w : World) (hv : RdT w v l) (hl : l.length ≤ 100) (hx : ∀ x ∈ l, x.length ≤ 100) :
    Calls Tryz.prog 69 #[v] w fun e w' => e = .returned (.string (B (joinB 44 l))) ∧ w = w' := by
  obtain ⟨a, c, rfl, hc, hat⟩ := hv.at
  obtain ⟨n, hn⟩ : ∃ n, l.length = n := ⟨_, rfl⟩
  have HAT := Lib.hid hat
  have HN := Lib.hid hn
  have HX := Lib.hid hx
  rw [hn]
  rw [hn] at hl
  clear hv hc hat hn hx
  go_enter Tryz.func69, Tryz.ntmps69
  go_wp2
  go_loopw [3, 7] (fun o i wr => ∃ (k : Nat) (t : ByteArray), k ≤ n ∧ i = .int .i64 (k : Int) ∧ o = .string t ∧ Hid (t.data.toList = joinB 44 (l.take k) ∧ w = wr)) (fun _ i _ => n - (intOf i).toNat)
  case atStart => exact ⟨0, _, Nat.zero_le _, rfl, rfl, rfl, rfl⟩
  case round =>
    obtain ⟨k, t, hk, rfl, rfl, HR⟩ := hrel
    obtain rfl := HR.out.2
    have HT := Lib.hid HR.out.1
    have hts : t.size ≤ 10100 := by
      rw [size_data HT.out]
      have h1 := joinB_bound 44 100 (l.take k) (fun x hx => HX.out x (List.mem_of_mem_take hx))
      have h2 : (l.take k).length ≤ 100 := by rw [List.length_take]; omega
      have := Nat.mul_le_mul_right 101 h2
      omega
    by_cases hlt : k < n
    · obtain ⟨b, o, rfl, hcs⟩ := HAT.out (by rw [HN.out]; omega)
      obtain ⟨x, hx⟩ : ∃ p, l[k]? = some p := ⟨_, List.getElem?_eq_getElem (by rw [HN.out]; exact hlt)⟩
      have q0 : w.cell? ⟨b, o + k, none⟩ = some (.string (B x)) := hcs k x hx
      have hxs : (B x).size ≤ 100 := by rw [B_size]; exact HX.out x (List.mem_of_getElem? hx)
      have HTK : Hid (l.take (k + 1) = l.take k ++ [x]) := by
        obtain ⟨hk', rfl⟩ := List.getElem?_eq_some_iff.1 hx
        exact List.take_succ_eq_append_getElem hk'
      have HXS : Hid ((B x).data.toList = x) := rfl
      obtain ⟨xs, hxx⟩ : ∃ t, B x = t := ⟨_, rfl⟩
      rw [hxx] at q0 hxs HXS
      have ikn : (k : Int) < (n : Int) := by omega
      clear HAT hcs hx hxx HR
      cases k with
      | zero =>
        simp only [Nat.add_zero] at q0
        go_wp2
        go_roundw
        case rel => exact ⟨1, _, by omega, by go_num, rfl, by rw [HTK.out]; simp [HT.out, HXS.out, joinB], trivial⟩
        case measure => simp [intOf]; omega
      | succ k =>
        have hpos : decide ((0 : Int) < (k : Int) + 1) = true := decide_eq_true (by omega)
        have HJ : Hid (joinB 44 (l.take (k + 1 + 1)) = joinB 44 (l.take (k + 1)) ++ 44 :: x) := by
          show _ = _
          rw [HTK.out, joinB_snoc 44 _ x (fun e => by
            have := congrArg List.length e
            rw [List.length_take, HN.out] at this
            simp at this
            omega)]
        go_wp2
        go_roundw
        case rel => exact ⟨k + 1 + 1, _, by omega, by go_num, rfl, by rw [HJ.out]; simp [HT.out, HXS.out], trivial⟩
        case measure => simp [intOf]; omega
    · obtain rfl : k = n := by omega
      have HF : Hid (t = B (joinB 44 l)) := data_B (by rw [HT.out, List.take_of_length_le (by rw [HN.out]; exact Nat.le_refl _)])
      clear HAT HR HT
      go_wp2
      go_ret
      exact ⟨by rw [HF.out]; rfl, rfl⟩
/-- how long a right rule's parts are -/
theorem mat_len {m : Mat} (h : matOk m = true) : m.name.length ≤ 24 ∧ m.pat.length ≤ 40 ∧ (matLn m).length ≤ 66 := by
  have h1 : m.name.length ≤ 24 := by
    unfold matOk at h
    simp only [Bool.and_eq_true, Bool.or_eq_true, beq_iff_eq] at h
    rcases h.1 with h | h
    · rw [h]; decide
    · unfold Tg.wordB Tg.nameB at h
      simp only [Bool.and_eq_true, decide_eq_true_eq] at h
      exact h.1.1.1.2
  have h2 : m.pat.length ≤ 40 := by
    unfold matOk at h
    rw [Bool.and_eq_true] at h
    exact (good_toks h.2).2.2.2
  refine ⟨h1, h2, ?_⟩
  unfold matLn
  simp only [List.length_append, List.length_cons]
  split <;> simp <;> omega
theorem word_len {x : List UInt8} (h : Tg.wordB x = true) : x.length ≤ 24 := by
  unfold Tg.wordB Tg.nameB at h
  simp only [Bool.and_eq_true, decide_eq_true_eq] at h
  exact h.1.1.1.2
theorem name_len {x : List UInt8} (h : Tg.nameB x = true) : x.length ≤ 24 := by
  unfold Tg.nameB at h
  simp only [Bool.and_eq_true, decide_eq_true_eq] at h
  exact h.1.1.2
theorem mats_snoc {l : List Mat} {k : Nat} {m : Mat} (h : l[k]? = some m) : (l.take (k + 1)).map matLn = (l.take k).map matLn ++ [matLn m] := by
  obtain ⟨hk, rfl⟩ := List.getElem?_eq_some_iff.1 h
  rw [List.take_succ_eq_append_getElem hk, List.map_append]
  rfl
theorem joinB_app32 : ∀ (a b : List (List UInt8)), a ≠ [] → b ≠ [] → joinB 32 (a ++ b) = joinB 32 a ++ 32 :: joinB 32 b
  | [], _, h, _ => absurd rfl h
  | [x], b, _, h => by rw [List.singleton_append, joinB_cons 32 x h]; rfl
  | x :: y :: a, b, _, h => by
    rw [List.cons_append, joinB_cons 32 x (by simp), joinB_cons 32 x (by simp), joinB_app32 (y :: a) b (by simp) h]
    simp
end Ru
end Go.Proofs.YtiahelekgjdjlaaGreatDoor
