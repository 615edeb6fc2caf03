
/- What the document's Parse does with a text's first line: lists of bytes alone, no program. -/
import Derived.Test.YtiahelekgjdjlaaGreatDoorRuDoc
import Derived.Test.YtiahelekgjdjlaaGreatDoorGsP
namespace Go.Proofs.YtiahelekgjdjlaaGreatDoor
open Dp Gb
namespace Ru
theorem goU_cons (x : List UInt8) (L : List (List UInt8)) (s : RSet) (n : Nat) : goU (x :: L) s n = match takeU s x with | none => ((⟨[], []⟩ : RSet), n, 2) | some s' => goU L s' (n + 1) := rfl
theorem goU_last {r : List UInt8} (s : RSet) (k : Nat) (h0 : r ≠ []) (h : (Lib.cut r [10]).2.2 = false) : goU (linesP r) s k = (⟨[], []⟩, k, 2) := by
  rcases cut_cases 10 r with ⟨h1, e⟩ | ⟨a, b, h1, rfl, e⟩
  · rw [linesP_last h0 h1, goU_cons]
    unfold takeU
    rw [h]
    rfl
  · rw [e] at h; cases h
theorem lines_step {r a b : List UInt8} (h : Lib.cut r [10] = (a, b, true)) : linesP r = (a ++ [10]) :: linesP b ∧ Lib.cut (a ++ [10]) [10] = (a, [], true) := by
  rcases cut_cases 10 r with ⟨h1, e⟩ | ⟨a', b', h1, rfl, e⟩
  · rw [e] at h; cases h
  · rw [e] at h
    injection h with h2 h3
    injection h3 with h3 _
    subst h2 h3
    exact ⟨linesP_cut h1, cut_app [] h1⟩
theorem goU_rule {r a b : List UInt8} (s : RSet) (k : Nat) {x : Rul} (h : Lib.cut r [10] = (a, b, true)) (hx : rulD (spl 32 a) = some x) : goU (linesP r) s k = goU (linesP b) ⟨s.pols, s.rules ++ [x]⟩ (k + 1) := by
  obtain ⟨h1, h2⟩ := lines_step h
  rw [h1, goU_cons]
  unfold takeU
  rw [h2, hx]
  rfl
theorem goU_pol {r a b : List UInt8} (s : RSet) (k : Nat) {p : Pol} (h : Lib.cut r [10] = (a, b, true)) (hn : rulD (spl 32 a) = none) (hp : polD (spl 32 a) = some p) (he : s.rules = []) : goU (linesP r) s k = goU (linesP b) ⟨s.pols ++ [p], s.rules⟩ (k + 1) := by
  obtain ⟨h1, h2⟩ := lines_step h
  rw [h1, goU_cons]
  unfold takeU
  rw [h2, hn, hp, he]
  rfl
theorem goU_bad {r a b : List UInt8} (s : RSet) (k : Nat) (h : Lib.cut r [10] = (a, b, true)) (hn : rulD (spl 32 a) = none) (hb : polD (spl 32 a) = none ∨ s.rules ≠ []) : goU (linesP r) s k = (⟨[], []⟩, k, 2) := by
  obtain ⟨h1, h2⟩ := lines_step h
  rw [h1, goU_cons]
  unfold takeU
  rw [h2, hn]
  simp only [if_true]
  rcases hb with hb | hb
  · rw [hb]
    cases s.rules.isEmpty <;> rfl
  · cases he : s.rules with
    | nil => exact absurd he hb
    | cons y l => rfl
theorem goU_end (s : RSet) (k : Nat) : goU (linesP []) s k = if (checkP s).2 = 0 then (s, 0, 0) else (⟨[], []⟩, (checkP s).1, (checkP s).2) := rfl
theorem fit_rulD {one : List UInt8} {x : Rul} (hl : one.length ≤ 100000) (h : rulD (spl 32 one) = some x) : FitR x := by
  rw [rulD_line] at h
  exact fit_rul (fun y hy => Nat.le_trans (splN_mem 32 13 one y hy) hl) (Nat.le_trans (splN_len 32 13 one) (by decide)) h
theorem fit_polD {one : List UInt8} {p : Pol} (h : polD (spl 32 one) = some p) : p.name.length ≤ maxLen := by
  rw [polD_line] at h
  unfold polD at h
  split at h
  · exact fit_pol h
  · cases h
theorem fit_ruleU {s : RSet} {x : Rul} (hF : FitS s) (hx : FitR x) (hl : s.rules.length ≤ 9000) : FitS ⟨s.pols, s.rules ++ [x]⟩ :=
  ⟨hF.pols, fun r hr => (by
    rcases List.mem_append.1 hr with hr | hr
    · exact hF.rules r hr
    · rw [List.mem_singleton.1 hr]; exact hx), hF.n1, by simp; unfold maxLen; omega⟩
theorem fit_polU {s : RSet} {p : Pol} (hF : FitS s) (hx : p.name.length ≤ maxLen) (hl : s.pols.length ≤ 9000) : FitS ⟨s.pols ++ [p], s.rules⟩ :=
  ⟨fun r hr => (by
    rcases List.mem_append.1 hr with hr | hr
    · exact hF.pols r hr
    · rw [List.mem_singleton.1 hr]; exact hx), hF.rules, by simp; unfold maxLen; omega, hF.n2⟩
end Ru
end Go.Proofs.YtiahelekgjdjlaaGreatDoor
