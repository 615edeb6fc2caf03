
/- How the document parses a set's text, and that it is the program's way: lists of bytes alone, no program. -/
import Derived.Test.YtiahelekgjdjlaaGreatDoorGsXa
import Derived.Test.YtiahelekgjdjlaaGreatDoorRuDigP
namespace Go.Proofs.YtiahelekgjdjlaaGreatDoor
open Dp Gb
namespace Ru
theorem splN_spl (c : UInt8) : ∀ (n : Nat) (l : List UInt8), (spl c l).length ≤ n + 1 → splN c n l = spl c l
  | 0, l, h => by
    rcases cut_cases c l with ⟨h1, _⟩ | ⟨a, b, h1, rfl, _⟩
    · rw [spl_not h1]; rfl
    · rw [spl_app b h1] at h
      have := List.length_pos_iff.2 (spl_ne c b)
      rw [List.length_cons] at h
      omega
  | n + 1, l, h => by
    rw [splN_succ, spl_cut]
    rcases cut_cases c l with ⟨h1, e⟩ | ⟨a, b, h1, rfl, e⟩
    · rw [e]; rfl
    · rw [e]
      simp only [if_true]
      rw [spl_app b h1] at h
      rw [splN_spl c n b (by simp at h; omega)]
theorem splN_many (c : UInt8) : ∀ (n : Nat) (l : List UInt8), n + 1 < (spl c l).length → (splN c n l).length = n + 1
  | 0, l, _ => rfl
  | n + 1, l, h => by
    rw [splN_succ]
    rcases cut_cases c l with ⟨h1, e⟩ | ⟨a, b, h1, rfl, e⟩
    · rw [spl_not h1] at h; simp at h
    · rw [e]
      simp only [if_true]
      rw [spl_app b h1] at h
      rw [List.length_cons, splN_many c n b (by simp at h; omega)]
/-- a rule, as the document reads it -/
def rulDR (ws : List (List UInt8)) : Option Rul :=
  if ws.headD [] = wDrop ∧ (behindP ws.tail).length = 0 then some ⟨1, (aheadP ws.tail).map matW, [], [], false, []⟩
  else if ws.headD [] = wMap ∧ (behindP ws.tail).length = 2 then some ⟨2, (aheadP ws.tail).map matW, spl 44 ((behindP ws.tail).getD 1 []), [], false, []⟩
  else if ws.headD [] = wRoll ∧ (behindP ws.tail).length = 6 then
    if (behindP ws.tail).getD 2 [] = wAs ∧ ((behindP ws.tail).getD 4 [] = wKeep ∨ (behindP ws.tail).getD 4 [] = wLess) then
      some ⟨3, (aheadP ws.tail).map matW, spl 44 ((behindP ws.tail).getD 1 []), (behindP ws.tail).getD 3 [], (behindP ws.tail).getD 4 [] == wKeep, labsD ((behindP ws.tail).getD 5 [])⟩
    else none
  else none
def rulD (ws : List (List UInt8)) : Option Rul := (rulDR ws).filter formed
theorem tos_same (z : List UInt8) : (targets (spl 44 z) = true ∨ targets (tosW z) = true) → spl 44 z = tosW z := fun h => by
  by_cases hl : (spl 44 z).length ≤ 5
  · exact (splN_spl 44 4 z hl).symm
  · exfalso
    rcases h with h | h
    · have := (targets_word h).2.1
      omega
    · have h1 := splN_many 44 4 z (by omega)
      have := (targets_word h).2.1
      unfold tosW at this
      omega
theorem labs_same (z : List UInt8) : (rising (labsD z) = true ∨ rising (labsW z) = true) → labsD z = labsW z := fun h => by
  unfold labsD labsW at *
  by_cases hz : z = wNone
  · rw [if_pos hz, if_pos hz]
  · rw [if_neg hz, if_neg hz] at h ⊢
    by_cases hl : (spl 44 z).length ≤ 7
    · exact (splN_spl 44 6 z hl).symm
    · exfalso
      rcases h with h | h
      · have := (rising_word h).1
        omega
      · have h1 := splN_many 44 6 z (by omega)
        have := (rising_word h).1
        omega
theorem filter_both {α : Type} {p : α → Bool} {a b : Option α} (h1 : ∀ x, a = some x → p x = true → b = some x) (h2 : ∀ x, b = some x → p x = true → a = some x) : a.filter p = b.filter p := by
  cases ha : a.filter p with
  | none =>
    cases hb : b.filter p with
    | none => rfl
    | some y =>
      rw [Option.filter_eq_some_iff] at hb
      have := h2 y hb.1 hb.2
      rw [this] at ha
      simp [Option.filter, hb.2] at ha
  | some x =>
    rw [Option.filter_eq_some_iff] at ha
    rw [h1 x ha.1 ha.2]
    simp [Option.filter, ha.2]
/-- the document's way is the program's, for the same words -/
theorem rulD_same (ws : List (List UInt8)) : rulD ws = ruleW ws := by
  unfold rulD ruleW
  refine filter_both (fun x h hf => ?_) (fun x h hf => ?_)
  · unfold rulDR at h
    unfold rulR
    by_cases c1 : ws.headD [] = wDrop ∧ (behindP ws.tail).length = 0
    · rw [if_pos c1] at h ⊢; exact h
    · rw [if_neg c1] at h ⊢
      by_cases c2 : ws.headD [] = wMap ∧ (behindP ws.tail).length = 2
      · rw [if_pos c2] at h ⊢
        injection h with h
        subst h
        have hk := (formed_cases hf).2.2
        have ht : targets (spl 44 ((behindP ws.tail).getD 1 [])) = true := by
          rcases hk with k | k | k
          · exact absurd k.1 (by simp)
          · exact k.2.1
          · exact absurd k.1 (by simp)
        rw [← tos_same _ (.inl ht)]
      · rw [if_neg c2] at h ⊢
        by_cases c3 : ws.headD [] = wRoll ∧ (behindP ws.tail).length = 6
        · rw [if_pos c3] at h ⊢
          by_cases c4 : (behindP ws.tail).getD 2 [] = wAs ∧ ((behindP ws.tail).getD 4 [] = wKeep ∨ (behindP ws.tail).getD 4 [] = wLess)
          · rw [if_pos c4] at h ⊢
            injection h with h
            subst h
            have hk := (formed_cases hf).2.2
            have ht : targets (spl 44 ((behindP ws.tail).getD 1 [])) = true ∧ rising (labsD ((behindP ws.tail).getD 5 [])) = true := by
              rcases hk with k | k | k
              · exact absurd k.1 (by simp)
              · exact absurd k.1 (by simp)
              · exact ⟨k.2.1, k.2.2.2⟩
            rw [← tos_same _ (.inl ht.1), ← labs_same _ (.inl ht.2)]
          · rw [if_neg c4] at h; cases h
        · rw [if_neg c3] at h; cases h
  · unfold rulR at h
    unfold rulDR
    by_cases c1 : ws.headD [] = wDrop ∧ (behindP ws.tail).length = 0
    · rw [if_pos c1] at h ⊢; exact h
    · rw [if_neg c1] at h ⊢
      by_cases c2 : ws.headD [] = wMap ∧ (behindP ws.tail).length = 2
      · rw [if_pos c2] at h ⊢
        injection h with h
        subst h
        have hk := (formed_cases hf).2.2
        have ht : targets (tosW ((behindP ws.tail).getD 1 [])) = true := by
          rcases hk with k | k | k
          · exact absurd k.1 (by simp)
          · exact k.2.1
          · exact absurd k.1 (by simp)
        rw [tos_same _ (.inr ht)]
      · rw [if_neg c2] at h ⊢
        by_cases c3 : ws.headD [] = wRoll ∧ (behindP ws.tail).length = 6
        · rw [if_pos c3] at h ⊢
          by_cases c4 : (behindP ws.tail).getD 2 [] = wAs ∧ ((behindP ws.tail).getD 4 [] = wKeep ∨ (behindP ws.tail).getD 4 [] = wLess)
          · rw [if_pos c4] at h ⊢
            injection h with h
            subst h
            have hk := (formed_cases hf).2.2
            have ht : targets (tosW ((behindP ws.tail).getD 1 [])) = true ∧ rising (labsW ((behindP ws.tail).getD 5 [])) = true := by
              rcases hk with k | k | k
              · exact absurd k.1 (by simp)
              · exact absurd k.1 (by simp)
              · exact ⟨k.2.1, k.2.2.2⟩
            rw [tos_same _ (.inr ht.1), labs_same _ (.inr ht.2)]
          · rw [if_neg c4] at h; cases h
        · rw [if_neg c3] at h; cases h
/-- .. and for a line's words, however many -/
theorem rulD_line (one : List UInt8) : rulD (spl 32 one) = ruleW (splN 32 13 one) := by
  rw [rulD_same]
  by_cases h : (spl 32 one).length ≤ 14
  · rw [splN_spl 32 13 one h]
  · have h1 : ruleW (spl 32 one) = none := by
      cases hr : ruleW (spl 32 one) with
      | none => rfl
      | some r =>
        obtain ⟨e, hf⟩ := rule_back (spl_ne 32 one) hr
        have := rule_len hf
        rw [← e] at this
        omega
    have h2 : ruleW (splN 32 13 one) = none := by
      cases hr : ruleW (splN 32 13 one) with
      | none => rfl
      | some r =>
        obtain ⟨e, hf⟩ := rule_back (splN_ne 32 13 one) hr
        have := rule_len hf
        rw [← e, splN_many 32 13 one (by omega)] at this
        omega
    rw [h1, h2]
theorem polD_line (one : List UInt8) : polD (spl 32 one) = polD (splN 32 13 one) := by
  by_cases h : (spl 32 one).length ≤ 14
  · rw [splN_spl 32 13 one h]
  · rw [polD_not6 (by omega), polD_not6 (by rw [splN_many 32 13 one (by omega)]; decide)]
/-- one line, as the document takes it -/
def takeU (s : RSet) (line : List UInt8) : Option RSet :=
  if (Lib.cut line [10]).2.2 then
    match rulD (spl 32 (Lib.cut line [10]).1) with
    | some r => some ⟨s.pols, s.rules ++ [r]⟩
    | none => if s.rules.isEmpty then match polD (spl 32 (Lib.cut line [10]).1) with
        | some p => some ⟨s.pols ++ [p], s.rules⟩
        | none => none
      else none
  else none
def goU : List (List UInt8) → RSet → Nat → RSet × Nat × Nat
  | [], s, _ => if (checkP s).2 = 0 then (s, 0, 0) else (⟨[], []⟩, (checkP s).1, (checkP s).2)
  | x :: l, s, n => match takeU s x with
    | none => (⟨[], []⟩, n, 2)
    | some s' => goU l s' (n + 1)
/-- what is kept, where there may be too many -/
structure Lim (s t : RSet) : Prop where
  p : s.pols = t.pols.take 5
  r : s.rules = t.rules.take 17
theorem push_take {α : Type} {l : List α} {k : Nat} (x : α) : push (l.take (k + 1)) x k = (l ++ [x]).take (k + 1) := by
  unfold push
  by_cases h : k < (l.take (k + 1)).length
  · rw [if_pos h]
    rw [List.length_take] at h
    rw [List.take_append_of_le_length (by omega)]
  · rw [if_neg h]
    rw [List.length_take] at h
    rw [List.take_of_length_le (by omega : l.length ≤ k + 1), List.take_of_length_le (by simp; omega)]
theorem take_lim {s t : RSet} {line : List UInt8} (h : Lim s t) (hl : (∃ y, line = y ++ [10] ∧ (10 : UInt8) ∉ y) ∨ (10 : UInt8) ∉ line) :
    (takeP s line = none ∧ takeU t line = none) ∨ ∃ s' t', takeP s line = some s' ∧ takeU t line = some t' ∧ Lim s' t' := by
  obtain ⟨sp, sr⟩ := s
  obtain ⟨tp, tr⟩ := t
  obtain ⟨hp, hr⟩ := h
  simp only at hp hr
  have he : sr.isEmpty = tr.isEmpty := by rw [hr]; cases tr <;> rfl
  rcases hl with ⟨y, rfl, hy⟩ | hy
  · have hc : Lib.cut (y ++ [10]) [10] = (y, [], true) := cut_app [] hy
    have hw : wordsP (y ++ [10]) = splN 32 13 y := by unfold wordsP; rw [suf_trim]
    unfold takeP takeU
    rw [hc, hw, suf_one]
    simp only [if_true, Bool.true_and]
    rw [rulD_line, polD_line]
    by_cases h0 : (splN 32 13 y).headD [] = wPolicy
    · have hrn : ruleW (splN 32 13 y) = none := by
        cases hr2 : ruleW (splN 32 13 y) with
        | none => rfl
        | some r =>
          have e := (rule_back (splN_ne 32 13 y) hr2).1
          rw [e] at h0
          exact absurd h0 (rule_head r)
      rw [if_pos h0, hrn]
      simp only
      have hpd : polD (splN 32 13 y) = polW (splN 32 13 y) := by unfold polD; rw [if_pos h0]
      rw [hpd, he]
      cases polW (splN 32 13 y) with
      | none => exact .inl ⟨rfl, by cases tr.isEmpty <;> rfl⟩
      | some p =>
        cases hte : tr.isEmpty with
        | false => exact .inl ⟨rfl, rfl⟩
        | true =>
          refine .inr ⟨_, _, rfl, rfl, ?_, hr⟩
          show push sp p 4 = _
          rw [hp]
          exact push_take p
    · have hpd : polD (splN 32 13 y) = none := by unfold polD; rw [if_neg h0]
      rw [if_neg h0, hpd]
      cases ruleW (splN 32 13 y) with
      | none => exact .inl ⟨rfl, by cases tr.isEmpty <;> rfl⟩
      | some r =>
        refine .inr ⟨_, _, rfl, rfl, hp, ?_⟩
        show push sr r 16 = _
        rw [hr]
        exact push_take r
  · have hs := (suf_not hy).1
    refine .inl ⟨?_, ?_⟩
    · unfold takeP
      rw [hs]
      simp only [Bool.false_and, Bool.false_eq_true, if_false]
      split
      · split <;> rfl
      · split <;> rfl
    · unfold takeU
      rw [cut_not hy]
      rfl
theorem check_lim {s t : RSet} (h : Lim s t) : ((checkP t).2 = 0 → s = t) ∧ checkP s = checkP t := by
  obtain ⟨sp, sr⟩ := s
  obtain ⟨tp, tr⟩ := t
  obtain ⟨hp, hr⟩ := h
  simp only at hp hr
  by_cases h1 : tp.length ≤ 4
  · by_cases h2 : tr.length ≤ 16
    · rw [List.take_of_length_le (by omega)] at hp
      rw [List.take_of_length_le (by omega)] at hr
      subst hp hr
      exact ⟨fun _ => rfl, rfl⟩
    · have m1 : many ⟨tp, tr⟩ = true := by unfold many; simp; omega
      have m2 : many ⟨sp, sr⟩ = true := by
        unfold many
        have : sr.length = 17 := by rw [hr, List.length_take]; omega
        simp [this]
      have e1 : checkP ⟨tp, tr⟩ = (0, 3) := by unfold checkP faults; rw [m1]; rfl
      have e2 : checkP ⟨sp, sr⟩ = (0, 3) := by unfold checkP faults; rw [m2]; rfl
      rw [e1, e2]
      exact ⟨fun h => (by cases h), rfl⟩
  · have m1 : many ⟨tp, tr⟩ = true := by unfold many; simp; omega
    have m2 : many ⟨sp, sr⟩ = true := by
      unfold many
      have : sp.length = 5 := by rw [hp, List.length_take]; omega
      simp [this]
    have e1 : checkP ⟨tp, tr⟩ = (0, 3) := by unfold checkP faults; rw [m1]; rfl
    have e2 : checkP ⟨sp, sr⟩ = (0, 3) := by unfold checkP faults; rw [m2]; rfl
    rw [e1, e2]
    exact ⟨fun h => (by cases h), rfl⟩
def Lns (L : List (List UInt8)) : Prop := ∀ x ∈ L, (∃ y, x = y ++ [10] ∧ (10 : UInt8) ∉ y) ∨ (10 : UInt8) ∉ x
theorem lines_ok : ∀ (n : Nat) (l : List UInt8), l.length ≤ n → Lns (linesP l)
  | 0, l, h => by
    obtain rfl : l = [] := List.length_eq_zero_iff.1 (by omega)
    intro x hx
    cases hx
  | n + 1, l, h => by
    by_cases h0 : l = []
    · subst h0; intro x hx; cases hx
    · rcases cut_cases 10 l with ⟨h1, _⟩ | ⟨a, b, h1, rfl, _⟩
      · rw [linesP_last h0 h1]
        intro x hx
        rw [List.mem_singleton.1 hx]
        exact .inr h1
      · rw [linesP_cut h1]
        intro x hx
        rcases List.mem_cons.1 hx with rfl | hx
        · exact .inl ⟨a, rfl, h1⟩
        · exact lines_ok n b (by simp at h; omega) x hx
theorem go_same : ∀ (L : List (List UInt8)) (s t : RSet) (n : Nat), Lns L → Lim s t → goU L t n = goP L s n
  | [], s, t, n, _, h => by
    obtain ⟨h1, h2⟩ := check_lim h
    show (if (checkP t).2 = 0 then (t, 0, 0) else ((⟨[], []⟩ : RSet), (checkP t).1, (checkP t).2)) = if (checkP s).2 = 0 then (s, 0, 0) else ((⟨[], []⟩ : RSet), (checkP s).1, (checkP s).2)
    rw [h2]
    by_cases h0 : (checkP t).2 = 0
    · rw [if_pos h0, if_pos h0, h1 h0]
    · rw [if_neg h0, if_neg h0]
  | x :: L, s, t, n, hL, h => by
    show (match takeU t x with | none => ((⟨[], []⟩ : RSet), n, 2) | some s' => goU L s' (n + 1)) = match takeP s x with | none => ((⟨[], []⟩ : RSet), n, 2) | some s' => goP L s' (n + 1)
    rcases take_lim h (hL x List.mem_cons_self) with ⟨e1, e2⟩ | ⟨s', t', e1, e2, h'⟩
    · rw [e1, e2]
    · rw [e1, e2]
      exact go_same L s' t' (n + 1) (fun y hy => hL y (List.mem_cons_of_mem _ hy)) h'
/-- the document parses as the program does -/
theorem doc_parse (l : List UInt8) : goU (linesP l) ⟨[], []⟩ 0 = parseP l := go_same _ _ _ _ (lines_ok l.length l (Nat.le_refl _)) ⟨rfl, rfl⟩
end Ru
end Go.Proofs.YtiahelekgjdjlaaGreatDoor
