/- A set's text, and that it is read as the set, and no other text is: lists of bytes alone, no program. A right set's text is read as the set: lists of bytes alone, no program. The text of a right set is parsed as the set; what is parsed as a set is that set's text: lists of bytes alone, no program. -/
import Derived.Test.YtiahelekgjdjlaaGreatDoorGsA
namespace Go.Proofs.YtiahelekgjdjlaaGreatDoor
open Dp Gb
namespace Ru
/-! ### The text -/
def kindW (k : Int) : List UInt8 := if k = 1 then wDrop else if k = 2 then wMap else if k = 3 then wRoll else []
def fldT (w : List UInt8) (n : Int) : List UInt8 := w ++ 61 :: Lib.itoa n
def polLn (p : Pol) : List (List UInt8) := [wPolicy, p.name, fldT wSize p.size, fldT wSlide p.slide, fldT wLate p.late, fldT wKeep p.keep]
def matLn (m : Mat) : List UInt8 := (m.name ++ if m.neg then [33] else []) ++ 61 :: m.pat
def labsT (l : List (List UInt8)) : List UInt8 := if l = [] then wNone else joinB 44 l
def tailT (r : Rul) : List (List UInt8) := (if r.kind = 1 then [] else [wArrow, joinB 44 r.to]) ++ (if r.kind = 3 then [wAs, r.met, if r.keep then wKeep else wLess, labsT r.labs] else [])
def rulLn (r : Rul) : List (List UInt8) := kindW r.kind :: (r.when.map matLn ++ tailT r)
def lineT (ws : List (List UInt8)) : List UInt8 := joinB 32 ws ++ [10]
def linesT (s : RSet) : List (List UInt8) := s.pols.map (fun p => lineT (polLn p)) ++ s.rules.map (fun r => lineT (rulLn r))
def printP (s : RSet) : List UInt8 := (linesT s).flatten
/-! ### Splitting and joining -/
theorem splN_join (c : UInt8) : ∀ (n : Nat) (ps : List (List UInt8)), ps ≠ [] → ps.length ≤ n + 1 → (∀ p ∈ ps, c ∉ p) → splN c n (joinB c ps) = ps
  | _, [], h, _, _ => absurd rfl h
  | 0, [x], _, _, _ => rfl
  | n + 1, [x], _, _, h => by
    rw [splN_succ]
    show (if (Lib.cut x [c]).2.2 then _ else [x]) = [x]
    rw [cut_not (h x (by simp))]; rfl
  | 0, _ :: _ :: _, _, h, _ => by simp at h
  | n + 1, x :: y :: l, _, hl, h => by
    rw [joinB_cons c x (by simp), splN_succ, cut_app _ (h x (by simp))]
    simp only [if_true]
    rw [splN_join c n (y :: l) (by simp) (by simp at hl ⊢; omega) (fun p hp => h p (List.mem_cons_of_mem _ hp))]
theorem join_splN (c : UInt8) : ∀ (n : Nat) (l : List UInt8), joinB c (splN c n l) = l
  | 0, _ => rfl
  | n + 1, l => by
    rw [splN_succ]
    rcases cut_cases c l with ⟨_, e⟩ | ⟨a, b, _, rfl, e⟩
    · rw [e]; rfl
    · rw [e]
      simp only [if_true]
      rw [joinB_cons c a (splN_ne c n b), join_splN c n b]
theorem suf_one (l : List UInt8) (c : UInt8) : Lib.hasSuffix (l ++ [c]) [c] = true := by
  unfold Lib.hasSuffix
  rw [List.isSuffixOf_iff_suffix]
  exact List.suffix_append _ _
theorem suf_trim (l : List UInt8) (c : UInt8) : Lib.trimSuffix (l ++ [c]) [c] = l := by
  unfold Lib.trimSuffix
  rw [suf_one]
  simp
theorem suf_not {l : List UInt8} {c : UInt8} (h : c ∉ l) : Lib.hasSuffix l [c] = false ∧ Lib.trimSuffix l [c] = l := by
  have h1 : Lib.hasSuffix l [c] = false := by
    unfold Lib.hasSuffix
    apply Bool.eq_false_iff.2
    rw [Ne, List.isSuffixOf_iff_suffix]
    intro hs
    exact h (hs.subset (by simp))
  refine ⟨h1, ?_⟩
  unfold Lib.trimSuffix
  rw [h1]; rfl
theorem suf_back (l : List UInt8) (c : UInt8) : Lib.trimSuffix l [c] ++ (if Lib.hasSuffix l [c] then [c] else []) = l := by
  unfold Lib.trimSuffix
  by_cases h : Lib.hasSuffix l [c] = true
  · rw [if_pos h, if_pos h]
    unfold Lib.hasSuffix at h
    rw [List.isSuffixOf_iff_suffix] at h
    obtain ⟨t, rfl⟩ := h
    simp
  · rw [if_neg h, if_neg h, List.append_nil]
/-! ### Numbers -/
theorem decR_small {u : Nat} (h : u < 10) : Lib.decDigits u = [UInt8.ofNat (48 + u)] := Lib.decDigits_one h
theorem decR_big {u : Nat} (h : ¬ u < 10) : Lib.decDigits u = Lib.decDigits (u / 10) ++ [UInt8.ofNat (48 + u % 10)] := by rw [Lib.decDigits, dif_neg h]
theorem digR {d : Nat} (h : d < 10) : (UInt8.ofNat (48 + d)).toNat = 48 + d := by rw [UInt8.toNat_ofNat']; omega
theorem digV {d : Nat} (h : d < 10) : Lib.digitVal (UInt8.ofNat (48 + d)) = some d := by
  unfold Lib.digitVal
  rw [digR h, if_pos (by omega)]
  simp
theorem decFrom_snoc : ∀ (l : List UInt8) (acc n : Nat) (b : UInt8) (d : Nat), Lib.decFrom acc l = some n → Lib.digitVal b = some d → Lib.decFrom acc (l ++ [b]) = some (n * 10 + d)
  | [], acc, n, b, d, h, hd => by
    simp only [Lib.decFrom, Option.some.injEq] at h
    subst h
    simp [Lib.decFrom, hd]
  | x :: l, acc, n, b, d, h, hd => by
    simp only [List.cons_append, Lib.decFrom] at h ⊢
    cases hx : Lib.digitVal x with
    | none => rw [hx] at h; cases h
    | some e =>
      rw [hx] at h
      exact decFrom_snoc l _ n b d h hd
theorem decFrom_dec (u : Nat) : Lib.decFrom 0 (Lib.decDigits u) = some u := by
  induction u using Nat.strongRecOn with
  | _ u ih =>
    by_cases h : u < 10
    · rw [decR_small h]
      show (match Lib.digitVal (UInt8.ofNat (48 + u)) with | some d => Lib.decFrom (0 * 10 + d) [] | none => none) = some u
      rw [digV h]
      simp [Lib.decFrom]
    · rw [decR_big h, decFrom_snoc _ _ _ _ _ (ih (u / 10) (by omega)) (digV (Nat.mod_lt u (by decide)))]
      congr 1
      omega
theorem dec_in (u : Nat) : ∀ c ∈ Lib.decDigits u, 48 ≤ c.toNat ∧ c.toNat ≤ 57 := by
  induction u using Nat.strongRecOn with
  | _ u ih =>
    intro c hc
    by_cases h : u < 10
    · rw [decR_small h] at hc
      obtain rfl := List.mem_singleton.1 hc
      rw [digR h]; omega
    · rw [decR_big h] at hc
      rcases List.mem_append.1 hc with hc | hc
      · exact ih (u / 10) (by omega) c hc
      · obtain rfl := List.mem_singleton.1 hc
        have := Nat.mod_lt u (show 0 < 10 by decide)
        rw [digR this]; omega
theorem dec_ne (u : Nat) : Lib.decDigits u ≠ [] := by
  intro h
  have := Lib.decDigits_length u
  rw [h] at this
  have := Lib.nDigits_pos u
  simp at *
  omega
theorem nDig_le : ∀ (k u : Nat), u < 10 ^ (k + 1) → Lib.nDigits u ≤ k + 1
  | 0, u, h => by rw [Lib.nDigits_small (by simpa using h)]; exact Nat.le_refl _
  | k + 1, u, h => by
    by_cases h10 : u < 10
    · rw [Lib.nDigits_small h10]; omega
    · rw [Nat.pow_succ] at h
      rw [Lib.nDigits_big h10]
      have := nDig_le k (u / 10) (by omega)
      omega
theorem itoa_pos {n : Int} (h : 0 ≤ n) : Lib.itoa n = Lib.decDigits n.toNat := by
  unfold Lib.itoa
  rw [if_neg (by omega)]
theorem num_itoa {n : Int} (h0 : 0 ≤ n) (h1 : n ≤ 1099511627776) : numP (Lib.itoa n) = some n := by
  have hl : (Lib.itoa n).length ≤ 13 := by
    rw [itoa_pos h0, Lib.decDigits_length]
    exact nDig_le 12 _ (by have : (10 : Nat) ^ 13 = 10000000000000 := by decide
                           rw [this]; omega)
  have ha : Lib.atoi (Lib.itoa n) = some n := by
    rw [itoa_pos h0]
    have hd := decFrom_dec n.toNat
    have hin := dec_in n.toNat
    have hne := dec_ne n.toNat
    generalize Lib.decDigits n.toNat = l at hd hin hne
    cases l with
    | nil => exact absurd rfl hne
    | cons c l =>
      have hc := hin c List.mem_cons_self
      have c1 : (c == 45) = false := beq_eq_false_iff_ne.2 (fun e => by rw [e] at hc; exact absurd hc.1 (by decide))
      have c2 : (c == 43) = false := beq_eq_false_iff_ne.2 (fun e => by rw [e] at hc; exact absurd hc.1 (by decide))
      show (if (c == 45) = true then _ else if (c == 43) = true then _ else (Lib.decNat (c :: l)).map fun (m : Nat) => (m : Int)) = _
      rw [c1, c2]
      simp only [Bool.false_eq_true, if_false]
      unfold Lib.decNat
      rw [if_neg (by simp), hd]
      simp
      omega
  unfold numP
  rw [if_pos hl, ha]
  simp [h0]
theorem num_back {d : List UInt8} {v : Int} (h : numP d = some v) : Lib.itoa v = d ∧ 0 ≤ v := by
  unfold numP at h
  split at h
  · split at h
    · split at h
      · rename_i h2
        injection h with h
        subst h
        exact ⟨h2.2, h2.1⟩
      · cases h
    · cases h
  · cases h
/-! ### Signs that no word has -/
theorem name_no {l : List UInt8} (h : Tg.nameB l = true) {d : UInt8} (hd : Tg.nameC d = false) : d ∉ l := fun hm => by
  unfold Tg.nameB at h
  simp only [Bool.and_eq_true] at h
  have := List.all_eq_true.1 h.2 d hm
  rw [hd] at this
  cases this
theorem word_no {l : List UInt8} (h : Tg.wordB l = true) {d : UInt8} (hd : Tg.nameC d = false) : d ∉ l := by
  unfold Tg.wordB at h
  simp only [Bool.and_eq_true] at h
  exact name_no h.1 hd
theorem matN_no {m : Mat} (h : matOk m = true) {d : UInt8} (hd : Tg.nameC d = false) : d ∉ m.name := by
  unfold matOk at h
  simp only [Bool.and_eq_true, Bool.or_eq_true, beq_iff_eq] at h
  rcases h.1 with h | h
  · rw [h]
    intro hm
    obtain rfl := List.mem_singleton.1 hm
    revert hd
    decide
  · exact word_no h hd
theorem good_no {l : List UInt8} (h : goodP l = true) {d : UInt8} (hd : plainC d = false) (h1 : d ∉ ([44, 42, 63, 123, 125] : List UInt8)) : d ∉ l := fun hm => by
  have hx := h
  unfold goodP at hx
  rw [Bool.and_eq_true] at hx
  rw [← pcs_join l.length l (Nat.le_refl _) hx.2, List.mem_flatten] at hm
  obtain ⟨t, ht, hc⟩ := hm
  rcases (good_tok h t ht).1 with e | e | ⟨c, e, hp⟩ | ⟨a, e, hp⟩
  · rw [e] at hc; obtain rfl := List.mem_singleton.1 hc; exact h1 (by decide)
  · rw [e] at hc; obtain rfl := List.mem_singleton.1 hc; exact h1 (by decide)
  · rw [e] at hc; obtain rfl := List.mem_singleton.1 hc; rw [hd] at hp; cases hp
  · rw [e] at hc
    rcases List.mem_append.1 hc with hc | hc
    · rcases List.mem_cons.1 hc with rfl | hc
      · exact h1 (by decide)
      · exact ch_no hp hd (fun e => h1 (by rw [e]; decide)) hc
    · obtain rfl := List.mem_singleton.1 hc
      exact h1 (by decide)
end Ru
end Go.Proofs.YtiahelekgjdjlaaGreatDoor
namespace Go.Proofs.YtiahelekgjdjlaaGreatDoor
open Dp Gb
namespace Ru
/-- a space, or a line's end -/
def Sep (d : UInt8) : Prop := d = 32 ∨ d = 10
theorem Sep.nameC {d : UInt8} (h : Sep d) : Tg.nameC d = false := by rcases h with rfl | rfl <;> decide
theorem Sep.plain {d : UInt8} (h : Sep d) : plainC d = false := by rcases h with rfl | rfl <;> decide
theorem Sep.signs {d : UInt8} (h : Sep d) : d ∉ ([44, 42, 63, 123, 125] : List UInt8) := by rcases h with rfl | rfl <;> decide
theorem Sep.small {d : UInt8} (h : Sep d) : d.toNat < 48 := by rcases h with rfl | rfl <;> decide
theorem Sep.ne {d : UInt8} (h : Sep d) : d ≠ 44 ∧ d ≠ 61 ∧ d ≠ 33 := by rcases h with rfl | rfl <;> decide
theorem Sep.words {d : UInt8} (h : Sep d) : d ∉ wPolicy ∧ d ∉ wSize ∧ d ∉ wSlide ∧ d ∉ wLate ∧ d ∉ wKeep ∧ d ∉ wLess ∧ d ∉ wAs ∧ d ∉ wDrop ∧ d ∉ wMap ∧ d ∉ wRoll ∧ d ∉ wArrow ∧ d ∉ wNone := by rcases h with rfl | rfl <;> decide
/-! ### A policy's line -/
theorem fld_read {w : List UInt8} {n : Int} (hw : (61 : UInt8) ∉ w) (h0 : 0 ≤ n) (h1 : n ≤ 1099511627776) : fldN (fldT w n) = w ∧ fldV (fldT w n) = some n := by
  unfold fldN fldV fldT
  rw [cut_app _ hw]
  exact ⟨rfl, num_itoa h0 h1⟩
theorem pol_read {p : Pol} (hw : Tg.wordB p.name = true) (hr : ranged p = true) : polW (polLn p) = some p := by
  unfold ranged within at hr
  simp only [Bool.and_eq_true, decide_eq_true_eq] at hr
  have a := fld_read (w := wSize) (n := p.size) (by decide) (by omega) (by omega)
  have b := fld_read (w := wSlide) (n := p.slide) (by decide) (by omega) (by omega)
  have c := fld_read (w := wLate) (n := p.late) (by decide) (by omega) (by omega)
  have d := fld_read (w := wKeep) (n := p.keep) (by decide) (by omega) (by omega)
  show (if Tg.wordB p.name then match fldV (fldT wSize p.size), fldV (fldT wSlide p.slide), fldV (fldT wLate p.late), fldV (fldT wKeep p.keep) with
      | some x, some y, some z, some u => if fldN (fldT wSize p.size) = wSize ∧ fldN (fldT wSlide p.slide) = wSlide ∧ fldN (fldT wLate p.late) = wLate ∧ fldN (fldT wKeep p.keep) = wKeep then some (⟨p.name, x, y, z, u⟩ : Pol) else none
      | _, _, _, _ => none
    else none) = some p
  rw [if_pos hw, a.2, b.2, c.2, d.2]
  simp only [a.1, b.1, c.1, d.1, and_self, if_true]
theorem fld_no {d : UInt8} (h : Sep d) {w : List UInt8} {n : Int} (hw : d ∉ w) (hn : 0 ≤ n) : d ∉ fldT w n := fun hm => by
  unfold fldT at hm
  rcases List.mem_append.1 hm with hm | hm
  · exact hw hm
  · rcases List.mem_cons.1 hm with e | hm
    · exact h.ne.2.1 e
    · rw [itoa_pos hn] at hm
      have := dec_in _ _ hm
      have := h.small
      omega
theorem pol_no {d : UInt8} (h : Sep d) {p : Pol} (hw : Tg.wordB p.name = true) (hr : ranged p = true) : ∀ x ∈ polLn p, d ∉ x := by
  unfold ranged within at hr
  simp only [Bool.and_eq_true, decide_eq_true_eq] at hr
  obtain ⟨c1, c2, c3, c4, c5, -⟩ := h.words
  intro x hx
  unfold polLn at hx
  simp only [List.mem_cons, List.not_mem_nil, or_false] at hx
  rcases hx with rfl | rfl | rfl | rfl | rfl | rfl
  · exact c1
  · exact word_no hw h.nameC
  · exact fld_no h c2 (by omega)
  · exact fld_no h c3 (by omega)
  · exact fld_no h c4 (by omega)
  · exact fld_no h c5 (by omega)
/-! ### A rule's line -/
theorem mat_read {m : Mat} (h : matOk m = true) : matW (matLn m) = m := by
  have h61 := matN_no h (d := 61) (by decide)
  have h33 := matN_no h (d := 33) (by decide)
  obtain ⟨nm, ng, pt⟩ := m
  have hn : (61 : UInt8) ∉ nm ++ if ng then [33] else [] := fun hm => by
    rcases List.mem_append.1 hm with hm | hm
    · exact h61 hm
    · cases ng
      · cases hm
      · exact absurd (List.mem_singleton.1 hm) (by decide)
  unfold matW matLn
  rw [cut_app _ hn]
  cases ng with
  | true => simp only [if_true, suf_one, suf_trim]
  | false =>
    simp only [Bool.false_eq_true, if_false, List.append_nil]
    rw [(suf_not h33).1, (suf_not h33).2]
theorem mat_no {d : UInt8} (h : Sep d) {m : Mat} (hm : matOk m = true) : d ∉ matLn m := fun hx => by
  have h1 := matN_no hm h.nameC
  unfold matOk at hm
  rw [Bool.and_eq_true] at hm
  have h2 := good_no hm.2 h.plain h.signs
  unfold matLn at hx
  rcases List.mem_append.1 hx with hx | hx
  · rcases List.mem_append.1 hx with hx | hx
    · exact h1 hx
    · split at hx
      · exact h.ne.2.2 (List.mem_singleton.1 hx)
      · cases hx
  · rcases List.mem_cons.1 hx with e | hx
    · exact h.ne.2.1 e
    · exact h2 hx
theorem mat_arrow (m : Mat) : matLn m ≠ wArrow := fun e => by
  have : (61 : UInt8) ∈ matLn m := by unfold matLn; simp
  rw [e] at this
  revert this
  decide
theorem parts_app : ∀ (W T : List (List UInt8)), (∀ w ∈ W, w ≠ wArrow) → (T = [] ∨ ∃ t, T = wArrow :: t) → aheadP (W ++ T) = W ∧ behindP (W ++ T) = T
  | [], T, _, h => by
    rcases h with rfl | ⟨t, rfl⟩
    · exact ⟨rfl, rfl⟩
    · unfold aheadP behindP
      rw [List.nil_append, List.takeWhile_cons_of_neg (by simp), List.dropWhile_cons_of_neg (by simp)]
      exact ⟨rfl, rfl⟩
  | w :: W, T, hw, h => by
    have ih := parts_app W T (fun x hx => hw x (List.mem_cons_of_mem _ hx)) h
    have hne : (fun x : List UInt8 => x != wArrow) w = true := by simpa using hw w List.mem_cons_self
    unfold aheadP behindP at ih ⊢
    rw [List.cons_append, List.takeWhile_cons_of_pos (p := fun x : List UInt8 => x != wArrow) hne, List.dropWhile_cons_of_pos (p := fun x : List UInt8 => x != wArrow) hne, ih.1, ih.2]
    exact ⟨rfl, rfl⟩
theorem mats_read {l : List Mat} (h : l.all matOk = true) : (l.map matLn).map matW = l := by
  rw [List.map_map]
  conv => rhs; rw [← List.map_id l]
  exact List.map_congr_left fun m hm => mat_read (List.all_eq_true.1 h m hm)
theorem apart_word {l : List (List UInt8)} (h : apart l = true) : ∀ x ∈ l, Tg.wordB x = true := fun x hx => by
  obtain ⟨i, hi, rfl⟩ := List.getElem_of_mem hx
  have := allR_iff.1 h i hi
  unfold tgAt at this
  rw [List.getElem?_eq_getElem hi] at this
  simp only [Bool.and_eq_true] at this
  exact this.1
theorem rising_word {l : List (List UInt8)} (h : rising l = true) : l.length ≤ 6 ∧ ∀ x ∈ l, Tg.wordB x = true := by
  unfold rising at h
  rw [Bool.and_eq_true, decide_eq_true_eq] at h
  refine ⟨h.1, fun x hx => ?_⟩
  obtain ⟨i, hi, rfl⟩ := List.getElem_of_mem hx
  have := allR_iff.1 h.2 i hi
  unfold riAt at this
  rw [List.getElem?_eq_getElem hi] at this
  simp only [Bool.and_eq_true] at this
  exact this.1
theorem targets_word {l : List (List UInt8)} (h : targets l = true) : l ≠ [] ∧ l.length ≤ 4 ∧ ∀ x ∈ l, Tg.wordB x = true := by
  unfold targets at h
  simp only [Bool.and_eq_true, decide_eq_true_eq] at h
  exact ⟨fun e => by rw [e] at h; simp at h, h.1.2, apart_word h.2⟩
theorem tos_read {l : List (List UInt8)} (h : targets l = true) : tosW (joinB 44 l) = l := by
  obtain ⟨h1, h2, h3⟩ := targets_word h
  exact splN_join 44 4 l h1 (by omega) (fun p hp => word_no (h3 p hp) (by decide))
theorem labs_read {l : List (List UInt8)} (h : rising l = true) : labsW (labsT l) = l := by
  obtain ⟨h2, h3⟩ := rising_word h
  unfold labsT
  by_cases h0 : l = []
  · rw [if_pos h0, h0]; rfl
  · rw [if_neg h0]
    unfold labsW
    have hne : joinB 44 l ≠ wNone := fun e => by
      cases l with
      | nil => exact h0 rfl
      | cons x t =>
        have hx := h3 x List.mem_cons_self
        have h45 : (45 : UInt8) ∉ joinB 44 (x :: t) := mem_join (by decide) (fun p hp => word_no (h3 p hp) (by decide))
        rw [e] at h45
        exact h45 (by decide)
    rw [if_neg hne]
    exact splN_join 44 6 l h0 (by omega) (fun p hp => word_no (h3 p hp) (by decide))
/-- what a right rule's form says -/
theorem formed_cases {r : Rul} (h : formed r = true) : r.when.all matOk = true ∧ r.when.length ≤ 6 ∧
    ((r.kind = 1 ∧ r.to = [] ∧ r.met = [] ∧ r.keep = false ∧ r.labs = []) ∨ (r.kind = 2 ∧ targets r.to = true ∧ r.met = [] ∧ r.keep = false ∧ r.labs = []) ∨ (r.kind = 3 ∧ targets r.to = true ∧ Tg.nameB r.met = true ∧ rising r.labs = true)) := by
  unfold formed at h
  split at h
  · cases h
  · rename_i hm
    have hm : matsOk r.when = true := by simpa using hm
    unfold matsOk at hm
    rw [Bool.and_eq_true, decide_eq_true_eq] at hm
    refine ⟨hm.2, hm.1, ?_⟩
    split at h
    · rename_i hk
      unfold bare at h
      simp only [Bool.and_eq_true, List.isEmpty_iff, Bool.not_eq_true'] at h
      exact .inl ⟨hk, h.1, h.2.1.1, h.2.1.2, h.2.2⟩
    · split at h
      · rename_i hk
        unfold bare at h
        simp only [Bool.and_eq_true, List.isEmpty_iff, Bool.not_eq_true'] at h
        exact .inr (.inl ⟨hk, h.2, h.1.2.1.1, h.1.2.1.2, h.1.2.2⟩)
      · split at h
        · rename_i hk
          simp only [Bool.and_eq_true] at h
          exact .inr (.inr ⟨hk, h.1.1, h.1.2, h.2⟩)
        · cases h
theorem rule_read {r : Rul} (h : formed r = true) : ruleW (rulLn r) = some r := by
  obtain ⟨hm, hl, hk⟩ := formed_cases h
  have hW : ∀ w ∈ r.when.map matLn, w ≠ wArrow := fun w hw => by
    obtain ⟨m, _, rfl⟩ := List.mem_map.1 hw
    exact mat_arrow m
  have hR : rulR (rulLn r) = some r := by
    obtain ⟨kd, wh, to', mt, kp, lb⟩ := r
    simp only at hm hl hk hW
    rcases hk with ⟨rfl, rfl, rfl, rfl, rfl⟩ | ⟨rfl, ht, rfl, rfl, rfl⟩ | ⟨rfl, ht, hn, hr⟩
    · have hp := parts_app (wh.map matLn) [] hW (.inl rfl)
      have e : rulLn ⟨1, wh, [], [], false, []⟩ = wDrop :: (wh.map matLn ++ []) := rfl
      unfold rulR
      rw [e, List.tail_cons, hp.1, hp.2, if_pos ⟨rfl, rfl⟩, mats_read hm]
    · have hp := parts_app (wh.map matLn) [wArrow, joinB 44 to'] hW (.inr ⟨_, rfl⟩)
      have e : rulLn ⟨2, wh, to', [], false, []⟩ = wMap :: (wh.map matLn ++ [wArrow, joinB 44 to']) := rfl
      unfold rulR
      rw [e, List.tail_cons, hp.1, hp.2, if_neg (fun h => absurd (show wMap = wDrop from h.1) (by decide)), if_pos ⟨rfl, rfl⟩, mats_read hm]
      show some (⟨2, wh, tosW (joinB 44 to'), [], false, []⟩ : Rul) = _
      rw [tos_read ht]
    · have hp := parts_app (wh.map matLn) [wArrow, joinB 44 to', wAs, mt, if kp then wKeep else wLess, labsT lb] hW (.inr ⟨_, rfl⟩)
      have e : rulLn ⟨3, wh, to', mt, kp, lb⟩ = wRoll :: (wh.map matLn ++ [wArrow, joinB 44 to', wAs, mt, if kp then wKeep else wLess, labsT lb]) := rfl
      unfold rulR
      rw [e, List.tail_cons, hp.1, hp.2, if_neg (fun h => absurd (show wRoll = wDrop from h.1) (by decide)), if_neg (fun h => absurd (show wRoll = wMap from h.1) (by decide)), if_pos ⟨rfl, rfl⟩, mats_read hm]
      have hkp : ((if kp = true then wKeep else wLess) = wKeep ∨ (if kp = true then wKeep else wLess) = wLess) := by cases kp <;> simp
      show (if wAs = wAs ∧ ((if kp = true then wKeep else wLess) = wKeep ∨ (if kp = true then wKeep else wLess) = wLess) then some (⟨3, wh, tosW (joinB 44 to'), mt, (if kp = true then wKeep else wLess) == wKeep, labsW (labsT lb)⟩ : Rul) else none) = _
      rw [if_pos ⟨rfl, hkp⟩, tos_read ht, labs_read hr]
      cases kp <;> rfl
  unfold ruleW
  rw [hR]
  simp [Option.filter, h]
theorem rule_no {d : UInt8} (hd : Sep d) {r : Rul} (h : formed r = true) : ∀ x ∈ rulLn r, d ∉ x := by
  obtain ⟨hm, hl, hk⟩ := formed_cases h
  obtain ⟨c1, c2, c3, c4, c5, c6, c7, c8, c9, c10, c11, c12⟩ := hd.words
  have hJ : ∀ l : List (List UInt8), (∀ x ∈ l, Tg.wordB x = true) → d ∉ joinB 44 l := fun l hl => mem_join hd.ne.1 (fun p hp => word_no (hl p hp) hd.nameC)
  intro x hx
  unfold rulLn at hx
  rcases List.mem_cons.1 hx with rfl | hx
  · unfold kindW
    split
    · exact c8
    · split
      · exact c9
      · split
        · exact c10
        · exact List.not_mem_nil
  · rcases List.mem_append.1 hx with hx | hx
    · obtain ⟨m, hmm, rfl⟩ := List.mem_map.1 hx
      exact mat_no hd (List.all_eq_true.1 hm m hmm)
    · unfold tailT at hx
      obtain ⟨kd, wh, to', mt, kp, lb⟩ := r
      simp only at hk hx
      rcases hk with ⟨rfl, rfl, rfl, rfl, rfl⟩ | ⟨rfl, ht, rfl, rfl, rfl⟩ | ⟨rfl, ht, hn, hr⟩
      · simp at hx
      · simp at hx
        rcases hx with rfl | rfl
        · exact c11
        · exact hJ _ (targets_word ht).2.2
      · simp at hx
        rcases hx with rfl | rfl | rfl | rfl | rfl | rfl
        · exact c11
        · exact hJ _ (targets_word ht).2.2
        · exact c7
        · exact name_no hn hd.nameC
        · split
          · exact c5
          · exact c6
        · unfold labsT
          split
          · exact c12
          · exact hJ _ (rising_word hr).2
theorem rule_len {r : Rul} (h : formed r = true) : (rulLn r).length ≤ 13 := by
  obtain ⟨hm, hl, hk⟩ := formed_cases h
  unfold rulLn tailT
  split <;> split <;> simp <;> omega
end Ru
end Go.Proofs.YtiahelekgjdjlaaGreatDoor
namespace Go.Proofs.YtiahelekgjdjlaaGreatDoor
open Dp Gb
namespace Ru
/-! ### Lines -/
theorem words_line {ws : List (List UInt8)} (h : ws ≠ []) (hl : ws.length ≤ 14) (h32 : ∀ x ∈ ws, (32 : UInt8) ∉ x) : wordsP (lineT ws) = ws := by
  unfold wordsP lineT
  rw [suf_trim]
  exact splN_join 32 13 ws h (by omega) h32
theorem line_suf (ws : List (List UInt8)) : Lib.hasSuffix (lineT ws) [10] = true := suf_one _ _
theorem line_no {ws : List (List UInt8)} (h : ∀ x ∈ ws, (10 : UInt8) ∉ x) : (10 : UInt8) ∉ joinB 32 ws := mem_join (by decide) h
theorem lines_flat : ∀ (L : List (List UInt8)), (∀ x ∈ L, ∃ y, x = y ++ [10] ∧ (10 : UInt8) ∉ y) → linesP L.flatten = L
  | [], _ => rfl
  | x :: L, h => by
    obtain ⟨y, rfl, hy⟩ := h x List.mem_cons_self
    rw [List.flatten_cons, List.append_assoc, List.singleton_append, linesP_cut hy, lines_flat L (fun z hz => h z (List.mem_cons_of_mem _ hz))]
theorem flat_lines : ∀ (n : Nat) (l : List UInt8), (linesN n l).flatten.length ≤ l.length ∧ (l.length ≤ n → (linesN n l).flatten = l)
  | 0, l => ⟨Nat.zero_le _, fun h => by
    obtain rfl : l = [] := List.length_eq_zero_iff.1 (by omega)
    rfl⟩
  | n + 1, l => by
    show (if l = [] then [] else if (Lib.cut l [10]).2.2 then ((Lib.cut l [10]).1 ++ [10]) :: linesN n (Lib.cut l [10]).2.1 else [l]).flatten.length ≤ l.length ∧ (l.length ≤ n + 1 → (if l = [] then [] else if (Lib.cut l [10]).2.2 then ((Lib.cut l [10]).1 ++ [10]) :: linesN n (Lib.cut l [10]).2.1 else [l]).flatten = l)
    by_cases h0 : l = []
    · rw [if_pos h0, h0]; exact ⟨Nat.le_refl _, fun _ => rfl⟩
    · rw [if_neg h0]
      rcases cut_cases 10 l with ⟨_, e⟩ | ⟨a, b, _, rfl, e⟩
      · rw [e]; simp
      · rw [e]
        have ih := flat_lines n b
        simp only [if_true, List.flatten_cons, List.length_append, List.length_cons, List.length_nil]
        refine ⟨by omega, fun h => ?_⟩
        rw [ih.2 (by omega)]
        simp
theorem flat_linesP (l : List UInt8) : (linesP l).flatten = l := (flat_lines l.length l).2 (Nat.le_refl _)
/-! ### What is right -/
theorem hit_none {n f : Nat} (h : hit n f = none) : f = 0 := by
  unfold hit at h
  split at h
  · assumption
  · cases h
theorem hit_ne {n f : Nat} {x : Nat × Nat} (h : hit n f = some x) : x.2 ≠ 0 := by
  unfold hit at h
  split at h
  · cases h
  · injection h with h
    rw [← h]
    assumption
theorem fmap_nil {α β : Type} {f : α → Option β} : ∀ {l : List α}, l.filterMap f = [] → ∀ x ∈ l, f x = none
  | [], _, x, hx => by cases hx
  | y :: l, h, x, hx => by
    rw [List.filterMap_cons] at h
    split at h
    · rename_i e
      rcases List.mem_cons.1 hx with rfl | hx
      · exact e
      · exact fmap_nil h x hx
    · cases h
/-- what a right set is -/
structure Right (s : RSet) : Prop where
  p1 : 1 ≤ s.pols.length
  p4 : s.pols.length ≤ 4
  r16 : s.rules.length ≤ 16
  pol : ∀ i, i < s.pols.length → polFault s.pols i = 0
  rul : ∀ i, i < s.rules.length → rulAt s i = 0
theorem check_right {s : RSet} (h : (checkP s).2 = 0) : Right s := by
  have hne : ∀ x ∈ faults s, x.2 ≠ 0 := fun x hx => by
    unfold faults at hx
    split at hx
    · obtain rfl := List.mem_singleton.1 hx
      decide
    · rcases List.mem_append.1 hx with hx | hx
      · obtain ⟨a, _, ha⟩ := List.mem_filterMap.1 hx
        exact hit_ne ha
      · obtain ⟨a, _, ha⟩ := List.mem_filterMap.1 hx
        exact hit_ne ha
  have h0 : faults s = [] := by
    unfold checkP at h
    cases hf : faults s with
    | nil => rfl
    | cons x t =>
      rw [hf] at h hne
      exact absurd h (hne x List.mem_cons_self)
  unfold faults at h0
  split at h0
  · cases h0
  · rename_i hm
    unfold many at hm
    simp only [Bool.or_eq_true, decide_eq_true_eq, not_or, Nat.not_lt] at hm
    obtain ⟨h1, h2⟩ := List.append_eq_nil_iff.1 h0
    refine ⟨by omega, by omega, by omega, fun i hi => ?_, fun i hi => ?_⟩
    · unfold polsFrom at h1
      rw [List.drop_zero] at h1
      exact hit_none (fmap_nil h1 i (List.mem_range.2 hi))
    · unfold rulesFrom at h2
      rw [List.drop_zero] at h2
      exact hit_none (fmap_nil h2 i (List.mem_range.2 hi))
theorem right_check {s : RSet} (h : (checkP s).2 = 0) : checkP s = (0, 0) := by
  have hr := check_right h
  have h1 : polsFrom s.pols 0 = [] := by
    unfold polsFrom
    rw [List.filterMap_eq_nil_iff]
    intro i hi
    rw [hr.pol i (List.mem_range.1 (by simpa using hi))]
    rfl
  have h2 : rulesFrom s 0 = [] := by
    unfold rulesFrom
    rw [List.filterMap_eq_nil_iff]
    intro i hi
    rw [hr.rul i (List.mem_range.1 (by simpa using hi))]
    rfl
  have hm : many s = false := by
    unfold many
    have := hr.p1
    have := hr.p4
    have := hr.r16
    simp only [Bool.or_eq_false_iff, decide_eq_false_iff_not]
    omega
  unfold checkP faults
  rw [hm, h1, h2]
  rfl
theorem Right.pols {s : RSet} (h : Right s) : ∀ p ∈ s.pols, Tg.wordB p.name = true ∧ ranged p = true := fun p hp => by
  obtain ⟨i, hi, rfl⟩ := List.getElem_of_mem hp
  have := h.pol i hi
  unfold polFault at this
  rw [List.getElem?_eq_getElem hi] at this
  simp only at this
  split at this
  · cases this
  · rename_i h1
    split at this
    · cases this
    · rename_i h2
      exact ⟨by simpa using h1, by simpa using h2⟩
theorem Right.once {s : RSet} (h : Right s) {i : Nat} {p : Pol} (hp : s.pols[i]? = some p) : ((names s.pols).take i).contains p.name = false := by
  obtain ⟨hi, rfl⟩ := List.getElem?_eq_some_iff.1 hp
  have := h.pol i hi
  unfold polFault at this
  rw [hp] at this
  simp only at this
  split at this
  · cases this
  · split at this
    · cases this
    · split at this
      · cases this
      · rename_i h3
        simpa using h3
theorem Right.rules {s : RSet} (h : Right s) : ∀ r ∈ s.rules, formed r = true := fun r hr => by
  obtain ⟨i, hi, rfl⟩ := List.getElem_of_mem hr
  have := h.rul i hi
  unfold rulAt at this
  rw [List.getElem?_eq_getElem hi] at this
  simp only at this
  unfold ruleFault at this
  split at this
  · cases this
  · rename_i h1
    simpa using h1
/-! ### A right set's text -/
theorem take_polLn {s : RSet} {p : Pol} (h0 : s.rules = []) (h1 : Tg.wordB p.name = true) (h2 : ranged p = true) : takeP s (lineT (polLn p)) = some ⟨push s.pols p 4, s.rules⟩ := by
  unfold takeP
  rw [words_line (by simp [polLn]) (by simp [polLn]) (pol_no (.inl rfl) h1 h2), if_pos (show (polLn p).headD [] = wPolicy from rfl), pol_read h1 h2, line_suf, h0]
  rfl
theorem rule_head (r : Rul) : (rulLn r).headD [] ≠ wPolicy := by
  show kindW r.kind ≠ wPolicy
  unfold kindW
  split
  · decide
  · split
    · decide
    · split <;> decide
theorem take_rule {s : RSet} {r : Rul} (h : formed r = true) : takeP s (lineT (rulLn r)) = some ⟨s.pols, push s.rules r 16⟩ := by
  unfold takeP
  rw [words_line (by simp [rulLn]) (by have := rule_len h; omega) (rule_no (.inl rfl) h), if_neg (rule_head r), rule_read h, line_suf]
  rfl
theorem push_ok {α : Type} {l : List α} {x : α} {m : Nat} (h : l.length ≤ m) : push l x m = l ++ [x] := by unfold push; rw [if_neg (by omega)]
theorem go_pols : ∀ (ps : List Pol) (done : List Pol) (rest : List (List UInt8)) (n : Nat), (done ++ ps).length ≤ 4 → (∀ p ∈ ps, Tg.wordB p.name = true ∧ ranged p = true) →
    goP (ps.map (fun p => lineT (polLn p)) ++ rest) ⟨done, []⟩ n = goP rest ⟨done ++ ps, []⟩ (n + ps.length)
  | [], done, rest, n, _, _ => by simp
  | p :: ps, done, rest, n, hl, h => by
    have hp := h p List.mem_cons_self
    rw [List.map_cons, List.cons_append]
    show (match takeP ⟨done, []⟩ (lineT (polLn p)) with | none => _ | some s' => goP _ s' (n + 1)) = _
    rw [take_polLn rfl hp.1 hp.2]
    simp only
    rw [push_ok (by simp at hl; omega), go_pols ps (done ++ [p]) rest (n + 1) (by simp at hl ⊢; omega) (fun q hq => h q (List.mem_cons_of_mem _ hq))]
    simp only [List.append_assoc, List.singleton_append, List.length_cons]
    congr 1
    omega
theorem go_rules : ∀ (rs : List Rul) (ps : List Pol) (done : List Rul) (n : Nat), (done ++ rs).length ≤ 16 → (∀ r ∈ rs, formed r = true) →
    goP (rs.map (fun r => lineT (rulLn r))) ⟨ps, done⟩ n = goP [] ⟨ps, done ++ rs⟩ (n + rs.length)
  | [], ps, done, n, _, _ => by simp
  | r :: rs, ps, done, n, hl, h => by
    rw [List.map_cons]
    show (match takeP ⟨ps, done⟩ (lineT (rulLn r)) with | none => _ | some s' => goP _ s' (n + 1)) = _
    rw [take_rule (h r List.mem_cons_self)]
    simp only
    rw [push_ok (by simp at hl; omega), go_rules rs ps (done ++ [r]) (n + 1) (by simp at hl ⊢; omega) (fun q hq => h q (List.mem_cons_of_mem _ hq))]
    simp only [List.append_assoc, List.singleton_append, List.length_cons]
    congr 1
    omega
theorem Right.lines {s : RSet} (h : Right s) : ∀ x ∈ linesT s, ∃ y, x = y ++ [10] ∧ (10 : UInt8) ∉ y := fun x hx => by
  unfold linesT at hx
  rcases List.mem_append.1 hx with hx | hx
  · obtain ⟨p, hp, rfl⟩ := List.mem_map.1 hx
    have := h.pols p hp
    exact ⟨_, rfl, line_no (pol_no (.inr rfl) this.1 this.2)⟩
  · obtain ⟨r, hr, rfl⟩ := List.mem_map.1 hx
    exact ⟨_, rfl, line_no (rule_no (.inr rfl) (h.rules r hr))⟩
theorem parse_print {s : RSet} (h : (checkP s).2 = 0) : parseP (printP s) = (s, 0, 0) := by
  have hr := check_right h
  unfold parseP printP
  rw [lines_flat _ hr.lines]
  unfold linesT
  rw [go_pols s.pols [] _ 0 (by simpa using hr.p4) hr.pols, go_rules s.rules _ [] _ (by simpa using hr.r16) hr.rules]
  show (if (checkP s).2 = 0 then (s, 0, 0) else _) = _
  rw [if_pos h]
/-! ### What is parsed is its set's text -/
theorem fld_back {a w : List UInt8} {v : Int} (h1 : fldN a = w) (h2 : fldV a = some v) : a = fldT w v := by
  unfold fldN at h1
  unfold fldV at h2
  unfold fldT
  rcases cut_cases 61 a with ⟨_, e⟩ | ⟨x, y, _, rfl, e⟩
  · rw [e] at h2
    cases h2
  · rw [e] at h1 h2
    simp only at h1 h2
    rw [(num_back h2).1, h1]
theorem pol_back {ws : List (List UInt8)} {p : Pol} (h0 : ws.headD [] = wPolicy) (h : polW ws = some p) : ws = polLn p := by
  unfold polW at h
  split at h
  · rename_i w0 n a b c d
    split at h
    · split at h
      · rename_i x y z u e1 e2 e3 e4
        split at h
        · rename_i hn
          injection h with h
          subst h
          have h0 : w0 = wPolicy := h0
          unfold polLn
          rw [h0, ← fld_back hn.1 e1, ← fld_back hn.2.1 e2, ← fld_back hn.2.2.1 e3, ← fld_back hn.2.2.2 e4]
        · cases h
      · cases h
    · cases h
  · cases h
theorem mat_back {w : List UInt8} (h : matOk (matW w) = true) : matLn (matW w) = w := by
  unfold matOk at h
  rw [Bool.and_eq_true] at h
  rcases cut_cases 61 w with ⟨_, e⟩ | ⟨x, y, _, rfl, e⟩
  · have hp : (matW w).pat = [] := by unfold matW; rw [e]
    rw [hp] at h
    exact absurd h.2 (by decide)
  · unfold matW matLn
    rw [e]
    simp only
    rw [suf_back]
theorem mats_back {l : List (List UInt8)} (h : (l.map matW).all matOk = true) : (l.map matW).map matLn = l := by
  rw [List.map_map]
  conv => rhs; rw [← List.map_id l]
  exact List.map_congr_left fun w hw => mat_back (List.all_eq_true.1 h _ (List.mem_map_of_mem hw))
theorem ahead_behind (ws : List (List UInt8)) : aheadP ws ++ behindP ws = ws := List.takeWhile_append_dropWhile
theorem behind_head {ws : List (List UInt8)} {x : List UInt8} {t : List (List UInt8)} (h : behindP ws = x :: t) : x = wArrow := by
  unfold behindP at h
  have := List.head?_dropWhile_not (fun x : List UInt8 => x != wArrow) ws
  rw [h] at this
  simpa using this
theorem labs_back (z : List UInt8) : labsT (labsW z) = z := by
  unfold labsW
  by_cases h : z = wNone
  · rw [if_pos h, h]; rfl
  · rw [if_neg h]
    unfold labsT
    rw [if_neg (splN_ne 44 6 z), join_splN]
theorem rule_back {ws : List (List UInt8)} {r : Rul} (h0 : ws ≠ []) (h : ruleW ws = some r) : ws = rulLn r ∧ formed r = true := by
  unfold ruleW at h
  rw [Option.filter_eq_some_iff] at h
  obtain ⟨h, hf⟩ := h
  refine ⟨?_, hf⟩
  obtain ⟨w, t, rfl⟩ : ∃ w t, ws = w :: t := by
    cases ws with
    | nil => exact absurd rfl h0
    | cons w t => exact ⟨w, t, rfl⟩
  have hab := ahead_behind t
  have hu : rulR (w :: t) = if w = wDrop ∧ (behindP t).length = 0 then some ⟨1, (aheadP t).map matW, [], [], false, []⟩
      else if w = wMap ∧ (behindP t).length = 2 then some ⟨2, (aheadP t).map matW, tosW ((behindP t).getD 1 []), [], false, []⟩
      else if w = wRoll ∧ (behindP t).length = 6 then
        if (behindP t).getD 2 [] = wAs ∧ ((behindP t).getD 4 [] = wKeep ∨ (behindP t).getD 4 [] = wLess) then
          some ⟨3, (aheadP t).map matW, tosW ((behindP t).getD 1 []), (behindP t).getD 3 [], (behindP t).getD 4 [] == wKeep, labsW ((behindP t).getD 5 [])⟩
        else none
      else none := rfl
  rw [hu] at h
  have hm := (formed_cases hf).1
  by_cases hc : w = wDrop ∧ (behindP t).length = 0
  · rw [if_pos hc] at h
    injection h with h
    subst h
    have hb : behindP t = [] := List.length_eq_zero_iff.1 hc.2
    rw [hb, List.append_nil] at hab
    show _ = wDrop :: ((aheadP t).map matW).map matLn ++ []
    rw [List.append_nil, mats_back hm, hab, hc.1]
  · rw [if_neg hc] at h
    clear hc
    by_cases hc : w = wMap ∧ (behindP t).length = 2
    · rw [if_pos hc] at h
      injection h with h
      subst h
      obtain ⟨x, y, hb⟩ : ∃ x y, behindP t = [x, y] := by
        match behindP t, hc.2 with
        | [x, y], _ => exact ⟨x, y, rfl⟩
      have hx := behind_head hb
      rw [hb] at hab hm ⊢
      show _ = wMap :: (((aheadP t).map matW).map matLn ++ [wArrow, joinB 44 (tosW y)])
      rw [mats_back hm]
      unfold tosW
      rw [join_splN, ← hx, hab, hc.1]
    · rw [if_neg hc] at h
      clear hc
      by_cases hc : w = wRoll ∧ (behindP t).length = 6
      · rw [if_pos hc] at h
        by_cases hw : (behindP t).getD 2 [] = wAs ∧ ((behindP t).getD 4 [] = wKeep ∨ (behindP t).getD 4 [] = wLess)
        · rw [if_pos hw] at h
          injection h with h
          subst h
          obtain ⟨x, y, x2, x3, x4, x5, hb⟩ : ∃ x y x2 x3 x4 x5, behindP t = [x, y, x2, x3, x4, x5] := by
            match behindP t, hc.2 with
            | [x, y, x2, x3, x4, x5], _ => exact ⟨x, y, x2, x3, x4, x5, rfl⟩
          have hx := behind_head hb
          rw [hb] at hab hm hw ⊢
          have hw1 : x2 = wAs := hw.1
          have hw2 : x4 = wKeep ∨ x4 = wLess := hw.2
          have hkp : (if (x4 == wKeep) = true then wKeep else wLess) = x4 := by
            rcases hw2 with rfl | rfl <;> rfl
          show _ = wRoll :: (((aheadP t).map matW).map matLn ++ [wArrow, joinB 44 (tosW y), wAs, x3, (if (x4 == wKeep) = true then wKeep else wLess), labsT (labsW x5)])
          rw [mats_back hm, hkp, labs_back]
          unfold tosW
          rw [join_splN, ← hx, ← hw1, hab, hc.1]
        · rw [if_neg hw] at h; cases h
      · rw [if_neg hc] at h; cases h
theorem line_back {line : List UInt8} (h : Lib.hasSuffix line [10] = true) : line = lineT (wordsP line) := by
  unfold lineT wordsP
  rw [join_splN]
  have := suf_back line 10
  rw [if_pos h] at this
  exact this.symm
/-- one line more -/
theorem take_back {s s' : RSet} {line : List UInt8} (h : takeP s line = some s') : (s.rules = [] ∧ ∃ p, s' = ⟨push s.pols p 4, []⟩ ∧ line = lineT (polLn p)) ∨ ∃ r, s' = ⟨s.pols, push s.rules r 16⟩ ∧ line = lineT (rulLn r) := by
  unfold takeP at h
  split at h
  · rename_i h0
    split at h
    · rename_i p hp
      split at h
      · rename_i hc
        rw [Bool.and_eq_true, List.isEmpty_iff] at hc
        injection h with h
        refine .inl ⟨hc.2, p, ?_, ?_⟩
        · rw [← h, hc.2]
        · rw [← pol_back h0 hp]; exact line_back hc.1
      · cases h
    · cases h
  · split at h
    · rename_i r hr
      split at h
      · rename_i hc
        injection h with h
        refine .inr ⟨r, h.symm, ?_⟩
        rw [← (rule_back (splN_ne 32 13 _) hr).1]
        exact line_back hc
      · cases h
    · cases h
theorem push_lenLn {α : Type} (l : List α) (x : α) (m : Nat) : l.length ≤ (push l x m).length := by
  unfold push
  split
  · exact Nat.le_refl _
  · simp
theorem go_back : ∀ (L : List (List UInt8)) (s t : RSet) (n k : Nat), goP L s n = (t, k, 0) → s.pols.length ≤ t.pols.length ∧ s.rules.length ≤ t.rules.length ∧ (checkP t).2 = 0 ∧ printP t = printP s ++ L.flatten
  | [], s, t, n, k, h => by
    show s.pols.length ≤ _ ∧ _
    change (if (checkP s).2 = 0 then (s, 0, 0) else ((⟨[], []⟩ : RSet), (checkP s).1, (checkP s).2)) = _ at h
    split at h
    · rename_i hc
      injection h with h1 h2
      subst h1
      exact ⟨Nat.le_refl _, Nat.le_refl _, hc, by simp⟩
    · rename_i hc
      injection h with _ h2
      injection h2 with _ h2
      exact absurd h2 hc
  | x :: L, s, t, n, k, h => by
    change (match takeP s x with | none => ((⟨[], []⟩ : RSet), n, 2) | some s' => goP L s' (n + 1)) = _ at h
    split at h
    · injection h with _ h2
      injection h2 with _ h2
      cases h2
    · rename_i s' hs
      obtain ⟨h1, h2, h3, h4⟩ := go_back L s' t (n + 1) k h
      have hr := check_right h3
      rcases take_back hs with ⟨h0, p, rfl, rfl⟩ | ⟨r, rfl, rfl⟩
      · simp only at h1 h2 h4
        have hl := push_lenLn s.pols p 4
        have hp : push s.pols p 4 = s.pols ++ [p] := by
          refine push_ok ?_
          unfold push at h1
          split at h1
          · have := hr.p4; omega
          · rename_i h5; omega
        refine ⟨by omega, by rw [h0]; exact Nat.zero_le _, h3, ?_⟩
        rw [h4, hp, List.flatten_cons, ← List.append_assoc]
        congr 1
        unfold printP linesT
        rw [h0]
        simp
      · simp only at h1 h2 h4
        have hl := push_lenLn s.rules r 16
        have hp : push s.rules r 16 = s.rules ++ [r] := by
          refine push_ok ?_
          unfold push at h2
          split at h2
          · have := hr.r16; omega
          · rename_i h5; omega
        refine ⟨h1, by omega, h3, ?_⟩
        rw [h4, hp, List.flatten_cons, ← List.append_assoc]
        congr 1
        unfold printP linesT
        simp
theorem print_parse {l : List UInt8} {s : RSet} {k : Nat} (h : parseP l = (s, k, 0)) : printP s = l ∧ (checkP s).2 = 0 := by
  obtain ⟨_, _, h3, h4⟩ := go_back _ _ _ _ _ h
  rw [flat_linesP] at h4
  exact ⟨h4, h3⟩
end Ru
end Go.Proofs.YtiahelekgjdjlaaGreatDoor
