/- Plain facts on cutting, splitting and joining texts: what is read of a series' text. No program. -/
import Derived.Test.YtaoojglepihjeaaDoorTgCut
import Derived.Test.YtaoojglepihjeaaDoorTgText
import Derived.Lib.Split
namespace Go.Proofs.YtaoojglepihjeaaDoor.Tg
theorem getElem?_ne {c : UInt8} {l : List UInt8} (h : c ∉ l) (j : Nat) : l[j]? ≠ some c := fun e => h (List.mem_of_getElem? e)
theorem cut_app {c : UInt8} {a : List UInt8} (b : List UInt8) (h : c ∉ a) : Lib.cut (a ++ c :: b) [c] = (a, b, true) := by
  rw [cut_hit c (a ++ c :: b) a.length (fun j hj => by rw [List.getElem?_append_left hj]; exact getElem?_ne h j) (by simp)]
  simp
theorem cut_not {c : UInt8} {l : List UInt8} (h : c ∉ l) : Lib.cut l [c] = (l, [], false) := cut_miss c l fun j _ => getElem?_ne h j
theorem cut_cases (c : UInt8) (l : List UInt8) : (c ∉ l ∧ Lib.cut l [c] = (l, [], false)) ∨ ∃ a b, c ∉ a ∧ l = a ++ c :: b ∧ Lib.cut l [c] = (a, b, true) := by
  by_cases h : c ∈ l
  · obtain ⟨a, b, e, hn⟩ := List.eq_append_cons_of_mem h
    exact .inr ⟨a, b, hn, e, by rw [e]; exact cut_app b hn⟩
  · exact .inl ⟨h, cut_not h⟩
/-- at most n cuts at commas -/
def splitN : Nat → List UInt8 → List (List UInt8)
  | 0, l => [l]
  | n + 1, l => if (Lib.cut l [44]).2.2 then (Lib.cut l [44]).1 :: splitN n (Lib.cut l [44]).2.1 else [l]
theorem splitN_succ (n : Nat) (l : List UInt8) : splitN (n + 1) l = if (Lib.cut l [44]).2.2 then (Lib.cut l [44]).1 :: splitN n (Lib.cut l [44]).2.1 else [l] := rfl
def splitAll (l : List UInt8) : List (List UInt8) := splitN l.length l
theorem splitN_len : ∀ n l, (splitN n l).length ≤ n + 1
  | 0, l => by simp [splitN]
  | n + 1, l => by
    unfold splitN
    split
    · have := splitN_len n (Lib.cut l [44]).2.1; simp; omega
    · simp
theorem splitN_more : ∀ n l, l.length ≤ n → splitN (n + 1) l = splitN n l
  | 0, l, h => by
    obtain rfl : l = [] := List.length_eq_zero_iff.1 (by omega)
    rfl
  | n + 1, l, h => by
    rw [splitN_succ (n + 1) l, splitN_succ n l]
    rcases cut_cases 44 l with ⟨_, e⟩ | ⟨a, b, _, rfl, e⟩
    · rw [e]; simp
    · rw [e]
      simp only [if_true]
      rw [splitN_more n b (by simp at h; omega)]
theorem splitN_all (l : List UInt8) : ∀ d, splitN (l.length + d) l = splitAll l
  | 0 => rfl
  | d + 1 => by rw [← Nat.add_assoc, splitN_more _ _ (by omega), splitN_all l d]
theorem splitN_ge {n : Nat} {l : List UInt8} (h : l.length ≤ n) : splitN n l = splitAll l := by
  obtain ⟨d, rfl⟩ : ∃ d, n = l.length + d := ⟨n - l.length, by omega⟩
  exact splitN_all l d
/-- where fewer than may be come out, they are all -/
theorem splitN_few : ∀ n l, (splitN n l).length ≤ n → splitN (n + 1) l = splitN n l
  | 0, l, h => by simp [splitN] at h
  | n + 1, l, h => by
    rw [splitN_succ (n + 1) l, splitN_succ n l]
    rw [splitN_succ n l] at h
    rcases cut_cases 44 l with ⟨_, e⟩ | ⟨a, b, _, rfl, e⟩
    · rw [e]; simp
    · rw [e] at h ⊢
      simp only [if_true, List.length_cons] at h ⊢
      rw [splitN_few n b (by omega)]
theorem splitN_step : ∀ n l, (splitN n l).length ≤ (splitN (n + 1) l).length
  | 0, l => by
    rw [splitN_succ 0]
    split <;> simp [splitN]
  | n + 1, l => by
    rw [splitN_succ (n + 1) l, splitN_succ n l]
    split
    · have := splitN_step n (Lib.cut l [44]).2.1; simp; exact this
    · simp
/-- seven at most, or all -/
theorem split_six (l : List UInt8) : splitN 6 l = splitAll l ∨ ((splitN 6 l).length = 7 ∧ 7 ≤ (splitAll l).length) := by
  by_cases h : (splitN 6 l).length ≤ 6
  · left
    have hk : ∀ d, splitN (6 + d) l = splitN 6 l := by
      intro d
      induction d with
      | zero => rfl
      | succ d ih => rw [← Nat.add_assoc, splitN_few _ _ (by rw [ih]; omega), ih]
    rw [← splitN_ge (n := 6 + l.length) (by omega), hk]
  · right
    have h7 := splitN_len 6 l
    have hm : ∀ d, (splitN 6 l).length ≤ (splitN (6 + d) l).length := by
      intro d
      induction d with
      | zero => exact Nat.le_refl _
      | succ d ih => exact Nat.le_trans ih (splitN_step _ _)
    have := hm l.length
    rw [splitN_ge (n := 6 + l.length) (by omega)] at this
    omega
theorem split_min (l : List UInt8) : splitN (min 7 (l.length + 1) - 1) l = splitN 6 l := by
  by_cases h : 6 ≤ l.length
  · rw [show min 7 (l.length + 1) - 1 = 6 by omega]
  · rw [show min 7 (l.length + 1) - 1 = l.length by omega, splitN_ge (n := 6) (by omega)]; rfl
/-- all, cut by cut -/
theorem splitAll_eq (l : List UInt8) : splitAll l = if (Lib.cut l [44]).2.2 then (Lib.cut l [44]).1 :: splitAll (Lib.cut l [44]).2.1 else [l] := by
  rw [← splitN_ge (n := l.length + 1) (l := l) (by omega), splitN]
  rcases cut_cases 44 l with ⟨_, e⟩ | ⟨a, b, _, rfl, e⟩
  · rw [e]; simp
  · rw [e]
    simp only [if_true]
    rw [splitN_ge (by simp; omega)]
def joinC : List (List UInt8) → List UInt8
  | [] => []
  | [x] => x
  | x :: y :: l => x ++ 44 :: joinC (y :: l)
theorem join_split : ∀ n l, joinC (splitN n l) = l
  | 0, l => rfl
  | n + 1, l => by
    rw [splitN]
    rcases cut_cases 44 l with ⟨_, e⟩ | ⟨a, b, _, rfl, e⟩
    · rw [e]; rfl
    · rw [e]
      simp only [if_true]
      have ih := join_split n b
      cases hs : splitN n b with
      | nil => have := congrArg List.length hs; cases n <;> simp [splitN] at this; split at this <;> simp at this
      | cons y t => rw [hs] at ih; rw [joinC, ih]
theorem split_join : ∀ (n : Nat) (ps : List (List UInt8)), ps ≠ [] → (∀ p ∈ ps, (44 : UInt8) ∉ p) → ps.length ≤ n + 1 → splitN n (joinC ps) = ps
  | _, [], h, _, _ => absurd rfl h
  | 0, [x], _, _, _ => rfl
  | n + 1, [x], _, h, _ => by rw [joinC, splitN, cut_not (h x (by simp))]; simp
  | 0, x :: y :: l, _, _, h => by simp at h
  | n + 1, x :: y :: l, _, h, hl => by
    rw [joinC, splitN, cut_app _ (h x (by simp))]
    simp only [if_true]
    rw [split_join n (y :: l) (by simp) (fun p hp => h p (by simp [hp])) (by simp at hl ⊢; omega)]
/-! ### A label's part -/
def kv (x : Lab) : List UInt8 := x.1.data.toList ++ 61 :: x.2.data.toList
def labOf (p : List UInt8) : Lab := (⟨(Lib.cut p [61]).1.toArray⟩, ⟨(Lib.cut p [61]).2.1.toArray⟩)
def isKv (p : List UInt8) : Bool := (Lib.cut p [61]).2.2
theorem nameC_ne {l : List UInt8} (h : nameB l = true) (c : UInt8) (hc : nameC c = false) : c ∉ l := fun hm => by
  simp only [nameB, Bool.and_eq_true] at h
  have := List.all_eq_true.1 h.2 c hm
  rw [hc] at this
  cases this
theorem valC_ne {l : List UInt8} (h : valB l = true) (c : UInt8) (hc : valC c = false) : c ∉ l := fun hm => by
  simp only [valB, Bool.and_eq_true] at h
  have := List.all_eq_true.1 h.2 c hm
  rw [hc] at this
  cases this
theorem lab_name {x : Lab} (h : labB x = true) : nameB x.1.data.toList = true ∧ valB x.2.data.toList = true := by
  simp only [labB, wordB, Bool.and_eq_true] at h
  exact ⟨h.1.1, h.2⟩
theorem kv_no {x : Lab} (h : labB x = true) : (44 : UInt8) ∉ kv x := fun hm => by
  obtain ⟨h1, h2⟩ := lab_name h
  unfold kv at hm
  rcases List.mem_append.1 hm with hm | hm
  · exact nameC_ne h1 44 (by decide) hm
  · rcases List.mem_cons.1 hm with hm | hm
    · cases hm
    · exact valC_ne h2 44 (by decide) hm
theorem labOf_kv {x : Lab} (h : labB x = true) : labOf (kv x) = x ∧ isKv (kv x) = true := by
  unfold labOf isKv kv
  rw [cut_app _ (nameC_ne (lab_name h).1 61 (by decide))]
  exact ⟨rfl, rfl⟩
/-- a part that makes a label is that label's -/
theorem kv_labOf {p : List UInt8} (h : labB (labOf p) = true) : isKv p = true ∧ kv (labOf p) = p := by
  rcases cut_cases 61 p with ⟨_, e⟩ | ⟨a, b, _, rfl, e⟩
  · have hv := (val_len h).1
    unfold labOf at hv
    rw [e] at hv
    simp at hv
  · unfold isKv kv labOf
    rw [e]
    exact ⟨rfl, rfl⟩
/-! ### The whole text -/
theorem openT_join : ∀ (x : Lab) (l : List Lab), openT (x :: l) = 123 :: joinC ((x :: l).map kv) := by
  intro x l
  have h : ∀ (x : Lab) (l : List Lab), kv x ++ l.flatMap (piece 44) = joinC ((x :: l).map kv) := by
    intro x l
    induction l generalizing x with
    | nil => simp [joinC]
    | cons y l ih =>
      rw [List.map_cons, List.map_cons, joinC, ← List.map_cons, ← ih y]
      simp [piece, kv]
  rw [← h]
  simp [openT, piece, kv]
/-- the parts ahead of the first { and behind it -/
def rMet (l : List UInt8) : List UInt8 := (Lib.cut l [123]).1
def rSome (l : List UInt8) : Bool := (Lib.cut l [123]).2.2
def rRest (l : List UInt8) : List UInt8 := (Lib.cut l [123]).2.1
def rInner (l : List UInt8) : List UInt8 := Lib.trimSuffix (rRest l) [125]
def rShut (l : List UInt8) : Bool := Lib.hasSuffix (rRest l) [125]
def rLabs (l : List UInt8) : List Lab := if rSome l then (splitN 6 (rInner l)).map labOf else []
def rOk (l : List UInt8) : Bool := (!rSome l || rShut l) && goodB ⟨(rMet l).toArray⟩ (rLabs l)
/-- as the document reads -/
def dLabs (l : List UInt8) : List Lab := if rSome l then (splitAll (rInner l)).map labOf else []
def dOk (l : List UInt8) : Bool := (!rSome l || rShut l && (splitAll (rInner l)).all isKv) && goodB ⟨(rMet l).toArray⟩ (dLabs l)
theorem goodB_parts {m : ByteArray} {l : List Lab} (h : goodB m l = true) : nameB m.data.toList = true ∧ l.length ≤ 6 ∧ goodFrom [] l = true := by
  simp only [goodB, Bool.and_eq_true, decide_eq_true_eq] at h
  exact ⟨h.1.1, h.1.2, h.2⟩
theorem goodB_long {m : ByteArray} {l : List Lab} (h : 6 < l.length) : goodB m l = false := by
  unfold goodB; rw [decide_eq_false (by omega), Bool.and_false, Bool.false_and]
theorem read_same (l : List UInt8) : dOk l = rOk l ∧ (rOk l = true → dLabs l = rLabs l) := by
  unfold dOk rOk dLabs rLabs
  cases hs : rSome l with
  | false => simp
  | true =>
    simp only [if_true, Bool.not_true, Bool.false_or]
    cases hc : rShut l with
    | false => simp
    | true =>
      simp only [Bool.true_and]
      rcases split_six (rInner l) with e | ⟨e1, e2⟩
      · rw [e]
        refine ⟨?_, fun _ => rfl⟩
        cases hg : goodB ⟨(rMet l).toArray⟩ ((splitAll (rInner l)).map labOf) with
        | false => simp
        | true =>
          have ha := goodFrom_all _ _ (goodB_parts hg).2.2
          rw [Bool.and_true, List.all_eq_true]
          intro p hp
          exact (kv_labOf (ha _ (List.mem_map.2 ⟨p, hp, rfl⟩))).1
      · have h1 : goodB ⟨(rMet l).toArray⟩ ((splitN 6 (rInner l)).map labOf) = false := goodB_long (by simp; omega)
        have h2 : goodB ⟨(rMet l).toArray⟩ ((splitAll (rInner l)).map labOf) = false := goodB_long (by simp; omega)
        rw [h1, h2]
        simp
theorem suffix_one {r : List UInt8} (h : Lib.hasSuffix r [125] = true) : r = Lib.trimSuffix r [125] ++ [125] := by
  unfold Lib.trimSuffix
  rw [h, if_pos rfl]
  unfold Lib.hasSuffix at h
  obtain ⟨t, ht⟩ := List.isSuffixOf_iff_suffix.1 h
  rw [← ht]
  simp
theorem suffix_app (t : List UInt8) : Lib.hasSuffix (t ++ [125]) [125] = true ∧ Lib.trimSuffix (t ++ [125]) [125] = t := by
  have h : Lib.hasSuffix (t ++ [125]) [125] = true := List.isSuffixOf_iff_suffix.2 ⟨t, rfl⟩
  refine ⟨h, ?_⟩
  unfold Lib.trimSuffix
  rw [h, if_pos rfl]
  simp
/-- what is read has that text -/
theorem read_text (l : List UInt8) (h : rOk l = true) : textL (rMet l) (rLabs l) = l := by
  unfold rOk at h
  simp only [Bool.and_eq_true] at h
  obtain ⟨h1, h2⟩ := h
  have hp := goodB_parts h2
  rcases cut_cases 123 l with ⟨_, e⟩ | ⟨a, b, _, hl, e⟩
  · have hs : rSome l = false := by unfold rSome; rw [e]
    unfold rLabs textL
    rw [hs]
    simp only [Bool.false_eq_true, if_false]
    unfold rMet
    rw [e]
    simp [openT]
  · have hs : rSome l = true := by unfold rSome; rw [e]
    have hm : rMet l = a := by unfold rMet; rw [e]
    have hr : rRest l = b := by unfold rRest; rw [e]
    rw [hs] at h1
    have hsh : rShut l = true := by simpa using h1
    have hin : b = rInner l ++ [125] := by
      unfold rShut at hsh
      rw [hr] at hsh
      have := suffix_one hsh
      unfold rInner
      rw [hr]
      exact this
    have hL : rLabs l = (splitN 6 (rInner l)).map labOf := by unfold rLabs; rw [hs]; rfl
    have ha := goodFrom_all _ _ hp.2.2
    rw [hL] at ha ⊢
    have hkv : (splitN 6 (rInner l)).map (fun p => kv (labOf p)) = splitN 6 (rInner l) := by
      conv => rhs; rw [← List.map_id (splitN 6 (rInner l))]
      apply List.map_congr_left
      intro p hp'
      exact (kv_labOf (ha _ (List.mem_map.2 ⟨p, hp', rfl⟩))).2
    have hne : splitN 6 (rInner l) ≠ [] := by
      rw [splitN]; split <;> simp
    cases hsp : splitN 6 (rInner l) with
    | nil => exact absurd hsp hne
    | cons p ps =>
      have hj := join_split 6 (rInner l)
      rw [hsp] at hkv hj
      unfold textL
      rw [List.map_cons, openT_join, ← List.map_cons, List.map_map]
      rw [show ((p :: ps).map (kv ∘ labOf)) = (p :: ps) from hkv, hj, hm]
      conv => rhs; rw [hl, hin]
      simp
/-- a good series' text is read as it -/
theorem text_read (m : ByteArray) (L : List Lab) (h : goodB m L = true) : rOk (textL m.data.toList L) = true ∧ rMet (textL m.data.toList L) = m.data.toList ∧ rLabs (textL m.data.toList L) = L := by
  obtain ⟨hn, hl, hg⟩ := goodB_parts h
  have hmn : (123 : UInt8) ∉ m.data.toList := nameC_ne hn 123 (by decide)
  have ha := goodFrom_all _ _ hg
  cases L with
  | nil =>
    have ht : textL m.data.toList [] = m.data.toList := by simp [textL, openT]
    rw [ht]
    have e := cut_not hmn
    have hm : rMet m.data.toList = m.data.toList := by unfold rMet; rw [e]
    have hs : rSome m.data.toList = false := by unfold rSome; rw [e]
    have hL : rLabs m.data.toList = [] := by unfold rLabs; rw [hs]; rfl
    refine ⟨?_, hm, hL⟩
    unfold rOk
    rw [hs, hm, hL]
    simpa using h
  | cons x l =>
    have ht : textL m.data.toList (x :: l) = m.data.toList ++ 123 :: (joinC ((x :: l).map kv) ++ [125]) := by
      unfold textL; rw [openT_join]; simp
    rw [ht]
    have e := cut_app (joinC ((x :: l).map kv) ++ [125]) hmn
    have hm : rMet (m.data.toList ++ 123 :: (joinC ((x :: l).map kv) ++ [125])) = m.data.toList := by unfold rMet; rw [e]
    have hs : rSome (m.data.toList ++ 123 :: (joinC ((x :: l).map kv) ++ [125])) = true := by unfold rSome; rw [e]
    have hr : rRest (m.data.toList ++ 123 :: (joinC ((x :: l).map kv) ++ [125])) = joinC ((x :: l).map kv) ++ [125] := by unfold rRest; rw [e]
    have hsh : rShut (m.data.toList ++ 123 :: (joinC ((x :: l).map kv) ++ [125])) = true := by unfold rShut; rw [hr]; exact (suffix_app _).1
    have hin : rInner (m.data.toList ++ 123 :: (joinC ((x :: l).map kv) ++ [125])) = joinC ((x :: l).map kv) := by unfold rInner; rw [hr]; exact (suffix_app _).2
    have hL : rLabs (m.data.toList ++ 123 :: (joinC ((x :: l).map kv) ++ [125])) = x :: l := by
      unfold rLabs
      rw [hs, hin, if_pos rfl, split_join 6 _ (by simp) (fun p hp => by obtain ⟨y, hy, rfl⟩ := List.mem_map.1 hp; exact kv_no (ha y hy)) (by simp at hl ⊢; omega), List.map_map]
      conv => rhs; rw [← List.map_id (x :: l)]
      apply List.map_congr_left
      intro y hy
      exact (labOf_kv (ha y hy)).1
    refine ⟨?_, hm, hL⟩
    unfold rOk
    rw [hs, hsh, hm, hL]
    simpa using h
end Go.Proofs.YtaoojglepihjeaaDoor.Tg
