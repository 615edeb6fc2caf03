
/- Plain facts on names, values, labels and their order: lists of bytes and of labels alone, no program. -/
import Derived.Lib.Bytealg
import Derived.WalkKit
namespace Go.Proofs.YtljcnnigpfclkaaDoor.Tg
/-! ### Bytes -/
def small (c : UInt8) : Bool := decide (97 ≤ c.toNat) && decide (c.toNat ≤ 122)
def nameC (c : UInt8) : Bool := small c || (decide (48 ≤ c.toNat) && decide (c.toNat ≤ 57)) || decide (c.toNat = 95) || decide (c.toNat = 46)
def signs : List UInt8 := [44, 58, 59, 61, 124, 35, 34, 123, 125]
def valC (c : UInt8) : Bool := decide (33 ≤ c.toNat) && decide (c.toNat ≤ 126) && !signs.contains c
/-- a name -/
def nameB (l : List UInt8) : Bool := decide (1 ≤ l.length) && decide (l.length ≤ 24) && small (l.headD 0) && l.all nameC
def valB (l : List UInt8) : Bool := decide (1 ≤ l.length) && decide (l.length ≤ 24) && l.all valC
/-- a label's name -/
def wordB (l : List UInt8) : Bool := nameB l && !l.contains 46

/-! ### The order of texts -/
abbrev lt (a b : List UInt8) : Bool := Op.bytesLess a b
theorem lt_irrefl : ∀ a, lt a a = false
  | [] => rfl
  | c :: a => by
    have ih : Op.bytesLess a a = false := lt_irrefl a
    simp [lt, Op.bytesLess, ih]
theorem lt_trans : ∀ a b c, lt a b = true → lt b c = true → lt a c = true
  | _, [], _, h, _ => by simp [lt, Op.bytesLess] at h
  | _, _ :: _, [], _, h => by simp [lt, Op.bytesLess] at h
  | [], _ :: _, _ :: _, _, _ => by simp [lt, Op.bytesLess]
  | x :: a, y :: b, z :: c, h1, h2 => by
    simp only [lt, Op.bytesLess, Bool.or_eq_true, Bool.and_eq_true, decide_eq_true_eq, beq_iff_eq] at h1 h2 ⊢
    rcases h1 with h1 | ⟨rfl, h1⟩ <;> rcases h2 with h2 | ⟨rfl, h2⟩
    · exact .inl (UInt8.lt_trans h1 h2)
    · exact .inl h1
    · exact .inl h2
    · exact .inr ⟨rfl, lt_trans a b c h1 h2⟩
theorem lt_tri : ∀ a b, lt a b = false → lt b a = false → a = b
  | [], [], _, _ => rfl
  | [], _ :: _, h, _ => by simp [lt, Op.bytesLess] at h
  | _ :: _, [], _, h => by simp [lt, Op.bytesLess] at h
  | x :: a, y :: b, h1, h2 => by
    simp only [lt, Op.bytesLess, Bool.or_eq_false_iff, decide_eq_false_iff_not] at h1 h2
    have hxy : x = y := UInt8.le_antisymm (UInt8.not_lt.1 h2.1) (UInt8.not_lt.1 h1.1)
    subst hxy
    simp only [BEq.rfl, Bool.true_and] at h1 h2
    rw [lt_tri a b h1.2 h2.2]
theorem lt_asymm (a b : List UInt8) (h : lt a b = true) : lt b a = false := by
  cases h2 : lt b a with
  | false => rfl
  | true => have := lt_trans a b a h h2; rw [lt_irrefl] at this; cases this
theorem lt_total (a b : List UInt8) : lt a b = !(lt b a || (b == a)) := by
  cases h : lt b a with
  | true => rw [lt_asymm b a h]; rfl
  | false =>
    cases h2 : lt a b with
    | true =>
      have hn : (b == a) = false := beq_eq_false_iff_ne.2 fun e => by rw [e, lt_irrefl] at h2; cases h2
      rw [hn]; rfl
    | false => rw [lt_tri a b h2 h]; simp
theorem lt_ne (a b : List UInt8) (h : lt a b = true) : a ≠ b := fun e => by rw [e, lt_irrefl] at h; cases h
theorem lt_nil (a : List UInt8) : lt a [] = false := by cases a <;> rfl
theorem nil_lt (a : List UInt8) (h : 1 ≤ a.length) : lt [] a = true := by
  cases a with
  | nil => simp at h
  | cons c a => rfl
theorem cmp_lt : ∀ a b, decide (Lib.compareBytes a b < 0) = lt a b
  | [], [] => rfl
  | [], _ :: _ => rfl
  | _ :: _, [] => rfl
  | x :: a, y :: b => by
    have ih := cmp_lt a b
    simp only [Lib.compareBytes, lt, Op.bytesLess]
    by_cases h1 : x < y
    · simp [h1]
    · by_cases h2 : y < x
      · have hne : (x == y) = false := beq_eq_false_iff_ne.2 (fun e => by subst e; exact h1 h2)
        simp [h1, h2, hne]
      · have hxy : x = y := UInt8.le_antisymm (UInt8.not_lt.1 h2) (UInt8.not_lt.1 h1)
        subst hxy
        simp [h1]
        exact ih

/-! ### Labels -/
/-- a label: its name and its value -/
abbrev Lab := ByteArray × ByteArray
def nm (x : Lab) : List UInt8 := x.1.data.toList
def labB (x : Lab) : Bool := wordB x.1.data.toList && valB x.2.data.toList
theorem nm_inj {a b : ByteArray} (h : a.data.toList = b.data.toList) : a = b := by
  cases a with | mk a => cases b with | mk b => cases a; cases b; simp at h; rw [h]
theorem nm_len {x : Lab} (h : labB x = true) : 1 ≤ (nm x).length ∧ (nm x).length ≤ 24 := by
  simp only [labB, wordB, nameB, Bool.and_eq_true, decide_eq_true_eq] at h
  exact h.1.1.1.1
theorem val_len {x : Lab} (h : labB x = true) : 1 ≤ x.2.data.toList.length ∧ x.2.data.toList.length ≤ 24 := by
  simp only [labB, valB, Bool.and_eq_true, decide_eq_true_eq] at h
  exact h.2.1
/-- labels, all of them such, rising by their names, the first above last -/
def goodFrom (last : List UInt8) : List Lab → Bool
  | [] => true
  | x :: l => labB x && lt last (nm x) && goodFrom (nm x) l
def lastN (last : List UInt8) : List Lab → List UInt8
  | [] => last
  | x :: l => lastN (nm x) l
theorem lastN_snoc (x : Lab) : ∀ (l : List Lab) (last : List UInt8), lastN last (l ++ [x]) = nm x
  | [], _ => rfl
  | _ :: l, _ => lastN_snoc x l _
theorem goodFrom_snoc (x : Lab) : ∀ (l : List Lab) (last : List UInt8), goodFrom last (l ++ [x]) = (goodFrom last l && (labB x && lt (lastN last l) (nm x)))
  | [], last => by simp [goodFrom, lastN]
  | y :: l, last => by simp only [List.cons_append, goodFrom, goodFrom_snoc x l, lastN, Bool.and_assoc]
theorem goodFrom_app : ∀ (l r : List Lab) (last : List UInt8), goodFrom last (l ++ r) = true → goodFrom last l = true
  | [], _, _, _ => rfl
  | x :: l, r, last, h => by
    simp only [List.cons_append, goodFrom, Bool.and_eq_true] at h ⊢
    exact ⟨h.1, goodFrom_app l r _ h.2⟩
theorem goodFrom_all : ∀ (l : List Lab) (last : List UInt8), goodFrom last l = true → ∀ x ∈ l, labB x = true
  | [], _, _, _, hx => by cases hx
  | y :: l, last, h, x, hx => by
    simp only [goodFrom, Bool.and_eq_true] at h
    rcases List.mem_cons.1 hx with rfl | hx
    · exact h.1.1
    · exact goodFrom_all l _ h.2 x hx
theorem goodFrom_lt : ∀ (l : List Lab) (last : List UInt8), goodFrom last l = true → ∀ x ∈ l, lt last (nm x) = true
  | [], _, _, _, hx => by cases hx
  | y :: l, last, h, x, hx => by
    simp only [goodFrom, Bool.and_eq_true] at h
    rcases List.mem_cons.1 hx with rfl | hx
    · exact h.1.2
    · exact lt_trans _ _ _ h.1.2 (goodFrom_lt l _ h.2 x hx)
/-- a good series -/
def goodB (m : ByteArray) (l : List Lab) : Bool := nameB m.data.toList && decide (l.length ≤ 6) && goodFrom [] l

/-! ### Names that stand twice -/
def twB (last : List UInt8) : List Lab → Bool
  | [] => false
  | x :: l => (nm x == last) || twB (nm x) l
theorem twB_snoc (x : Lab) : ∀ (l : List Lab) (last : List UInt8), twB last (l ++ [x]) = (twB last l || (nm x == lastN last l))
  | [], last => by simp [twB, lastN]
  | y :: l, last => by simp only [List.cons_append, twB, twB_snoc x l, lastN, Bool.or_assoc]
theorem twB_app : ∀ (l r : List Lab) (last : List UInt8), twB last l = true → twB last (l ++ r) = true
  | [], _, _, h => by cases h
  | x :: l, r, last, h => by
    simp only [List.cons_append, twB, Bool.or_eq_true] at h ⊢
    rcases h with h | h
    · exact .inl h
    · exact .inr (twB_app l r _ h)
/-- ascending, equals let in -/
def ascFrom (last : List UInt8) : List Lab → Prop
  | [] => True
  | x :: l => lt (nm x) last = false ∧ ascFrom (nm x) l
def Asc (l : List Lab) : Prop := l.Pairwise fun x y => lt (nm y) (nm x) = false
def Str (l : List Lab) : Prop := l.Pairwise fun x y => lt (nm x) (nm y) = true
def Dup (l : List Lab) : Prop := ¬ (l.map nm).Nodup
theorem str_nodup {l : List Lab} (h : Str l) : (l.map nm).Nodup := by
  unfold Str at h
  rw [List.Nodup, List.pairwise_map]
  exact h.imp fun h => lt_ne _ _ h
theorem good_str : ∀ (l : List Lab) (last : List UInt8), goodFrom last l = true → Str l
  | [], _, _ => List.Pairwise.nil
  | x :: l, last, h => by
    simp only [goodFrom, Bool.and_eq_true] at h
    exact List.Pairwise.cons (goodFrom_lt l _ h.2) (good_str l _ h.2)
theorem str_good : ∀ (l : List Lab) (last : List UInt8), Str l → (∀ x ∈ l, labB x = true) → (∀ x ∈ l, lt last (nm x) = true) → goodFrom last l = true
  | [], _, _, _, _ => rfl
  | x :: l, last, h, ha, hb => by
    obtain ⟨h1, h2⟩ := List.pairwise_cons.1 h
    simp only [goodFrom, Bool.and_eq_true]
    exact ⟨⟨ha x (by simp), hb x (by simp)⟩, str_good l _ h2 (fun y hy => ha y (by simp [hy])) h1⟩
theorem str_good0 (l : List Lab) (h : Str l) (ha : ∀ x ∈ l, labB x = true) : goodFrom [] l = true :=
  str_good l [] h ha fun x hx => nil_lt _ (nm_len (ha x hx)).1
/-- of ascending labels: none has the name of the one ahead of it just where they rise -/
theorem asc_tw : ∀ (l : List Lab) (last : List UInt8), Asc l → (∀ x ∈ l, lt (nm x) last = false) → twB last l = false → Str l ∧ ∀ x ∈ l, lt last (nm x) = true
  | [], _, _, _, _ => ⟨List.Pairwise.nil, fun _ h => by cases h⟩
  | x :: l, last, h, hl, ht => by
    obtain ⟨h1, h2⟩ := List.pairwise_cons.1 h
    simp only [twB, Bool.or_eq_false_iff] at ht
    have ih := asc_tw l (nm x) h2 h1 ht.2
    have hx : lt last (nm x) = true := by
      cases hc : lt last (nm x) with
      | true => rfl
      | false =>
        have := lt_tri _ _ (hl x (by simp)) hc
        rw [this] at ht
        simp at ht
    refine ⟨List.Pairwise.cons ih.2 ih.1, fun y hy => ?_⟩
    rcases List.mem_cons.1 hy with rfl | hy
    · exact hx
    · exact lt_trans _ _ _ hx (ih.2 y hy)
theorem tw_dup : ∀ (l : List Lab) (last : List UInt8), twB last l = true → ¬ (last :: l.map nm).Nodup
  | [], _, h => by cases h
  | x :: l, last, h => by
    simp only [twB, Bool.or_eq_true, beq_iff_eq] at h
    intro hn
    rw [List.map_cons] at hn
    rcases h with h | h
    · rw [h] at hn
      simp at hn
    · exact tw_dup l (nm x) h (List.nodup_cons.1 hn).2
theorem tw_iff (l : List Lab) (h : Asc l) (ha : ∀ x ∈ l, labB x = true) : twB [] l = true ↔ Dup l := by
  constructor
  · intro ht hn
    refine tw_dup l [] ht (List.nodup_cons.2 ⟨fun hm => ?_, hn⟩)
    obtain ⟨x, hx, e⟩ := List.mem_map.1 hm
    have := (nm_len (ha x hx)).1
    rw [e] at this
    simp at this
  · intro hd
    cases ht : twB [] l with
    | true => rfl
    | false => exact absurd (str_nodup (asc_tw l [] h (fun x _ => lt_nil _) ht).1) hd

/-! ### The rising order of labels -/
def ins (x : Lab) : List Lab → List Lab
  | [] => [x]
  | y :: l => if lt (nm y) (nm x) then y :: ins x l else x :: y :: l
def sortL (l : List Lab) : List Lab := l.foldl (fun a x => ins x a) []
theorem sortL_snoc (l : List Lab) (x : Lab) : sortL (l ++ [x]) = ins x (sortL l) := by simp [sortL]
theorem ins_perm (x : Lab) : ∀ l, (ins x l).Perm (x :: l)
  | [] => List.Perm.refl _
  | y :: l => by
    unfold ins
    split
    · exact ((ins_perm x l).cons y).trans (List.Perm.swap x y l)
    · exact List.Perm.refl _
theorem foldl_perm : ∀ (l a : List Lab), (l.foldl (fun a x => ins x a) a).Perm (l ++ a)
  | [], a => List.Perm.refl _
  | x :: l, a => by
    rw [List.foldl_cons]
    exact (foldl_perm l (ins x a)).trans (((ins_perm x a).append_left l).trans List.perm_middle)
theorem sortL_perm (l : List Lab) : (sortL l).Perm l := by have := foldl_perm l []; simpa [sortL] using this
theorem ins_str (x : Lab) : ∀ l, Str l → (∀ y ∈ l, nm y ≠ nm x) → Str (ins x l)
  | [], _, _ => by unfold ins Str; simp
  | y :: l, h, hn => by
    obtain ⟨h1, h2⟩ := List.pairwise_cons.1 h
    unfold ins
    split
    · rename_i hc
      refine List.Pairwise.cons (fun z hz => ?_) (ins_str x l h2 fun z hz => hn z (by simp [hz]))
      rcases List.mem_cons.1 ((ins_perm x l).mem_iff.1 hz) with rfl | hz
      · exact hc
      · exact h1 z hz
    · rename_i hc
      have hxy : lt (nm x) (nm y) = true := by
        cases hd : lt (nm x) (nm y) with
        | true => rfl
        | false => exact absurd (lt_tri _ _ (by simpa using hc) hd) (hn y (by simp))
      refine List.Pairwise.cons (fun z hz => ?_) h
      rcases List.mem_cons.1 hz with rfl | hz
      · exact hxy
      · exact lt_trans _ _ _ hxy (h1 z hz)
theorem foldl_str : ∀ (l a : List Lab), Str a → ((l ++ a).map nm).Nodup → Str (l.foldl (fun a x => ins x a) a)
  | [], a, h, _ => h
  | x :: l, a, h, hn => by
    rw [List.foldl_cons]
    rw [List.cons_append, List.map_cons, List.nodup_cons] at hn
    refine foldl_str l (ins x a) (ins_str x a h fun y hy e => hn.1 ?_) ?_
    · rw [← e]; exact List.mem_map.2 ⟨y, by simp [hy], rfl⟩
    · have hp : (l ++ ins x a).Perm (x :: (l ++ a)) := ((ins_perm x a).append_left l).trans List.perm_middle
      exact (hp.map nm).nodup_iff.2 (by rw [List.map_cons]; exact List.nodup_cons.2 hn)
theorem sortL_str (l : List Lab) (h : (l.map nm).Nodup) : Str (sortL l) := foldl_str l [] List.Pairwise.nil (by simpa using h)
/-- there is one rising order -/
theorem str_unique : ∀ (a b : List Lab), a.Perm b → Str a → Str b → a = b
  | [], b, hp, _, _ => (List.Perm.nil_eq hp)
  | x :: a, b, hp, ha, hb => by
    cases b with
    | nil => exact absurd hp.length_eq (by simp)
    | cons y b =>
      obtain ⟨a1, a2⟩ := List.pairwise_cons.1 ha
      obtain ⟨b1, b2⟩ := List.pairwise_cons.1 hb
      have hxy : x = y := by
        rcases List.mem_cons.1 (hp.mem_iff.1 (List.mem_cons_self (a := x))) with e | hx
        · exact e
        · rcases List.mem_cons.1 (hp.mem_iff.2 (List.mem_cons_self (a := y))) with e | hy
          · exact e.symm
          · have := lt_asymm _ _ (b1 x hx)
            rw [a1 y hy] at this
            cases this
      subst hxy
      rw [str_unique a b (List.Perm.cons_inv hp) a2 b2]
theorem sortL_eq {l d : List Lab} (hp : d.Perm l) (hs : Str d) : sortL l = d :=
  str_unique _ _ ((sortL_perm l).trans hp.symm) (sortL_str l ((hp.map nm).nodup_iff.1 (str_nodup hs))) hs
instance (l : List Lab) : Decidable (Dup l) := inferInstanceAs (Decidable (¬ (l.map nm).Nodup))
/-- what Make tells -/
def makeE (m : ByteArray) (l : List Lab) : Int :=
  if nameB m.data.toList = false then 7 else if l.all labB = false then 10 else if Dup l then 6 else if 6 < l.length then 3 else 0
theorem makeE_perm (m : ByteArray) {l r : List Lab} (h : l.Perm r) : makeE m l = makeE m r := by
  have h1 : l.all labB = r.all labB := by
    rw [Bool.eq_iff_iff, List.all_eq_true, List.all_eq_true]
    exact ⟨fun hl x hx => hl x (h.mem_iff.2 hx), fun hl x hx => hl x (h.mem_iff.1 hx)⟩
  have h2 : Dup l ↔ Dup r := not_congr (h.map nm).nodup_iff
  unfold makeE
  rw [h1, h.length_eq]
  simp only [h2]
theorem sortL_rev (l : List Lab) (h : ¬ Dup l) : sortL l.reverse = sortL l :=
  sortL_eq ((sortL_perm l).trans (List.reverse_perm l).symm) (sortL_str l (Classical.not_not.1 h))
theorem sortL_id {l : List Lab} (h : Str l) : sortL l = l := sortL_eq (List.Perm.refl _) h
end Go.Proofs.YtljcnnigpfclkaaDoor.Tg
