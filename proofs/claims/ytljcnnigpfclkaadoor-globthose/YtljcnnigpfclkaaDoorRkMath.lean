
/- Search trees whose sides differ by one at most in height: pure. -/
import Derived.Test.YtljcnnigpfclkaaDoorRows
namespace Go.Proofs.YtljcnnigpfclkaaDoor
namespace Rk
inductive Tr (K V : Type) where
  | nil : Tr K V
  | node : K → V → Tr K V → Tr K V → Tr K V
variable {K V : Type}
namespace Tr
def cnt : Tr K V → Nat
  | nil => 0
  | node _ _ l r => l.cnt + 1 + r.cnt
def ht : Tr K V → Nat
  | nil => 0
  | node _ _ l r => 1 + max l.ht r.ht
/-- the entries, rising -/
def inl : Tr K V → List (K × V)
  | nil => []
  | node k v l r => l.inl ++ (k, v) :: r.inl
/-- turned to the right -/
def evL (k : K) (v : V) (r : Tr K V) : Tr K V → Tr K V
  | nil => node k v nil r
  | node lk lv ll lr => if ll.ht < lr.ht then
      match lr with
      | nil => node k v (node lk lv ll nil) r
      | node ik iv il ir => node ik iv (node lk lv ll il) (node k v ir r)
    else node lk lv ll (node k v lr r)
/-- turned to the left -/
def evR (k : K) (v : V) (l : Tr K V) : Tr K V → Tr K V
  | nil => node k v l nil
  | node rk rv rl rr => if rr.ht < rl.ht then
      match rl with
      | nil => node k v l (node rk rv nil rr)
      | node ik iv il ir => node ik iv (node k v l il) (node rk rv ir rr)
    else node rk rv (node k v l rl) rr
/-- an entry between two trees -/
def even (k : K) (v : V) (l r : Tr K V) : Tr K V :=
  if l.ht = r.ht + 2 then evL k v r l else if r.ht = l.ht + 2 then evR k v l r else node k v l r
def ins (c : K → K → Int) (k : K) (v : V) : Tr K V → Tr K V
  | nil => node k v nil nil
  | node nk nv l r => if c k nk < 0 then even nk nv (ins c k v l) r else if 0 < c k nk then even nk nv l (ins c k v r) else node nk v l r
def fst : K → V → Tr K V → Tr K V → (K × V) × Tr K V
  | k, v, nil, r => ((k, v), r)
  | k, v, node lk lv ll lr, r => ((fst lk lv ll lr).1, even k v (fst lk lv ll lr).2 r)
def del (c : K → K → Int) (k : K) : Tr K V → Tr K V
  | nil => nil
  | node nk nv l r => if c k nk < 0 then even nk nv (del c k l) r else if 0 < c k nk then even nk nv l (del c k r) else
    match r with
    | nil => l
    | node rk rv rl rr => even (fst rk rv rl rr).1.1 (fst rk rv rl rr).1.2 l (fst rk rv rl rr).2
/-- the sides differ by one at most -/
def Av : Tr K V → Prop
  | nil => True
  | node _ _ l r => Av l ∧ Av r ∧ l.ht ≤ r.ht + 1 ∧ r.ht ≤ l.ht + 1
theorem cnt_inl : ∀ T : Tr K V, T.cnt = T.inl.length
  | nil => rfl
  | node k v l r => by simp only [cnt, inl, List.length_append, List.length_cons, cnt_inl l, cnt_inl r]; omega
theorem ht_cnt : ∀ T : Tr K V, T.ht ≤ T.cnt
  | nil => Nat.le_refl _
  | node k v l r => by have := ht_cnt l; have := ht_cnt r; simp only [ht, cnt]; omega
theorem evL_inl (k : K) (v : V) (r l : Tr K V) : (evL k v r l).inl = l.inl ++ (k, v) :: r.inl := by
  unfold evL; split
  · rfl
  · split
    · split <;> simp [inl]
    · simp [inl]
theorem evR_inl (k : K) (v : V) (l r : Tr K V) : (evR k v l r).inl = l.inl ++ (k, v) :: r.inl := by
  unfold evR; split
  · rfl
  · split
    · split <;> simp [inl]
    · simp [inl]
theorem even_inl (k : K) (v : V) (l r : Tr K V) : (even k v l r).inl = l.inl ++ (k, v) :: r.inl := by
  unfold even; split
  · exact evL_inl k v r l
  · split
    · exact evR_inl k v l r
    · rfl
theorem even_cnt (k : K) (v : V) (l r : Tr K V) : (even k v l r).cnt = l.cnt + 1 + r.cnt := by
  rw [cnt_inl, even_inl, cnt_inl, cnt_inl]; simp; omega
theorem evL_av (k : K) (v : V) (r l : Tr K V) (h : l.ht = r.ht + 2) (hl : Av l) (hr : Av r) : Av (evL k v r l) ∧ l.ht ≤ (evL k v r l).ht ∧ (evL k v r l).ht ≤ 1 + l.ht := by
  cases l with
  | nil => simp [ht] at h
  | node lk lv ll lr =>
    obtain ⟨h1, h2, h3, h4⟩ := hl
    simp only [ht] at h
    unfold evL
    dsimp only
    split
    · rename_i hlt
      cases lr with
      | nil => simp [ht] at hlt
      | node ik iv il ir =>
        obtain ⟨g1, g2, g3, g4⟩ := h2
        simp only [ht] at *
        refine ⟨⟨⟨h1, g1, ?_, ?_⟩, ⟨g2, hr, ?_, ?_⟩, ?_, ?_⟩, ?_, ?_⟩ <;> (try simp only [ht]) <;> omega
    · simp only [ht] at *
      refine ⟨⟨h1, ⟨h2, hr, ?_, ?_⟩, ?_, ?_⟩, ?_, ?_⟩ <;> (try simp only [ht]) <;> omega
theorem evR_av (k : K) (v : V) (l r : Tr K V) (h : r.ht = l.ht + 2) (hl : Av l) (hr : Av r) : Av (evR k v l r) ∧ r.ht ≤ (evR k v l r).ht ∧ (evR k v l r).ht ≤ 1 + r.ht := by
  cases r with
  | nil => simp [ht] at h
  | node rk rv rl rr =>
    obtain ⟨h1, h2, h3, h4⟩ := hr
    simp only [ht] at h
    unfold evR
    dsimp only
    split
    · rename_i hlt
      cases rl with
      | nil => simp [ht] at hlt
      | node ik iv il ir =>
        obtain ⟨g1, g2, g3, g4⟩ := h1
        simp only [ht] at *
        refine ⟨⟨⟨hl, g1, ?_, ?_⟩, ⟨g2, h2, ?_, ?_⟩, ?_, ?_⟩, ?_, ?_⟩ <;> (try simp only [ht]) <;> omega
    · simp only [ht] at *
      refine ⟨⟨⟨hl, h1, ?_, ?_⟩, h2, ?_, ?_⟩, ?_, ?_⟩ <;> (try simp only [ht]) <;> omega
theorem even_av (k : K) (v : V) (l r : Tr K V) (hl : Av l) (hr : Av r) (h1 : l.ht ≤ r.ht + 2) (h2 : r.ht ≤ l.ht + 2) :
    Av (even k v l r) ∧ max l.ht r.ht ≤ (even k v l r).ht ∧ (even k v l r).ht ≤ 1 + max l.ht r.ht ∧ (l.ht ≤ r.ht + 1 → r.ht ≤ l.ht + 1 → (even k v l r).ht = 1 + max l.ht r.ht) := by
  unfold even
  split
  · rename_i h
    obtain ⟨a, b, d⟩ := evL_av k v r l h hl hr
    exact ⟨a, by omega, by omega, by omega⟩
  · split
    · rename_i h
      obtain ⟨a, b, d⟩ := evR_av k v l r h hl hr
      exact ⟨a, by omega, by omega, by omega⟩
    · exact ⟨⟨hl, hr, by omega, by omega⟩, by simp only [ht]; omega, by simp only [ht]; omega, fun _ _ => rfl⟩
theorem ins_av (c : K → K → Int) (k : K) (v : V) : ∀ T : Tr K V, Av T → Av (ins c k v T) ∧ T.ht ≤ (ins c k v T).ht ∧ (ins c k v T).ht ≤ T.ht + 1
  | nil, _ => ⟨⟨trivial, trivial, by simp [ht], by simp [ht]⟩, by simp [ht], by simp [ins, ht]⟩
  | node nk nv l r, ⟨hl, hr, h1, h2⟩ => by
    obtain ⟨a1, a2, a3⟩ := ins_av c k v l hl
    obtain ⟨b1, b2, b3⟩ := ins_av c k v r hr
    unfold ins
    split
    · obtain ⟨d1, d2, d3, d4⟩ := even_av nk nv (ins c k v l) r a1 hr (by omega) (by omega)
      refine ⟨d1, ?_, ?_⟩ <;> simp only [ht] <;> by_cases e : (ins c k v l).ht ≤ r.ht + 1 ∧ r.ht ≤ (ins c k v l).ht + 1
      · have := d4 e.1 e.2; omega
      · omega
      · have := d4 e.1 e.2; omega
      · omega
    · split
      · obtain ⟨d1, d2, d3, d4⟩ := even_av nk nv l (ins c k v r) hl b1 (by omega) (by omega)
        refine ⟨d1, ?_, ?_⟩ <;> simp only [ht] <;> by_cases e : l.ht ≤ (ins c k v r).ht + 1 ∧ (ins c k v r).ht ≤ l.ht + 1
        · have := d4 e.1 e.2; omega
        · omega
        · have := d4 e.1 e.2; omega
        · omega
      · exact ⟨⟨hl, hr, h1, h2⟩, Nat.le_refl _, Nat.le_succ _⟩
theorem fst_av : ∀ (k : K) (v : V) (l r : Tr K V), Av (node k v l r) → Av (fst k v l r).2 ∧ (fst k v l r).2.ht ≤ (node k v l r).ht ∧ (node k v l r).ht ≤ (fst k v l r).2.ht + 1
  | k, v, nil, r, ⟨hl, hr, h1, h2⟩ => by
    simp only [fst, ht] at *
    exact ⟨hr, by omega, by omega⟩
  | k, v, node lk lv ll lr, r, ⟨hl, hr, h1, h2⟩ => by
    obtain ⟨a1, a2, a3⟩ := fst_av lk lv ll lr hl
    obtain ⟨d1, d2, d3, d4⟩ := even_av k v (fst lk lv ll lr).2 r a1 hr (by omega) (by omega)
    have e2 : (fst k v (node lk lv ll lr) r).2 = even k v (fst lk lv ll lr).2 r := rfl
    have e3 : (node k v (node lk lv ll lr) r).ht = 1 + max (node lk lv ll lr).ht r.ht := rfl
    rw [e2, e3]
    refine ⟨d1, ?_, ?_⟩ <;> by_cases e : (fst lk lv ll lr).2.ht ≤ r.ht + 1 ∧ r.ht ≤ (fst lk lv ll lr).2.ht + 1
    · have := d4 e.1 e.2; omega
    · omega
    · have := d4 e.1 e.2; omega
    · omega
theorem del_av (c : K → K → Int) (k : K) : ∀ T : Tr K V, Av T → Av (del c k T) ∧ (del c k T).ht ≤ T.ht ∧ T.ht ≤ (del c k T).ht + 1
  | nil, _ => ⟨trivial, Nat.le_refl _, Nat.le_succ _⟩
  | node nk nv l r, ⟨hl, hr, h1, h2⟩ => by
    obtain ⟨a1, a2, a3⟩ := del_av c k l hl
    obtain ⟨b1, b2, b3⟩ := del_av c k r hr
    have e3 : (node nk nv l r).ht = 1 + max l.ht r.ht := rfl
    unfold del
    rw [e3]
    split
    · obtain ⟨d1, d2, d3, d4⟩ := even_av nk nv (del c k l) r a1 hr (by omega) (by omega)
      refine ⟨d1, ?_, ?_⟩ <;> by_cases e : (del c k l).ht ≤ r.ht + 1 ∧ r.ht ≤ (del c k l).ht + 1
      · have := d4 e.1 e.2; omega
      · omega
      · have := d4 e.1 e.2; omega
      · omega
    · split
      · obtain ⟨d1, d2, d3, d4⟩ := even_av nk nv l (del c k r) hl b1 (by omega) (by omega)
        refine ⟨d1, ?_, ?_⟩ <;> by_cases e : l.ht ≤ (del c k r).ht + 1 ∧ (del c k r).ht ≤ l.ht + 1
        · have := d4 e.1 e.2; omega
        · omega
        · have := d4 e.1 e.2; omega
        · omega
      · cases r with
        | nil => simp only [ht] at *; exact ⟨hl, by omega, by omega⟩
        | node rk rv rl rr =>
          obtain ⟨g1, g2, g3⟩ := fst_av rk rv rl rr hr
          dsimp only
          obtain ⟨d1, d2, d3, d4⟩ := even_av (fst rk rv rl rr).1.1 (fst rk rv rl rr).1.2 l (fst rk rv rl rr).2 hl g1 (by omega) (by omega)
          refine ⟨d1, ?_, ?_⟩ <;> by_cases e : l.ht ≤ (fst rk rv rl rr).2.ht + 1 ∧ (fst rk rv rl rr).2.ht ≤ l.ht + 1
          · have := d4 e.1 e.2; omega
          · omega
          · have := d4 e.1 e.2; omega
          · omega
theorem fst_inl : ∀ (k : K) (v : V) (l r : Tr K V), (node k v l r).inl = (fst k v l r).1 :: (fst k v l r).2.inl
  | k, v, nil, r => rfl
  | k, v, node lk lv ll lr, r => by
    have h := fst_inl lk lv ll lr
    have e1 : (node k v (node lk lv ll lr) r).inl = (node lk lv ll lr).inl ++ (k, v) :: r.inl := rfl
    have e2 : (fst k v (node lk lv ll lr) r).2 = even k v (fst lk lv ll lr).2 r := rfl
    have e3 : (fst k v (node lk lv ll lr) r).1 = (fst lk lv ll lr).1 := rfl
    rw [e1, e2, e3, h, even_inl]; rfl
end Tr
/-- digits to the base 2 -/
def dig (n : Nat) : Nat := if h : n = 0 then 0 else 1 + dig (n / 2)
decreasing_by omega
theorem dig_pos {n : Nat} (h : 0 < n) : dig n = 1 + dig (n / 2) := by rw [dig, dif_neg (by omega)]
theorem dig_zero : dig 0 = 0 := by rw [dig, dif_pos rfl]
theorem dig_lt (n : Nat) : n < 2 ^ dig n := by
  induction n using Nat.strongRecOn with
  | _ n ih =>
    by_cases h : n = 0
    · subst h; rw [dig_zero]; exact Nat.one_pos
    · rw [dig_pos (by omega), Nat.add_comm, Nat.pow_succ]
      have := ih (n / 2) (by omega)
      omega
/-- the fewest entries of a height, and one -/
def few : Nat → Nat
  | 0 => 1
  | 1 => 2
  | n + 2 => few (n + 1) + few n
theorem few_mono (n : Nat) : few n ≤ few (n + 1) ∧ few (n + 1) ≤ 2 * few n := by
  induction n with
  | zero => decide
  | succ n ih => simp only [few]; have := ih.1; have := ih.2; omega
theorem few_le {a b : Nat} (h : a ≤ b) : few a ≤ few b := by
  induction b with
  | zero => have : a = 0 := by omega
            subst this; exact Nat.le_refl _
  | succ b ih =>
    by_cases e : a = b + 1
    · subst e; exact Nat.le_refl _
    · exact Nat.le_trans (ih (by omega)) (few_mono b).1
theorem few_four (n : Nat) : 4 * few n ≤ few (n + 3) := by
  cases n with
  | zero => decide
  | succ n => simp only [few]; have := (few_mono n).1; have := (few_mono n).2; omega
theorem few_pow : ∀ d h : Nat, 3 * d + 3 ≤ 2 * h → 2 ^ d ≤ few h
  | 0, h, _ => by have := few_le (Nat.zero_le h); simp only [few] at this; omega
  | 1, h, hh => by have := few_le (show 1 ≤ h by omega); simp only [few] at this; omega
  | d + 2, h, hh => by
    obtain ⟨g, rfl⟩ : ∃ g, h = g + 3 := ⟨h - 3, by omega⟩
    have h1 := few_pow d g (by omega)
    have h2 := few_four g
    rw [Nat.pow_succ, Nat.pow_succ]; omega
theorem few_cnt : ∀ T : Tr K V, T.Av → few T.ht ≤ T.cnt + 1
  | .nil, _ => Nat.le_refl _
  | .node k v l r, ⟨hl, hr, h1, h2⟩ => by
    have a := few_cnt l hl
    have b := few_cnt r hr
    simp only [Tr.ht, Tr.cnt]
    by_cases hlr : l.ht ≤ r.ht
    · rw [show 1 + max l.ht r.ht = r.ht + 1 by omega]
      cases hrh : r.ht with
      | zero => rw [hrh] at b; simp only [few] at *; omega
      | succ n =>
        rw [hrh] at b
        have := few_le (show n ≤ l.ht by omega)
        simp only [few] at *; omega
    · rw [show 1 + max l.ht r.ht = l.ht + 1 by omega]
      cases hlh : l.ht with
      | zero => omega
      | succ n =>
        rw [hlh] at a
        have := few_le (show n ≤ r.ht by omega)
        simp only [few] at *; omega
theorem high {T : Tr K V} (h : T.Av) : 2 * T.ht ≤ 3 * dig (T.cnt + 1) + 2 := by
  by_cases e : 2 * T.ht ≤ 3 * dig (T.cnt + 1) + 2
  · exact e
  · exfalso
    have h1 := few_pow (dig (T.cnt + 1)) T.ht (by omega)
    have h2 := dig_lt (T.cnt + 1)
    have h3 := few_cnt T h
    omega
/-- an order -/
structure Od (c : K → K → Int) : Prop where
  neg : ∀ a b, c a b < 0 ↔ 0 < c b a
  tr : ∀ a b d, c a b < 0 → c b d < 0 → c a d < 0
  eq : ∀ a b, c a b = 0 → a = b
theorem Od.self {c : K → K → Int} (o : Od c) (a : K) : c a a = 0 := by have := o.neg a a; omega
theorem Od.zero {c : K → K → Int} (o : Od c) {a b : K} (h : c a b = 0) : c b a = 0 := by have := o.eq a b h; subst this; exact h
/-- rising -/
def Srt (c : K → K → Int) (l : List (K × V)) : Prop := l.Pairwise (fun x y => c x.1 y.1 < 0)
def insL (c : K → K → Int) (k : K) (v : V) : List (K × V) → List (K × V)
  | [] => [(k, v)]
  | x :: l => if c k x.1 < 0 then (k, v) :: x :: l else if 0 < c k x.1 then x :: insL c k v l else (x.1, v) :: l
def delL (c : K → K → Int) (k : K) : List (K × V) → List (K × V)
  | [] => []
  | x :: l => if c k x.1 < 0 then x :: l else if 0 < c k x.1 then x :: delL c k l else l
def getL (c : K → K → Int) (k : K) : List (K × V) → Option V
  | [] => none
  | x :: l => if c k x.1 < 0 then none else if 0 < c k x.1 then getL c k l else some x.2
def rkL (c : K → K → Int) (k : K) : List (K × V) → Nat
  | [] => 0
  | x :: l => if c x.1 k < 0 then 1 + rkL c k l else 0
section
variable {c : K → K → Int} {k : K} {v : V} {x : K × V} {B : List (K × V)}
theorem insL_lt (h : c k x.1 < 0) : ∀ A : List (K × V), insL c k v (A ++ x :: B) = insL c k v A ++ x :: B
  | [] => by simp [insL, h]
  | y :: A => by
    have ih := insL_lt h A
    simp only [List.cons_append, insL]
    split
    · rfl
    · split
      · rw [ih]; rfl
      · rfl
theorem delL_lt (h : c k x.1 < 0) : ∀ A : List (K × V), delL c k (A ++ x :: B) = delL c k A ++ x :: B
  | [] => by simp [delL, h]
  | y :: A => by
    have ih := delL_lt h A
    simp only [List.cons_append, delL]
    split
    · rfl
    · split
      · rw [ih]; rfl
      · rfl
theorem getL_lt (h : c k x.1 < 0) : ∀ A : List (K × V), getL c k (A ++ x :: B) = getL c k A
  | [] => by simp [getL, h]
  | y :: A => by
    have ih := getL_lt h A
    simp only [List.cons_append, getL]
    split
    · rfl
    · split
      · rw [ih]
      · rfl
theorem rkL_ge (h : ¬ c x.1 k < 0) : ∀ A : List (K × V), rkL c k (A ++ x :: B) = rkL c k A
  | [] => by simp [rkL, h]
  | y :: A => by
    have ih := rkL_ge h A
    simp only [List.cons_append, rkL]
    split
    · rw [ih]
    · rfl
theorem insL_gt : ∀ A : List (K × V), (∀ y ∈ A, 0 < c k y.1) → insL c k v (A ++ B) = A ++ insL c k v B
  | [], _ => rfl
  | y :: A, h => by
    have hy := h y (by simp)
    have ih := insL_gt A (fun z hz => h z (by simp [hz]))
    simp only [List.cons_append, insL]
    rw [if_neg (by omega), if_pos hy, ih]
theorem delL_gt : ∀ A : List (K × V), (∀ y ∈ A, 0 < c k y.1) → delL c k (A ++ B) = A ++ delL c k B
  | [], _ => rfl
  | y :: A, h => by
    have hy := h y (by simp)
    have ih := delL_gt A (fun z hz => h z (by simp [hz]))
    simp only [List.cons_append, delL]
    rw [if_neg (by omega), if_pos hy, ih]
theorem getL_gt : ∀ A : List (K × V), (∀ y ∈ A, 0 < c k y.1) → getL c k (A ++ B) = getL c k B
  | [], _ => rfl
  | y :: A, h => by
    have hy := h y (by simp)
    have ih := getL_gt A (fun z hz => h z (by simp [hz]))
    simp only [List.cons_append, getL]
    rw [if_neg (by omega), if_pos hy, ih]
theorem rkL_lt : ∀ A : List (K × V), (∀ y ∈ A, c y.1 k < 0) → rkL c k (A ++ B) = A.length + rkL c k B
  | [], _ => by simp
  | y :: A, h => by
    have hy := h y (by simp)
    have ih := rkL_lt A (fun z hz => h z (by simp [hz]))
    simp only [List.cons_append, rkL, List.length_cons]
    rw [if_pos hy, ih]; omega
theorem srt_mid {A : List (K × V)} (h : Srt c (A ++ x :: B)) : Srt c A ∧ Srt c B ∧ (∀ y ∈ A, c y.1 x.1 < 0) ∧ ∀ y ∈ B, c x.1 y.1 < 0 := by
  obtain ⟨h1, h2, h3⟩ := List.pairwise_append.1 h
  obtain ⟨h4, h5⟩ := List.pairwise_cons.1 h2
  exact ⟨h1, h5, fun y hy => h3 y hy x (by simp), h4⟩
theorem srt_of {A : List (K × V)} (o : Od c) (h1 : Srt c A) (h2 : Srt c B) (h3 : ∀ y ∈ A, c y.1 x.1 < 0) (h4 : ∀ y ∈ B, c x.1 y.1 < 0) : Srt c (A ++ x :: B) :=
  List.pairwise_append.2 ⟨h1, List.pairwise_cons.2 ⟨h4, h2⟩, fun a ha b hb => by
    rcases List.mem_cons.1 hb with rfl | hb
    · exact h3 a ha
    · exact o.tr _ _ _ (h3 a ha) (h4 b hb)⟩
/-- those ahead of x are ahead of k too, where x is not behind it -/
theorem ahead {A : List (K × V)} (o : Od c) (h : ∀ y ∈ A, c y.1 x.1 < 0) (hk : 0 ≤ c k x.1) : ∀ y ∈ A, 0 < c k y.1 := fun y hy => by
  rcases Int.lt_or_eq_of_le hk with h0 | h0
  · exact (o.neg _ _).1 (o.tr _ _ _ (h y hy) ((o.neg _ _).2 h0))
  · have := o.eq _ _ h0.symm; rw [this]; exact (o.neg _ _).1 (h y hy)
theorem insL_mem (o : Od c) : ∀ l : List (K × V), ∀ y ∈ insL c k v l, y.1 = k ∨ y ∈ l
  | [], y, hy => by simp [insL] at hy; exact .inl (by rw [hy])
  | z :: l, y, hy => by
    unfold insL at hy
    split at hy
    · rcases List.mem_cons.1 hy with rfl | hy
      · exact .inl rfl
      · exact .inr hy
    · split at hy
      · rcases List.mem_cons.1 hy with rfl | hy
        · exact .inr (by simp)
        · rcases insL_mem o l y hy with h | h
          · exact .inl h
          · exact .inr (by simp [h])
      · rcases List.mem_cons.1 hy with rfl | hy
        · exact .inl (o.eq _ _ (by dsimp only; omega)).symm
        · exact .inr (by simp [hy])
theorem delL_mem : ∀ l : List (K × V), ∀ y ∈ delL c k l, y ∈ l
  | [], y, hy => by simp [delL] at hy
  | z :: l, y, hy => by
    unfold delL at hy
    split at hy
    · exact hy
    · split at hy
      · rcases List.mem_cons.1 hy with rfl | hy
        · simp
        · exact List.mem_cons_of_mem _ (delL_mem l y hy)
      · exact List.mem_cons_of_mem _ hy
theorem insL_srt (o : Od c) : ∀ l : List (K × V), Srt c l → Srt c (insL c k v l)
  | [], _ => List.pairwise_singleton _ _
  | z :: l, h => by
    obtain ⟨h1, h2⟩ := List.pairwise_cons.1 h
    unfold insL
    split
    · rename_i hz
      refine List.pairwise_cons.2 ⟨fun y hy => ?_, h⟩
      rcases List.mem_cons.1 hy with rfl | hy
      · exact hz
      · exact o.tr _ _ _ hz (h1 y hy)
    · split
      · rename_i hz
        refine List.pairwise_cons.2 ⟨fun y hy => ?_, insL_srt o l h2⟩
        rcases insL_mem o l y hy with e | e
        · rw [e]; exact (o.neg _ _).2 hz
        · exact h1 y e
      · exact List.pairwise_cons.2 ⟨fun y hy => h1 y hy, h2⟩
theorem delL_srt : ∀ l : List (K × V), Srt c l → Srt c (delL c k l)
  | [], _ => List.Pairwise.nil
  | z :: l, h => by
    obtain ⟨h1, h2⟩ := List.pairwise_cons.1 h
    unfold delL
    split
    · exact h
    · split
      · exact List.pairwise_cons.2 ⟨fun y hy => h1 y (delL_mem l y hy), delL_srt l h2⟩
      · exact h2
end
theorem ins_inl {c : K → K → Int} (o : Od c) (k : K) (v : V) : ∀ T : Tr K V, Srt c T.inl → (T.ins c k v).inl = insL c k v T.inl
  | .nil, _ => rfl
  | .node nk nv l r, h => by
    obtain ⟨h1, h2, h3, h4⟩ := srt_mid h
    have hl := ins_inl o k v l h1
    have hr := ins_inl o k v r h2
    unfold Tr.ins
    split
    · rename_i hc
      rw [Tr.even_inl, hl]; exact (insL_lt (x := (nk, nv)) hc _).symm
    · rename_i hc
      have ha := ahead (x := (nk, nv)) (k := k) o h3 (by dsimp only; omega)
      split
      · rename_i hc2
        rw [Tr.even_inl, hr, Tr.inl, insL_gt _ ha, insL, if_neg hc, if_pos hc2]
      · rename_i hc2
        rw [Tr.inl, Tr.inl, insL_gt _ ha, insL, if_neg hc, if_neg hc2]
theorem del_inl {c : K → K → Int} (o : Od c) (k : K) : ∀ T : Tr K V, Srt c T.inl → (T.del c k).inl = delL c k T.inl
  | .nil, _ => rfl
  | .node nk nv l r, h => by
    obtain ⟨h1, h2, h3, h4⟩ := srt_mid h
    have hl := del_inl o k l h1
    have hr := del_inl o k r h2
    unfold Tr.del
    split
    · rename_i hc
      rw [Tr.even_inl, hl]; exact (delL_lt (x := (nk, nv)) hc _).symm
    · rename_i hc
      have ha := ahead (x := (nk, nv)) (k := k) o h3 (by dsimp only; omega)
      split
      · rename_i hc2
        rw [Tr.even_inl, hr, Tr.inl, delL_gt _ ha, delL, if_neg hc, if_pos hc2]
      · rename_i hc2
        rw [Tr.inl, delL_gt _ ha, delL, if_neg hc, if_neg hc2]
        cases r with
        | nil => simp [Tr.inl]
        | node rk rv rl rr => dsimp only; rw [Tr.even_inl, Tr.fst_inl rk rv rl rr]
/-- the value of a key -/
def Tr.get (c : K → K → Int) (k : K) : Tr K V → Option V
  | .nil => none
  | .node nk nv l r => if c k nk < 0 then l.get c k else if 0 < c k nk then r.get c k else some nv
theorem get_inl {c : K → K → Int} (o : Od c) (k : K) : ∀ T : Tr K V, Srt c T.inl → T.get c k = getL c k T.inl
  | .nil, _ => rfl
  | .node nk nv l r, h => by
    obtain ⟨h1, h2, h3, h4⟩ := srt_mid h
    have hl := get_inl o k l h1
    have hr := get_inl o k r h2
    unfold Tr.get
    split
    · rename_i hc
      rw [hl]; exact (getL_lt (x := (nk, nv)) hc _).symm
    · rename_i hc
      have ha := ahead (x := (nk, nv)) (k := k) o h3 (by dsimp only; omega)
      split
      · rename_i hc2
        rw [hr, Tr.inl, getL_gt _ ha, getL, if_neg hc, if_pos hc2]
      · rename_i hc2
        rw [Tr.inl, getL_gt _ ha, getL, if_neg hc, if_neg hc2]
/-- how many are ahead of a key -/
def Tr.rank (c : K → K → Int) (k : K) : Tr K V → Nat
  | .nil => 0
  | .node nk _ l r => if c nk k < 0 then l.cnt + 1 + r.rank c k else l.rank c k
theorem rank_inl {c : K → K → Int} (o : Od c) (k : K) : ∀ T : Tr K V, Srt c T.inl → T.rank c k = rkL c k T.inl
  | .nil, _ => rfl
  | .node nk nv l r, h => by
    obtain ⟨h1, h2, h3, h4⟩ := srt_mid h
    have hl := rank_inl o k l h1
    have hr := rank_inl o k r h2
    unfold Tr.rank
    split
    · rename_i hc
      rw [Tr.inl, rkL_lt _ (fun y hy => o.tr _ _ _ (h3 y hy) hc), rkL, if_pos hc, hr, Tr.cnt_inl]; omega
    · rename_i hc
      rw [hl, Tr.inl]; exact (rkL_ge (x := (nk, nv)) hc _).symm
theorem rank_le {c : K → K → Int} (k : K) : ∀ T : Tr K V, T.rank c k ≤ T.cnt
  | .nil => Nat.le_refl _
  | .node nk nv l r => by
    have := rank_le (c := c) k l
    have := rank_le (c := c) k r
    simp only [Tr.rank, Tr.cnt]
    split <;> omega
theorem rkL_le {c : K → K → Int} {k : K} : ∀ l : List (K × V), rkL c k l ≤ l.length
  | [] => Nat.le_refl _
  | x :: l => by have := rkL_le (c := c) (k := k) l; simp only [rkL, List.length_cons]; split <;> omega
/-- the entry of a place -/
def Tr.at (i : Int) : Tr K V → Option (K × V)
  | .nil => none
  | .node nk nv l r => if i < l.cnt then l.at i else if (l.cnt : Int) < i then r.at (i - (l.cnt + 1)) else some (nk, nv)
theorem at_inl : ∀ (T : Tr K V) (i : Int), T.at i = if i < 0 then none else T.inl[i.toNat]?
  | .nil, i => by simp [Tr.at, Tr.inl]
  | .node nk nv l r, i => by
    have hl := at_inl l i
    have hr := at_inl r (i - (l.cnt + 1))
    have hc := Tr.cnt_inl l
    unfold Tr.at
    split
    · rename_i h
      rw [hl]
      split
      · rfl
      · rw [Tr.inl, List.getElem?_append_left (by omega)]
    · rename_i h
      split
      · rename_i h2
        rw [hr, if_neg (by omega), if_neg (by omega), Tr.inl, List.getElem?_append_right (by omega), show i.toNat - l.inl.length = (i - (l.cnt + 1)).toNat + 1 by omega, List.getElem?_cons_succ]
      · rw [if_neg (by omega), Tr.inl, List.getElem?_append_right (by omega), show i.toNat - l.inl.length = 0 by omega]; rfl
theorem ins_cnt {c : K → K → Int} (k : K) (v : V) : ∀ T : Tr K V, (T.ins c k v).cnt = T.cnt ∨ (T.ins c k v).cnt = T.cnt + 1
  | .nil => .inr rfl
  | .node nk nv l r => by
    have := ins_cnt (c := c) k v l
    have := ins_cnt (c := c) k v r
    unfold Tr.ins
    split
    · rw [Tr.even_cnt, Tr.cnt]; omega
    · split
      · rw [Tr.even_cnt, Tr.cnt]; omega
      · exact .inl rfl
theorem fst_cnt (k : K) (v : V) (l r : Tr K V) : (Tr.node k v l r).cnt = (Tr.fst k v l r).2.cnt + 1 := by
  rw [Tr.cnt_inl, Tr.fst_inl, Tr.cnt_inl]; rfl
theorem del_cnt {c : K → K → Int} (k : K) : ∀ T : Tr K V, (T.del c k).cnt = T.cnt ∨ (T.del c k).cnt + 1 = T.cnt
  | .nil => .inl rfl
  | .node nk nv l r => by
    have := del_cnt (c := c) k l
    have := del_cnt (c := c) k r
    unfold Tr.del
    split
    · rw [Tr.even_cnt, Tr.cnt]; omega
    · split
      · rw [Tr.even_cnt, Tr.cnt]; omega
      · cases r with
        | nil => exact .inr rfl
        | node rk rv rl rr => dsimp only; rw [Tr.even_cnt, Tr.cnt, fst_cnt]; omega
/-- was the key there? -/
theorem insL_len {c : K → K → Int} {k : K} {v : V} : ∀ l : List (K × V), (insL c k v l).length = if (getL c k l).isSome then l.length else l.length + 1
  | [] => rfl
  | x :: l => by
    have ih := insL_len (c := c) (k := k) (v := v) l
    simp only [insL, getL]
    split
    · simp
    · split
      · rw [List.length_cons, ih]; split <;> simp
      · simp
theorem delL_len {c : K → K → Int} {k : K} : ∀ l : List (K × V), (delL c k l).length = if (getL c k l).isSome then l.length - 1 else l.length
  | [] => rfl
  | x :: l => by
    have ih := delL_len (c := c) (k := k) l
    simp only [delL, getL]
    split
    · simp
    · split
      · rw [List.length_cons, ih]
        split
        · rename_i h
          have : l ≠ [] := fun e => by rw [e] at h; simp [getL] at h
          have := List.length_pos_iff.2 this
          simp; omega
        · simp
      · simp
end Rk
end Go.Proofs.YtljcnnigpfclkaaDoor
