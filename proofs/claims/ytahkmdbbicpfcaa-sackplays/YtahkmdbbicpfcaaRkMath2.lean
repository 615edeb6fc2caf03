
/- What is found behind an entry put, or dropped: pure. -/
import Derived.Test.YtahkmdbbicpfcaaRkMath
namespace Go.Proofs.Ytahkmdbbicpfcaa
namespace Rk
variable {K V : Type} {c : K → K → Int}
theorem getL_none {k : K} : ∀ l : List (K × V), (∀ y ∈ l, c k y.1 < 0) → getL c k l = none
  | [], _ => rfl
  | y :: l, h => by rw [getL, if_pos (h y (by simp))]
theorem getL_insL (o : Od c) (k k' : K) (v : V) : ∀ l : List (K × V), Srt c l → getL c k' (insL c k v l) = if c k' k = 0 then some v else getL c k' l
  | [], _ => by
    simp only [insL, getL]
    by_cases h1 : c k' k < 0
    · rw [if_pos h1, if_neg (by omega)]
    · rw [if_neg h1]
      by_cases h2 : 0 < c k' k
      · rw [if_pos h2, if_neg (by omega)]
      · rw [if_neg h2, if_pos (by omega)]
  | x :: l, h => by
    obtain ⟨h1, h2⟩ := List.pairwise_cons.1 h
    have ih := getL_insL o k k' v l h2
    unfold insL
    split
    · rename_i hx
      by_cases e1 : c k' k < 0
      · have e2 := o.tr _ _ _ e1 hx
        rw [getL, if_pos e1, if_neg (by omega), getL, if_pos e2]
      · by_cases e2 : 0 < c k' k
        · rw [getL, if_neg e1, if_pos e2, if_neg (by omega)]
        · rw [getL, if_neg e1, if_neg e2, if_pos (by omega)]
    · rename_i hx
      split
      · rename_i hx2
        have hxk := (o.neg _ _).2 hx2
        rw [getL, ih, getL]
        by_cases e1 : c k' x.1 < 0
        · have e2 := o.tr _ _ _ e1 hxk
          rw [if_pos e1, if_neg (by omega), if_pos e1]
        · rw [if_neg e1, if_neg e1]
          by_cases e2 : 0 < c k' x.1
          · rw [if_pos e2, if_pos e2]
          · rw [if_neg e2, if_neg e2]
            have e3 := o.eq _ _ (show c k' x.1 = 0 by omega)
            rw [e3, if_neg (by omega)]
      · rename_i hx2
        have e0 := o.eq _ _ (show c k x.1 = 0 by omega)
        subst e0
        rw [getL, getL]
        by_cases e1 : c k' x.1 < 0
        · rw [if_pos e1, if_neg (by omega), if_pos e1]
        · rw [if_neg e1, if_neg e1]
          by_cases e2 : 0 < c k' x.1
          · rw [if_pos e2, if_pos e2, if_neg (by omega)]
          · rw [if_neg e2, if_pos (by omega)]
theorem getL_delL (o : Od c) (k k' : K) : ∀ l : List (K × V), Srt c l → getL c k' (delL c k l) = if c k' k = 0 then none else getL c k' l
  | [], _ => by simp [delL, getL]
  | x :: l, h => by
    obtain ⟨h1, h2⟩ := List.pairwise_cons.1 h
    have ih := getL_delL o k k' l h2
    unfold delL
    split
    · rename_i hx
      by_cases e : c k' k = 0
      · have e0 := o.eq _ _ e
        subst e0
        rw [if_pos e, getL, if_pos hx]
      · rw [if_neg e]
    · rename_i hx
      split
      · rename_i hx2
        have hxk := (o.neg _ _).2 hx2
        rw [getL, ih, getL]
        by_cases e1 : c k' x.1 < 0
        · have e2 := o.tr _ _ _ e1 hxk
          rw [if_pos e1, if_neg (by omega), if_pos e1]
        · rw [if_neg e1, if_neg e1]
          by_cases e2 : 0 < c k' x.1
          · rw [if_pos e2, if_pos e2]
          · rw [if_neg e2, if_neg e2]
            have e3 := o.eq _ _ (show c k' x.1 = 0 by omega)
            rw [e3, if_neg (by omega)]
      · rename_i hx2
        have e0 := o.eq _ _ (show c k x.1 = 0 by omega)
        subst e0
        rw [getL]
        by_cases e1 : c k' x.1 < 0
        · rw [if_neg (by omega), if_pos e1]
          exact getL_none l (fun y hy => o.tr _ _ _ e1 (h1 y hy))
        · by_cases e2 : 0 < c k' x.1
          · rw [if_neg (by omega), if_neg e1, if_pos e2]
          · have e3 := o.eq _ _ (show c k' x.1 = 0 by omega)
            rw [if_pos (by omega), e3]
            exact getL_none l h1
/-- a tree that is even and in order -/
structure Ok (c : K → K → Int) (T : Tr K V) : Prop where
  av : T.Av
  srt : Srt c T.inl
theorem Ok.nil : Ok c (Tr.nil : Tr K V) := ⟨trivial, List.Pairwise.nil⟩
theorem Ok.ins {T : Tr K V} (o : Od c) (h : Ok c T) (k : K) (v : V) : Ok c (T.ins c k v) := ⟨(Tr.ins_av c k v T h.av).1, by rw [ins_inl o k v T h.srt]; exact insL_srt o _ h.srt⟩
theorem Ok.del {T : Tr K V} (o : Od c) (h : Ok c T) (k : K) : Ok c (T.del c k) := ⟨(Tr.del_av c k T h.av).1, by rw [del_inl o k T h.srt]; exact delL_srt _ h.srt⟩
/-- is the key there? -/
def Tr.has (c : K → K → Int) (T : Tr K V) (k : K) : Bool := (getL c k T.inl).isSome
theorem ins_has {T : Tr K V} (o : Od c) (h : Ok c T) (k k' : K) (v : V) : (T.ins c k v).has c k' = (decide (c k' k = 0) || T.has c k') := by
  unfold Tr.has
  rw [ins_inl o k v T h.srt, getL_insL o k k' v _ h.srt]
  by_cases e : c k' k = 0
  · rw [if_pos e, decide_eq_true e]; rfl
  · rw [if_neg e, decide_eq_false e]; rfl
theorem del_has {T : Tr K V} (o : Od c) (h : Ok c T) (k k' : K) : (T.del c k).has c k' = (!decide (c k' k = 0) && T.has c k') := by
  unfold Tr.has
  rw [del_inl o k T h.srt, getL_delL o k k' _ h.srt]
  by_cases e : c k' k = 0
  · rw [if_pos e, decide_eq_true e]; rfl
  · rw [if_neg e, decide_eq_false e]; rfl
theorem ins_cnt' {T : Tr K V} (o : Od c) (h : Ok c T) (k : K) (v : V) : (T.ins c k v).cnt = if T.has c k then T.cnt else T.cnt + 1 := by
  rw [Tr.cnt_inl, ins_inl o k v T h.srt, insL_len, ← Tr.cnt_inl]; rfl
theorem del_cnt' {T : Tr K V} (o : Od c) (h : Ok c T) (k : K) : (T.del c k).cnt = if T.has c k then T.cnt - 1 else T.cnt := by
  rw [Tr.cnt_inl, del_inl o k T h.srt, delL_len, ← Tr.cnt_inl]; rfl
theorem has_pos {T : Tr K V} {k : K} (h : T.has c k = true) : 0 < T.cnt := by
  rw [Tr.cnt_inl]
  cases e : T.inl with
  | nil => unfold Tr.has at h; rw [e] at h; simp [getL] at h
  | cons x l => simp
end Rk
end Go.Proofs.Ytahkmdbbicpfcaa
