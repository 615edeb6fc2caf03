
/- Things in order: lists of numbers by how often each stands in them, and their runs. -/
import Derived.Test.YtahkmdbbicpfcaaRkMath2
import Derived.Test.YtahkmdbbicpfcaaRkCmp
namespace Go.Proofs.Ytahkmdbbicpfcaa
namespace Sk
open Rk
def srt (l : List Int) : Prop := l.Pairwise (· ≤ ·)
def ins (x : Int) : List Int → List Int
  | [] => [x]
  | y :: l => if y ≤ x then y :: ins x l else x :: y :: l
def put (l xs : List Int) : List Int := xs.foldl (fun l y => ins y l) l
def flat (L : List (Int × Int)) : List Int := L.flatMap (fun e => List.replicate e.2.toNat e.1)
def pos (L : List (Int × Int)) : Prop := ∀ e ∈ L, 1 ≤ e.2
theorem ins_count (x y : Int) : ∀ l : List Int, (ins x l).count y = l.count y + if x = y then 1 else 0
  | [] => by simp [ins, List.count_cons]
  | z :: l => by
    rw [ins]
    split
    · rw [List.count_cons, ins_count x y l, List.count_cons]; omega
    · rw [List.count_cons (a := y) (b := x)]
      by_cases e : x = y
      · simp [e]
      · simp [e]
theorem ins_len (x : Int) : ∀ l : List Int, (ins x l).length = l.length + 1
  | [] => rfl
  | z :: l => by
    rw [ins]
    split
    · rw [List.length_cons, ins_len x l, List.length_cons]
    · rfl
theorem ins_mem (x y : Int) : ∀ l : List Int, y ∈ ins x l ↔ y = x ∨ y ∈ l
  | [] => by simp [ins]
  | z :: l => by
    rw [ins]
    split
    · rw [List.mem_cons, ins_mem x y l, List.mem_cons]
      constructor
      · rintro (h | h | h)
        · exact .inr (.inl h)
        · exact .inl h
        · exact .inr (.inr h)
      · rintro (h | h | h)
        · exact .inr (.inl h)
        · exact .inl h
        · exact .inr (.inr h)
    · rw [List.mem_cons]
theorem ins_srt (x : Int) : ∀ l : List Int, srt l → srt (ins x l)
  | [], _ => List.pairwise_singleton _ _
  | z :: l, h => by
    obtain ⟨h1, h2⟩ := List.pairwise_cons.1 h
    rw [ins]
    split
    · rename_i hz
      refine List.pairwise_cons.2 ⟨fun y hy => ?_, ins_srt x l h2⟩
      rcases (ins_mem x y l).1 hy with rfl | hy
      · exact hz
      · exact h1 y hy
    · rename_i hz
      refine List.pairwise_cons.2 ⟨fun y hy => ?_, h⟩
      rcases List.mem_cons.1 hy with rfl | hy
      · omega
      · have := h1 y hy; omega
theorem put_count (y : Int) : ∀ (xs l : List Int), (put l xs).count y = l.count y + xs.count y
  | [], l => by simp [put]
  | x :: xs, l => by
    show (put (ins x l) xs).count y = _
    rw [put_count y xs, ins_count, List.count_cons]
    by_cases e : x = y
    · simp [e]; omega
    · simp [e]
theorem put_len : ∀ (xs l : List Int), (put l xs).length = l.length + xs.length
  | [], l => by simp [put]
  | x :: xs, l => by
    show (put (ins x l) xs).length = _
    rw [put_len xs, ins_len, List.length_cons]; omega
theorem put_srt : ∀ (xs l : List Int), srt l → srt (put l xs)
  | [], _, h => h
  | x :: xs, l, h => put_srt xs (ins x l) (ins_srt x l h)
theorem put_app (l xs ys : List Int) : put l (xs ++ ys) = put (put l xs) ys := List.foldl_append
theorem srt_ext : ∀ l m : List Int, srt l → srt m → (∀ y, l.count y = m.count y) → l = m
  | [], [], _, _, _ => rfl
  | [], y :: m, _, _, h => by have := h y; simp at this
  | x :: l, [], _, _, h => by have := h x; simp at this
  | x :: l, y :: m, hl, hm, h => by
    obtain ⟨a1, a2⟩ := List.pairwise_cons.1 hl
    obtain ⟨b1, b2⟩ := List.pairwise_cons.1 hm
    have hxm : x ∈ y :: m := List.count_pos_iff.1 (by rw [← h x]; simp)
    have hyl : y ∈ x :: l := List.count_pos_iff.1 (by rw [h y]; simp)
    have hxy : x = y := by
      rcases List.mem_cons.1 hxm with e | e
      · exact e
      · rcases List.mem_cons.1 hyl with e' | e'
        · exact e'.symm
        · have := b1 x e; have := a1 y e'; omega
    subst hxy
    rw [srt_ext l m a2 b2 (fun z => by have := h z; rw [List.count_cons, List.count_cons] at this; omega)]
theorem flat_cons (e : Int × Int) (L : List (Int × Int)) : flat (e :: L) = List.replicate e.2.toNat e.1 ++ flat L := by simp [flat]
theorem flat_app (L M : List (Int × Int)) : flat (L ++ M) = flat L ++ flat M := by simp [flat]
theorem flat_mem {y : Int} {L : List (Int × Int)} (h : y ∈ flat L) : ∃ e ∈ L, e.1 = y := by
  rw [flat, List.mem_flatMap] at h
  obtain ⟨e, he, hy⟩ := h
  exact ⟨e, he, (List.mem_replicate.1 hy).2.symm⟩
theorem flat_srt : ∀ L : List (Int × Int), Srt cI L → srt (flat L)
  | [], _ => List.Pairwise.nil
  | e :: L, h => by
    obtain ⟨h1, h2⟩ := List.pairwise_cons.1 h
    rw [flat_cons]
    refine List.pairwise_append.2 ⟨List.pairwise_replicate.2 (.inr (Int.le_refl _)), flat_srt L h2, fun a ha b hb => ?_⟩
    obtain ⟨x, hx, rfl⟩ := flat_mem hb
    have := cI_lt.1 (h1 x hx)
    rw [(List.mem_replicate.1 ha).2]
    omega
theorem flat_count (y : Int) : ∀ L : List (Int × Int), Srt cI L → (flat L).count y = ((getL cI y L).getD 0).toNat
  | [], _ => rfl
  | e :: L, h => by
    obtain ⟨h1, h2⟩ := List.pairwise_cons.1 h
    rw [flat_cons, List.count_append, List.count_replicate, flat_count y L h2, getL]
    have hno : ∀ k, k ≤ e.1 → getL cI k L = none := fun k hk => getL_none L (fun x hx => cI_lt.2 (by have := cI_lt.1 (h1 x hx); omega))
    by_cases hc : y < e.1
    · rw [if_pos (cI_lt.2 hc), hno y (by omega), if_neg (by simpa using fun e' : e.1 = y => by omega)]
      rfl
    · rw [if_neg (fun h => hc (cI_lt.1 h))]
      by_cases hd : e.1 < y
      · rw [if_pos (cI_gt.2 hd), if_neg (by simpa using fun e' : e.1 = y => by omega), Nat.zero_add]
      · rw [if_neg (fun h => hd (cI_gt.1 h)), hno y (by omega), if_pos (by simpa using (by omega : e.1 = y))]
        simp
theorem pos_ins {x v : Int} (hv : 1 ≤ v) : ∀ L : List (Int × Int), pos L → pos (insL cI x v L)
  | [], _ => fun e he => by
    rw [insL, List.mem_singleton] at he; subst he; exact hv
  | d :: L, h => fun e he => by
    rw [insL] at he
    split at he
    · rcases List.mem_cons.1 he with rfl | he
      · exact hv
      · exact h e he
    · split at he
      · rcases List.mem_cons.1 he with rfl | he
        · exact h _ List.mem_cons_self
        · exact pos_ins hv L (fun y hy => h y (List.mem_cons_of_mem _ hy)) e he
      · rcases List.mem_cons.1 he with rfl | he
        · exact hv
        · exact h e (List.mem_cons_of_mem _ he)
/-- the tree T has how often each thing of l is there -/
structure Rep (T : Tr Int Int) (l : List Int) : Prop where
  ok : Ok cI T
  pos : pos T.inl
  flat : flat T.inl = l
theorem Rep.nil : Rep .nil [] := ⟨Ok.nil, fun _ h => (by cases h), rfl⟩
section
variable {T : Tr Int Int} {l : List Int} (h : Rep T l)
include h
theorem Rep.srt : srt l := by rw [← h.flat]; exact flat_srt _ h.ok.srt
theorem Rep.get_pos (x : Int) : 0 ≤ (getL cI x T.inl).getD 0 := by
  have : ∀ L : List (Int × Int), Sk.pos L → 0 ≤ (getL cI x L).getD 0 := fun L => by
    induction L with
    | nil => intro _; exact Int.le_refl _
    | cons e L ih =>
      intro hp
      rw [getL]
      split
      · exact Int.le_refl _
      · split
        · exact ih (fun y hy => hp y (List.mem_cons_of_mem _ hy))
        · have := hp e List.mem_cons_self
          show 0 ≤ e.2
          omega
  exact this _ h.pos
theorem Rep.get (x : Int) : (T.get cI x).getD 0 = (l.count x : Int) := by
  rw [get_inl odI x T h.ok.srt, ← h.flat, flat_count x _ h.ok.srt]
  have := h.get_pos x
  omega
theorem Rep.cnt : T.cnt ≤ l.length := by
  rw [Tr.cnt_inl, ← h.flat]
  have : ∀ L : List (Int × Int), Sk.pos L → L.length ≤ (Sk.flat L).length := fun L => by
    induction L with
    | nil => intro _; exact Nat.le_refl _
    | cons e L ih =>
      intro hp
      have := ih (fun y hy => hp y (List.mem_cons_of_mem _ hy))
      have := hp e List.mem_cons_self
      rw [flat_cons, List.length_append, List.length_replicate, List.length_cons]
      omega
  exact this _ h.pos
/-- a thing has another count -/
theorem Rep.set (x : Int) (v : Nat) (hv : 1 ≤ v) {m : List Int} (hm : Sk.srt m) (hc : ∀ y, m.count y = if y = x then v else l.count y) : Rep (T.ins cI x (v : Int)) m := by
  have hi : (T.ins cI x (v : Int)).inl = insL cI x (v : Int) T.inl := ins_inl odI x (v : Int) T h.ok.srt
  have ho := Ok.ins odI h.ok x (v : Int)
  refine ⟨ho, ?_, srt_ext _ _ (flat_srt _ ho.srt) hm fun y => ?_⟩
  · rw [hi]; exact pos_ins (by omega) _ h.pos
  · rw [flat_count y _ ho.srt, hi, getL_insL odI x y (v : Int) _ h.ok.srt, hc]
    by_cases e : y = x
    · subst e
      rw [if_pos (odI.self y), if_pos rfl]
      simp
    · rw [if_neg (fun h0 => e (odI.eq _ _ h0)), if_neg e, ← h.flat, flat_count y _ h.ok.srt]
theorem Rep.add (x : Int) (m : Nat) (hm : 1 ≤ m) : Rep (T.ins cI x ((l.count x : Int) + m)) (put l (List.replicate m x)) := by
  have := h.set x (l.count x + m) (by omega) (put_srt (List.replicate m x) l h.srt) (fun y => by
    rw [put_count, List.count_replicate]
    by_cases e : y = x
    · subst e; simp
    · rw [if_neg e, if_neg (by simpa using fun e' : x = y => e e'.symm)]; omega)
  rwa [show ((l.count x + m : Nat) : Int) = (l.count x : Int) + m by omega] at this
theorem Rep.less (x : Int) (hx : 2 ≤ l.count x) : Rep (T.ins cI x ((l.count x : Int) - 1)) (l.erase x) := by
  have := h.set x (l.count x - 1) (by omega) (m := l.erase x) (List.Pairwise.sublist List.erase_sublist h.srt) (fun y => by
    by_cases e : y = x
    · subst e; rw [List.count_erase_self, if_pos rfl]
    · rw [List.count_erase_of_ne e, if_neg e])
  rwa [show ((l.count x - 1 : Nat) : Int) = (l.count x : Int) - 1 by omega] at this
theorem Rep.gone (x : Int) (hx : l.count x = 1) : Rep (T.del cI x) (l.erase x) := by
  have hi : (T.del cI x).inl = delL cI x T.inl := del_inl odI x T h.ok.srt
  have ho := Ok.del odI h.ok x
  refine ⟨ho, ?_, srt_ext _ _ (flat_srt _ ho.srt) (List.Pairwise.sublist List.erase_sublist h.srt) fun y => ?_⟩
  · rw [hi]; exact fun e he => h.pos e (delL_mem _ e he)
  · rw [flat_count y _ ho.srt, hi, getL_delL odI x y _ h.ok.srt]
    by_cases e : y = x
    · subst e
      rw [if_pos (odI.self y), List.count_erase_self, hx]
      rfl
    · rw [if_neg (fun h0 => e (odI.eq _ _ h0)), List.count_erase_of_ne e, ← h.flat, flat_count y _ h.ok.srt]
end
/-- each once -/
def once : List Int → List Int
  | [] => []
  | [x] => [x]
  | x :: y :: l => if x = y then once (y :: l) else x :: once (y :: l)
/-- each once, with how often it is there -/
def runs (l : List Int) : List (Int × Int) := (once l).map (fun x => (x, (l.count x : Int)))
theorem once_rep (k : Int) : ∀ (n : Nat) (l : List Int), (∀ y ∈ l, k < y) → once (List.replicate (n + 1) k ++ l) = k :: once l
  | 0, [], _ => rfl
  | 0, y :: l, h => by
    show once (k :: y :: l) = _
    rw [once, if_neg (by have := h y List.mem_cons_self; omega)]
  | n + 1, l, h => by
    rw [List.replicate_succ, List.replicate_succ, List.cons_append, List.cons_append, once, if_pos rfl]
    exact once_rep k n l h
theorem once_flat : ∀ L : List (Int × Int), Srt cI L → pos L → once (flat L) = L.map (·.1)
  | [], _, _ => rfl
  | e :: L, h, hp => by
    obtain ⟨h1, h2⟩ := List.pairwise_cons.1 h
    have hv := hp e List.mem_cons_self
    rw [flat_cons, show e.2.toNat = (e.2.toNat - 1) + 1 by omega, once_rep e.1 _ _ (fun y hy => by
      obtain ⟨x, hx, rfl⟩ := flat_mem hy
      exact cI_lt.1 (h1 x hx)), once_flat L h2 (fun y hy => hp y (List.mem_cons_of_mem _ hy)), List.map_cons]
theorem getL_mem : ∀ (L : List (Int × Int)) (e : Int × Int), Srt cI L → e ∈ L → getL cI e.1 L = some e.2
  | d :: L, e, h, he => by
    obtain ⟨h1, h2⟩ := List.pairwise_cons.1 h
    rw [getL]
    rcases List.mem_cons.1 he with rfl | he
    · rw [odI.self]; rfl
    · have := cI_lt.1 (h1 e he)
      rw [if_neg (fun hh => by have := cI_lt.1 hh; omega), if_pos (cI_gt.2 this)]
      exact getL_mem L e h2 he
theorem Rep.runs {T : Tr Int Int} {l : List Int} (h : Rep T l) : T.inl = runs l := by
  have hp := h.pos
  have hs := h.ok.srt
  rw [Sk.runs, ← h.flat, once_flat _ hs hp, List.map_map]
  conv => lhs; rw [← List.map_id T.inl]
  refine List.map_congr_left fun e he => ?_
  show e = (e.1, _)
  rw [flat_count e.1 _ hs, getL_mem _ e hs he]
  have := hp e he
  refine Prod.ext rfl ?_
  show e.2 = ((e.2.toNat : Nat) : Int)
  omega
theorem Rep.flatr {T : Tr Int Int} {l : List Int} (h : Rep T l) : Sk.flat (Sk.runs l) = l := by rw [← h.runs, h.flat]
theorem Rep.posr {T : Tr Int Int} {l : List Int} (h : Rep T l) : Sk.pos (Sk.runs l) := by rw [← h.runs]; exact h.pos
end Sk
end Go.Proofs.Ytahkmdbbicpfcaa
