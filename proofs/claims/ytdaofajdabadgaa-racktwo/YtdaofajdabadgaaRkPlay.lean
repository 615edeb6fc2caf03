
/- A rack beside the document's list: what a law's loop keeps. -/
import Derived.Test.YtdaofajdabadgaaRkLaw
import Derived.Test.YtdaofajdabadgaaRkSGet
import Derived.Test.YtdaofajdabadgaaRkOpen
namespace Go.Proofs.Ytdaofajdabadgaa
open Go.RowKit
namespace Rk
section
variable {key : ByteArray} {v : Int}
theorem rk_ins : ∀ l : List Ent, rkL cS key (insL cS key v l) = rkL cS key l
  | [] => by have := odS.self key; simp only [insL, rkL]; rw [if_neg (by omega)]
  | x :: l => by
    have ih := rk_ins l
    have hs := odS.self key
    rcases three (key := key) x l v with ⟨_, h2, h3, _⟩ | ⟨_, h2, h3, _⟩ | ⟨_, h2, h3, _⟩
    · rw [h2, h3, rkL, if_neg (by show ¬ cS key key < 0; omega)]
    · rw [h2, h3]
      have hx : cS x.1 key < 0 := by
        by_cases hx : cS x.1 key < 0
        · exact hx
        · rw [rkL, if_neg hx] at h2; omega
      rw [rkL, if_pos hx, ih, Nat.add_comm]
    · rw [h2, h3, rkL, if_neg (by show ¬ cS key key < 0; omega)]
theorem rk_del : ∀ l : List Ent, Srt cS l → rkL cS key (delL cS key l) = rkL cS key l
  | [], _ => rfl
  | x :: l, h => by
    obtain ⟨h1, h5⟩ := List.pairwise_cons.1 h
    have ih := rk_del l h5
    rcases three (key := key) x l 0 with ⟨_, h2, _, h3⟩ | ⟨_, h2, _, h3⟩ | ⟨h0, h2, _, h3⟩
    · rw [h3]
    · rw [h2, h3]
      have hx : cS x.1 key < 0 := by
        by_cases hx : cS x.1 key < 0
        · exact hx
        · rw [rkL, if_neg hx] at h2; omega
      rw [rkL, if_pos hx, ih, Nat.add_comm]
    · rw [h2, h3]
      have he : key = x.1 := by
        refine odS.eq _ _ ?_
        by_cases e1 : cS key x.1 < 0
        · rw [getL, if_pos e1] at h0; cases h0
        · by_cases e2 : 0 < cS key x.1
          · exfalso
            have := (odS.neg _ _).2 e2
            rw [rkL, if_pos this] at h2
            omega
          · omega
      cases l with
      | nil => rfl
      | cons y l =>
        have := h1 y (by simp)
        rw [rkL, if_neg (by have := (odS.neg _ _).1 this; rw [he]; omega)]
theorem get_at : ∀ l : List Ent, ∀ u, getL cS key l = some u → l[rkL cS key l]? = some (key, u)
  | [], u, h => by simp [getL] at h
  | x :: l, u, h => by
    have ih := get_at l
    rcases three (key := key) x l 0 with ⟨h1, h2, _, _⟩ | ⟨h1, h2, _, _⟩ | ⟨h1, h2, h3, _⟩
    · rw [h1] at h; cases h
    · rw [h1] at h
      rw [h2, List.getElem?_cons_succ]; exact ih u h
    · rw [h1] at h
      injection h with h
      rw [h2, ← h]
      have hk : key = x.1 := by
        by_cases e1 : cS key x.1 < 0
        · rw [getL, if_pos e1] at h1; cases h1
        · by_cases e2 : 0 < cS key x.1
          · rw [insL, if_neg e1, if_pos e2] at h3
            injection h3 with h3 _
            rw [h3]
          · exact odS.eq _ _ (by omega)
      simp [hk]
end
/-- the rack, the list and the act in memory -/
structure PlS (w W : World) (R A : Nat) (x : Act) (T : Tr ByteArray Int) (lst : List Ent) (sl : Value) : Prop where
  rak : RakS W R T
  es : EsE W sl lst
  act : Blk W A 29 #[.int .i64 x.kind, .string x.key, .int .i64 x.val]
  lo : w.heap.size ≤ R
  b : Below w.heap.size w W
section
variable {w W W' : World} {R A : Nat} {x : Act} {T : Tr ByteArray Int} {lst : List Ent} {sl : Value}
theorem PlS.below (h : PlS w W R A x T lst sl) (hb : Below W.heap.size W W') : PlS w W' R A x T lst sl :=
  ⟨h.rak.below hb, h.es.below hb, h.act.below hb h.act.lt, h.lo, below_step h.b (Nat.le_refl _) (hb.mono (Nat.le_refl _))⟩
theorem PlS.dr (h : PlS w W R A x T lst sl) (hb : Dr W W') : PlS w W' R A x T lst sl := h.below (dr_below hb)
theorem PlS.grown {T' : Tr ByteArray Int} (h : PlS w W R A x T lst sl) (hg : W.grownBy W' (some R)) (hr : RakS W' R T') : PlS w W' R A x T' lst sl := by
  obtain ⟨p, hR, _⟩ := h.rak
  exact ⟨hr, h.es.keep (Keeps.grown hg hR (by decide)), h.act.grown hg (fun e => (h.act.apart hR (by decide)) (by injection e)), h.lo, grown_out h.b h.lo hg⟩
theorem PlS.kind (h : PlS w W R A x T lst sl) : W.cell? ⟨A, 0, none⟩ = some (.int .i64 x.kind) := (h.act.cl 0 _ rfl).1
theorem PlS.key (h : PlS w W R A x T lst sl) : W.cell? ⟨A, 1, none⟩ = some (.string x.key) := (h.act.cl 1 _ rfl).1
theorem PlS.val (h : PlS w W R A x T lst sl) : W.cell? ⟨A, 2, none⟩ = some (.int .i64 x.val) := (h.act.cl 2 _ rfl).1
theorem PlS.list {lst' : List Ent} {sl' : Value} (h : PlS w W R A x T lst sl) (hb : Below W.heap.size W W') (he : EsE W' sl' lst') : PlS w W' R A x T lst' sl' := by
  obtain ⟨h1, _, h3, h4, h5⟩ := h.below hb
  exact ⟨h1, he, h3, h4, h5⟩
end
/-- what stays from act to act -/
structure Pl (w W : World) (R : Nat) (T : Tr ByteArray Int) (sl : Value) (j : Nat) : Prop where
  rak : RakS W R T
  es : EsE W sl T.inl
  ok : Ok cS T
  fit : Fit T.inl
  len : T.inl.length ≤ j
  lo : w.heap.size ≤ R
  b : Below w.heap.size w W
theorem put_has {T : Tr ByteArray Int} (h : Ok cS T) (k : ByteArray) (v : Int) : decide ((T.ins cS k v).cnt = T.cnt) = (getL cS k T.inl).isSome := by
  have := ins_cnt' odS h k v
  unfold Tr.has at this
  cases hh : (getL cS k T.inl).isSome with
  | true => rw [hh] at this; exact decide_eq_true this
  | false => rw [hh] at this; exact decide_eq_false (by rw [this]; simp)
theorem drop_has {T : Tr ByteArray Int} (h : Ok cS T) (k : ByteArray) : decide ((T.del cS k).cnt < T.cnt) = (getL cS k T.inl).isSome := by
  have := del_cnt' odS h k
  cases hh : T.has cS k with
  | true =>
    have hp := has_pos hh
    rw [hh] at this
    have e : (getL cS k T.inl).isSome = true := hh
    rw [e]; exact decide_eq_true (by rw [this]; simp; omega)
  | false =>
    rw [hh] at this
    have e : (getL cS k T.inl).isSome = false := hh
    rw [e]; exact decide_eq_false (by rw [this]; simp)
end Rk
end Go.Proofs.Ytdaofajdabadgaa
