
/- Lists in order that answer alike are the same; keys that were put: pure. -/
import Derived.Test.YtdaofajdabadgaaRkRef
namespace Go.Proofs.Ytdaofajdabadgaa
namespace Rk
theorem getL_head {V : Type} {k : ByteArray} {x : ByteArray × V} {l : List (ByteArray × V)} (h : k = x.1) : getL cS k (x :: l) = some x.2 := by
  have := odS.self x.1
  rw [getL, h, if_neg (by omega), if_neg (by omega)]
theorem srt_ext : ∀ l m : List Ent, Srt cS l → Srt cS m → (∀ k, getL cS k l = getL cS k m) → l = m
  | [], [], _, _, _ => rfl
  | [], y :: m, _, _, h => by have := h y.1; rw [getL_head rfl] at this; cases this
  | x :: l, [], _, _, h => by have := h x.1; rw [getL_head rfl] at this; cases this
  | x :: l, y :: m, hl, hm, h => by
    obtain ⟨h1, h2⟩ := List.pairwise_cons.1 hl
    obtain ⟨h3, h4⟩ := List.pairwise_cons.1 hm
    have hxy : x.1 = y.1 := by
      have a := h x.1
      have b := h y.1
      rw [getL_head rfl] at a
      rw [getL_head (k := y.1) (x := y) rfl] at b
      by_cases e1 : cS x.1 y.1 < 0
      · rw [getL, if_pos e1] at a; cases a
      · by_cases e2 : 0 < cS x.1 y.1
        · rw [getL, if_pos ((odS.neg _ _).2 e2)] at b; cases b
        · exact odS.eq _ _ (by omega)
    have hv : x.2 = y.2 := by
      have a := h x.1
      rw [getL_head rfl, getL_head hxy] at a
      injection a
    have ht : l = m := srt_ext l m h2 h4 fun k => by
      have a := h k
      by_cases e1 : cS k x.1 < 0
      · rw [getL_none l (fun z hz => odS.tr _ _ _ e1 (h1 z hz)), getL_none m (fun z hz => odS.tr _ _ _ (by rw [← hxy]; exact e1) (h3 z hz))]
      · by_cases e2 : 0 < cS k x.1
        · rw [getL, if_neg e1, if_pos e2, getL, if_neg (by rw [← hxy]; exact e1), if_pos (by rw [← hxy]; exact e2)] at a
          exact a
        · have e3 := odS.eq _ _ (show cS k x.1 = 0 by omega)
          rw [getL_none l (fun z hz => by rw [e3]; exact h1 z hz), getL_none m (fun z hz => by rw [e3, hxy]; exact h3 z hz)]
    rw [ht, Prod.ext hxy hv]
/-- just these keys are there, each with its value -/
def Hs (T : Tr ByteArray Int) (ks : List ByteArray) (g : ByteArray → Int) : Prop := ∀ k, (k ∈ ks → getL cS k T.inl = some (g k)) ∧ (k ∉ ks → getL cS k T.inl = none)
theorem Hs.nil (g : ByteArray → Int) : Hs .nil [] g := fun k => ⟨fun h => absurd h (by simp), fun _ => rfl⟩
theorem Hs.ins {T : Tr ByteArray Int} {ks : List ByteArray} {g : ByteArray → Int} (hk : Ok cS T) (h : Hs T ks g) (k : ByteArray) : Hs (T.ins cS k (g k)) (ks ++ [k]) g := fun k' => by
  rw [ins_inl odS k (g k) T hk.srt, getL_insL odS k k' (g k) _ hk.srt]
  by_cases e : cS k' k = 0
  · have := odS.eq _ _ e
    subst this
    rw [if_pos e]
    exact ⟨fun _ => rfl, fun hn => absurd (by simp) hn⟩
  · rw [if_neg e]
    have hne : k' ≠ k := fun q => e (by rw [q]; exact odS.self k)
    refine ⟨fun hm => (h k').1 ?_, fun hn => (h k').2 fun hm => hn (by simp [hm])⟩
    rcases List.mem_append.1 hm with hm | hm
    · exact hm
    · exact absurd (List.mem_singleton.1 hm) hne
theorem Hs.same {T1 T2 : Tr ByteArray Int} {k1 k2 : List ByteArray} {g : ByteArray → Int} (h1 : Hs T1 k1 g) (h2 : Hs T2 k2 g) (hm : ∀ k, k ∈ k1 ↔ k ∈ k2) (o1 : Ok cS T1) (o2 : Ok cS T2) : T1.inl = T2.inl :=
  srt_ext _ _ o1.srt o2.srt fun k => by
    by_cases e : k ∈ k1
    · rw [(h1 k).1 e, (h2 k).1 ((hm k).1 e)]
    · rw [(h1 k).2 e, (h2 k).2 (fun h => e ((hm k).2 h))]
/-- the first j of what a function gives -/
def upK (f : Nat → ByteArray) (j : Nat) : List ByteArray := (List.range j).map f
theorem upK_succ (f : Nat → ByteArray) (j : Nat) : upK f (j + 1) = upK f j ++ [f j] := by simp [upK, List.range_succ]
theorem turn_at (n t m : Nat) (h : m < n) : ∃ i, i < n ∧ (i + t) % n = m := by
  have ht := Nat.div_add_mod t n
  have hr := Nat.mod_lt t (show 0 < n by omega)
  generalize t / n = q at ht
  generalize t % n = r at ht hr
  by_cases e : r ≤ m
  · refine ⟨m - r, by omega, ?_⟩
    rw [← ht, show m - r + (n * q + r) = m + n * q by omega, Nat.add_mul_mod_self_left, Nat.mod_eq_of_lt h]
  · refine ⟨m + n - r, by omega, ?_⟩
    rw [← ht, show m + n - r + (n * q + r) = m + n * q + n by omega, Nat.add_mod_right, Nat.add_mul_mod_self_left, Nat.mod_eq_of_lt h]
theorem turn_mem (f : Nat → ByteArray) (n t : Nat) (k : ByteArray) : k ∈ upK f n ↔ k ∈ upK (fun i => f ((i + t) % n)) n := by
  simp only [upK, List.mem_map, List.mem_range]
  constructor
  · rintro ⟨m, hm, rfl⟩
    obtain ⟨i, hi, he⟩ := turn_at n t m hm
    exact ⟨i, hi, by rw [he]⟩
  · rintro ⟨i, hi, rfl⟩
    exact ⟨_, Nat.mod_lt _ (by omega), rfl⟩
theorem ins_len {T : Tr ByteArray Int} {j : Nat} (h : T.cnt ≤ j) (k : ByteArray) (v : Int) : (T.ins cS k v).cnt ≤ j + 1 := by
  rcases ins_cnt (c := cS) k v T with e | e <;> omega
/-- what came is what was put -/
theorem ins_memK {T : Tr ByteArray Int} {ks : List ByteArray} (hk : Ok cS T) (h : ∀ x ∈ T.inl, x.1 ∈ ks) (k : ByteArray) (v : Int) : ∀ x ∈ (T.ins cS k v).inl, x.1 ∈ ks ++ [k] := fun x hx => by
  rw [ins_inl odS k v T hk.srt] at hx
  rcases insL_mem odS _ x hx with e | e
  · rw [e]; simp
  · exact List.mem_append.2 (.inl (h x e))
end Rk
end Go.Proofs.Ytdaofajdabadgaa
