
/- Plain facts: a good event's line that is cut. No program. -/
import Derived.Test.YtefnpfhhomkiaaaGreatDoorGrH
import Derived.Test.YtefnpfhhomkiaaaGreatDoorDpBack
namespace Go.Proofs.YtefnpfhhomkiaaaGreatDoor.Dp
open Go.Proofs.YtefnpfhhomkiaaaGreatDoor.Fx (dec_num dec_small dec_big)
theorem beg_take (c b : UInt8) (l : List UInt8) (i : Nat) (h : c ≠ b) : beg c ((b :: l).take i) = false := by
  cases i with
  | zero => rfl
  | succ i => rw [List.take_succ_cons, beg_cons]; exact beq_eq_false_iff_ne.2 h
/-- a part that isn't the id's doesn't begin as that does -/
theorem mid_beg (e : Ev) (l : List Tg.Lab) {x : List UInt8} (hx : x ∈ rateL e ++ labsL l ++ [timeL e]) (i : Nat) : beg 83 (x.take i) = false := by
  simp only [List.mem_append, List.mem_singleton] at hx
  rcases hx with (hx | hx) | rfl
  · unfold rateL at hx
    split at hx
    · cases hx
    · rw [List.mem_singleton] at hx; subst hx; exact beg_take _ _ _ _ (by decide)
  · unfold labsL at hx
    split at hx
    · cases hx
    · rw [List.mem_singleton] at hx; subst hx; exact beg_take _ _ _ _ (by decide)
  · exact beg_take _ _ _ _ (by decide)
theorem last_id (a : List (List UInt8)) (y : List UInt8) : idP (a ++ [y]) = y := by
  unfold idP
  rw [List.getD_eq_getElem?_getD, List.length_append, List.length_singleton, Nat.add_sub_cancel, List.getElem?_append_right (Nat.le_refl _), Nat.sub_self]
  rfl
theorem no_parts {l : List UInt8} (h : (spl 124 l).length < 4 ∨ beg 83 (idP (spl 124 l)) = false) : parseE l = 2 := by
  have hp : partsOf l = none := by
    unfold partsOf
    split
    · rfl
    · rename_i hn
      rcases h with h | h
      · exact absurd (.inr h) hn
      · have : okP (spl 124 l) = false := by unfold okP; rw [h]; simp
        rw [this]; rfl
  unfold parseE
  rw [hp]
theorem dec_ge : ∀ (u : Nat), 1 ≤ u → 10 ^ ((Lib.decDigits u).length - 1) ≤ u := by
  intro u
  induction u using Nat.strongRecOn with
  | _ u ih =>
    intro h
    by_cases h10 : u < 10
    · rw [dec_small h10]; simpa using h
    · rw [dec_big h10, List.length_append, List.length_singleton, Nat.add_sub_cancel]
      have hq := ih (u / 10) (by omega) (by omega)
      have hl : 1 ≤ (Lib.decDigits (u / 10)).length := by rw [Lib.decDigits_length]; exact Lib.nDigits_pos _
      obtain ⟨k, hk⟩ : ∃ k, (Lib.decDigits (u / 10)).length = k + 1 := ⟨_, (Nat.sub_add_cancel hl).symm⟩
      rw [hk, Nat.add_sub_cancel] at hq
      rw [hk, Nat.pow_succ]
      omega
/-- a number of fewer digits, from the first on -/
theorem dec_take {n : Int} (h : 1 ≤ n) {j : Nat} (h1 : 1 ≤ j) (h2 : j < (dec n).length) : 1 ≤ Fx.num ((dec n).take j) ∧ ((Fx.num ((dec n).take j) : Nat) : Int) < n := by
  obtain ⟨u, rfl⟩ : ∃ u : Nat, n = (u : Int) := ⟨n.toNat, by omega⟩
  have hu : 1 ≤ u := by omega
  unfold dec at h2 ⊢
  rw [Int.toNat_natCast] at h2 ⊢
  have hn := dec_num u
  have hg := dec_ge u hu
  have ha : ((Lib.decDigits u).drop j).all Fx.dig = true := by
    have := Fx.dec_all u
    rw [List.all_eq_true] at this ⊢
    exact fun x hx => this x (List.mem_of_mem_drop hx)
  have hd := Fx.num_lt _ ha
  rw [← List.take_append_drop j (Lib.decDigits u), Fx.num_append, List.length_drop] at hn
  rw [List.length_drop] at hd
  generalize Fx.num ((Lib.decDigits u).take j) = x at hn ⊢
  generalize Fx.num ((Lib.decDigits u).drop j) = y at hn hd
  obtain ⟨k, hk⟩ : ∃ k, (Lib.decDigits u).length - j = k + 1 := ⟨(Lib.decDigits u).length - j - 1, by omega⟩
  rw [hk] at hn hd
  have hp : 1 ≤ 10 ^ k := Nat.one_le_pow _ _ (by decide)
  have e10 : 10 ^ (k + 1) = 10 ^ k * 10 := Nat.pow_succ 10 k
  have hx : 1 ≤ x := by
    apply Classical.byContradiction
    intro h0
    have hx0 : x = 0 := by omega
    rw [hx0, Nat.zero_mul, Nat.zero_add] at hn
    have hle : 10 ^ (k + 1) ≤ 10 ^ ((Lib.decDigits u).length - 1) := Nat.pow_le_pow_right (by decide) (by omega)
    omega
  refine ⟨hx, ?_⟩
  have : x * 10 ≤ x * 10 ^ (k + 1) := Nat.mul_le_mul_left x (by omega)
  omega
theorem line_parts (e : Ev) (l : List Tg.Lab) : partsL e l = ((e.met ++ 58 :: measT e) :: word e.kind :: (rateL e ++ labsL l ++ [timeL e])) ++ [idL e] := by
  unfold partsL
  simp
theorem join_last (c : UInt8) : ∀ (a : List (List UInt8)) (x y : List UInt8), x.length ≤ y.length → (joinB c (a ++ [x])).length + (y.length - x.length) = (joinB c (a ++ [y])).length := by
  intro a x y h
  have h1 := joinB_len c (a ++ [x]) (by simp)
  have h2 := joinB_len c (a ++ [y]) (by simp)
  simp only [List.map_append, List.map_cons, List.map_nil, List.sum_append, List.sum_cons, List.sum_nil] at h1 h2
  omega
/-- a good event's line, cut -/
theorem Good.cut {e : Ev} (h : Good e) (hl : (lineL e e.labs).length ≤ 240) (k : Nat) (hk : k < (lineL e e.labs).length) :
    (k + (dec e.seq).length ≤ (lineL e e.labs).length → parseE ((lineL e e.labs).take k) ≠ 0) ∧
    ((lineL e e.labs).length < k + (dec e.seq).length → parseE ((lineL e e.labs).take k) = 0 ∧ (parseV ((lineL e e.labs).take k)).seq < e.seq ∧ (parseV ((lineL e e.labs).take k)).time = e.time) := by
  have hp : e.labs.Perm e.labs := List.Perm.refl _
  have hno := h.parts_no hp
  have hne : partsL e e.labs ≠ [] := by simp [partsL]
  obtain ⟨a, x, b, i, hps, hi, ht, hlen⟩ := take_join 124 (partsL e e.labs) k hne (Nat.le_of_lt hk)
  have hline : lineL e e.labs = joinB 124 (partsL e e.labs) := rfl
  rw [hline] at hk hl ⊢
  have hq : spl 124 ((joinB 124 (partsL e e.labs)).take k) = a ++ [x.take i] := by
    rw [ht]
    refine spl_join 124 _ (by simp) (fun p hm => ?_)
    rcases List.mem_append.1 hm with hm | hm
    · exact hno p (by rw [hps]; simp [hm])
    · rw [List.mem_singleton] at hm
      subst hm
      exact fun hc => hno x (by rw [hps]; simp) (List.mem_of_mem_take hc)
  have hidl : (idL e).length = e.src.length + (dec e.seq).length + 2 := by unfold idL; simp; omega
  rw [line_parts] at hps
  by_cases hb : b = []
  · -- within the id
    subst hb
    obtain ⟨ha, hx⟩ := List.append_inj' hps.symm rfl
    simp only [List.cons.injEq, and_true] at hx
    subst hx
    have hlen' : k + ((idL e).length - i) = (joinB 124 (partsL e e.labs)).length := by
      rw [← hlen]
      show _ = k + (List.drop i (idL e)).length
      rw [List.length_drop]
    have hlt : i < (idL e).length := by omega
    have htk : (joinB 124 (partsL e e.labs)).take k = joinB 124 (a ++ [(idL e).take i]) := ht
    have hlk : ((joinB 124 (partsL e e.labs)).take k).length ≤ 240 := by rw [List.length_take]; omega
    cases i with
    | zero =>
      have h2 := no_parts (l := (joinB 124 (partsL e e.labs)).take k) (.inr (by rw [hq, last_id]; rfl))
      rw [h2]
      exact ⟨fun _ => by decide, fun hc => by omega⟩
    | succ i =>
      have hidt : (idL e).take (i + 1) = 83 :: (e.src ++ 46 :: dec e.seq).take i := by unfold idL; rw [List.take_succ_cons]
      rw [hidt] at hq
      have hal : a.length = (rateL e ++ labsL e.labs).length + 3 := by
        rw [ha]; simp only [List.length_cons, List.length_append, List.length_nil]
      -- all but the id is as it was
      have hmid : mid (a ++ [83 :: (e.src ++ 46 :: dec e.seq).take i]) = rateL e ++ labsL e.labs := by
        have h1 := mid_line e e.labs
        unfold mid at h1 ⊢
        rw [line_parts, ← ha] at h1
        rw [List.length_append, List.length_singleton] at h1 ⊢
        rw [List.drop_append_of_le_length (by omega), List.take_append_of_le_length (by rw [List.length_drop]; omega)] at h1 ⊢
        exact h1
      have htime : timeP (a ++ [83 :: (e.src ++ 46 :: dec e.seq).take i]) = timeL e := by
        have h1 := (time_line e e.labs).1
        unfold timeP at h1 ⊢
        rw [line_parts, ← ha] at h1
        rw [List.getD_eq_getElem?_getD, List.length_append, List.length_singleton] at h1 ⊢
        rw [List.getElem?_append_left (by omega)] at h1 ⊢
        exact h1
      have hget : ∀ j, j < 2 → (a ++ [83 :: (e.src ++ 46 :: dec e.seq).take i]).getD j [] = (partsL e e.labs).getD j [] := fun j hj => by
        rw [line_parts, ← ha, List.getD_eq_getElem?_getD, List.getD_eq_getElem?_getD, List.getElem?_append_left (by omega), List.getElem?_append_left (by omega)]
      have hcol : c0 (a ++ [83 :: (e.src ++ 46 :: dec e.seq).take i]) = (e.met, measT e, true) := by
        have h1 := h.colon e.labs
        unfold c0 at h1 ⊢
        rw [hget 0 (by decide)]
        exact h1
      obtain ⟨f1, f2⟩ := first_mid e e.labs
      have hpo : Dp.partsOf ((joinB 124 (partsL e e.labs)).take k) = some { partsG e e.labs with id := (e.src ++ 46 :: dec e.seq).take i } := by
        unfold Dp.partsOf
        rw [hq, if_neg (by rw [List.length_append, List.length_singleton]; omega)]
        have hok : Dp.okP (a ++ [83 :: (e.src ++ 46 :: dec e.seq).take i]) = true := by
          unfold Dp.okP restP
          rw [hcol, htime, last_id, hmid, f1]
          simp only [f2]
          unfold timeL
          rw [beg_cons, beg_cons]; rfl
        rw [hok, if_pos rfl]
        unfold partsG rateP labsP
        rw [hcol, htime, last_id, hmid, f1, hget 1 (by decide)]
        simp only [f2]
        rfl
      have hpar := h.parse hp hl
      have hE : errOf (partsG e e.labs) = 0 := by
        have h1 := hpar.1
        unfold parseE at h1
        rw [h.partsOf hp hl] at h1
        exact h1
      have hV : evOf (partsG e e.labs) = e := by
        have h1 := hpar.2
        unfold parseV at h1
        rw [h.partsOf hp hl] at h1
        simp only [hE, if_true] at h1
        exact h1
      have R := right_of hE
      have herr : ∀ d, idOk d = true → errOf { partsG e e.labs with id := d } = 0 := fun d hd => by
        unfold errOf
        rw [if_neg (by rw [R.name]; decide), if_neg R.kind, if_neg (by rw [R.meas]; decide), if_neg (by rw [R.rate]; decide), if_neg (fun hc => hc R.make), if_neg (by rw [R.time]; decide), if_neg (by show ¬ idOk d = false; rw [hd]; decide)]
      have hbad : ∀ d, idOk d = false → errOf { partsG e e.labs with id := d } = 12 := fun d hd => by
        unfold errOf
        rw [if_neg (by rw [R.name]; decide), if_neg R.kind, if_neg (by rw [R.meas]; decide), if_neg (by rw [R.rate]; decide), if_neg (fun hc => hc R.make), if_neg (by rw [R.time]; decide), if_pos hd]
      have hpe : parseE ((joinB 124 (partsL e e.labs)).take k) = errOf { partsG e e.labs with id := (e.src ++ 46 :: dec e.seq).take i } := by unfold parseE; rw [hpo]
      by_cases hc : i ≤ e.src.length + 1
      · -- no number
        have hid : idOk ((e.src ++ 46 :: dec e.seq).take i) = false := by
          have hN : idN ((e.src ++ 46 :: dec e.seq).take i) = [] := by
            unfold idN
            by_cases hs : i ≤ e.src.length
            · rw [List.take_append_of_le_length hs, cut_not (fun hm => (word_name h.src).2 (List.mem_of_mem_take hm))]
            · rw [List.take_append, List.take_of_length_le (by omega : e.src.length ≤ i), show i - e.src.length = 1 by omega, List.take_succ_cons, List.take_zero, cut_app _ (word_name h.src).2]
          unfold idOk digOk Fx.dgOk
          rw [hN]; rfl
        rw [hpe, hbad _ hid]
        exact ⟨fun _ => by decide, fun hc2 => by omega⟩
      · obtain ⟨j, hj⟩ : ∃ j, i = e.src.length + 1 + j := ⟨i - e.src.length - 1, by omega⟩
        have hj1 : 1 ≤ j := by omega
        have hj2 : j < (dec e.seq).length := by omega
        have htt : (e.src ++ 46 :: dec e.seq).take i = e.src ++ 46 :: (dec e.seq).take j := by
          rw [List.take_append, List.take_of_length_le (by omega : e.src.length ≤ i), show i - e.src.length = j + 1 by omega, List.take_succ_cons]
        obtain ⟨g1, g2⟩ := dec_take h.seq.1 hj1 hj2
        have hiS : idS (e.src ++ 46 :: (dec e.seq).take j) = e.src ∧ idN (e.src ++ 46 :: (dec e.seq).take j) = (dec e.seq).take j := by
          unfold idS idN
          rw [cut_app _ (word_name h.src).2]
          exact ⟨rfl, rfl⟩
        have hid : idOk (e.src ++ 46 :: (dec e.seq).take j) = true := by
          have hdl := dec_len e.seq 12 (time_lt h.seq.2)
          have hda : ((dec e.seq).take j).all Fx.dig = true := by
            have := dec_dig e.seq
            rw [List.all_eq_true] at this ⊢
            exact fun x hx => this x (List.mem_of_mem_take hx)
          have hw : within (Fx.num ((dec e.seq).take j) : Nat) 1 maxTime = true := within_iff.2 ⟨by omega, by have := h.seq.2; omega⟩
          unfold idOk digOk Fx.dgOk
          rw [hiS.1, hiS.2, h.src, hw, hda, List.length_take, Nat.min_eq_left (by omega), decide_eq_true hj1, decide_eq_true (show j ≤ 13 by omega)]
          rfl
        have hz := herr _ hid
        rw [htt] at hpe hpo
        refine ⟨fun hc2 => by omega, fun _ => ⟨hpe.trans hz, ?_⟩⟩
        have hpv : parseV ((joinB 124 (partsL e e.labs)).take k) = evOf { partsG e e.labs with id := e.src ++ 46 :: (dec e.seq).take j } := by
          unfold parseV
          rw [hpo]
          simp only [hz, if_true]
        rw [hpv]
        refine ⟨?_, ?_⟩
        · show ((Fx.num (idN (e.src ++ 46 :: (dec e.seq).take j)) : Nat) : Int) < e.seq
          rw [hiS.2]; exact g2
        · show ((Fx.num (partsG e e.labs).time : Nat) : Int) = e.time
          have h1 := congrArg Ev.time hV
          exact h1
  · -- ahead of the id
    obtain ⟨b', z, rfl⟩ : ∃ b' z, b = b' ++ [z] := ⟨b.dropLast, b.getLast hb, (List.dropLast_concat_getLast hb).symm⟩
    have hps1 : ((e.met ++ 58 :: measT e) :: word e.kind :: (rateL e ++ labsL e.labs ++ [timeL e])) ++ [idL e] = (a ++ x :: b') ++ [z] := by rw [hps]; simp
    obtain ⟨hps', hz⟩ := List.append_inj' hps1 rfl
    simp only [List.cons.injEq, and_true] at hz
    subst hz
    have hj : (idL e).length + 1 ≤ (joinB 124 (x.drop i :: (b' ++ [idL e]))).length := by
      have h1 := joinB_len 124 (x.drop i :: (b' ++ [idL e])) (by simp)
      simp only [List.map_cons, List.map_append, List.map_nil, List.sum_cons, List.sum_append, List.sum_nil] at h1
      omega
    have h2 : parseE ((joinB 124 (partsL e e.labs)).take k) = 2 := by
      by_cases h3 : a.length < 3
      · exact no_parts (.inl (by rw [hq, List.length_append, List.length_singleton]; omega))
      · refine no_parts (.inr ?_)
        rw [hq, last_id]
        refine mid_beg e e.labs ?_ i
        obtain ⟨a1, a2, a', rfl⟩ : ∃ a1 a2 a', a = a1 :: a2 :: a' := by
          match a, h3 with
          | a1 :: a2 :: a', _ => exact ⟨a1, a2, a', rfl⟩
          | [], h => simp at h
          | [_], h => simp at h
        simp only [List.cons_append, List.cons.injEq] at hps'
        rw [hps'.2.2]; simp
    rw [h2]
    exact ⟨fun _ => by decide, fun hc => by omega⟩
end Go.Proofs.YtefnpfhhomkiaaaGreatDoor.Dp
