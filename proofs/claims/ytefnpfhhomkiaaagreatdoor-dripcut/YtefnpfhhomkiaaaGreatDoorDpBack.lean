
/- Plain facts: what is parsed is good, and its own line is no longer than what was parsed. No program. -/
import Derived.Test.YtefnpfhhomkiaaaGreatDoorGrH
namespace Go.Proofs.YtefnpfhhomkiaaaGreatDoor.Dp
open Go.Proofs.YtefnpfhhomkiaaaGreatDoor.Fx (textL bodyL fracL padk dec_all dec_num nDigits_le back_in frac_eq dotL fr fr_ok trimR_le trim_snoc rep_snoc)
theorem dec_le {l : List UInt8} (h : l.all Fx.dig = true) (h1 : 1 ≤ l.length) : (Lib.decDigits (Fx.num l)).length ≤ l.length := by
  rw [Lib.decDigits_length]
  have := nDigits_le (l.length - 1) (Fx.num l) (by rw [Nat.sub_add_cancel h1]; exact Fx.num_lt l h)
  omega
theorem digit_back {c : UInt8} (h : Fx.dig c = true) : UInt8.ofNat (48 + (c.toNat - 48) % 10) = c := by
  have := (Fx.dig_iff c).1 h
  rw [Nat.mod_eq_of_lt (by omega), show 48 + (c.toNat - 48) = c.toNat by omega]
  exact UInt8.ofNat_toNat
theorem padk_of : ∀ (k : Nat) (l : List UInt8), l.length = k → l.all Fx.dig = true → padk k (Fx.num l) = l
  | 0, l, h, _ => by
    have : l = [] := List.length_eq_zero_iff.1 h
    subst this; rfl
  | k + 1, l, h, ha => by
    have hne : l ≠ [] := fun e => by rw [e] at h; simp at h
    obtain ⟨a, c, hl⟩ : ∃ a c, l = a ++ [c] := ⟨l.dropLast, l.getLast hne, (List.dropLast_concat_getLast hne).symm⟩
    subst hl
    rw [List.all_append, Bool.and_eq_true] at ha
    have hc : Fx.dig c = true := by simpa using ha.2
    have hd := (Fx.dig_iff c).1 hc
    rw [Fx.num_snoc, padk, show (Fx.num a * 10 + (c.toNat - 48)) / 10 = Fx.num a by omega, show (Fx.num a * 10 + (c.toNat - 48)) % 10 = (c.toNat - 48) % 10 by omega, padk_of k a (by simpa using h) ha.1, digit_back hc]
theorem padk_more (l : List UInt8) (ha : l.all Fx.dig = true) : ∀ d, padk (l.length + d) (Fx.num l * 10 ^ d) = l ++ List.replicate d 48
  | 0 => by simp [padk_of l.length l rfl ha]
  | d + 1 => by
    have e : Fx.num l * 10 ^ (d + 1) = (Fx.num l * 10 ^ d) * 10 := by rw [Nat.pow_succ, Nat.mul_assoc]
    show padk (l.length + d + 1) _ = _
    rw [padk, e, Nat.mul_div_cancel _ (by decide), Nat.mul_mod_left, padk_more l ha d, ← rep_snoc, List.append_assoc]
    rfl
theorem trim_more (l : List UInt8) : ∀ d, Lib.trimRightB (l ++ List.replicate d 48) 48 = Lib.trimRightB l 48
  | 0 => by simp
  | d + 1 => by rw [← rep_snoc, ← List.append_assoc, trim_snoc, trim_more l d]
theorem fr_le {p : List UInt8} (h : Fx.dgOk p 6 = true) : (fr (Fx.num p * 10 ^ (6 - p.length))).length ≤ p.length := by
  obtain ⟨_, h2, h3⟩ := Fx.dgOk_len h
  unfold fr
  have e := padk_more p h3 (6 - p.length)
  rw [show p.length + (6 - p.length) = 6 by omega] at e
  rw [e, trim_more]
  exact trimR_le p 48
theorem size_len (l : List UInt8) : l.length = (if Fx.neg l then 1 else 0) + (Fx.size l).length := by
  unfold Fx.neg Fx.size Lib.trimPrefix Lib.hasPrefix
  cases l with
  | nil => rfl
  | cons b l =>
    rw [prefix_one]
    split
    · simp; omega
    · omega
/-- a number's text is no longer than any that is read as it -/
theorem text_le {l : List UInt8} (h : Fx.readOk l = true) : (textL (Fx.readV l)).length ≤ l.length := by
  have hs := size_len l
  have hv := (Fx.read_yes h).1
  have hn : (Fx.readV l).natAbs = Fx.readN l := by
    rw [hv]; split <;> omega
  have hneg : Fx.readV l < 0 → Fx.neg l = true := fun hlt => by
    rw [hv] at hlt
    split at hlt
    · assumption
    · omega
  have hb : (bodyL (Fx.readN l)).length ≤ (Fx.size l).length := by
    simp only [Fx.readOk, Bool.and_eq_true] at h
    obtain ⟨hw, hd⟩ := h
    obtain ⟨w1, w2, w3⟩ := Fx.dgOk_len hw
    have hwl := dec_le w3 w1
    unfold bodyL
    rw [List.length_append]
    rcases cut_cases 46 (Fx.size l) with ⟨_, e⟩ | ⟨a, b, _, e0, e⟩
    · have hdot : Fx.dot l = false := by unfold Fx.dot; rw [e]
      have hwh : Fx.whole l = Fx.size l := by unfold Fx.whole; rw [e]
      have hN : Fx.readN l = Fx.num (Fx.whole l) * 1000000 := by simp [Fx.readN, hdot]
      rw [hN, Nat.mul_div_cancel _ (by decide), Nat.mul_mod_left, show fracL 0 = [] from rfl]
      rw [hwh] at hwl ⊢
      simpa using hwl
    · have hdot : Fx.dot l = true := by unfold Fx.dot; rw [e]
      have hwh : Fx.whole l = a := by unfold Fx.whole; rw [e]
      have hpt : Fx.part l = b := by unfold Fx.part; rw [e]
      rw [hdot] at hd
      have hp : Fx.dgOk (Fx.part l) 6 = true := by simpa using hd
      have hlt := Fx.part_lt hp
      have hN : Fx.readN l = Fx.num (Fx.whole l) * 1000000 + Fx.num (Fx.part l) * 10 ^ (6 - (Fx.part l).length) := by simp [Fx.readN, hdot]
      have hf := fr_le hp
      rw [hN]
      generalize Fx.num (Fx.part l) * 10 ^ (6 - (Fx.part l).length) = x at hlt hf
      rw [show (Fx.num (Fx.whole l) * 1000000 + x) / 1000000 = Fx.num (Fx.whole l) by omega, show (Fx.num (Fx.whole l) * 1000000 + x) % 1000000 = x by omega, frac_eq x hlt]
      have hdl : (dotL (Lib.trimRightB (padk 6 x) 48)).length ≤ (fr x).length + 1 := by
        unfold dotL fr
        split <;> simp
      rw [hwh] at hwl ⊢
      rw [hpt] at hf
      rw [e0, List.length_append, List.length_cons]
      omega
  unfold textL
  rw [hn]
  split
  · rename_i hlt
    rw [hneg hlt, if_pos rfl] at hs
    simp; omega
  · omega
theorem readN_lt {l : List UInt8} (h : Fx.readOk l = true) : Fx.readN l < 1000000000000000000 := by
  simp only [Fx.readOk, Bool.and_eq_true] at h
  obtain ⟨hw, hd⟩ := h
  obtain ⟨_, w2, w3⟩ := Fx.dgOk_len hw
  have h1 := Fx.num_lt12 _ w3 w2
  cases hdot : Fx.dot l with
  | false =>
    have hN : Fx.readN l = Fx.num (Fx.whole l) * 1000000 := by simp [Fx.readN, hdot]
    omega
  | true =>
    rw [hdot] at hd
    have hp : Fx.dgOk (Fx.part l) 6 = true := by simpa using hd
    have hlt := Fx.part_lt hp
    have hN : Fx.readN l = Fx.num (Fx.whole l) * 1000000 + Fx.num (Fx.part l) * 10 ^ (6 - (Fx.part l).length) := by simp [Fx.readN, hdot]
    omega
theorem readV_in {l : List UInt8} (h : Fx.readOk l = true) : -999999999999999999 ≤ Fx.readV l ∧ Fx.readV l ≤ 999999999999999999 := by
  have h1 := readN_lt h
  rw [(Fx.read_yes h).1]
  split <;> omega
theorem make_zero {m : ByteArray} {l : List Tg.Lab} (h : Tg.makeE m l = 0) : (∀ x ∈ l, Tg.labB x = true) ∧ (l.map Tg.nm).Nodup ∧ l.length ≤ 6 := by
  unfold Tg.makeE at h
  split at h
  · cases h
  split at h
  · cases h
  split at h
  · cases h
  split at h
  · cases h
  · rename_i _ h2 h3 h4
    exact ⟨List.all_eq_true.1 (by simpa using h2), Classical.not_not.1 h3, by omega⟩
theorem kind_back {w : List UInt8} (h : kindOf w ≠ 0) : (kindOf w = 1 ∨ kindOf w = 2 ∨ kindOf w = 3 ∨ kindOf w = 4) ∧ word (kindOf w) = w := by
  unfold kindOf at h ⊢
  by_cases h1 : w = [99]
  · subst h1; decide
  by_cases h2 : w = [103]
  · subst h2; decide
  by_cases h3 : w = [109, 115]
  · subst h3; decide
  by_cases h4 : w = [115]
  · subst h4; decide
  simp [h1, h2, h3, h4] at h
/-- parts that are an event's -/
structure Right (p : Parts) : Prop where
  name : Tg.nameB p.met = true
  kind : kindOf p.kind ≠ 0
  meas : measOk (kindOf p.kind) p.meas = true
  rate : rateOk (kindOf p.kind) p.rate = true
  make : Tg.makeE (B p.met) (labsOf p.labs) = 0
  time : digOk p.time 13 0 maxTime = true
  id : idOk p.id = true
theorem right_of {p : Parts} (h : errOf p = 0) : Right p := by
  unfold errOf at h
  split at h
  · cases h
  split at h
  · cases h
  split at h
  · cases h
  split at h
  · cases h
  split at h
  · cases h
  split at h
  · cases h
  split at h
  · cases h
  · rename_i h1 h2 h3 h4 h5 h6 h7
    exact ⟨by simpa using h1, h2, by simpa using h3, by simpa using h4, Classical.not_not.1 h5, by simpa using h6, by simpa using h7⟩
theorem dig_parts {s : List UInt8} {m : Nat} {a b : Int} (h : digOk s m a b = true) : 1 ≤ s.length ∧ s.all Fx.dig = true ∧ a ≤ (Fx.num s : Nat) ∧ ((Fx.num s : Nat) : Int) ≤ b := by
  simp only [digOk, Bool.and_eq_true] at h
  obtain ⟨h1, _, h3⟩ := Fx.dgOk_len h.1
  exact ⟨h1, h3, within_iff.1 h.2⟩
theorem Right.good {p : Parts} (h : Right p) : Good (evOf p) := by
  obtain ⟨m1, m2, m3⟩ := make_zero h.make
  have hp := Tg.sortL_perm (labsOf p.labs)
  have hk := (kind_back h.kind).1
  refine ⟨h.name, by show (Tg.sortL _).length ≤ 6; rw [hp.length_eq]; exact m3, Tg.str_good0 _ (Tg.sortL_str _ m2) (fun x hx => m1 x (hp.mem_iff.1 hx)), hk, fun h4 => ?_, fun h4 => ?_, ?_, ?_, ?_, ?_⟩
  · have h4 : kindOf p.kind = 4 := h4
    have hm := h.meas
    unfold measOk at hm
    rw [if_pos h4] at hm
    show measV (kindOf p.kind) p.meas = 0 ∧ Tg.valB (measM (kindOf p.kind) p.meas) = true
    unfold measV measM
    rw [if_pos h4, if_pos h4]
    exact ⟨rfl, hm⟩
  · have h4 : kindOf p.kind ≠ 4 := h4
    have hm := h.meas
    unfold measOk at hm
    rw [if_neg h4] at hm
    show (-999999999999999999 ≤ measV (kindOf p.kind) p.meas ∧ measV (kindOf p.kind) p.meas ≤ 999999999999999999) ∧ measM (kindOf p.kind) p.meas = []
    unfold measV measM
    rw [if_neg h4, if_neg h4]
    exact ⟨readV_in hm, rfl⟩
  · show 1 ≤ rateV p.rate ∧ rateV p.rate ≤ 1000 ∧ (hasRate (kindOf p.kind) = false → rateV p.rate = 1)
    have hr := h.rate
    unfold rateOk at hr
    unfold rateV
    split
    · exact ⟨by decide, by decide, fun _ => rfl⟩
    · rename_i hne
      have hne : p.rate.isEmpty = false := by simpa using hne
      rw [hne, Bool.false_or, Bool.and_eq_true] at hr
      obtain ⟨_, _, h3, h4⟩ := dig_parts hr.1
      exact ⟨h3, h4, fun hh => by rw [hr.2] at hh; cases hh⟩
  · obtain ⟨_, _, h3, h4⟩ := dig_parts h.time
    exact ⟨h3, h4⟩
  · have := h.id
    simp only [idOk, Bool.and_eq_true] at this
    exact this.2
  · have := h.id
    simp only [idOk, Bool.and_eq_true] at this
    obtain ⟨_, _, h3, h4⟩ := dig_parts this.1
    exact ⟨h3, h4⟩
def sumP (ps : List (List UInt8)) : Nat := (ps.map fun p => p.length + 1).sum
theorem sumP_app (a b : List (List UInt8)) : sumP (a ++ b) = sumP a + sumP b := by simp [sumP]
theorem sumP_cons (x : List UInt8) (b : List (List UInt8)) : sumP (x :: b) = x.length + 1 + sumP b := by simp [sumP]
theorem sumP_nil : sumP [] = 0 := rfl
theorem first_sum (c : UInt8) (m : List (List UInt8)) : ((first c m).1 = [] ∧ (first c m).2 = m) ∨ (∃ x, (first c m).1 = c :: x ∧ m = (c :: x) :: (first c m).2) := by
  cases m with
  | nil => exact .inl ⟨rfl, rfl⟩
  | cons y t =>
    simp only [first]
    split
    · rename_i h
      cases y with
      | nil => cases h
      | cons b y =>
        rw [beg_cons] at h
        have : c = b := by simpa using h
        subst this
        exact .inr ⟨y, rfl, rfl⟩
    · exact .inl ⟨rfl, rfl⟩
theorem parts_eq {P : List (List UInt8)} (h : 4 ≤ P.length) : P = P.getD 0 [] :: P.getD 1 [] :: (mid P ++ [timeP P, idP P]) := by
  unfold mid timeP idP
  obtain ⟨a, b, t, rfl⟩ : ∃ a b t, P = a :: b :: t := by
    cases P with
    | nil => simp at h
    | cons a P => cases P with
      | nil => simp at h
      | cons b t => exact ⟨a, b, t, rfl⟩
  have ht : 2 ≤ t.length := by simp at h; omega
  have e1 : (a :: b :: t).length - 2 = (t.length - 2) + 2 := by simp; omega
  have e2 : (a :: b :: t).length - 1 = (t.length - 1) + 2 := by simp; omega
  have e4 : (a :: b :: t).length - 4 = t.length - 2 := by simp
  rw [e1, e2, e4]
  show a :: b :: t = a :: b :: (t.take (t.length - 2) ++ [t.getD (t.length - 2) [], t.getD (t.length - 1) []])
  congr 2
  have hd : t.drop (t.length - 2) = [t.getD (t.length - 2) [], t.getD (t.length - 1) []] := by
    rw [List.drop_eq_getElem_cons (by omega), show t.length - 2 + 1 = t.length - 1 by omega, List.drop_eq_getElem_cons (by omega), show t.length - 1 + 1 = t.length by omega, List.drop_length]
    simp only [List.getD_eq_getElem?_getD]
    rw [List.getElem?_eq_getElem (by omega), List.getElem?_eq_getElem (by omega)]
    rfl
  rw [← hd, List.take_append_drop]
theorem beg_eq {c : UInt8} {l : List UInt8} (h : beg c l = true) : l = c :: l.drop 1 := by
  cases l with
  | nil => cases h
  | cons b l =>
    rw [beg_cons] at h
    have : c = b := by simpa using h
    subst this; rfl
theorem perm_sum {a b : List Nat} (h : a.Perm b) : a.sum = b.sum := by
  induction h with
  | nil => rfl
  | cons x _ ih => simp [ih]
  | swap x y l => simp; omega
  | trans _ _ h1 h2 => rw [h1, h2]
/-- what is parsed is good, and its line isn't longer -/
theorem parse_good {l : List UInt8} (h : parseE l = 0) : Good (parseV l) ∧ (lineL (parseV l) (parseV l).labs).length ≤ 240 := by
  unfold parseE at h
  unfold parseV
  cases hp : partsOf l with
  | none => rw [hp] at h; cases h
  | some p =>
    rw [hp] at h
    have h : errOf p = 0 := h
    simp only [h, if_true]
    have R := right_of h
    refine ⟨R.good, ?_⟩
    unfold partsOf at hp
    split at hp
    · cases hp
    rename_i hle
    split at hp
    · rename_i hok
      have hlen : l.length ≤ 240 := by omega
      have h4 : 4 ≤ (spl 124 l).length := by omega
      have hl := join_split 124 l
      have hpe := parts_eq h4
      generalize spl 124 l = P at *
      have hpj : p = ⟨(c0 P).1, (c0 P).2.1, P.getD 1 [], rateP P, labsP P, (timeP P).drop 1, (idP P).drop 1⟩ := by injection hp with e; exact e.symm
      clear hp
      unfold okP at hok
      simp only [Bool.and_eq_true, List.isEmpty_iff] at hok
      obtain ⟨⟨⟨hc, ht⟩, hi⟩, hr⟩ := hok
      have htime : timeP P = 84 :: p.time := by rw [hpj]; exact beg_eq ht
      have hid : idP P = 83 :: p.id := by rw [hpj]; exact beg_eq hi
      -- the first part
      have hc0 : P.getD 0 [] = p.met ++ 58 :: p.meas := by
        rw [hpj]
        unfold c0 at hc ⊢
        rcases cut_cases 58 (P.getD 0 []) with ⟨_, e⟩ | ⟨a, b, _, e0, e⟩
        · rw [e] at hc; cases hc
        · rw [e]; exact e0
      have hk1 : P.getD 1 [] = p.kind := by rw [hpj]
      have hrate : rateP P = p.rate := by rw [hpj]
      have hlabs : labsP P = p.labs := by rw [hpj]
      clear hpj
      have hS : l.length + 1 = sumP P := by rw [← hl]; exact joinB_len 124 P (fun e => by rw [e] at h4; simp at h4)
      have hS2 : (lineL (evOf p) (evOf p).labs).length + 1 = sumP (partsL (evOf p) (evOf p).labs) := joinB_len 124 _ (by simp [partsL])
      rw [hpe, hc0, hk1, htime, hid, sumP_cons, sumP_cons, sumP_app, sumP_cons, sumP_cons, sumP_nil] at hS
      unfold partsL timeL idL at hS2
      rw [sumP_cons, sumP_cons, sumP_app, sumP_app, sumP_cons, sumP_cons, sumP_nil] at hS2
      simp only [List.length_append, List.length_cons] at hS hS2
      -- what was measured
      have b1 : (measT (evOf p)).length ≤ p.meas.length := by
        have hm := R.meas
        unfold measOk at hm
        show (if kindOf p.kind = 4 then measM (kindOf p.kind) p.meas else textL (measV (kindOf p.kind) p.meas)).length ≤ _
        unfold measV measM
        by_cases h4 : kindOf p.kind = 4
        · simp only [if_pos h4]; exact Nat.le_refl _
        · simp only [if_neg h4] at hm ⊢
          exact text_le hm
      have b2 : (word (evOf p).kind).length = p.kind.length := by
        show (word (kindOf p.kind)).length = _
        rw [(kind_back R.kind).2]
      -- the rate
      have hmid : sumP (mid P) = (if p.rate = [] then 0 else p.rate.length + 1) + (if p.labs = [] then 0 else p.labs.length + 1) := by
        have e1 := first_sum 64 (mid P)
        have e2 := first_sum 35 (first 64 (mid P)).2
        rw [show (first 64 (mid P)).1 = p.rate from hrate] at e1
        rw [show (first 35 (first 64 (mid P)).2).1 = p.labs from hlabs, show (first 35 (first 64 (mid P)).2).2 = [] from hr] at e2
        rcases e1 with ⟨a1, a2⟩ | ⟨x, a1, a2⟩ <;> rcases e2 with ⟨b1, b2⟩ | ⟨y, b1, b2⟩
        · rw [← a2, ← b2, a1, b1]; rfl
        · rw [← a2, b2, a1, b1]; simp [sumP]
        · rw [a2, ← b2, a1, b1]; simp [sumP]
        · rw [a2, b2, a1, b1]; simp [sumP]
      have b3 : sumP (rateL (evOf p)) ≤ (if p.rate = [] then 0 else p.rate.length + 1) := by
        have hr := R.rate
        show sumP (if rateV p.rate = 1 then [] else [64 :: dec (rateV p.rate)]) ≤ _
        cases hq : p.rate with
        | nil => simp [rateV, sumP]
        | cons b s =>
          rw [hq] at hr
          simp only [rateOk, List.isEmpty_cons, Bool.false_or, List.drop_one, List.tail_cons, Bool.and_eq_true] at hr
          obtain ⟨d1, d2, _, _⟩ := dig_parts hr.1
          have := dec_le d2 d1
          simp only [rateV, List.isEmpty_cons, Bool.false_eq_true, if_false, List.drop_one, List.tail_cons, reduceCtorEq]
          split
          · simp [sumP]
          · simp only [sumP, dec, Int.toNat_natCast, List.map_cons, List.map_nil, List.sum_cons, List.sum_nil, List.length_cons]
            omega
      have b4 : sumP (labsL (evOf p).labs) ≤ (if p.labs = [] then 0 else p.labs.length + 1) := by
        obtain ⟨m1, _, _⟩ := make_zero R.make
        have hsp := Tg.sortL_perm (labsOf p.labs)
        show sumP (labsL (Tg.sortL (labsOf p.labs))) ≤ _
        have e1 := first_sum 35 (first 64 (mid P)).2
        rw [show (first 35 (first 64 (mid P)).2).1 = p.labs from hlabs] at e1
        cases hq : p.labs with
        | nil =>
          rw [hq] at hsp
          have : Tg.sortL (labsOf []) = [] := by rfl
          rw [this]
          simp [labsL, sumP]
        | cons b s =>
          rw [hq] at hsp m1 e1
          have hlo : labsOf (b :: s) = (spl 44 s).map labOf := rfl
          rw [hlo] at m1 hsp ⊢
          have hne : Tg.sortL ((spl 44 s).map labOf) ≠ [] := fun e => by
            have := hsp.length_eq
            rw [e, List.length_map] at this
            exact spl_ne 44 s (List.length_eq_zero_iff.1 this.symm)
          have hkv : ((spl 44 s).map labOf).map kv = spl 44 s := by
            rw [List.map_map]
            conv => rhs; rw [← List.map_id (spl 44 s)]
            exact List.map_congr_left fun x hx => (kv_labOf (m1 _ (List.mem_map.2 ⟨x, hx, rfl⟩))).2
          have hj : (joinB 44 ((Tg.sortL ((spl 44 s).map labOf)).map kv)).length = s.length := by
            have j1 := joinB_len 44 ((Tg.sortL ((spl 44 s).map labOf)).map kv) (by simpa using hne)
            have j2 := joinB_len 44 (spl 44 s) (spl_ne 44 s)
            have hs : (((Tg.sortL ((spl 44 s).map labOf)).map kv).map fun p => p.length + 1).sum = ((spl 44 s).map fun p => p.length + 1).sum := by
              conv => rhs; rw [← hkv]
              exact perm_sum ((hsp.map kv).map _)
            rw [join_split] at j2
            omega
          unfold labsL
          have hie : (Tg.sortL ((spl 44 s).map labOf)).isEmpty = false := by
            cases hx : Tg.sortL ((spl 44 s).map labOf) with
            | nil => exact absurd hx hne
            | cons _ _ => rfl
          rw [hie]
          simp only [Bool.false_eq_true, if_false, sumP, List.map_cons, List.map_nil, List.sum_cons, List.sum_nil, List.length_cons, hj, reduceCtorEq]
          omega
      have b5 : (dec (evOf p).time).length ≤ p.time.length := by
        obtain ⟨d1, d2, _, _⟩ := dig_parts R.time
        show (Lib.decDigits ((Fx.num p.time : Int)).toNat).length ≤ _
        rw [Int.toNat_natCast]
        exact dec_le d2 d1
      have b6 : (evOf p).src.length + (dec (evOf p).seq).length + 1 ≤ p.id.length := by
        have hi := R.id
        simp only [idOk, Bool.and_eq_true] at hi
        obtain ⟨d1, d2, _, _⟩ := dig_parts hi.1
        show (idS p.id).length + (Lib.decDigits ((Fx.num (idN p.id) : Int)).toNat).length + 1 ≤ _
        rw [Int.toNat_natCast]
        have hd := dec_le d2 d1
        unfold idS idN at *
        rcases cut_cases 46 p.id with ⟨_, e⟩ | ⟨a, b, _, e0, e⟩
        · rw [e] at d1; simp at d1
        · rw [e] at hd ⊢
          rw [e0, List.length_append, List.length_cons]
          simp only at hd ⊢
          omega
      show (lineL (evOf p) (evOf p).labs).length ≤ 240
      have e1 : (evOf p).met = p.met := rfl
      rw [e1] at hS2
      omega
    · cases hp
end Go.Proofs.YtefnpfhhomkiaaaGreatDoor.Dp
