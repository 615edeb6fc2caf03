/- What package rule's Parse keeps while it reads. What package rule's take answers: a policy's line. -/
import Derived.Test.YtiahelekgjdjlaaGreatDoorGsN
import Derived.Test.YtiahelekgjdjlaaGreatDoorGsO
import Derived.Test.YtiahelekgjdjlaaGreatDoorGsD
import Derived.Test.YtiahelekgjdjlaaGreatDoorGsL
namespace Go.Proofs.YtiahelekgjdjlaaGreatDoor
open Go.RowKit Go.Shelf
open Dp Gb
namespace Ru
/-! ### What is read is not too long -/
theorem fit_rul {ws : List (List UInt8)} {r : Rul} (hF : ∀ x ∈ ws, x.length ≤ 100000) (hl : ws.length ≤ 100) (h : ruleW ws = some r) : FitR r := by
  have hFt : ∀ x ∈ ws.tail, x.length ≤ 100000 := fun x hx => hF x (List.mem_of_mem_tail hx)
  have hM := fit_mats (fit_ahead hFt)
  have hn : ((aheadP ws.tail).map matW).length ≤ 1000 := by rw [List.length_map]; have := ahead_len ws.tail; have := List.length_tail (l := ws); omega
  have hB : ∀ k, ((behindP ws.tail).getD k []).length ≤ 100000 := fun k => by
    rw [List.getD_eq_getElem?_getD]
    cases e : (behindP ws.tail)[k]? with
    | none => exact Nat.zero_le _
    | some y => exact hFt y (behind_sub _ y (List.mem_of_getElem? e))
  have ht : ∀ w, (tosW w).length ≤ 1000 := fun w => by have := splN_len 44 4 w; unfold tosW; omega
  unfold ruleW at h
  rw [Option.filter_eq_some_iff] at h
  obtain ⟨h, -⟩ := h
  unfold rulR at h
  split at h
  · injection h with h; subst h; exact fit_r hM fit_nil (by decide) fit_nil hn (by decide) (by decide)
  · split at h
    · injection h with h; subst h; exact fit_r hM (fit_spl (hB 1)) (by decide) fit_nil hn (ht _) (by decide)
    · split at h
      · split at h
        · injection h with h; subst h
          refine fit_r hM (fit_spl (hB 1)) (hB 3) ?_ hn (ht _) ?_
          · unfold labsW; split
            · exact fit_nil
            · exact fit_spl (hB 5)
          · unfold labsW; split
            · decide
            · have := splN_len 44 6 ((behindP ws.tail).getD 5 []); omega
        · cases h
      · cases h
theorem fit_pol {ws : List (List UInt8)} {p : Pol} (h : polW ws = some p) : p.name.length ≤ maxLen := by
  have : Tg.wordB p.name = true := by
    unfold polW at h
    split at h
    · split at h
      · rename_i hw
        split at h
        · split at h
          · injection h with h; rw [← h]; exact hw
          · cases h
        · cases h
      · cases h
    · cases h
  unfold Tg.wordB Tg.nameB at this
  simp only [Bool.and_eq_true, decide_eq_true_eq] at this
  unfold maxLen
  omega
theorem push_mem {α : Type} {l : List α} {x y : α} {m : Nat} (h : y ∈ push l x m) : y ∈ l ∨ y = x := by
  unfold push at h
  split at h
  · exact .inl h
  · rcases List.mem_append.1 h with h | h
    · exact .inl h
    · exact .inr (List.mem_singleton.1 h)
theorem fit_take {s s' : RSet} {line : List UInt8} (hl : line.length ≤ 100000) (h : takeP s line = some s') (hF : FitS s) : FitS s' := by
  have hw := words_fit hl
  have hn := words_len line
  by_cases hp : (wordsP line).headD [] = wPolicy
  · obtain ⟨p, h1, rfl⟩ := (take_pol hp).2 s' h
    refine ⟨fun q hq => ?_, hF.rules, ?_, hF.n2⟩
    · rcases push_mem hq with hq | rfl
      · exact hF.pols q hq
      · exact fit_pol h1
    · have := hF.n1
      unfold push
      show (if 4 < s.pols.length then s.pols else s.pols ++ [p]).length ≤ maxLen
      split
      · exact this
      · simp; unfold maxLen; omega
  · obtain ⟨r, h1, rfl⟩ := (take_rul hp).2 s' h
    refine ⟨hF.pols, fun q hq => ?_, hF.n1, ?_⟩
    · rcases push_mem hq with hq | rfl
      · exact hF.rules q hq
      · exact fit_rul hw hn h1
    · have := hF.n2
      show (if 16 < s.rules.length then s.rules else s.rules ++ [r]).length ≤ maxLen
      split
      · exact this
      · simp; unfold maxLen; omega
theorem fit_none : FitS ⟨[], []⟩ := ⟨fun p h => (by cases h), fun r h => (by cases h), by decide, by decide⟩
theorem linesN_mem : ∀ (n : Nat) (l : List UInt8), ∀ x ∈ linesN n l, x.length ≤ l.length
  | 0, l, x, h => by cases h
  | n + 1, l, x, h => by
    change x ∈ (if l = [] then [] else if (Lib.cut l [10]).2.2 then ((Lib.cut l [10]).1 ++ [10]) :: linesN n (Lib.cut l [10]).2.1 else [l]) at h
    split at h
    · cases h
    · rcases cut_cases 10 l with ⟨_, e⟩ | ⟨a, b, _, rfl, e⟩
      · rw [e] at h; simp at h; rw [h]; exact Nat.le_refl _
      · rw [e] at h
        simp only [if_true] at h
        rcases List.mem_cons.1 h with rfl | h
        · simp only [List.length_append, List.length_cons, List.length_nil]; omega
        · have := linesN_mem n b x h; simp only [List.length_append, List.length_cons]; omega
theorem linesP_mem {l x : List UInt8} (h : x ∈ linesP l) : x.length ≤ l.length := linesN_mem _ l x h
/-! ### How far it goes -/
def stP : List (List UInt8) → RSet → Option RSet
  | [], s => some s
  | x :: l, s => match takeP s x with
    | none => none
    | some s' => stP l s'
theorem stP_app : ∀ (a : List (List UInt8)) (b : List (List UInt8)) (s : RSet), stP (a ++ b) s = match stP a s with | none => none | some s' => stP b s'
  | [], b, s => rfl
  | x :: a, b, s => by
    show (match takeP s x with | none => none | some s' => stP (a ++ b) s') = match (match takeP s x with | none => none | some s' => stP a s') with | none => none | some s' => stP b s'
    cases takeP s x with
    | none => rfl
    | some s' => exact stP_app a b s'
theorem goP_app : ∀ (a b : List (List UInt8)) (s s' : RSet) (n : Nat), stP a s = some s' → goP (a ++ b) s n = goP b s' (n + a.length)
  | [], b, s, s', n, h => by injection h with h; rw [h]; rfl
  | x :: a, b, s, s', n, h => by
    change (match takeP s x with | none => none | some s1 => stP a s1) = some s' at h
    show (match takeP s x with | none => ((⟨[], []⟩ : RSet), n, 2) | some s1 => goP (a ++ b) s1 (n + 1)) = _
    cases ht : takeP s x with
    | none => rw [ht] at h; cases h
    | some s1 =>
      rw [ht] at h
      have := goP_app a b s1 s' (n + 1) h
      simp only [this, List.length_cons]
      congr 1
      omega
def okP (L : List (List UInt8)) (i : Nat) (x : List UInt8) : Bool := match stP (L.take i) ⟨[], []⟩ with
  | none => false
  | some s => (takeP s x).isSome
abbrev errT : TypeId := 28
abbrev intT : TypeId := 3
/-- the results' cells are as they were made -/
def Res0 (h : Nat) (V : World) : Prop := Blk V h setT #[.slice none 0 0, .slice none 0 0] ∧ Blk V (h + 1) intT #[.int .i64 0] ∧ Blk V (h + 1 + 1) errT #[.int .i64 0]
/-- what holds where rest is left of the lines -/
def ParI (w : World) (L rest : List (List UInt8)) (V : World) : Prop :=
  ∃ pre s, L = pre ++ rest ∧ stP pre ⟨[], []⟩ = some s ∧ FitS s ∧ StA V (w.heap.size + 1 + 1 + 1) (w.heap.size + 5) s ∧ Blk V (w.heap.size + 1 + 1 + 1 + 1) intT #[.int .i64 (pre.length : Nat)] ∧ Res0 w.heap.size V ∧ Below w.heap.size w V ∧ w.heap.size + 5 + 1 ≤ V.heap.size ∧ ∃ cs, Blk V (w.heap.size + 5) 9 cs
/-- what holds where a line was none's -/
def ParX (w : World) (r : RSet × Nat × Nat) (V : World) : Prop :=
  r = (⟨[], []⟩, r.2.1, 2) ∧ Blk V w.heap.size setT #[.slice none 0 0, .slice none 0 0] ∧ Blk V (w.heap.size + 1) intT #[.int .i64 (r.2.1 : Nat)] ∧ Blk V (w.heap.size + 1 + 1) errT #[.int .i64 2] ∧ Below w.heap.size w V
theorem StA.keep {W W' : World} {sb Bs : Nat} {s : RSet} (h : StA W sb Bs s) (hk : ∀ g t cs, Blk W g t cs → Blk W' g t cs) : StA W' sb Bs s := by
  obtain ⟨pa, pn, pc, ra, rn, rc, raws, h1, h2, h3, h4, h5⟩ := h
  exact ⟨pa, pn, pc, ra, rn, rc, raws, hk _ _ _ h1, own_stays h2 (fun g cs hg => hk _ _ _ hg), own_stays h3 (fun g cs hg => hk _ _ _ hg), h4.keep ⟨fun b cs hb => hk _ _ _ hb, fun b cs hb => hk _ _ _ hb⟩, h5⟩
theorem es_only {W W' : World} {bx n : Nat} {hd : Hd} {l : List (List UInt8)} (h : EsT W hd.v l) (ho : Only [bx] W W') (hf : Far hd.a n) (hn : bx < n) : EsT W' hd.v l := by
  obtain ⟨a, c, e, hc, hat⟩ := h
  refine ⟨a, c, e, hc, fun h0 => ?_⟩
  obtain ⟨b, o, cs, ha, hb, hcs⟩ := hat h0
  unfold Hd.v at e
  injection e with e1 e2 e3
  have := hf _ (e1.trans ha)
  exact ⟨b, o, cs, ha, ho.blk hb (by simp only [List.mem_singleton]; intro e; rw [e] at this; simp at this; omega), hcs⟩
theorem StA.only {W W' : World} {sb Bs bx : Nat} {s : RSet} {cs : Array Value} (h : StA W sb Bs s) (hbx : Blk W bx 9 cs) (ho : Only [bx] W W') (hlt : bx < Bs + 1) : StA W' sb Bs s := by
  obtain ⟨pa, pn, pc, ra, rn, rc, raws, h1, h2, h3, h4, h5, h6, h7⟩ := h
  have hk : ∀ t, t ≠ 9 → Rk.Keeps t W W' := fun t ht => ho.keeps t (fun k hk => by rw [List.mem_singleton] at hk; subst hk; exact ⟨_, _, hbx, ht⟩)
  refine ⟨pa, pn, pc, ra, rn, rc, raws, hk _ (by decide) _ _ h1, own_stays h2 (fun g cs hg => hk _ (by decide) _ _ hg), own_stays h3 (fun g cs hg => hk _ (by decide) _ _ hg), ⟨h4.1, fun j r x hr hx => ?_⟩, h5, h6, h7⟩
  have hri := h4.2 j r x hr hx
  have hfr := h7 r (List.mem_of_getElem? hr)
  exact ⟨hri.kind, Vec.Es.keep hri.when (hk _ (by decide)), es_only hri.to ho hfr.1 hlt, hri.met, hri.keep, es_only hri.labs ho hfr.2 hlt⟩
end Ru
end Go.Proofs.YtiahelekgjdjlaaGreatDoor
namespace Go.Proofs.YtiahelekgjdjlaaGreatDoor
open Go.RowKit Go.Shelf
open Dp Gb
attribute [local go_sem] Oper.semAt_some
namespace Ru
set_option maxRecDepth 1000000 in
set_option maxHeartbeats 8000000 in
theorem take_P (s : RSet) (line : List UInt8) (sb Bs : Nat) (w : World) (hE : EnvR w) (hS : StA w sb Bs s) (hB : Bs + 1 ≤ w.heap.size) (hl : line.length ≤ 100000) (hw : (wordsP line).headD [] = wPolicy) :
    Calls Tryz.prog 31 #[.pointer (some ⟨sb, 0, none⟩), .string (B line)] w fun e w' => e = .returned (.bool (takeP s line).isSome) ∧ (∀ s', takeP s line = some s' → StA w' sb Bs s') ∧ TkF sb Bs w w' := by
  obtain ⟨pa, pn, pc, ra, rn, rc, raws, hb, hop, hor, hra, hpl, hrl, hfr⟩ := hS
  have HS0 : Hid (Blk w sb setT #[.slice pa pn pc, .slice ra rn rc] ∧ OwnP w Bs (.slice pa pn pc) s.pols ∧ OwnR w Bs (.slice ra rn rc) raws ∧ RawsAre w raws s.rules ∧ s.pols.length ≤ 5 ∧ s.rules.length ≤ 17 ∧ Bs ≤ w.heap.size) := ⟨hb, hop, hor, hra, hpl, hrl, Nat.le_of_succ_le hB⟩
  have HFR0 : Hid ((∀ x ∈ raws, FarR x (Bs + 1)) ∧ Bs + 1 ≤ w.heap.size) := ⟨hfr, hB⟩
  have HTK := Lib.hid (take_pol (s := s) hw)
  have HCS := fun w1 => Lib.hid (cutSuffix_any line 10 w1 hl)
  have htl := trim_len line 10
  have HSP := fun w1 hE => Lib.hid (splitN_any (Lib.trimSuffix line [10]) 32 14 w1 hE (by omega) (by decide) (by decide))
  change ∀ w1 hE, Hid (Calls _ _ #[_, _, .int .i64 14] w1 fun e w' => ∃ a k cp, e = .returned (.slice a k cp) ∧ EsT w' (.slice a k cp) (wordsP line) ∧ _ ∧ _) at HSP
  have HWF : Hid ((∀ x ∈ wordsP line, x.length ≤ 100000) ∧ (wordsP line).length ≤ 100 ∧ wordsP line ≠ []) := ⟨words_fit hl, words_len line, words_ne line⟩
  have HE := Lib.hid hE
  have hrn : rn = s.rules.length := by rw [own_len hor, hra.1]
  have HW0 : Hid (∃ x l, wordsP line = x :: l) := by
    cases h : wordsP line with
    | nil => exact absurd h (words_ne line)
    | cons x l => exact ⟨x, l, rfl⟩
  obtain ⟨x0, l0, hx0⟩ := HW0.out
  have hq : ((B x0).toList == [112, 111, 108, 105, 99, 121]) = true := by
    rw [eq_lit]
    have h := hw
    rw [hx0, List.headD_cons] at h
    exact (by rw [h]; rfl)
  have HX0 := Lib.hid hx0
  have hze : ((rn : Int) == 0) = s.rules.isEmpty := by rw [hrn]; cases s.rules <;> simp <;> omega
  generalize takeP s line = tk at HTK ⊢
  generalize Lib.trimSuffix line [10] = inner at HCS HSP
  generalize Lib.hasSuffix line [10] = en at HCS HTK
  generalize B inner = ins at HCS HSP
  generalize B line = ls at HCS ⊢
  generalize s.rules.isEmpty = re at HTK hze
  clear hb hop hor hra hpl hrl hfr hB hE hl hw hrn htl hx0 HW0
  go_enter Tryz.func31, Tryz.ntmps31
  go_wp2_with fail
  refine (HCS _).out.mono ?_
  rintro e w1 ⟨rfl, rfl⟩
  go_wp2_with fail
  refine (HSP _ HE.out.max).out.mono ?_
  rintro e w1 ⟨wa, wn, wc, rfl, hes, hb1, -⟩
  have HB1 := Lib.hid hb1
  have HES := Lib.hid hes
  obtain ⟨wb, wo, q0, hwa, hwn⟩ : ∃ wb wo, w1.cell? ⟨wb, wo, none⟩ = some (.string (B x0)) ∧ wa = some ⟨wb, wo, none⟩ ∧ 0 < wn := by
    have h := hes
    rw [HX0.out] at h
    obtain ⟨a, c, e, _, hat⟩ := h.at
    injection e with e1 e2 e3
    subst e1
    obtain ⟨b, o, rfl, hcs⟩ := hat (by simp)
    exact ⟨b, o, hcs 0 x0 rfl, rfl, by rw [e2]; simp⟩
  subst hwa
  have hwn0 : (0 : Int) < (wn : Int) := by omega
  have HRD := Lib.hid (readPolicy_any (.slice (some ⟨wb, wo, none⟩) wn wc) (wordsP line) w1 (HE.out.below hb1) hes HWF.out.1 HWF.out.2.1)
  obtain ⟨gd, hgd⟩ : ∃ gd, (polW (wordsP line)).isSome = gd := ⟨_, rfl⟩
  rw [hgd] at HRD HTK
  generalize B x0 = x0s at q0 hq
  clear hes hb1 HCS HSP hwn hgd
  go_wp2_with fail
  refine HRD.out.mono ?_
  rintro e w2 ⟨p, rfl, hp, hb2⟩
  have HB2 : Hid (Below w.heap.size w w2) := below_step HB1.out (Nat.le_refl _) hb2
  have HPP := Lib.hid hp
  obtain ⟨px, i1, i2, i3, i4⟩ := p
  simp only [polV, strV]
  go_wp2_with fail
  obtain ⟨pb, hpb⟩ : ∃ pb, w2.heap.size = pb := ⟨_, rfl⟩
  obtain ⟨w3, hw3⟩ : ∃ w3, w2.alloc (.cells #[.string (B px), .int .i64 i1, .int .i64 i2, .int .i64 i3, .int .i64 i4] polT) = w3 := ⟨_, rfl⟩
  have hb3 : Below w2.heap.size w2 w3 := by rw [← hw3]; exact (Below.refl _ w2).alloc (Nat.le_refl _) _
  have k3 : Blk w3 pb polT #[.string (B px), .int .i64 i1, .int .i64 i2, .int .i64 i3, .int .i64 i4] := by rw [← hw3, ← hpb]; exact Blk.new w2 _ _
  have HB3 : Hid (Below w.heap.size w w3) := below_step HB2.out (Nat.le_refl _) hb3
  have hbs : Bs ≤ w3.heap.size := Nat.le_trans HS0.out.2.2.2.2.2.2 HB3.out.size
  have HPU := Lib.hid (pushP_any pa pn pc s.pols px i1 i2 i3 i4 4 Bs w3.drew (by decide) hbs (own_below (own_below HS0.out.2.1 HB3.out) (below_dr0 w3)) (by have h1 := HS0.out.2.2.2.2.1; have h2 := HS0.out.2.2.2.2.2.1; omega))
  have HS3 : Hid (Blk w3 sb setT #[.slice pa pn pc, .slice ra rn rc] ∧ OwnP w3 Bs (.slice pa pn pc) s.pols ∧ OwnR w3 Bs (.slice ra rn rc) raws ∧ RawsAre w3 raws s.rules) := ⟨HS0.out.1.below HB3.out HS0.out.1.lt, own_below HS0.out.2.1 HB3.out, own_below HS0.out.2.2.1 HB3.out, HS0.out.2.2.2.1.keep (KpM.below HB3.out)⟩
  rw [hpb, hw3]
  have a0 : w3.cell? ⟨sb, 0, none⟩ = some (.slice pa pn pc) := (HS3.out.1.cl 0 _ rfl).1
  have a1 : w3.cell? ⟨sb, 1, none⟩ = some (.slice ra rn rc) := (HS3.out.1.cl 1 _ rfl).1
  have b0 : w3.cell? ⟨pb, 0, none⟩ = some (.string (B px)) := (k3.cl 0 _ rfl).1
  have b1 : w3.cell? ⟨pb, 1, none⟩ = some (.int .i64 i1) := (k3.cl 1 _ rfl).1
  have b2 : w3.cell? ⟨pb, 2, none⟩ = some (.int .i64 i2) := (k3.cl 2 _ rfl).1
  have b3 : w3.cell? ⟨pb, 3, none⟩ = some (.int .i64 i3) := (k3.cl 3 _ rfl).1
  have b4 : w3.cell? ⟨pb, 4, none⟩ = some (.int .i64 i4) := (k3.cl 4 _ rfl).1
  have HKEEP : Hid (∀ w' : World, w'.heap[pb]? = w3.heap[pb]? → w'.cell? ⟨pb, 0, none⟩ = some (.string (B px)) ∧ w'.cell? ⟨pb, 1, none⟩ = some (.int .i64 i1) ∧ w'.cell? ⟨pb, 2, none⟩ = some (.int .i64 i2) ∧ w'.cell? ⟨pb, 3, none⟩ = some (.int .i64 i3) ∧ w'.cell? ⟨pb, 4, none⟩ = some (.int .i64 i4)) := fun w' h2 => ⟨cell_k h2 b0, cell_k h2 b1, cell_k h2 b2, cell_k h2 b3, cell_k h2 b4⟩
  have hsp : sb ≠ pb := HS3.out.1.apart k3 (by decide)
  have hlt3 : pb < w3.heap.size := k3.lt
  have hne : Value.ownBlock (.slice pa pn pc) ≠ some pb := fun e => by
    have h1 := (World.ownsRow.lt HS0.out.2.1 _ e).2
    have h2 := HB2.out.size
    omega
  have HK3 := Lib.hid k3
  clear hbs k3 hpb hw3 hb2 hp HRD
  refine wp_region_held_drew (S := (fun w' => w'.cell? ⟨pb, 0, none⟩ = some (.string (B px)) ∧ w'.cell? ⟨pb, 1, none⟩ = some (.int .i64 i1) ∧ w'.cell? ⟨pb, 2, none⟩ = some (.int .i64 i2) ∧ w'.cell? ⟨pb, 3, none⟩ = some (.int .i64 i3) ∧ w'.cell? ⟨pb, 4, none⟩ = some (.int .i64 i4))) (by kernel_rfl) (HKEEP.out _ rfl) (fun hHeld => ?_)
  refine take_d (i := 0) (d := 28) (v := .pointer (some ⟨sb, 0, none⟩)) rfl rfl (by kernel_rfl) (by kernel_rfl) (by kernel_rfl) (fun _ _ _ h => h) (Or.inl ⟨by kernel_rfl, ?_⟩) (by assumption) ?_
  · intro wS hSw
    obtain ⟨hS0, hS1, hS2, hS3, hS4⟩ := hSw
    go_simp
  simp only [Act.put, List.setIfInBounds_toArray, List.set_cons_zero, List.set_cons_succ]
  refine take_d (i := 1) (d := 29) (v := .pointer (some ⟨sb, 0, none⟩)) rfl rfl (by kernel_rfl) (by kernel_rfl) (by kernel_rfl) (fun _ _ _ h => h) (Or.inl ⟨by kernel_rfl, ?_⟩) (by assumption) ?_
  · intro wS hSw
    obtain ⟨hS0, hS1, hS2, hS3, hS4⟩ := hSw
    go_simp
  simp only [Act.put, List.setIfInBounds_toArray, List.set_cons_zero, List.set_cons_succ]
  refine take_d (i := 2) (d := 30) (v := .pointer (some ⟨sb, 0, none⟩)) rfl rfl (by kernel_rfl) (by kernel_rfl) (by kernel_rfl) (fun _ _ _ h => h) (Or.inl ⟨by kernel_rfl, ?_⟩) (by assumption) ?_
  · intro wS hSw
    obtain ⟨hS0, hS1, hS2, hS3, hS4⟩ := hSw
    go_simp
  simp only [Act.put, List.setIfInBounds_toArray, List.set_cons_zero, List.set_cons_succ]
  refine take_d (i := 3) (d := 31) (v := .pointer (some ⟨sb, 0, none⟩)) rfl rfl (by kernel_rfl) (by kernel_rfl) (by kernel_rfl) (fun _ _ _ h => h) (Or.inl ⟨by kernel_rfl, ?_⟩) (by assumption) ?_
  · intro wS hSw
    obtain ⟨hS0, hS1, hS2, hS3, hS4⟩ := hSw
    go_simp
  simp only [Act.put, List.setIfInBounds_toArray, List.set_cons_zero, List.set_cons_succ]
  refine take_d (i := 5) (d := 33) (v := .agg #[.string (B px), .int .i64 i1, .int .i64 i2, .int .i64 i3, .int .i64 i4]) rfl rfl (by kernel_rfl) (by kernel_rfl) (by kernel_rfl) (fun _ _ _ h => h) (Or.inl ⟨by kernel_rfl, ?_⟩) (by assumption) ?_
  · intro wS hSw
    obtain ⟨hS0, hS1, hS2, hS3, hS4⟩ := hSw
    go_simp
  simp only [Act.put, List.setIfInBounds_toArray, List.set_cons_zero, List.set_cons_succ]
  refine wpAnyH_ready (rs := [4]) (by kernel_rfl) (by simp) ?_
  refine AllReadyH.cons rfl (fun K hK => ?_) ?_
  · go_simp
    refine hK.out _ _ ?_ (fun hHeld => ?_)
    · exact HKEEP.out _ rfl
    clear hK K
    refine wpAnyH_ready (rs := [6]) (by kernel_rfl) (by simp) ?_
    refine AllReadyH.cons rfl (fun K hK => ?_) ?_
    · go_simp
      go_wp2_with (go_at_call 65; refine HPU.out.mono ?_; rintro e w4 ⟨a', n', c', rfl, ho4, hp4, hsz4, hbk4⟩)
      have hs4 : Blk w4 sb setT #[.slice pa pn pc, .slice ra rn rc] := hp4.2.2 sb _ _ HS3.out.1 (by decide)
      have HK4 : Hid (Blk w4 sb setT #[.slice pa pn pc, .slice ra rn rc] ∧ OwnP w4 Bs (.slice a' n' c') (push s.pols (⟨px, i1, i2, i3, i4⟩ : Pol) 4) ∧ OwnR w4 Bs (.slice ra rn rc) raws ∧ RawsAre w4 raws s.rules) := ⟨hs4, ho4, own_stays (own_below HS3.out.2.2.1 (below_dr0 w3)) (fun g cs hg => hp4.2.2 g _ cs hg (by decide)), (HS3.out.2.2.2.keep (KpM.below (below_dr0 w3))).keep (kp_push (.inl rfl) hp4)⟩
      have HF4 : Hid (TkF sb Bs w3.drew w4) := TkF.push (.inl rfl) hp4 hsz4
      have e0 : w4.cell? ⟨sb, 0, none⟩ = some (.slice pa pn pc) := (hs4.cl 0 _ rfl).1
      have e1 : w4.cell? ⟨sb, 1, none⟩ = some (.slice ra rn rc) := (hs4.cl 1 _ rfl).1
      have ef0 := Lib.frozen_of_heap hs4 0
      have ef1 := Lib.frozen_of_heap hs4 1
      have HPB4 : Hid (w4.heap[pb]? = w3.heap[pb]?) := hbk4 pb hlt3 hne
      clear ho4 hp4 hs4 hsz4 hbk4
      refine hK.out _ _ ?_ (fun hHeld => ?_)
      · exact HKEEP.out _ HPB4.out
      clear hK K
      refine take_d (i := 7) (d := 35) (v := .pointer (some ⟨sb, 0, none⟩)) rfl rfl (by kernel_rfl) (by kernel_rfl) (by kernel_rfl) (fun _ _ _ h => h) (Or.inl ⟨by kernel_rfl, ?_⟩) (by assumption) ?_
      · intro wS hSw
        obtain ⟨hS0, hS1, hS2, hS3, hS4⟩ := hSw
        go_simp
      simp only [Act.put, List.setIfInBounds_toArray, List.set_cons_zero, List.set_cons_succ]
      refine take_d (i := 8) (d := 36) (v := .pointer (some ⟨sb, 0, none⟩)) rfl rfl (by kernel_rfl) (by kernel_rfl) (by kernel_rfl) (fun _ _ _ h => h) (Or.inl ⟨by kernel_rfl, ?_⟩) (by assumption) ?_
      · intro wS hSw
        obtain ⟨hS0, hS1, hS2, hS3, hS4⟩ := hSw
        go_simp
      simp only [Act.put, List.setIfInBounds_toArray, List.set_cons_zero, List.set_cons_succ]
      refine wpAnyH_ready (rs := [9]) (by kernel_rfl) (by simp) ?_
      refine AllReadyH.cons rfl (fun K hK => ?_) ?_
      · go_simp
        refine hK.out _ _ ?_ (fun hHeld => ?_)
        · exact HKEEP.out _ ((heap_set hsp).trans HPB4.out)
        clear hK K
        refine wpAnyH_done (by kernel_rfl) ?_ _
        have HFR : Hid (TkF sb Bs w (w4.setCell ⟨sb, 0, none⟩ (.slice a' n' c'))) := (((TkF.below HS0.out.2.2.2.2.2.2 HB3.out).trans (TkF.below (Nat.le_trans HS0.out.2.2.2.2.2.2 HB3.out.size) (below_dr0 w3))).trans HF4.out).trans (TkF.set 0 _)
        have hset : Blk (w4.setCell ⟨sb, 0, none⟩ (.slice a' n' c')) sb setT #[.slice a' n' c', .slice ra rn rc] := HK4.out.1.set 0 _
        have HFIN : Hid (∀ s', tk = some s' → StA (w4.setCell ⟨sb, 0, none⟩ (.slice a' n' c')) sb Bs s') := fun s' h => by
          obtain ⟨r, hr, rfl⟩ := HTK.out.2 s' h
          have hr' := HPP.out r hr
          subst hr'
          exact ⟨_, _, _, _, _, _, raws, hset, own_set HK4.out.2.1 HK4.out.1 (by decide) _, own_set HK4.out.2.2.1 HK4.out.1 (by decide) _, HK4.out.2.2.2.keep (kp_sets HK4.out.1 _), push_len (m := 4) HS0.out.2.2.2.2.1, HS0.out.2.2.2.2.2.1, HFR0.out.1⟩
        clear hset
        cases en <;> cases gd
        all_goals
          go_wp2
          go_ret
          exact ⟨by rw [HTK.out.1]; rfl, HFIN.out, HFR.out⟩
      exact AllReadyH.nil
    exact AllReadyH.nil
  exact AllReadyH.nil
end Ru
end Go.Proofs.YtiahelekgjdjlaaGreatDoor
