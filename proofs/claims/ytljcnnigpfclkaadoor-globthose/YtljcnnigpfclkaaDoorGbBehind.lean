
/- What package glob's behind answers: the places that a token leads to. -/
import Derived.Test.YtljcnnigpfclkaaDoorGbStands
import Derived.Test.YtljcnnigpfclkaaDoorGbMarks
namespace Go.Proofs.YtljcnnigpfclkaaDoor
open Go.RowKit Go.Shelf
open Dp
attribute [local go_sem] Oper.semAt_some
namespace Gb
/-! ### Plain -/
/-- what is reached of the first k places -/
def Up (t s : List UInt8) (f h : Nat → Bool) (k : Nat) : Prop := ∀ j, j ≤ s.length → (h j = true ↔ ∃ i, i < k ∧ f i = true ∧ ∃ m ∈ szs t (s.drop i), i + m = j)
theorem up_zero (t s : List UInt8) (f : Nat → Bool) : Up t s f (fun _ => false) 0 := fun j _ => by
  constructor
  · intro h; cases h
  · rintro ⟨i, hi, _⟩; omega
theorem up_skip {t s : List UInt8} {f h : Nat → Bool} {k : Nat} (hu : Up t s f h k) (hf : f k = false) : Up t s f h (k + 1) := fun j hj => by
  rw [hu j hj]
  constructor
  · rintro ⟨i, hi, x⟩; exact ⟨i, by omega, x⟩
  · rintro ⟨i, hi, hfi, x⟩
    rcases Nat.lt_or_ge i k with hlt | hge
    · exact ⟨i, hlt, hfi, x⟩
    · obtain rfl : i = k := by omega
      rw [hf] at hfi; cases hfi
theorem up_more {t s : List UInt8} {f h h' : Nat → Bool} {k : Nat} (hu : Up t s f h k) (hf : f k = true) (hh : ∀ j, j ≤ s.length → (h' j = true ↔ h j = true ∨ ∃ m ∈ szs t (s.drop k), k + m = j)) : Up t s f h' (k + 1) := fun j hj => by
  rw [hh j hj, hu j hj]
  constructor
  · rintro (⟨i, hi, x⟩ | ⟨m, hm, e⟩)
    · exact ⟨i, by omega, x⟩
    · exact ⟨k, by omega, hf, m, hm, e⟩
  · rintro ⟨i, hi, hfi, m, hm, e⟩
    rcases Nat.lt_or_ge i k with hlt | hge
    · exact .inl ⟨i, hlt, hfi, m, hm, e⟩
    · obtain rfl : i = k := by omega
      exact .inr ⟨m, hm, e⟩
theorem up_all {t s : List UInt8} {f h : Nat → Bool} (hu : Up t s f h (s.length + 1)) : Fwd t s f h := fun j hj => by
  rw [hu j hj]
  constructor
  · rintro ⟨i, hi, x⟩; exact ⟨i, by omega, x⟩
  · rintro ⟨i, hi, x⟩; exact ⟨i, by omega, x⟩
theorem up_star {s : List UInt8} {f h : Nat → Bool} {k : Nat} (hu : Up [42] s f h (k + 1)) (hf : f k = true) (hk : k ≤ s.length) : Fwd [42] s f h := fun j hj => by
  rw [hu j hj]
  constructor
  · rintro ⟨i, hi, x⟩; exact ⟨i, by omega, x⟩
  · rintro ⟨i, hi, hfi, m, hm, e⟩
    rcases Nat.lt_or_ge i (k + 1) with hlt | hge
    · exact ⟨i, hlt, hfi, m, hm, e⟩
    · refine ⟨k, by omega, hf, j - k, ?_, by omega⟩
      rw [szs_star, List.mem_range, List.length_drop]
      omega
theorem setm {k x : Nat} {h g : Nat → Bool} {L : Nat} {pre : List Nat} (hh : ∀ j, j ≤ L → (g j = true ↔ h j = true ∨ ∃ m ∈ pre, k + m = j)) : ∀ j, j ≤ L → ((fun j => if j = k + x then true else g j) j = true ↔ h j = true ∨ ∃ m ∈ pre ++ [x], k + m = j) := fun j hj => by
  show (if j = k + x then true else g j) = true ↔ _
  by_cases e : j = k + x
  · rw [if_pos e]
    exact ⟨fun _ => .inr ⟨x, by simp, e.symm⟩, fun _ => rfl⟩
  · rw [if_neg e, hh j hj]
    constructor
    · rintro (y | ⟨m, hm, em⟩)
      · exact .inl y
      · exact .inr ⟨m, by simp [hm], em⟩
    · rintro (y | ⟨m, hm, em⟩)
      · exact .inl y
      · rcases List.mem_append.1 hm with hm | hm
        · exact .inr ⟨m, hm, em⟩
        · rw [List.mem_singleton.1 hm] at em
          exact absurd em.symm e
/-! ### What holds -/
/-- the places that are reached so far lie in block nb; bx tells which; the blocks Ds are marks' -/
structure BhI (w w1 : World) (nb bx n : Nat) (h : Nat → Bool) (Ds : List Nat) (V : World) : Prop where
  next : BAt V nb h n
  box : Blk V bx 40 #[.slice (some ⟨nb, 0, none⟩) n n]
  below : Below w.heap.size w V
  keep : KpS w1 V
  marks : Marks w.heap.size Ds V
section
variable {w w1 : World} {nb bx n : Nat} {h : Nat → Bool} {Ds : List Nat} {V V' : World}
theorem BhI.step (hI : BhI w w1 nb bx n h Ds V) (hb : Below V.heap.size V V') : BhI w w1 nb bx n h Ds V' :=
  ⟨Blk.below hI.next hb (Blk.lt hI.next), hI.box.below hb hI.box.lt, below_step hI.below (Nat.le_refl _) hb, hI.keep.trans (KpS.below hb), hI.marks.below hb⟩
theorem BhI.set (hI : BhI w w1 nb bx n h Ds V) (hnb : w.heap.size ≤ nb) (hne : nb ≠ bx) (i : Nat) : BhI w w1 nb bx n (fun j => if j = i then true else h j) Ds (V.setCell ⟨nb, i, none⟩ (.bool true)) :=
  ⟨hI.next.set i true, hI.box.other hne _, hI.below.setCell (p := ⟨nb, i, none⟩) hnb _, hI.keep.trans ⟨Rk.Keeps.set hI.next (by decide) i _, Rk.Keeps.set hI.next (by decide) i _⟩, hI.marks.set hI.next i _⟩
theorem BhI.grown {B : Nat} {row : Option Nat} (hI : BhI w w1 nb bx n h Ds V) (hD : ∀ D ∈ Ds, D < B) (hB : w.heap.size ≤ B) (hg : V.grownBy V' row) (hr : ∀ r, row = some r → B ≤ r ∧ ∃ o : Obj, V.heap[r]? = some o ∧ o.isCells = false) : BhI w w1 nb bx n h Ds V' := by
  have hf : Free V V' := ⟨row, hg, fun r e => (hr r e).2⟩
  exact ⟨hf.blk hI.next, hf.blk hI.box, below_free hI.below (Nat.le_refl _) hg (fun r e => Nat.le_trans hB (hr r e).1), hI.keep.trans (KpS.free hf), hI.marks.grown hg (fun r e hm => by have h1 := hD r hm; have h2 := (hr r e).1; omega)⟩
end
/-- within a range: of what the token may stand for at place k, rest is left -/
def BhR (t s : List UInt8) (w w1 : World) (nb bx bp n k : Nat) (h : Nat → Bool) (Ds : List Nat) (rest : List Nat) (V : World) : Prop :=
  ∃ pre h', szs t (s.drop k) = pre ++ rest ∧ (∀ j, j ≤ s.length → (h' j = true ↔ h j = true ∨ ∃ m ∈ pre, k + m = j)) ∧ BhI w w1 nb bx n h' Ds V ∧ Blk V bp 3 #[.int .i64 (k : Int)]
set_option maxRecDepth 100000 in
set_option maxHeartbeats 8000000 in
theorem behind_any (t s : List UInt8) (b n : Nat) (f : Nat → Bool) (hn : n = s.length + 1) (hs : s.length ≤ 1000) (ht : Tok t) (hl : t.length ≤ 40) (w : World) (hE : EnvC w) (hB : BAt w b f n) :
    Calls Tryd.prog 37 #[.string (B t), .string (B s), .slice (some ⟨b, 0, none⟩) n n] w fun e w' => ∃ b' g, e = .returned (.slice (some ⟨b', 0, none⟩) n n) ∧ BAt w' b' g n ∧ Fwd t s f g ∧ Below w.heap.size w w' := by
  have HMK := make_bools n (by omega)
  have HST := fun W hE => Lib.hid (stands_any t W hE ht hl)
  have hnb : n ≤ 1001 := by omega
  have hss : (B s).size + 1 = n := by rw [B_size]; omega
  have HSX : Hid (∀ k, k ≤ s.length → (B s).extract k (B s).size = B (s.drop k)) := fun k hk => by
    rw [Lib.extract_eq, B_size, List.take_of_length_le]
    simp
  have HQ := Lib.hid (eq_lit t [42])
  obtain ⟨tb, htb⟩ : ∃ tb, B t = tb := ⟨_, rfl⟩
  obtain ⟨sb, hsb⟩ : ∃ sb, B s = sb := ⟨_, rfl⟩
  rw [htb] at HST HQ ⊢
  rw [hsb] at hss HSX ⊢
  have HN := Lib.hid hn
  have HSS := Lib.hid hss
  have HB := Lib.hid hB
  -- the worlds ahead of the loop
  obtain ⟨nb, hnbE⟩ : ∃ nb, w.heap.size = nb := ⟨_, rfl⟩
  obtain ⟨bx, hbx⟩ : ∃ bx, w.heap.size + 1 = bx := ⟨_, rfl⟩
  obtain ⟨W1, hW1⟩ : ∃ W1, (w.alloc (.cells (boolsA (fun _ => false) n) 4)).alloc (.cells #[.slice (some ⟨w.heap.size, 0, none⟩) n n] 40) = W1 := ⟨_, rfl⟩
  have hbW1 : Below w.heap.size w W1 := by rw [← hW1]; exact ((Below.refl _ w).alloc (Nat.le_refl _) _).alloc (by simp) _
  have k1 : BAt W1 nb (fun _ => false) n := by rw [← hW1, ← hnbE]; exact (Blk.new w _ _).alloc _
  have k2 : Blk W1 bx 40 #[.slice (some ⟨nb, 0, none⟩) n n] := by
    have := Blk.new (w.alloc (.cells (boolsA (fun _ => false) n) 4)) 40 #[.slice (some ⟨w.heap.size, 0, none⟩) n n]
    rw [World.size_alloc, hbx, hW1, hnbE] at this
    exact this
  have HW1 : Hid (Below w.heap.size w W1 ∧ BAt W1 nb (fun _ => false) n ∧ Blk W1 bx 40 #[.slice (some ⟨nb, 0, none⟩) n n] ∧ EnvC W1) := ⟨hbW1, k1, k2, hE.below hbW1⟩
  have HNB : Hid (w.heap.size ≤ nb ∧ nb ≠ bx ∧ b < w.heap.size) := ⟨by omega, by omega, Blk.lt hB⟩
  have HW1E := Lib.hid hW1
  have HNE := Lib.hid hnbE
  have HBX := Lib.hid hbx
  clear hE hn htb hsb hl ht hss hB hbW1 k1 k2 hW1 hnbE hbx
  refine (callsIn_wide (n := 3)).1 ?_
  refine callsIn_of_wp_marks Tryd.func37 rfl trivial ?_ rfl
  simp only [Tryd.ntmps37, List.size_toArray, List.length_cons, List.length_nil, Nat.reduceAdd, Nat.reduceSub, Array.replicate_succ, Array.replicate_zero, List.push_toArray, List.append_toArray, List.nil_append, List.cons_append]
  gi_wp2_with fail
  rw [HW1E.out, HBX.out, HNE.out]
  refine ⟨trivial, ?_⟩
  refine (callsIn_wide.2 (HST _ HW1.out.2.2.2).out).mono ?_
  rintro e w1 ⟨gg, lb, rfl, hsz, hb⟩
  obtain ⟨g, lb', hgl, eg, hsz⟩ := hsz
  injection hgl with hg1 hg2 hg3
  subst hg1
  obtain rfl := hg3
  clear hg2
  have HSZ := Lib.hid hsz
  have HI0 : Hid (BhI w w1 nb bx n (fun _ => false) [] w1) := ⟨Blk.below HW1.out.2.1 hb (Blk.lt HW1.out.2.1), HW1.out.2.2.1.below hb HW1.out.2.2.1.lt, below_step HW1.out.1 (Nat.le_refl _) hb, KpS.refl _, Marks.nil _ _⟩
  clear hsz hb HW1 HW1E HST HMK
  gi_wp2
  refine wpIn_loop (fun a wr => ∃ u9 u10 u11 u19 u20 u21 u22 u23 u24 u25 u26 u27 u28 u29 u30 u31 u32 u33 u34 u35 u36 u37 u38 u39 Ds, a = { tmps := #[.string tb, .string sb, .slice (some ⟨b, 0, none⟩) n n, undef, undef, undef, .slice none 0 0, .pointer (some ⟨bx, 0, none⟩), .func (.func g) #[] lb, u9, u10, u11, .slice (some ⟨b, 0, none⟩) n n, .int .i64 (n : Int), .slice (some ⟨nb, 0, none⟩) n n, .string tb, .func (.func g) #[] lb, .slice (some ⟨b, 0, none⟩) n n, .int .i64 (n : Int), u19, u20, u21, u22, u23, u24, u25, u26, u27, u28, u29, u30, u31, u32, u33, u34, u35, u36, u37, u38, u39, undef], defers := Ds.map mark } ∧
    ∃ k h, k ≤ n ∧ u19 = Value.int .i64 ((k : Nat) : Int) ∧ Hid (Up t s f h k ∧ BhI w w1 nb bx n h Ds wr)) (fun a _ => n - (intOf (a.tmps.getD 19 undef)).toNat) ?start ?round
  case start => exact ⟨_, _, _, _, _, _, _, _, _, _, _, _, _, _, _, _, _, _, _, _, _, _, _, _, [], rfl, 0, _, Nat.zero_le _, rfl, up_zero _ _ _, HI0.out⟩
  case round =>
    clear HI0
    rintro _ wr ⟨u9, u10, u11, u19, u20, u21, u22, u23, u24, u25, u26, u27, u28, u29, u30, u31, u32, u33, u34, u35, u36, u37, u38, u39, Ds, rfl, k, h, hk, rfl, HR⟩
    obtain ⟨ds, hds⟩ : ∃ ds, Ds.map mark = ds := ⟨_, rfl⟩
    have HDS := Lib.hid hds
    rw [hds]
    clear hds
    by_cases hlt : k < n
    · have cp : wr.cell? ⟨b, k, none⟩ = some (.bool (f k)) := (HR.out.2.below.cell (p := ⟨b, k, none⟩) HNB.out.2.2).trans (HB.out.get hlt)
      obtain ⟨fk, hfk⟩ : ∃ fk, f k = fk := ⟨_, rfl⟩
      rw [hfk] at cp
      have HFK := Lib.hid hfk
      obtain ⟨V, hV⟩ : ∃ V, wr.alloc (.cells #[.int .i64 (k : Int)] 3) = V := ⟨_, rfl⟩
      have hbV : Below wr.heap.size wr V := by rw [← hV]; exact (Below.refl _ wr).alloc (Nat.le_refl _) _
      have HV : Hid (BhI w w1 nb bx n h Ds V) := HR.out.2.step hbV
      have HP : Hid (Blk V wr.heap.size 3 #[.int .i64 (k : Int)]) := by show Blk _ _ _ _; rw [← hV]; exact Blk.new wr _ _
      have HUP : Hid (Up t s f h k) := HR.out.1
      have cp' : V.cell? ⟨b, k, none⟩ = some (.bool fk) := (hbV.cell (p := ⟨b, k, none⟩) (lt_of_cell cp)).trans cp
      obtain ⟨bp, hbp⟩ : ∃ bp, wr.heap.size = bp := ⟨_, rfl⟩
      have HPE := Lib.hid hbp
      have HVE := Lib.hid hV
      rw [hbp] at HP
      clear hbp hV hbV HR hfk
      cases fk with
      | false =>
        have HN2 : Hid (Up t s f h (k + 1) ∧ BhI w w1 nb bx n h Ds V) := ⟨up_skip HUP.out HFK.out, HV.out⟩
        clear HV HUP HP HSZ
        gi_wp2
        rw [HVE.out]
        refine ⟨⟨_, _, _, _, _, _, _, _, _, _, _, _, _, _, _, _, _, _, _, _, _, _, _, _, Ds, congrArg (fun d => ({ tmps := _, defers := d } : Act)) HDS.out.symm, k + 1, h, hlt, by go_num, HN2⟩, ?_⟩
        simp [intOf]; omega
      | true =>
        have hks : k ≤ s.length := by have := HN.out; omega
        have hx := HSX.out k hks
        have ik : (k : Int) ≤ (sb.size : Int) := by have := HSS.out; omega
        obtain ⟨rb, hrb⟩ : ∃ rb, B (s.drop k) = rb := ⟨_, rfl⟩
        have HCL : Hid _ := Lib.hid (HSZ.out (s.drop k) V (by rw [List.length_drop]; omega) HV.out.keep)
        rw [hrb] at hx HCL
        have cV : V.cell? ⟨bp, 0, none⟩ = some (.int .i64 (k : Int)) := (HP.out.cl 0 _ rfl).1
        clear hrb
        gi_wp2_with fail
        rw [HVE.out, HPE.out]
        refine ⟨trivial, ?_⟩
        refine (callsIn_wide.2 HCL.out).mono ?_
        rintro e V2 ⟨g2, lb2, rfl, eg2, hb2, hseq⟩
        have HV2 := Lib.hid (HV.out.step hb2)
        have HP2 := Lib.hid (HP.out.below hb2 HP.out.lt)
        have hks2 := Lib.hid hks
        have hsz2 := hb2.size
        have HZ2 : Hid (w.heap.size ≤ V2.heap.size) := Lib.hid HV2.out.below.size
        clear hb2 HV HP HCL cV cp cp' hx ik hks hsz2 HVE
        gi_wp2_with fail
        refine wpIn_rangeR (by decide) (gf := g2) (lbf := lb2) rfl eg2 hseq (fun h k => h.trans k) (fun W k o o' hk hc _ => KpS.free (Free.put o' hk hc)) (Below.refl _ _) (fun _ => rfl)
          (fun _ => true) (BhR t s w w1 nb bx bp n k h Ds) (fun _ _ => False) ?own ?ownx ?first ?a1 ?assign ?body ?done ?stop
        case own =>
          rintro rest A A' row ⟨pre, h', e1, e2, e3, e4⟩ hg hr
          exact ⟨pre, h', e1, e2, e3.grown (fun D hD => HV2.out.marks.lt hD) HZ2.out hg hr, Free.blk ⟨row, hg, fun r e => (hr r e).2⟩ e4⟩
        case ownx => exact fun _ _ _ _ h _ _ => h
        case first =>
          exact ⟨[], h, rfl, fun j _ => ⟨fun x => .inl x, fun x => x.elim id (fun ⟨m, hm, _⟩ => by cases hm)⟩, HV2.out, HP2.out⟩
        case assign =>
          intro lp x V' K hK
          simp only [encK]
          gi_wp2
          exact hK
        case body =>
          rintro lp x rest V' ⟨pre, h', e1, e2, e3, e4⟩
          have hx : x ≤ s.length - k := by
            have := szs_le (t := t) (r := s.drop k) (k := x) (by rw [e1]; simp)
            rwa [List.length_drop] at this
          obtain ⟨m, hm⟩ : ∃ m, k + x = m := ⟨_, rfl⟩
          have hmn : m < n := by have := HN.out; have := hks2.out; omega
          have w1' : wrap64 ((k : Int) + (x : Int)) = (m : Int) := by rw [IntWalk.wrap64_in _ ⟨by omega, by omega⟩]; omega
          have imn : (m : Int) < (n : Int) := by omega
          have c1 : V'.cell? ⟨bp, 0, none⟩ = some (.int .i64 (k : Int)) := (e4.cl 0 _ rfl).1
          have c2 : V'.cell? ⟨bx, 0, none⟩ = some (.slice (some ⟨nb, 0, none⟩) n n) := (e3.box.cl 0 _ rfl).1
          have c3 := e3.next.get hmn
          have c4 := e3.next.free m
          have HFIN : Hid (KeepsOthers V' (V'.setCell ⟨nb, m, none⟩ (.bool true)) ∧ KpS V' (V'.setCell ⟨nb, m, none⟩ (.bool true)) ∧ BhR t s w w1 nb bx bp n k h Ds rest (V'.setCell ⟨nb, m, none⟩ (.bool true))) := by
            refine ⟨KeepsOthers.setCell _ _ _, ⟨Rk.Keeps.set e3.next (by decide) m _, Rk.Keeps.set e3.next (by decide) m _⟩, pre ++ [x], _, by rw [e1]; simp, ?_, e3.set HNB.out.1 HNB.out.2.1 m, e4.other (p := ⟨nb, m, none⟩) (Blk.apart (show Blk V' nb 4 _ from e3.next) e4 (by decide)) _⟩
            rw [← hm]
            exact setm e2
          clear e1 e2 e3 e4 hx hm
          gi_wp2
          exact ⟨HFIN.out.1, HFIN.out.2.1, rfl, HFIN.out.2.2⟩
        case done =>
          rintro D V' hD _ ⟨pre, h', e1, e2, e3, e4⟩ hK
          rw [List.append_nil] at e1
          have HU : Hid (Up t s f h' (k + 1)) := up_more HUP.out HFK.out (by rw [e1]; exact e2)
          have HDn : D ∉ Ds := fun hm => by have := HV2.out.marks.lt hm; omega
          have HM3 : Hid (BhI w w1 nb bx n h' (D :: Ds) V') := ⟨e3.next, e3.box, e3.below, e3.keep, e3.marks.cons (Nat.le_trans HZ2.out hD) hK HDn⟩
          have hcons : Hid (mark D :: ds = (D :: Ds).map mark) := by show _ = _; rw [List.map_cons, HDS.out]
          clear e1 e2 e3 e4 HUP HDn hK HV2 HP2
          obtain ⟨qs, hqs⟩ : ∃ qs, (tb.toList == [42]) = qs := ⟨_, rfl⟩
          have HQ2 : Hid (qs = (t == [42])) := by show _ = _; rw [← hqs]; exact HQ.out
          cases qs with
          | false =>
            gi_wp2
            refine ⟨⟨_, _, _, _, _, _, _, _, _, _, _, _, _, _, _, _, _, _, _, _, _, _, _, _, D :: Ds, congrArg (fun d => ({ tmps := _, defers := d } : Act)) hcons.out, k + 1, h', hlt, by go_num, HU.out, HM3.out⟩, ?_⟩
            simp [intOf]; omega
          | true =>
            have c2 : V'.cell? ⟨bx, 0, none⟩ = some (.slice (some ⟨nb, 0, none⟩) n n) := (HM3.out.box.cl 0 _ rfl).1
            have HFW : Hid (Fwd t s f h') := by
              have ht : t = [42] := eq_of_beq HQ2.out.symm
              have := HU.out
              rw [ht] at this
              show Fwd _ _ _ _
              rw [ht]
              exact up_star this HFK.out hks2.out
            gi_wp2
            show LeavesInM _ _ _ _ _ _ (mark D :: ds) _ _
            rw [hcons.out]
            exact leaves_marks (D :: Ds) V' HM3.out.marks fun W' hs => ⟨_, results_tmp rfl _ _ _, nb, h', rfl, hs.2 _ _ _ HM3.out.next, HFW.out, HM3.out.below.trans hs.1⟩
        case stop =>
          rintro D c V' _ _ h _
          exact h.elim
    · obtain rfl : k = n := by omega
      have c2 : wr.cell? ⟨bx, 0, none⟩ = some (.slice (some ⟨nb, 0, none⟩) k k) := (HR.out.2.box.cl 0 _ rfl).1
      have HFW : Hid (Fwd t s f h) := by
        have := HR.out.1
        rw [HN.out] at this
        exact up_all this
      gi_wp2
      show LeavesInM _ _ _ _ _ _ ds _ _
      rw [← HDS.out]
      exact leaves_marks Ds wr HR.out.2.marks fun W' hs => ⟨_, results_tmp rfl _ _ _, nb, h, rfl, hs.2 _ _ _ HR.out.2.next, HFW.out, HR.out.2.below.trans hs.1⟩
end Gb
end Go.Proofs.YtljcnnigpfclkaaDoor
