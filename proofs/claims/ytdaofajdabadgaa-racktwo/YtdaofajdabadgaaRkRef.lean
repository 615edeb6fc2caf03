
/- The document's lists of entries: Find, Put. -/
import Derived.Test.YtdaofajdabadgaaRkCmp
import Derived.Test.YtdaofajdabadgaaRkMath2
import Derived.Test.YtdaofajdabadgaaRefTexts
import Derived.Test.YtdaofajdabadgaaVec
namespace Go.Proofs.Ytdaofajdabadgaa
open Go.RowKit
namespace Rk
abbrev Ent := ByteArray × Int
def encE (x : Ent) : List Value := [.string x.1, .int .i64 x.2]
theorem infoE : (Try.prog.info? 38).map (fun i => (i.zero, i.size, i.bytes)) = some (some (.agg #[.string ⟨#[]⟩, .int .i64 0]), 2, 24) := by kernel_rfl
set_option maxRecDepth 100000 in
theorem layE : Vec.Lay Try.prog 27 38 2 encE where
  und := Try.underlying27
  len _ := rfl
  one x u hu := by simp [encE] at hu; rcases hu with rfl | rfl <;> rfl
  pos := by decide
  info := by
    obtain ⟨i0, hi, hz0, hz1, hz2⟩ := info_parts infoE
    exact ⟨i0, _, hi, hz0, hz1, by omega, rfl⟩
  size w := by
    have z1 := Try.sizeOf38
    rw [Vec.elem_of Try.underlying27, z1]
  none' w ty b n cap a c h := by
    have z1 := Try.sizeOf38
    unfold Builtin.append_
    cases a <;> cases b <;> simp [go_sem, z1, Builtin.lenOf, Builtin.firstCells, h]
abbrev EsE (W : World) (x : Value) (l : List Ent) : Prop := Vec.Es 38 encE W x l
abbrev OwnE (W : World) (B : Nat) (v : Value) (l : List Ent) : Prop := Vec.Own 38 2 encE W B v l
/-- all keys are texts that may be -/
def Fit (l : List Ent) : Prop := l.length ≤ 1000 ∧ ∀ x ∈ l, x.1.size ≤ maxLen
section
variable {key : ByteArray}
theorem rk_has : ∀ l : List Ent, (getL cS key l).isSome = (decide (rkL cS key l < l.length) && (match l[rkL cS key l]? with | some x => x.1.toList == key.toList | none => false))
  | [] => rfl
  | x :: l => by
    have ih := rk_has l
    have hn := odS.neg key x.1
    by_cases h1 : cS key x.1 < 0
    · have g0 : getL cS key (x :: l) = none := by rw [getL, if_pos h1]
      have e0 : rkL cS key (x :: l) = 0 := by rw [rkL, if_neg (by have := hn.1 h1; omega)]
      have hne : (x.1.toList == key.toList) = false := beq_eq_false_iff_ne.2 fun e => by
        rw [bytes_l, bytes_l] at e
        have := Tg.nm_inj e
        subst this
        have := odS.self x.1
        omega
      rw [g0, e0]
      simp [hne]
    · by_cases h2 : 0 < cS key x.1
      · have g0 : getL cS key (x :: l) = getL cS key l := by rw [getL, if_neg h1, if_pos h2]
        have e0 : rkL cS key (x :: l) = rkL cS key l + 1 := by rw [rkL, if_pos ((odS.neg _ _).2 h2), Nat.add_comm]
        rw [g0, e0, ih]
        simp
      · have h0 : cS key x.1 = 0 := by omega
        have g0 : getL cS key (x :: l) = some x.2 := by rw [getL, if_neg h1, if_neg h2]
        have e0 : rkL cS key (x :: l) = 0 := by rw [rkL, if_neg (by have := odS.zero h0; omega)]
        have e := odS.eq _ _ h0
        rw [g0, e0]
        simp [e]
/-- the three ways in which a key stands to the first entry -/
theorem three (x : Ent) (l : List Ent) (v : Int) :
    (getL cS key (x :: l) = none ∧ rkL cS key (x :: l) = 0 ∧ insL cS key v (x :: l) = (key, v) :: x :: l ∧ delL cS key (x :: l) = x :: l) ∨
    (getL cS key (x :: l) = getL cS key l ∧ rkL cS key (x :: l) = rkL cS key l + 1 ∧ insL cS key v (x :: l) = x :: insL cS key v l ∧ delL cS key (x :: l) = x :: delL cS key l) ∨
    (getL cS key (x :: l) = some x.2 ∧ rkL cS key (x :: l) = 0 ∧ insL cS key v (x :: l) = (key, v) :: l ∧ delL cS key (x :: l) = l) := by
  have hn := odS.neg key x.1
  by_cases h1 : cS key x.1 < 0
  · exact .inl ⟨by rw [getL, if_pos h1], by rw [rkL, if_neg (by have := hn.1 h1; omega)], by rw [insL, if_pos h1], by rw [delL, if_pos h1]⟩
  · by_cases h2 : 0 < cS key x.1
    · exact .inr (.inl ⟨by rw [getL, if_neg h1, if_pos h2], by rw [rkL, if_pos ((odS.neg _ _).2 h2), Nat.add_comm], by rw [insL, if_neg h1, if_pos h2], by rw [delL, if_neg h1, if_pos h2]⟩)
    · have h0 : cS key x.1 = 0 := by omega
      have e := odS.eq _ _ h0
      exact .inr (.inr ⟨by rw [getL, if_neg h1, if_neg h2], by rw [rkL, if_neg (by have := odS.zero h0; omega)], by rw [insL, if_neg h1, if_neg h2, e], by rw [delL, if_neg h1, if_neg h2]⟩)
theorem insL_cut (v : Int) : ∀ l : List Ent, insL cS key v l = l.take (rkL cS key l) ++ [(key, v)] ++ l.drop (if (getL cS key l).isSome then rkL cS key l + 1 else rkL cS key l)
  | [] => rfl
  | x :: l => by
    have ih := insL_cut v l
    rcases three (key := key) x l v with ⟨h1, h2, h3, _⟩ | ⟨h1, h2, h3, _⟩ | ⟨h1, h2, h3, _⟩
    · rw [h1, h2, h3]; rfl
    · rw [h1, h2, h3, ih]
      split <;> simp
    · rw [h1, h2, h3]; rfl
theorem delL_cut : ∀ l : List Ent, delL cS key l = if (getL cS key l).isSome then l.take (rkL cS key l) ++ l.drop (rkL cS key l + 1) else l
  | [] => rfl
  | x :: l => by
    have ih := delL_cut l
    rcases three (key := key) x l 0 with ⟨h1, h2, _, h3⟩ | ⟨h1, h2, _, h3⟩ | ⟨h1, h2, _, h3⟩
    · rw [h1, h2, h3]; rfl
    · rw [h1, h2, h3, ih]
      split <;> simp
    · rw [h1, h2, h3]; rfl
theorem has_lt {l : List Ent} (h : (getL cS key l).isSome = true) : rkL cS key l < l.length := by
  rw [rk_has] at h
  simp only [Bool.and_eq_true, decide_eq_true_eq] at h
  exact h.1
end
set_option maxRecDepth 100000 in
set_option maxHeartbeats 4000000 in
theorem find_any (a : Option Addr) (n c : Nat) (l : List Ent) (key : ByteArray) (w : World) (hl : Fit l) (hk : key.size ≤ maxLen) (h : EsE w (.slice a n c) l) :
    Calls Try.prog 11 #[.slice a n c, .string key] w fun e w' => e = .returned (.tuple #[.int .i64 ((rkL cS key l : Nat) : Int), .bool (getL cS key l).isSome]) ∧ Dr w w' := by
  obtain ⟨a', c', he, hc, hg⟩ := h.get layE.len
  injection he with e1 e2 e3
  subst e1 e3
  have HR := Lib.hid (rk_has (key := key) l)
  have HG := Lib.hid hg
  have HN := Lib.hid e2
  have HL := Lib.hid hl
  have hn : n ≤ 1000 := by rw [e2]; exact hl.1
  have hrl := rkL_le (c := cS) (k := key) l
  rw [← e2] at hrl
  have HRL := Lib.hid hrl
  clear hg h hl e2 hc hrl
  go_enter Try.func11, Try.ntmps11
  go_wp2
  go_loopw [6] (fun i wr => ∃ j : Nat, j ≤ n ∧ i = .int .i64 (j : Int) ∧ Hid (j + rkL cS key (l.drop j) = rkL cS key l) ∧ Dr w wr) (fun i _ => n - (intOf i).toNat)
  case atStart => exact ⟨0, Nat.zero_le _, rfl, Lib.hid (by simp), Dr.refl _⟩
  case round =>
    obtain ⟨j, hj, rfl, HJ, hdr⟩ := hrel
    by_cases hlt : j < n
    · have hlj : j < l.length := by have := HN.out; omega
      obtain ⟨b, o, rfl, hcell⟩ := HG.out (by omega)
      have c0 : wr.cell? ⟨b, o + j * 2, none⟩ = some (.string l[j].1) := (hdr.cell _).trans (hcell j hlj 0 _ (by decide) rfl)
      have HT := fun w1 => Lib.hid (refTexts_any l[j].1 key w1 (HL.out.2 _ (List.getElem_mem hlj)) hk)
      have hdrop : l.drop j = l[j] :: l.drop (j + 1) := List.drop_eq_getElem_cons hlj
      have hjo := HJ.out
      rw [hdrop, rkL] at hjo
      by_cases hc0 : cS l[j].1 key < 0
      · rw [if_pos hc0] at hjo
        have HNX : Hid (j + 1 + rkL cS key (l.drop (j + 1)) = rkL cS key l) := Lib.hid (by omega)
        unfold cS at hc0
        generalize Lib.compareBytes l[j].1.data.toList key.data.toList = cc at HT hc0
        generalize l[j].1 = kk at c0 HT
        have HDR := Lib.hid hdr
        clear hcell hdrop hjo hlj HJ hdr
        go_wp2_with fail
        refine (HT _).out.mono ?_
        rintro e w1 ⟨rfl, q, rfl⟩
        go_wp2
        go_roundw
        case rel => exact ⟨j + 1, by omega, by go_num, HNX, HDR.out.more q⟩
        case measure => simp [intOf]; omega
      · rw [if_neg hc0] at hjo
        have hj2 : rkL cS key l = j := by omega
        have hr := HR.out
        rw [hj2, List.getElem?_eq_getElem hlj, decide_eq_true hlj] at hr
        simp only [Bool.true_and] at hr
        have HRR := Lib.hid hr
        have HJ2 := Lib.hid hj2
        unfold cS at hc0
        generalize Lib.compareBytes l[j].1.data.toList key.data.toList = cc at HT hc0
        generalize l[j].1 = kk at c0 HT HRR
        have HDR := Lib.hid hdr
        clear hcell hdrop hjo hlj HJ hdr HR hr hj2 HRL
        go_wp2_with fail
        refine (HT _).out.mono ?_
        rintro e w1 ⟨rfl, q, rfl⟩
        have c1 : (wr.drewN q).cell? ⟨b, o + j * 2, none⟩ = some (.string kk) := c0
        obtain ⟨W2, hW2⟩ : ∃ W2, wr.drewN q = W2 := ⟨_, rfl⟩
        have HD2 : Hid (Dr w W2) := by rw [← hW2]; exact HDR.out.more q
        rw [hW2] at c1 ⊢
        clear hW2 HDR HT c0
        go_wp2
        go_quiet (fail)
        go_wp2
        go_ret2
        exact ⟨by rw [HRR.out, HJ2.out]; simp, HD2.out.more _⟩
    · obtain rfl : j = n := by omega
      have hjo := HJ.out
      have hnl := HN.out
      rw [List.drop_eq_nil_of_le (by omega), rkL, Nat.add_zero] at hjo
      have hr := HR.out
      rw [← hjo, ← hnl, decide_eq_false (Nat.lt_irrefl _), Bool.false_and] at hr
      have HRR := Lib.hid hr
      have HJ2 := Lib.hid hjo
      have HDR := Lib.hid hdr
      have hdf : decide ((j : Int) < (j : Int)) = false := decide_eq_false (by omega)
      clear hjo hr HR HRL HJ hdr HG hnl HN hlt
      go_wp2
      go_quiet (fail)
      go_wp2
      go_ret2
      exact ⟨by rw [HRR.out, ← HJ2.out]; simp, HDR.out.more _⟩
end Rk
end Go.Proofs.Ytdaofajdabadgaa
