/- TagGets answers true for any series, name and number. -/
import Derived.Test.YtaoojglepihjeaaTgAll
import Derived.Test.YtaoojglepihjeaaTgAwake
namespace Go.Proofs.Ytaoojglepihjeaa
open Go.RowKit Go.Shelf
namespace Tg
/-- the value of the last label of a name -/
def lastV (name : ByteArray) (l : List Lab) : Option ByteArray := l.foldl (fun o x => if x.1.toList == name.toList then some x.2 else o) none
theorem lastV_snoc (name : ByteArray) (l : List Lab) (x : Lab) : lastV name (l ++ [x]) = if x.1.toList == name.toList then some x.2 else lastV name l := by simp [lastV]
theorem getV_none {name : ByteArray} : ∀ l : List Lab, (∀ x ∈ l, nm x ≠ name.data.toList) → getV name l = none
  | [], _ => rfl
  | y :: l, h => by
    have hy : (y.1.toList == name.toList) = false := beq_eq_false_iff_ne.2 (by rw [Lib.toList_data, Lib.toList_data]; exact h y (by simp))
    rw [getV, hy, if_neg (by decide), getV_none l (fun x hx => h x (by simp [hx]))]
theorem getV_mem {name v : ByteArray} : ∀ l : List Lab, getV name l = some v → ∃ x ∈ l, nm x = name.data.toList
  | [], h => by cases h
  | y :: l, h => by
    unfold getV at h
    split at h
    · rename_i hy
      refine ⟨y, by simp, ?_⟩
      have := eq_of_beq hy
      rw [Lib.toList_data, Lib.toList_data] at this
      exact this
    · obtain ⟨x, hx, e⟩ := getV_mem l h
      exact ⟨x, by simp [hx], e⟩
theorem get_last (name : ByteArray) (l : List Lab) (h : (l.map nm).Nodup) : getV name l = lastV name l := by
  induction hl : l.length generalizing l with
  | zero => obtain rfl := List.length_eq_zero_iff.1 hl; rfl
  | succ n ih =>
    rcases List.eq_nil_or_concat l with rfl | ⟨r, x, rfl⟩
    · simp at hl
    · rw [List.concat_eq_append] at *
      rw [List.map_append, List.nodup_append] at h
      have ihr := ih r h.1 (by simpa using hl)
      rw [lastV_snoc, ← ihr]
      cases hg : getV name r with
      | none => rw [getV_none_snoc x r hg]
      | some v =>
        rw [getV_app [x] r hg]
        obtain ⟨y, hy, e⟩ := getV_mem r hg
        have hx : (x.1.toList == name.toList) = false := beq_eq_false_iff_ne.2 (fun e2 => by
          rw [Lib.toList_data, Lib.toList_data] at e2
          exact h.2.2 (nm y) (List.mem_map.2 ⟨y, hy, rfl⟩) (nm x) (by simp) (by rw [e, ← e2]; rfl))
        rw [hx, if_neg (by decide)]
def wantS (o : Option ByteArray) : ByteArray := o.getD ⟨#[]⟩
def wantE (o : Option ByteArray) : Int := if o.isSome then 0 else 5
end Tg
theorem getE_eq (o : Option ByteArray) : getE o = .returned (.tuple #[.string (Tg.wantS o), .int .i64 (Tg.wantE o)]) := by cases o <;> rfl
theorem gets1_enters : ∀ args w, (callFunc 22 args).run Try.prog w = .ok (.enter 22 args) w := enters_of Try.func22 (by kernel_rfl) rfl
set_option maxRecDepth 100000 in
set_option maxHeartbeats 2000000 in
theorem gets1_any (x : Tg.Lab) (B S b off len cap k M : Nat) (hk : k < len) (hlen : len ≤ 6) (_hM : M ≤ 8) (W : World) (hn : Cl W ⟨B, 0, none⟩ (.int .i64 k)) (hm : Cl W ⟨B + 1, 0, none⟩ (.int .i64 M)) (ho : Cl W ⟨B + 1 + 1, 0, none⟩ (.bool true))
    (hs : W.cell? ⟨S, 1, none⟩ = some (.slice (some ⟨b, off, none⟩) len cap)) (h1 : W.cell? ⟨b, off + k * 2, none⟩ = some (.string x.1)) (h2 : W.cell? ⟨b, off + k * 2 + 1, none⟩ = some (.string x.2)) :
    Calls Try.prog 22 #[.string x.1, .string x.2, .pointer (some ⟨B + 1 + 1, 0, none⟩), .pointer (some ⟨B, 0, none⟩), .pointer (some ⟨S, 0, none⟩), .pointer (some ⟨B + 1, 0, none⟩)] W fun e W' =>
      e = .returned (.bool (decide (k + 1 < M))) ∧ W' = (W.setCell ⟨B + 1 + 1, 0, none⟩ (.bool true)).setCell ⟨B, 0, none⟩ (.int .i64 ((k + 1 : Nat) : Int)) := by
  have n1 := hn.1
  have n2 := hn.2
  have m1 := hm.1
  have o1 := ho.1
  have o2 := ho.2
  have hkl : (k : Int) < (len : Int) := by omega
  have e1 := (hn.other (p := ⟨B + 1 + 1, 0, none⟩) (addr_ne (by omega)) (.bool true)).1
  have e2 := (hn.other (p := ⟨B + 1 + 1, 0, none⟩) (addr_ne (by omega)) (.bool true)).2
  have e3 := ((hn.other (p := ⟨B + 1 + 1, 0, none⟩) (addr_ne (by omega)) (.bool true)).set (.int .i64 ((k : Int) + 1))).1
  have e4 := ((hm.other (p := ⟨B + 1 + 1, 0, none⟩) (addr_ne (by omega)) (.bool true)).other (p := ⟨B, 0, none⟩) (addr_ne (by omega)) (.int .i64 ((k : Int) + 1))).1
  have hd : decide ((k : Int) + 1 < (M : Int)) = decide (k + 1 < M) := by rw [Bool.eq_iff_iff]; simp only [decide_eq_true_eq]; omega
  have q1 : (x.1.toList == x.1.toList) = true := by simp
  have q2 : (x.2.toList == x.2.toList) = true := by simp
  go_enter Try.func22, Try.ntmps22
  go_wp2
  go_ret
  exact ⟨by first | rfl | (rw [← hd]; rfl), by first | rfl | (rw [Int.natCast_add]; rfl)⟩
theorem ends_min {M k j : Nat} (h : EndsAt (fun j => decide (j + 1 < M)) k j) : j = min k (max M 1) := by
  rcases h with ⟨rfl, h⟩ | ⟨i, rfl, hi, h1, h2⟩
  · by_cases h0 : j = 0
    · subst h0; omega
    · have := of_decide_eq_true (h (j - 1) (by omega)); omega
  · have h1 := of_decide_eq_false h1
    by_cases h0 : i = 0
    · subst h0; omega
    · have := of_decide_eq_true (h2 (i - 1) (by omega)); omega
theorem good_facts {m : ByteArray} {f : Nat → Tg.LabM} {len : Nat} (h : Tg.goodB m (Tg.labs (Tg.upto f len)) = true) : m.size ≤ 24 ∧ len ≤ 6 ∧ Tg.Str (Tg.labs (Tg.upto f len)) ∧ (∀ x ∈ Tg.labs (Tg.upto f len), Tg.labB x = true) ∧ Tg.nameB m.data.toList = true := by
  simp only [Tg.goodB, Bool.and_eq_true, decide_eq_true_eq] at h
  have hn := h.1.1
  simp only [Tg.nameB, Bool.and_eq_true, decide_eq_true_eq] at hn
  refine ⟨by rw [Lib.size_eq]; exact hn.1.1.2, by have := h.1.2; rwa [Tg.labs_upto_len] at this, Tg.good_str _ _ h.2, Tg.goodFrom_all _ _ h.2, h.1.1⟩
set_option maxRecDepth 100000 in
set_option maxHeartbeats 4000000 in
theorem tagGets_main (m : ByteArray) (a : Option Addr) (len cap : Nat) (f : Nat → Tg.LabM) (name : ByteArray) (st : Nat) (w : World) (hm : m.size ≤ maxLen) (hlen : len ≤ maxLen) (hI : LabsAt (·.1) w.heap.size w a len f) (hname : name.size ≤ maxLen) (hst : st < 256) :
    Calls Try.prog 6 #[.agg #[.string m, .slice a len cap], .string name, .int .u8 st] w fun e w' => e = .returned (.bool true) ∧ Below w.heap.size w w' := by
  have hB0 : Below w.heap.size w (w.alloc (.cells #[.string m, .slice a len cap] 26)) := (Below.refl _ w).alloc (Nat.le_refl _) _
  have bx0 := Blk.new w 26 #[.string m, .slice a len cap]
  have hs0 : (w.alloc (.cells #[.string m, .slice a len cap] 26)).heap.size = w.heap.size + 1 := by simp
  have HI := Lib.hid hI
  clear hI
  go_enter Try.func6, Try.ntmps6
  go_wp2_with fail
  refine (awake_any _).mono ?_
  rintro e w1 ⟨rfl, hb1⟩
  rw [hs0] at hb1
  have hB1 : Below w.heap.size w w1 := hB0.trans (hb1.mono (by omega))
  have hz1 : w.heap.size + 1 ≤ w1.heap.size := by have := hb1.size; omega
  have bx1 := bx0.below hb1 (by omega)
  have c10 := (bx1.cl 0 _ rfl).1
  have c11 := (bx1.cl 1 _ rfl).1
  have hG := Lib.hid (refGood_any m hm a len cap f hlen w1 ((HI.out.below hB1).mono hB1.size))
  have HF := fun h => Lib.hid (good_facts (m := m) (f := f) (len := len) h)
  generalize Tg.goodB m (Tg.labs (Tg.upto f len)) = gd at hG HF
  cases gd with
  | false =>
    go_wp2_with fail
    refine hG.out.mono ?_
    rintro e w2 ⟨rfl, hb2⟩
    go_wp2_with fail
    refine (awake_any _).mono ?_
    rintro e w3 ⟨rfl, hb3⟩
    go_wp2
    go_ret
    exact ⟨rfl, (hB1.trans (hb2.mono hB1.size)).trans (hb3.mono (Nat.le_trans hB1.size hb2.size))⟩
  | true =>
    obtain ⟨hm24, hl6, hstr, hall, hnm⟩ := (HF rfl).out
    have HSTR := Lib.hid hstr
    clear HF hall hnm hstr
    unfold maxLen at hname
    by_cases h200 : 200 < name.size
    · have h200' : (200 : Int) < (name.size : Int) := by omega
      go_wp2_with fail
      refine hG.out.mono ?_
      rintro e w2 ⟨rfl, hb2⟩
      go_wp2_with fail
      refine (awake_any _).mono ?_
      rintro e w3 ⟨rfl, hb3⟩
      go_wp2
      go_ret
      exact ⟨rfl, (hB1.trans (hb2.mono hB1.size)).trans (hb3.mono (Nat.le_trans hB1.size hb2.size))⟩
    · have h200' : ¬ (200 : Int) < (name.size : Int) := by omega
      go_wp2_with fail
      refine hG.out.mono ?_
      rintro e w2 ⟨rfl, hb2⟩
      have hB2 : Below w.heap.size w w2 := hB1.trans (hb2.mono hB1.size)
      have bx2 := bx1.below hb2 (by omega)
      have c20 := (bx2.cl 0 _ rfl).1
      have c21 := (bx2.cl 1 _ rfl).1
      have hz2 : w.heap.size + 1 ≤ w2.heap.size := by have := hb2.size; omega
      have HGet := Lib.hid (get_any m name a len cap f hlen w2 ((HI.out.below hB2).mono hB2.size))
      rw [getE_eq, Tg.get_last name _ (Tg.str_nodup HSTR.out)] at HGet
      go_wp2_with fail
      refine HGet.out.mono ?_
      rintro e w3 ⟨rfl, hb3⟩
      have hB3 : Below w.heap.size w w3 := hB2.trans (hb3.mono hB2.size)
      have bx3 := bx2.below hb3 (by omega)
      have c30 := (bx3.cl 0 _ rfl).1
      have c31 := (bx3.cl 1 _ rfl).1
      have hz3 : w.heap.size + 1 ≤ w3.heap.size := by have := hb3.size; omega
      clear hb2 hb3 hb1 hG HGet bx0 bx1 bx2 c10 c11 c20 c21
      go_wp2_with fail
      go_loopw [9, 10, 12, 38] (fun wt cd _ i wr => ∃ k : Nat, k ≤ len ∧ i = .int .i64 k ∧ wt = .string (Tg.wantS (Tg.lastV name (Tg.labs (Tg.upto f k)))) ∧ cd = .int .i64 (Tg.wantE (Tg.lastV name (Tg.labs (Tg.upto f k)))) ∧ Below w3.heap.size w3 wr) (fun _ _ _ i _ => len - (intOf i).toNat)
      case atStart => exact ⟨0, Nat.zero_le _, rfl, rfl, rfl, Below.refl _ _⟩
      case round =>
        obtain ⟨k, hk, rfl, rfl, rfl, hbr⟩ := hrel
        by_cases hlt : k < len
        · have hI3 := ((HI.out.below hB3).mono hB3.size).below hbr
          rcases hI3 with h0 | ⟨b, off, rfl, hb, hc⟩
          · omega
          · obtain ⟨hc1, hc2⟩ := hc k hlt
            have HL : Hid (Tg.lastV name (Tg.labs (Tg.upto f (k + 1))) = if (f k).1.1.toList == name.toList then some (f k).1.2 else Tg.lastV name (Tg.labs (Tg.upto f k))) := by
              show _ = _
              rw [Tg.upto_succ, Tg.labs_snoc, Tg.lastV_snoc]
            have HW : Hid (∀ o : Obj, Below w3.heap.size w3 (wr.alloc o)) := fun o => hbr.alloc hbr.size o
            cases hq : ((f k).1.1.toList == name.toList) with
            | true =>
              rw [hq, if_pos rfl] at HL
              go_wp2
              go_roundw
              case rel => exact ⟨k + 1, by omega, by go_num, by rw [HL.out]; rfl, by rw [HL.out]; rfl, HW.out _⟩
              case measure => simp [intOf]; omega
            | false =>
              rw [hq, if_neg (by decide)] at HL
              go_wp2
              go_roundw
              case rel => exact ⟨k + 1, by omega, by go_num, by rw [HL.out], by rw [HL.out], HW.out _⟩
              case measure => simp [intOf]; omega
        · obtain rfl : k = len := by omega
          have bx4 := bx3.below hbr (by omega)
          have bx5 : Blk (((wr.alloc (.cells #[.int .i64 0] 3)).alloc (.cells #[.int .i64 ((st : Int) % 8)] 3)).alloc (.cells #[.bool true] 4)) w.heap.size 26 #[.string m, .slice a k cap] := ((bx4.alloc _).alloc _).alloc _
          have c50 := (bx5.cl 0 _ rfl).1
          have c51 := (bx5.cl 1 _ rfl).1
          have hzr : w.heap.size + 1 ≤ wr.heap.size := by have := hbr.size; omega
          have hB5 : Below w.heap.size w (((wr.alloc (.cells #[.int .i64 0] 3)).alloc (.cells #[.int .i64 ((st : Int) % 8)] 3)).alloc (.cells #[.bool true] 4)) := (((hB3.trans (hbr.mono hB3.size)).alloc (by omega) _).alloc (by simp; omega) _).alloc (by simp; omega) _
          have p0 : Cl (((wr.alloc (.cells #[.int .i64 0] 3)).alloc (.cells #[.int .i64 ((st : Int) % 8)] 3)).alloc (.cells #[.bool true] 4)) ⟨wr.heap.size, 0, none⟩ (.int .i64 0) := ((Cl.new wr #[.int .i64 0] 3 0 _ rfl).alloc _).alloc _
          have p1 : Cl (((wr.alloc (.cells #[.int .i64 0] 3)).alloc (.cells #[.int .i64 ((st : Int) % 8)] 3)).alloc (.cells #[.bool true] 4)) ⟨wr.heap.size + 1, 0, none⟩ (.int .i64 ((st : Int) % 8)) := by
            have h := Cl.new (wr.alloc (.cells #[.int .i64 0] 3)) #[.int .i64 ((st : Int) % 8)] 3 0 _ rfl
            rw [World.size_alloc] at h
            exact h.alloc _
          have p2 : Cl (((wr.alloc (.cells #[.int .i64 0] 3)).alloc (.cells #[.int .i64 ((st : Int) % 8)] 3)).alloc (.cells #[.bool true] 4)) ⟨wr.heap.size + 1 + 1, 0, none⟩ (.bool true) := by
            have h := Cl.new ((wr.alloc (.cells #[.int .i64 0] 3)).alloc (.cells #[.int .i64 ((st : Int) % 8)] 3)) #[.bool true] 4 0 _ rfl
            simp only [World.size_alloc] at h
            exact h
          have hz5 : (((wr.alloc (.cells #[.int .i64 0] 3)).alloc (.cells #[.int .i64 ((st : Int) % 8)] 3)).alloc (.cells #[.bool true] 4)).heap.size = wr.heap.size + 1 + 1 + 1 := by simp
          obtain ⟨W5, hW5⟩ : ∃ W5, ((wr.alloc (.cells #[.int .i64 0] 3)).alloc (.cells #[.int .i64 ((st : Int) % 8)] 3)).alloc (.cells #[.bool true] 4) = W5 := ⟨_, rfl⟩
          have HA := Lib.hid (all_any m a k cap f (by omega) (((wr.alloc (.cells #[.int .i64 0] 3)).alloc (.cells #[.int .i64 ((st : Int) % 8)] 3)).alloc (.cells #[.bool true] 4)) ((HI.out.below hB5).mono hB5.size))
          rw [hW5] at bx5 c50 c51 hB5 p0 p1 p2 hz5 HA
          go_wp2_with fail
          clear hW5
          refine HA.out.mono ?_
          rintro e w6 ⟨Bs, a1, cap1, rfl, hBs, hbk, hrow, hb6⟩
          rw [Tg.upto_len] at hbk hrow
          have hB6 : Below w.heap.size w w6 := hB5.trans (hb6.mono hB5.size)
          have bx6 := bx5.below hb6 (by omega)
          have q0 := p0.below hb6 (by show wr.heap.size < _; omega)
          have q1 := p1.below hb6 (by show wr.heap.size + 1 < _; omega)
          have q2 := p2.below hb6 (by show wr.heap.size + 1 + 1 < _; omega)
          have hI6 := (HI.out.below hB6).mono hB6.size
          have hM : ((st : Int) % 8) = ((st % 8 : Nat) : Int) := by omega
          rw [hM] at q1
          have HM := Lib.hid hM
          clear HA bx5 c50 c51 p0 p1 p2 hM
          have HP : Hid (Calls Try.prog 47 #[.func (.func 22) #[] #[.pointer (some ⟨wr.heap.size + 1 + 1, 0, none⟩), .pointer (some ⟨wr.heap.size, 0, none⟩), .pointer (some ⟨w.heap.size, 0, none⟩), .pointer (some ⟨wr.heap.size + 1, 0, none⟩)], .pointer (some ⟨Bs, 0, none⟩)] w6 fun e w7 =>
              (∃ v, e = .returned v) ∧ Blk w7 w.heap.size 26 #[.string m, .slice a k cap] ∧ Cl w7 ⟨wr.heap.size, 0, none⟩ (.int .i64 ((min k (max (st % 8) 1) : Nat) : Int)) ∧ Cl w7 ⟨wr.heap.size + 1, 0, none⟩ (.int .i64 ((st % 8 : Nat) : Int)) ∧ Cl w7 ⟨wr.heap.size + 1 + 1, 0, none⟩ (.bool true) ∧ Below wr.heap.size w6 w7) := by
            show Calls _ _ _ _ _
            by_cases h0 : k = 0
            · subst h0
              refine (pairs1_fn0 _ Bs a1 cap1 w6 (hbk.cl 0 _ rfl).1).mono ?_
              rintro e w7 ⟨he, rfl⟩
              refine ⟨he, bx6, ?_, q1, q2, Below.refl _ _⟩
              rw [Nat.zero_min]; exact q0
            · obtain ⟨b, off, rfl, hb, hc⟩ := hI6.resolve_left h0
              obtain ⟨_, hlc⟩ := hrow.labsAt
              obtain ⟨b1, o1, rfl, hb1, hc1⟩ := hlc.resolve_left h0
              have hfn : ∀ j, j < k → Tg.fnOf (Tg.upto f k) j = f j := fun j hj => by simp [Tg.fnOf, Tg.upto, hj]
              have hgeB : W5.heap.size ≤ b1 := hrow.ge b1 rfl
              have hbw : b < w.heap.size := by
                rcases HI.out with h | ⟨b', off', e, hb', _⟩
                · exact absurd h h0
                · cases e; exact hb'
              have hp := pairs1_fn 22 #[.pointer (some ⟨wr.heap.size + 1 + 1, 0, none⟩), .pointer (some ⟨wr.heap.size, 0, none⟩), .pointer (some ⟨w.heap.size, 0, none⟩), .pointer (some ⟨wr.heap.size + 1, 0, none⟩)] gets1_enters Bs b1 o1 k cap1 f hlen (fun j => decide (j + 1 < st % 8))
                (fun j W => Cl W ⟨wr.heap.size, 0, none⟩ (.int .i64 j) ∧ Cl W ⟨wr.heap.size + 1, 0, none⟩ (.int .i64 ((st % 8 : Nat) : Int)) ∧ Cl W ⟨wr.heap.size + 1 + 1, 0, none⟩ (.bool true) ∧ Below wr.heap.size w6 W ∧ ∀ i, wr.heap.size + 1 + 1 + 1 ≤ i → i < w6.heap.size → W.heap[i]? = w6.heap[i]?)
                (fun j W hj ⟨j0, j1, j2, hbel, hfr⟩ => by
                  have hbo := fun o => hbel.alloc (Nat.le_trans (by have := hb6.size; omega) hbel.size) o
                  refine (gets1_any (f j).1 wr.heap.size w.heap.size b off k cap j (st % 8) hj hl6 (by omega) _ (j0.alloc _) (j1.alloc _) (j2.alloc _) ((hbo _).cell (p := ⟨w.heap.size, 1, none⟩) (by show w.heap.size < _; omega) |>.trans (bx6.cl 1 _ rfl).1) ((hbo _).cell (p := ⟨b, off + j * 2, none⟩) (by show b < _; omega) |>.trans (hc j hj).1) ((hbo _).cell (p := ⟨b, off + j * 2 + 1, none⟩) (by show b < _; omega) |>.trans (hc j hj).2)).mono ?_
                  rintro e W' ⟨rfl, rfl⟩
                  refine ⟨rfl, ?_, ?_, ?_, ?_, ?_⟩
                  · exact ((j0.alloc _).other (addr_ne (by omega)) _).set _
                  · exact ((j1.alloc _).other (addr_ne (by omega)) _).other (addr_ne (by omega)) _
                  · exact ((j2.alloc _).set _).other (addr_ne (by omega)) _
                  · exact ((hbo _).setCell (p := ⟨wr.heap.size + 1 + 1, 0, none⟩) (by show _ ≤ wr.heap.size + 1 + 1; omega) _).setCell (p := ⟨wr.heap.size, 0, none⟩) (Nat.le_refl _) _
                  · intro i hi hi6
                    rw [heap_set (p := ⟨wr.heap.size, 0, none⟩) (show wr.heap.size ≠ i by omega), heap_set (p := ⟨wr.heap.size + 1 + 1, 0, none⟩) (show wr.heap.size + 1 + 1 ≠ i by omega), Below.heap_alloc W _ i (Nat.lt_of_lt_of_le hi6 hbel.size)]
                    exact hfr i hi hi6)
                (fun j W ⟨_, _, _, _, hfr⟩ i hi => by
                  have h := hc1 i hi
                  rw [hfn i hi] at h
                  have hbk1 := hfr b1 (by omega) hb1
                  exact ⟨(World.cell?_of_block (a := ⟨b1, o1 + i * 2, none⟩) hbk1).trans h.1, (World.cell?_of_block (a := ⟨b1, o1 + i * 2 + 1, none⟩) hbk1).trans h.2⟩)
                w6 (hbk.cl 0 _ rfl).1 ⟨q0, q1, q2, Below.refl _ _, fun _ _ _ => rfl⟩
              refine hp.mono ?_
              rintro e w7 ⟨he, j, ⟨j0, j1, j2, hbel, _⟩, hend⟩
              rw [ends_min hend] at j0
              exact ⟨he, bx6.below hbel (by omega), j0, j1, j2, hbel⟩
          clear hrow hbk bx6 q0 q1 q2 hI6
          go_wp2_with fail
          refine HP.out.mono ?_
          rintro e w7 ⟨⟨v, rfl⟩, bx7, n7, m7, o7, hb7⟩
          have c71 := (bx7.cl 1 _ rfl).1
          have n71 := n7.1
          have m71 := m7.1
          have o71 := o7.1
          have hB7 : Below w.heap.size w w7 := hB6.trans (hb7.mono (by omega))
          generalize Tg.wantS (Tg.lastV name (Tg.labs (Tg.upto f k))) = y
          generalize Tg.wantE (Tg.lastV name (Tg.labs (Tg.upto f k))) = z
          have hy : (y.toList == y.toList) = true := by simp
          have hz : (z == z) = true := by simp
          have hM8 : st % 8 < 8 := by omega
          generalize st % 8 = M at hM8 n71 m71
          have hmin : (((min k (max M 1) : Nat) : Int) == min (k : Int) (max (M : Int) 1)) = true := beq_iff_eq.2 (by omega)
          clear HP n7 m7 o7 bx7
          go_wp2
          go_ret
          exact ⟨rfl, hB7⟩
theorem tagGets_walk (m : ByteArray) (a : Option Addr) (len cap : Nat) (f : Nat → Tg.LabM) (name : ByteArray) (st : Int) (w : World) (hm : m.size ≤ maxLen) (hlen : len ≤ maxLen) (hI : LabsAt (·.1) w.heap.size w a len f) (hname : name.size ≤ maxLen) (hst : (Lit.int .u8 st).wf = true) :
    Calls Try.prog 6 #[.agg #[.string m, .slice a len cap], .string name, .int .u8 st] w fun e w' => e = .returned (.bool true) ∧ Below w.heap.size w w' := by
  have h : 0 ≤ st ∧ st < 256 := by
    simp [Lit.wf, IntKind.min, IntKind.max, IntKind.signed, IntKind.bits] at hst
    omega
  obtain ⟨n, rfl⟩ : ∃ n : Nat, st = n := ⟨st.toNat, by omega⟩
  exact tagGets_main m a len cap f name n w hm hlen hI hname (by omega)
end Go.Proofs.Ytaoojglepihjeaa
