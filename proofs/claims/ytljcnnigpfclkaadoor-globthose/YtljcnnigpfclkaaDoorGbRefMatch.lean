
/- What the document's Match (tidemillref08) answers. -/
import Derived.Test.YtljcnnigpfclkaaDoorGbRefBeg
import Derived.StillTailTactics
namespace Go.Proofs.YtljcnnigpfclkaaDoor
open Go.RowKit Go.Shelf
open Dp
namespace Gb
/-- of the places of a text: those ahead of i are told, the others not yet; the tokens behind are told wholly -/
structure RmI (s : List UInt8) (rest : List (List UInt8)) (t : List UInt8) (w1 : World) (nb eb n : Nat) (f g : Nat → Bool) (i : Nat) (V : World) : Prop where
  next : BAt V nb g n
  ends : BAt V eb f n
  below : Below w1.heap.size w1 V
  done : ∀ j, j < i → j ≤ s.length → g j = MM (t :: rest) (s.drop j)
  todo : ∀ j, i ≤ j → g j = false
  ne : nb ≠ eb
  hn : w1.heap.size ≤ nb
  rest : ∀ j, j ≤ s.length → f j = MM rest (s.drop j)
section
variable {s t : List UInt8} {rest : List (List UInt8)} {w1 V V' : World} {nb eb n : Nat} {f g : Nat → Bool} {i : Nat}
theorem RmI.step (h : RmI s rest t w1 nb eb n f g i V) (hb : Below V.heap.size V V') : RmI s rest t w1 nb eb n f g i V' :=
  ⟨Blk.below h.next hb (Blk.lt h.next), Blk.below h.ends hb (Blk.lt h.ends), below_step h.below (Nat.le_refl _) hb, h.done, h.todo, h.ne, h.hn, h.rest⟩
/-- the place i told -/
theorem RmI.tell (h : RmI s rest t w1 nb eb n f g i V) {g' : Nat → Bool} (hV : BAt V' nb g' n) (hE : BAt V' eb f n) (hb : Below w1.heap.size w1 V') (hi : g' i = MM (t :: rest) (s.drop i)) (ho : ∀ j, j ≠ i → g' j = g j) : RmI s rest t w1 nb eb n f g' (i + 1) V' :=
  ⟨hV, hE, hb, fun j hj hl => by
    by_cases e : j = i
    · rw [e]; exact hi
    · rw [ho j e]; exact h.done j (by omega) hl, fun j hj => by rw [ho j (by omega)]; exact h.todo j (by omega), h.ne, h.hn, h.rest⟩
/-- a store at place i -/
theorem RmI.set (h : RmI s rest t w1 nb eb n f g i V) (v : Bool) (hi : v = MM (t :: rest) (s.drop i)) : RmI s rest t w1 nb eb n f (fun j => if j = i then v else g j) (i + 1) (V.setCell ⟨nb, i, none⟩ (.bool v)) :=
  h.tell (h.next.set i v) (Blk.other h.ends (p := ⟨nb, i, none⟩) h.ne _) (h.below.setCell (p := ⟨nb, i, none⟩) h.hn _) (by show (if i = i then v else g i) = _; rw [if_pos rfl, hi]) (fun j hj => if_neg hj)
end
/-- within a place's own loop: what is found so far is v; the others stay as g has them -/
structure RmJ (s : List UInt8) (rest : List (List UInt8)) (t : List UInt8) (w1 : World) (nb eb n : Nat) (f g : Nat → Bool) (i : Nat) (v : Bool) (V : World) : Prop where
  base : ∃ V0, RmI s rest t w1 nb eb n f g i V0
  next : BAt V nb (fun j => if j = i then v else g j) n
  ends : BAt V eb f n
  below : Below w1.heap.size w1 V
section
variable {s t : List UInt8} {rest : List (List UInt8)} {w1 V V' : World} {nb eb n : Nat} {f g : Nat → Bool} {i : Nat} {v : Bool}
theorem RmJ.start (h : RmI s rest t w1 nb eb n f g i V) : RmJ s rest t w1 nb eb n f g i false V :=
  ⟨⟨V, h⟩, h.next.same (fun j _ => by
    by_cases e : j = i
    · rw [if_pos e, e]; exact h.todo i (Nat.le_refl _)
    · rw [if_neg e]), h.ends, h.below⟩
theorem RmJ.step (h : RmJ s rest t w1 nb eb n f g i v V) (hb : Below V.heap.size V V') : RmJ s rest t w1 nb eb n f g i v V' :=
  ⟨h.base, Blk.below h.next hb (Blk.lt h.next), Blk.below h.ends hb (Blk.lt h.ends), below_step h.below (Nat.le_refl _) hb⟩
theorem RmJ.set (h : RmJ s rest t w1 nb eb n f g i v V) (u : Bool) : RmJ s rest t w1 nb eb n f g i u (V.setCell ⟨nb, i, none⟩ (.bool u)) := by
  obtain ⟨V0, h0⟩ := h.base
  refine ⟨h.base, (h.next.set i u).same (fun j _ => ?_), Blk.other h.ends (p := ⟨nb, i, none⟩) h0.ne _, h.below.setCell (p := ⟨nb, i, none⟩) h0.hn _⟩
  by_cases e : j = i
  · rw [if_pos e, if_pos e]
  · rw [if_neg e, if_neg e, if_neg e]
theorem RmJ.fin (h : RmJ s rest t w1 nb eb n f g i v V) (hv : v = MM (t :: rest) (s.drop i)) : RmI s rest t w1 nb eb n f (fun j => if j = i then v else g j) (i + 1) V := by
  obtain ⟨V0, h0⟩ := h.base
  exact h0.tell h.next h.ends h.below (by show (if i = i then v else g i) = _; rw [if_pos rfl, hv]) (fun j hj => if_neg hj)
theorem RmJ.at (h : RmJ s rest t w1 nb eb n f g i v V) (hi : i < n) : V.cell? ⟨nb, i, none⟩ = some (.bool v) := by
  have := h.next.get hi
  rwa [if_pos rfl] at this
end
theorem still_wanted {P : Program} {ops : Array Oper} {w : World} {Q : Act → Prop} {rest : List Oper} {o : Oper} {a : Act} (hw : Region.wanted o (yielded ops a.tmps) = true) (h : ∀ K : Act → Prop, (∀ a, wpStill P ops w Q rest a → K a) → o.still P a w K) : wpStill P ops w Q (o :: rest) a :=
  wpStill_step fun K hK => by rw [if_pos hw]; exact h K hK
theorem still_unwanted {P : Program} {ops : Array Oper} {w : World} {Q : Act → Prop} {rest : List Oper} {o : Oper} {a : Act} (hw : Region.wanted o (yielded ops a.tmps) = false) (h : wpStill P ops w Q rest (a.put o.dst undef)) : wpStill P ops w Q (o :: rest) a :=
  wpStill_step fun K hK => by rw [if_neg (by rw [hw]; exact Bool.false_ne_true)]; exact hK _ h
theorem still_letter {P : Program} {ops : Array Oper} {w : World} {Q : Act → Prop} {l : List Oper} {a : Act} (h : ∀ K : Act → Prop, (∀ a, Q a → K a) → wpStill P ops w K l a) : wpStill P ops w Q l a := h Q (fun _ h => h)
set_option maxRecDepth 2000000 in
set_option maxHeartbeats 16000000 in
theorem refMatch_any (p s : List UInt8) (w : World) (hp : p.length ≤ 100) (hs : s.length ≤ 1000) :
    Calls Tryd.prog 17 #[.string (B p), .string (B s)] w fun e w' => e = .returned (.bool (MM (rtok p) s)) ∧ Below w.heap.size w w' := by
  have HT := Lib.hid (refTokens_any p w (by omega))
  have hml := rtok_len p.length p (Nat.le_refl _)
  have HME : Hid (∀ t ∈ rtok p, 1 ≤ t.length ∧ t.length ≤ 100) := fun t ht => by have := rtok_mem p.length p (Nat.le_refl _) t ht; omega
  obtain ⟨n, hn⟩ : ∃ n, s.length + 1 = n := ⟨_, rfl⟩
  obtain ⟨sl, hsl⟩ : ∃ sl, s.length = sl := ⟨_, rfl⟩
  have HMK := make_bools n (by omega)
  have hnb : n ≤ 1001 := by omega
  have hsn : sl < n := by omega
  have isn : (sl : Int) < (n : Int) := by omega
  have e1 : ((B s).size : Int) = (sl : Int) := by rw [B_size, hsl]
  have e1' : (sl : Int) + 1 = (n : Int) := by omega
  have i0 : (0 : Int) < (n : Int) := by omega
  have HSX : Hid (∀ k, k ≤ s.length → (B s).extract k (B s).size = B (s.drop k)) := fun k _ => by
    rw [Lib.extract_eq, B_size, List.take_of_length_le]
    simp
  have HEX : Hid (∀ (k : Nat) (hk : k < s.length), (B s).extract k (k + 1) = B [s[k]]) := fun k hk => by
    rw [Lib.extract_eq]
    have : ((B s).data.toList.drop k).take (k + 1 - k) = [s[k]] := by
      show (s.drop k).take (k + 1 - k) = _
      rw [List.drop_eq_getElem_cons hk, show k + 1 - k = 1 by omega]
      rfl
    rw [this]
  have HSZ : Hid ((B s).size = sl ∧ s.length = sl ∧ s.length + 1 = n) := ⟨by rw [B_size, hsl], hsl, hn⟩
  obtain ⟨pb, hpb⟩ : ∃ pb, B p = pb := ⟨_, rfl⟩
  obtain ⟨sb, hsb⟩ : ∃ sb, B s = sb := ⟨_, rfl⟩
  rw [hpb] at HT ⊢
  rw [hsb] at e1 HSX HEX HSZ ⊢
  generalize rtok p = L at HT hml HME ⊢
  obtain ⟨m, hm⟩ : ∃ m, L.length = m := ⟨_, rfl⟩
  rw [hm] at HT hml
  have HM := Lib.hid hm
  have hmb : m ≤ 100 := by omega
  clear hpb hsb hn hsl hm hml hp hs
  go_enter Tryd.func17, Tryd.ntmps17
  go_wp2_with fail
  refine HT.out.mono ?_
  rintro e w1 ⟨a, c, rfl, ho, hb1⟩
  have HES := Lib.hid (Vec.Own.es ho)
  have HB1 := Lib.hid hb1
  clear ho hb1 HT
  -- the first places
  obtain ⟨X, hX⟩ : ∃ X, w1.alloc (.cells (boolsA (fun _ => false) n) 4) = X := ⟨_, rfl⟩
  obtain ⟨b0, hb0⟩ : ∃ b0, w1.heap.size = b0 := ⟨_, rfl⟩
  have k1 : BAt X b0 (fun _ => false) n := by rw [← hX, ← hb0]; exact Blk.new w1 _ _
  have hbX : Below w1.heap.size w1 X := by rw [← hX]; exact (Below.refl _ w1).alloc (Nat.le_refl _) _
  have g0 := k1.get hsn
  have g0f := k1.free sl
  obtain ⟨Y, hY⟩ : ∃ Y, X.setCell ⟨b0, sl, none⟩ (.bool true) = Y := ⟨_, rfl⟩
  have HST : Hid (BAt Y b0 (fun j => if j = sl then true else false) n ∧ Below w1.heap.size w1 Y ∧ ∀ j, j ≤ s.length → (fun j => if j = sl then true else false) j = MM (L.drop m) (s.drop j)) := by
    refine ⟨by rw [← hY]; exact k1.set sl true, by rw [← hY]; exact hbX.setCell (p := ⟨b0, sl, none⟩) (by rw [hb0]; exact Nat.le_refl _) _, fun j hj => ?_⟩
    rw [List.drop_eq_nil_of_le (by rw [HM.out]; exact Nat.le_refl _), MM_nil]
    show (if j = sl then true else false) = _
    have h1 := HSZ.out.2.1
    by_cases e : j = sl
    · rw [if_pos e, e, ← h1, List.drop_length]; rfl
    · rw [if_neg e, List.drop_eq_getElem_cons (show j < s.length by omega)]; rfl
  have HBE := Lib.hid hb0
  have im : -1 ≤ (m : Int) - 1 := by omega
  clear k1 hbX
  go_wp2
  clear hX hY g0 g0f hb0
  go_loopw [6, 7] (fun ev kv wr => ∃ (kk eb : Nat) (f : Nat → Bool) (v : Int), kk ≤ m ∧ v = (kk : Int) - 1 ∧ kv = .int .i64 v ∧ ev = .slice (some ⟨eb, 0, none⟩) n n ∧ Hid (BAt wr eb f n ∧ Below w1.heap.size w1 wr ∧ ∀ j, j ≤ s.length → f j = MM (L.drop kk) (s.drop j))) (fun _ kv _ => (intOf kv + 1).toNat)
  case atStart => exact ⟨m, b0, _, _, Nat.le_refl _, rfl, rfl, by first | rfl | rw [HBE.out], HST.out⟩
  case round =>
    clear HST
    obtain ⟨kk, eb, f, v, hkk, hv, rfl, rfl, HR⟩ := hrel
    rcases Nat.eq_zero_or_pos kk with h0 | hpos
    · subst h0
      have hvn : ¬ (0 : Int) ≤ v := by omega
      clear hv
      have hr : f 0 = MM L s := by have := HR.out.2.2 0 (Nat.zero_le _); simpa using this
      have hc := HR.out.1.get (i := 0) (by omega)
      rw [hr] at hc
      have HBW : Hid (Below w.heap.size w wr) := below_step HB1.out (Nat.le_refl _) HR.out.2.1
      go_wp2
      go_ret
      exact ⟨rfl, HBW.out⟩
    · obtain ⟨k, rfl⟩ : ∃ k, kk = k + 1 := ⟨kk - 1, by omega⟩
      obtain ⟨rfl⟩ : v = (k : Int) := by omega
      clear hv
      have hkL : k < L.length := by rw [HM.out]; omega
      obtain ⟨a', c', hx, hc', hat⟩ := EsT.at (Vec.Es.below HES.out HR.out.2.1)
      injection hx with ha hx2 hcc
      obtain ⟨bb, o, hbo, hcell⟩ := hat (by omega)
      obtain rfl : a = some ⟨bb, o, none⟩ := ha.trans hbo
      have ck : wr.cell? ⟨bb, o + k, none⟩ = some (.string (B L[k])) := hcell k _ (List.getElem?_eq_getElem hkL)
      have htl := HME.out L[k] (List.getElem_mem hkL)
      have HDR : Hid (L.drop k = L[k] :: L.drop (k + 1)) := List.drop_eq_getElem_cons hkL
      obtain ⟨t, ht⟩ : ∃ t, L[k] = t := ⟨_, rfl⟩
      rw [ht] at ck htl HDR
      have ikm : (k : Int) < (m : Int) := by omega
      have ik0 : (0 : Int) ≤ (k : Int) := by omega
      -- the next places
      obtain ⟨X, hX⟩ : ∃ X, wr.alloc (.cells (boolsA (fun _ => false) n) 4) = X := ⟨_, rfl⟩
      obtain ⟨nb, hnb'⟩ : ∃ nb, wr.heap.size = nb := ⟨_, rfl⟩
      have hbX : Below wr.heap.size wr X := by rw [← hX]; exact (Below.refl _ wr).alloc (Nat.le_refl _) _
      have HST : Hid (RmI s (L.drop (k + 1)) t w1 nb eb n f (fun _ => false) 0 X) :=
        ⟨by rw [← hX, ← hnb']; exact Blk.new wr _ _, Blk.below HR.out.1 hbX (Blk.lt HR.out.1), below_step HR.out.2.1 (Nat.le_refl _) hbX, fun j hj => absurd hj (by omega), fun _ _ => rfl, by have := Blk.lt HR.out.1; omega, by have := HR.out.2.1.size; omega, HR.out.2.2⟩
      have q1 := eq_lit t [42]
      have HTB : Hid ((B t).size = t.length) := B_size t
      obtain ⟨tb, htb⟩ : ∃ tb, B t = tb := ⟨_, rfl⟩
      rw [htb] at ck q1 HTB
      have HTBE := Lib.hid htb
      have HNBE := Lib.hid hnb'
      clear hx2 hcc hcell hat hbo ha ht hc' HR htb hbX
      generalize L.drop (k + 1) = rest at HST HDR
      go_wp2
      clear ck hX hnb'
      go_loopw [41] (fun iv wr => ∃ (i : Nat) (g : Nat → Bool), i ≤ n ∧ iv = .int .i64 (i : Int) ∧ Hid (RmI s rest t w1 nb eb n f g i wr)) (fun iv _ => n - (intOf iv).toNat)
      case atStart => exact ⟨0, _, Nat.zero_le _, rfl, HST.out⟩
      case round =>
        clear HST
        obtain ⟨i, g, hi, rfl, HR⟩ := hrel
        by_cases hlt : i < n
        · have hil : i ≤ s.length := by have := HSZ.out.2.2; omega
          by_cases ht42 : t = [42]
          · have hq1 : (tb.toList == [42]) = true := by rw [q1, ht42]; rfl
            have HT42 := Lib.hid ht42
            have HJ0 : Hid (RmJ s rest t w1 nb eb n f g i false wr) := RmJ.start HR.out
            have HIL := Lib.hid hil
            clear q1 ht42 HR hil
            as_aux_lemma =>
            go_wp2
            go_loopw [11] (fun mv wr => ∃ (M : Nat) (v : Bool), i ≤ M ∧ M ≤ n ∧ mv = .int .i64 (M : Int) ∧ Hid (RmJ s rest t w1 nb eb n f g i v wr ∧ v = anyTo f i M)) (fun mv _ => n - (intOf mv).toNat)
            case atStart => exact ⟨i, false, Nat.le_refl _, hi, rfl, HJ0.out, (anyTo_self f i).symm⟩
            case round =>
              clear HJ0
              obtain ⟨M, v, hM1, hM2, rfl, HJ⟩ := hrel
              by_cases hM : M < n
              · have cn := HJ.out.1.at hlt
                have cnf := HJ.out.1.next.free i
                have ce := HJ.out.1.ends.get hM
                have iM : (M : Int) ≤ (sl : Int) := by omega
                have HAS : Hid (anyTo f i (M + 1) = (v || f M)) := by show _ = _; rw [anyTo_succ f hM1, ← HJ.out.2]
                cases v with
                | true =>
                  have HN : Hid (RmJ s rest t w1 nb eb n f g i true (wr.setCell ⟨nb, i, none⟩ (.bool true)) ∧ true = anyTo f i (M + 1)) := ⟨HJ.out.1.set true, by rw [HAS.out]; rfl⟩
                  clear HAS ce
                  go_wp2
                  go_roundw
                  case rel => exact ⟨M + 1, true, by omega, by omega, by go_num, HN⟩
                  case measure => simp [intOf]; omega
                | false =>
                  have HN : Hid (RmJ s rest t w1 nb eb n f g i (f M) (wr.setCell ⟨nb, i, none⟩ (.bool (f M))) ∧ f M = anyTo f i (M + 1)) := ⟨HJ.out.1.set (f M), by rw [HAS.out]; rfl⟩
                  clear HAS
                  obtain ⟨fM, hfM⟩ : ∃ fM, f M = fM := ⟨_, rfl⟩
                  rw [hfM] at ce HN
                  clear hfM
                  go_wp2
                  go_roundw
                  case rel => exact ⟨M + 1, fM, by omega, by omega, by go_num, HN⟩
                  case measure => simp [intOf]; omega
              · obtain rfl : M = n := by omega
                have iM : ¬ (M : Int) ≤ (sl : Int) := by omega
                have HFIN : Hid (RmI s rest t w1 nb eb M f (fun j => if j = i then v else g j) (i + 1) wr) := HJ.out.1.fin (by
                  obtain ⟨V0, h0⟩ := HJ.out.1.base
                  rw [HJ.out.2, HT42.out, ← HSZ.out.2.2]
                  exact MM_star h0.rest HIL.out)
                clear HJ
                go_wp2
                go_roundw
                case rel => exact ⟨i + 1, _, hlt, by go_num, HFIN⟩
                case measure => simp [intOf]; omega
          · have hq1 : (tb.toList == [42]) = false := by rw [q1]; exact beq_eq_false_iff_ne.2 ht42
            by_cases ht1 : t.length = 1
            · have hz : (tb.size : Int) = 1 := by have := HTB.out; omega
              by_cases hisl : i < sl
              · have hisl' : i < s.length := by have := HSZ.out.2.1; omega
                have ce := HR.out.ends.get (i := i + 1) (by omega)
                have cnf := HR.out.next.free i
                have cn := HR.out.next.get hlt
                have ii1 : (i : Int) < (sl : Int) := by omega
                have ii2 : (i : Int) + 1 < (n : Int) := by omega
                have ii3 : (i : Int) + 1 ≤ (sl : Int) := by omega
                by_cases ht63 : t = [63]
                · have hq2 : (tb.toList == [63]) = true := by rw [← HTBE.out, eq_lit, ht63]; rfl
                  have HN : Hid (RmI s rest t w1 nb eb n f (fun j => if j = i then f (i + 1) else g j) (i + 1) (wr.setCell ⟨nb, i, none⟩ (.bool (f (i + 1))))) := HR.out.set (f (i + 1)) (by rw [ht63]; exact MM_one HR.out.rest hisl')
                  obtain ⟨fv, hfv⟩ : ∃ fv, f (i + 1) = fv := ⟨_, rfl⟩
                  rw [hfv] at ce HN
                  clear q1 ht42 ht1 ht63 HR hil hisl' hfv
                  as_aux_lemma =>
                  go_wp2
                  go_roundw
                  case rel => exact ⟨i + 1, _, hlt, by go_num, HN⟩
                  case measure => simp [intOf]; omega
                · have hq2 : (tb.toList == [63]) = false := by rw [← HTBE.out, eq_lit]; exact beq_eq_false_iff_ne.2 ht63
                  obtain ⟨c, hc⟩ : ∃ c, t = [c] := by
                    cases t with
                    | nil => cases ht1
                    | cons c r =>
                      cases r with
                      | nil => exact ⟨c, rfl⟩
                      | cons _ _ => simp at ht1
                  have hx := HEX.out i hisl'
                  obtain ⟨xb, hxb⟩ : ∃ xb, B [s[i]] = xb := ⟨_, rfl⟩
                  have hq3 : (xb.toList == tb.toList) = (s[i] == c) := by rw [← hxb, ← HTBE.out, hc, eq_toL, eq_one]
                  rw [hxb] at hx
                  have hmm : (s[i] == c && f (i + 1)) = MM (t :: rest) (s.drop i) := by
                    rw [hc]
                    exact MM_byte HR.out.rest hisl' (fun e => ht42 (by rw [hc, e])) (fun e => ht63 (by rw [hc, e]))
                  have HN : Hid (RmI s rest t w1 nb eb n f (fun j => if j = i then (s[i] == c && f (i + 1)) else g j) (i + 1) (wr.setCell ⟨nb, i, none⟩ (.bool (s[i] == c && f (i + 1))))) := HR.out.set _ hmm
                  generalize (s[i] == c) = eb1 at hq3 HN
                  obtain ⟨fv, hfv⟩ : ∃ fv, f (i + 1) = fv := ⟨_, rfl⟩
                  rw [hfv] at ce HN
                  clear q1 ht42 ht1 ht63 HR hil hisl' hfv hc hxb hmm
                  cases eb1 with
                  | true =>
                    as_aux_lemma =>
                    go_wp2
                    go_roundw
                    case rel => exact ⟨i + 1, _, hlt, by go_num, HN⟩
                    case measure => simp [intOf]; omega
                  | false =>
                    as_aux_lemma =>
                    go_wp2
                    go_roundw
                    case rel => exact ⟨i + 1, _, hlt, by go_num, HN⟩
                    case measure => simp [intOf]; omega
              · have ii1 : ¬ (i : Int) < (sl : Int) := by omega
                have cnf := HR.out.next.free i
                have cn := HR.out.next.get hlt
                have HN : Hid (RmI s rest t w1 nb eb n f (fun j => if j = i then false else g j) (i + 1) (wr.setCell ⟨nb, i, none⟩ (.bool false))) := HR.out.set false (by
                  rw [show i = s.length by have := HSZ.out.2.1; omega]
                  exact (MM_end ht1 ht42).symm)
                clear q1 ht42 ht1 HR hil
                as_aux_lemma =>
                go_wp2
                go_roundw
                case rel => exact ⟨i + 1, _, hlt, by go_num, HN⟩
                case measure => simp [intOf]; omega
            · have hz2 : ((tb.size : Int) == 1) = false := beq_eq_false_iff_ne.2 (by have := HTB.out; omega)
              have HPA := Lib.hid (refParts_any t wr (by omega) (by omega))
              rw [HTBE.out] at HPA
              have HMP : Hid ((spl 44 (inner t)).any (fun p => p.isPrefixOf (s.drop i) && f (i + p.length)) = MM (t :: rest) (s.drop i)) := MM_parts HR.out.rest hil ht1
              have hill : (inner t).length ≤ t.length := by unfold inner; rw [List.length_take, List.length_drop]; omega
              have HPL : Hid (∀ p ∈ spl 44 (inner t), p.length ≤ 100) := fun p hp => by have h2 := spl_le hp; omega
              have hmany := spl_many 44 (inner t)
              have hx := HSX.out i hil
              have HPF : Hid (∀ p : List UInt8, p.isPrefixOf (s.drop i) = true → i + p.length ≤ sl) := fun p h => by
                have hle := (List.isPrefixOf_iff_prefix.1 h).length_le
                rw [List.length_drop] at hle
                have := HSZ.out.2.1
                omega
              have HBG : Hid (∀ (p : List UInt8) (w : World), Calls Tryd.prog 29 #[.string (B (s.drop i)), .string (B p)] w fun e w' => e = .returned (.bool (p.isPrefixOf (s.drop i))) ∧ w' = w) := fun p w => begins_any (s.drop i) p w
              obtain ⟨srb, hsr⟩ : ∃ srb, B (s.drop i) = srb := ⟨_, rfl⟩
              rw [hsr] at hx HBG
              generalize spl 44 (inner t) = P at HPA HMP HPL hmany
              obtain ⟨pm, hpm⟩ : ∃ pm, P.length = pm := ⟨_, rfl⟩
              rw [hpm] at HPA hmany
              have HPM := Lib.hid hpm
              have hpb : pm ≤ 101 := by omega
              have isl2 : (i : Int) ≤ (sl : Int) := by have := HSZ.out.2.1; omega
              have hib : i ≤ 1000 := by omega
              clear q1 ht42 ht1 hil hill hmany hsr hpm
              as_aux_lemma =>
              go_wp2_with fail
              refine HPA.out.mono ?_
              rintro e w2 ⟨pa, pc, rfl, ho2, hb2⟩
              have HES2 := Lib.hid (Vec.Own.es ho2)
              have HJ0 : Hid (RmJ s rest t w1 nb eb n f g i false w2) := (RmJ.start HR.out).step hb2
              clear ho2 hb2 HPA HR
              go_wp2
              go_loopw [100] (fun xv wr => ∃ (x : Nat) (v : Bool), x ≤ pm ∧ xv = .int .i64 (x : Int) ∧ Hid (RmJ s rest t w1 nb eb n f g i v wr ∧ Rk.Keeps 9 w2 wr ∧ v = (P.take x).any (fun p => p.isPrefixOf (s.drop i) && f (i + p.length)))) (fun xv _ => pm - (intOf xv).toNat)
              case atStart => exact ⟨0, false, Nat.zero_le _, rfl, HJ0.out, Rk.Keeps.refl _ _, rfl⟩
              case round =>
                clear HJ0
                obtain ⟨x, v, hx1, rfl, HJ⟩ := hrel
                by_cases hxm : x < pm
                · have hxP : x < P.length := by rw [HPM.out]; exact hxm
                  obtain ⟨a2, c2, hxx, hc2, hat⟩ := EsT.at (Vec.Es.keep HES2.out HJ.out.2.1)
                  injection hxx with ha hx2 hcc
                  obtain ⟨b2, o2, hbo, hcell⟩ := hat (by omega)
                  obtain rfl : pa = some ⟨b2, o2, none⟩ := ha.trans hbo
                  obtain ⟨D, hD⟩ : ∃ D, ({ wr with drawn := wr.drawn + 1 } : World) = D := ⟨_, rfl⟩
                  have cj : D.cell? ⟨b2, o2 + x, none⟩ = some (.string (B P[x])) := by rw [← hD]; exact hcell x _ (List.getElem?_eq_getElem hxP)
                  have HANY : Hid ((P.take (x + 1)).any (fun p => p.isPrefixOf (s.drop i) && f (i + p.length)) = (v || (P[x].isPrefixOf (s.drop i) && f (i + P[x].length)))) := by
                    show _ = _
                    rw [any_take _ hxP, ← HJ.out.2.2]
                  have hpl := HPL.out P[x] (List.getElem_mem hxP)
                  have HPF1 := Lib.hid (HPF.out P[x])
                  have HBG1 := Lib.hid (HBG.out P[x] D)
                  have hpz : ((B P[x]).size : Int) = (P[x].length : Int) := by rw [B_size]
                  have HD : Hid (RmJ s rest t w1 nb eb n f g i v D ∧ Rk.Keeps 9 w2 D) := by
                    have hbd : Below wr.heap.size wr D := by rw [← hD]; exact below_dr0 wr
                    exact ⟨HJ.out.1.step hbd, HJ.out.2.1.trans (Rk.Keeps.below hbd)⟩
                  have cn : D.cell? ⟨nb, i, none⟩ = some (.bool v) := HD.out.1.at hlt
                  have cnf : D.frozen? ⟨nb, i, none⟩ = false := HD.out.1.next.free i
                  have HST : Hid (∀ u : Bool, RmJ s rest t w1 nb eb n f g i u (D.setCell ⟨nb, i, none⟩ (.bool u)) ∧ Rk.Keeps 9 w2 (D.setCell ⟨nb, i, none⟩ (.bool u))) := fun u => ⟨HD.out.1.set u, HD.out.2.trans (Rk.Keeps.set (show Blk D nb 4 _ from HD.out.1.next) (by decide) i _)⟩
                  obtain ⟨p, hp⟩ : ∃ p, P[x] = p := ⟨_, rfl⟩
                  rw [hp] at cj HANY hpl HPF1 HBG1 hpz
                  obtain ⟨pb2, hpb2⟩ : ∃ pb2, B p = pb2 := ⟨_, rfl⟩
                  rw [hpb2] at cj HBG1 hpz
                  obtain ⟨pl, hplE⟩ : ∃ pl, p.length = pl := ⟨_, rfl⟩
                  rw [hplE] at HANY hpl HPF1 hpz
                  have HDE := Lib.hid hD
                  have ixm : (x : Int) < (pm : Int) := by omega
                  clear hat ha hx2 hcc hbo hcell hc2 hp hpb2 hplE HJ hD
                  cases v with
                  | true =>
                    have HN : Hid (RmJ s rest t w1 nb eb n f g i true (D.setCell ⟨nb, i, none⟩ (.bool true)) ∧ Rk.Keeps 9 w2 (D.setCell ⟨nb, i, none⟩ (.bool true)) ∧ true = (P.take (x + 1)).any (fun p => p.isPrefixOf (s.drop i) && f (i + p.length))) := ⟨(HST.out true).1, (HST.out true).2, by rw [HANY.out]; rfl⟩
                    clear HANY HST HD HBG1 HPF1
                    go_wp2
                    refine wp_region_still_tail 29 (by kernel_rfl) (by kernel_rfl) ?_
                    rw [HDE.out]
                    simp only [List.take_succ_cons, List.take_zero, List.drop_succ_cons, List.drop_zero]
                    refine still_letter fun KT hKT => ?_
                    have HKT := Lib.hid hKT
                    clear hKT
                    iterate 7 (with_reducible refine still_wanted (by kernel_rfl) (fun K hK => ?_); go_simp; with_reducible refine hK _ ?_; clear hK K)
                    iterate 20 (with_reducible refine still_unwanted (by kernel_rfl) ?_; simp only [Act.put, List.setIfInBounds_toArray, List.set_cons_zero, List.set_cons_succ])
                    iterate 2 (with_reducible refine still_wanted (by kernel_rfl) (fun K hK => ?_); go_simp; with_reducible refine hK _ ?_; clear hK K)
                    with_reducible refine wpStill_nil ?_
                    refine HKT.out _ ?_
                    clear HKT KT
                    go_wp2
                    go_roundw
                    case rel => exact ⟨x + 1, true, hxm, by go_num, HN⟩
                    case measure => simp [intOf]; omega
                  | false =>
                    obtain ⟨bg, hbg⟩ : ∃ bg, p.isPrefixOf (s.drop i) = bg := ⟨_, rfl⟩
                    rw [hbg] at HANY HPF1 HBG1
                    clear hbg
                    cases bg with
                    | false =>
                      have HN : Hid (RmJ s rest t w1 nb eb n f g i false (D.setCell ⟨nb, i, none⟩ (.bool false)) ∧ Rk.Keeps 9 w2 (D.setCell ⟨nb, i, none⟩ (.bool false)) ∧ false = (P.take (x + 1)).any (fun p => p.isPrefixOf (s.drop i) && f (i + p.length))) := ⟨(HST.out false).1, (HST.out false).2, by rw [HANY.out]; rfl⟩
                      clear HANY HST HD HPF1
                      go_wp2
                      refine wp_region_still_tail 29 (by kernel_rfl) (by kernel_rfl) ?_
                      rw [HDE.out]
                      simp only [List.take_succ_cons, List.take_zero, List.drop_succ_cons, List.drop_zero]
                      refine still_letter fun KT hKT => ?_
                      have HKT := Lib.hid hKT
                      clear hKT
                      iterate 14 (with_reducible refine still_wanted (by kernel_rfl) (fun K hK => ?_); go_simp; with_reducible refine hK _ ?_; clear hK K)
                      (with_reducible refine still_wanted (by kernel_rfl) (fun K hK => ?_); go_simp; with_reducible refine ⟨_, HBG1.out, hK _ ?_⟩; clear hK K)
                      (with_reducible refine still_wanted (by kernel_rfl) (fun K hK => ?_); go_simp; with_reducible refine hK _ ?_; clear hK K)
                      iterate 10 (with_reducible refine still_unwanted (by kernel_rfl) ?_; simp only [Act.put, List.setIfInBounds_toArray, List.set_cons_zero, List.set_cons_succ])
                      iterate 3 (with_reducible refine still_wanted (by kernel_rfl) (fun K hK => ?_); go_simp; with_reducible refine hK _ ?_; clear hK K)
                      with_reducible refine wpStill_nil ?_
                      refine HKT.out _ ?_
                      clear HKT KT
                      go_wp2
                      go_roundw
                      case rel => exact ⟨x + 1, false, hxm, by go_num, HN⟩
                      case measure => simp [intOf]; omega
                    | true =>
                      have hq := HPF1.out rfl
                      obtain ⟨q, hqq⟩ : ∃ q, i + pl = q := ⟨_, rfl⟩
                      rw [hqq] at hq HANY
                      have hqn : q < n := by omega
                      have ce : D.cell? ⟨eb, q, none⟩ = some (.bool (f q)) := HD.out.1.ends.get hqn
                      have HN : Hid (RmJ s rest t w1 nb eb n f g i (f q) (D.setCell ⟨nb, i, none⟩ (.bool (f q))) ∧ Rk.Keeps 9 w2 (D.setCell ⟨nb, i, none⟩ (.bool (f q))) ∧ f q = (P.take (x + 1)).any (fun p => p.isPrefixOf (s.drop i) && f (i + p.length))) := ⟨(HST.out (f q)).1, (HST.out (f q)).2, by rw [HANY.out]; rfl⟩
                      obtain ⟨fq, hfq⟩ : ∃ fq, f q = fq := ⟨_, rfl⟩
                      rw [hfq] at ce HN
                      have iqn : (q : Int) < (n : Int) := by omega
                      have wqI : IntKind.i64.wrap ((i : Int) + (pl : Int)) = (q : Int) := by rw [Rk.wr64 _ (by omega) (by omega)]; omega
                      have wq : wrap64 ((i : Int) + (pl : Int)) = (q : Int) := by clear wqI; rw [IntWalk.wrap64_in _ ⟨by omega, by omega⟩]; omega
                      clear HANY HST HD HPF1 hfq hqq hq
                      go_wp2
                      refine wp_region_still_tail 29 (by kernel_rfl) (by kernel_rfl) ?_
                      rw [HDE.out]
                      simp only [List.take_succ_cons, List.take_zero, List.drop_succ_cons, List.drop_zero]
                      refine still_letter fun KT hKT => ?_
                      have HKT := Lib.hid hKT
                      clear hKT
                      iterate 14 (with_reducible refine still_wanted (by kernel_rfl) (fun K hK => ?_); go_simp; with_reducible refine hK _ ?_; clear hK K)
                      (with_reducible refine still_wanted (by kernel_rfl) (fun K hK => ?_); go_simp; with_reducible refine ⟨_, HBG1.out, hK _ ?_⟩; clear hK K)
                      iterate 14 (with_reducible refine still_wanted (by kernel_rfl) (fun K hK => ?_); go_simp; with_reducible refine hK _ ?_; clear hK K)
                      with_reducible refine wpStill_nil ?_
                      refine HKT.out _ ?_
                      clear HKT KT
                      go_wp2
                      clear wq wqI
                      go_roundw
                      case rel => exact ⟨x + 1, fq, hxm, by go_num, HN⟩
                      case measure => simp [intOf]; omega
                · obtain rfl : x = pm := by omega
                  have HFIN : Hid (RmI s rest t w1 nb eb n f (fun j => if j = i then v else g j) (i + 1) wr) := HJ.out.1.fin (by
                    rw [HJ.out.2.2, List.take_of_length_le (by rw [HPM.out]; exact Nat.le_refl _)]
                    exact HMP.out)
                  clear HJ
                  go_wp2
                  go_roundw
                  case rel => exact ⟨i + 1, _, hlt, by go_num, HFIN⟩
                  case measure => simp [intOf]; omega
        · obtain rfl : i = n := by omega
          have HN : Hid (BAt wr nb g i ∧ Below w1.heap.size w1 wr ∧ ∀ j, j ≤ s.length → g j = MM (L.drop k) (s.drop j)) := ⟨HR.out.next, HR.out.below, fun j hj => by rw [HDR.out]; exact HR.out.done j (by have := HSZ.out.2.2; omega) hj⟩
          clear HR
          as_aux_lemma =>
          go_wp2
          go_roundw
          case rel => exact ⟨k, nb, g, _, by omega, rfl, by go_num, rfl, HN⟩
          case measure => simp [intOf]
end Gb
end Go.Proofs.YtljcnnigpfclkaaDoor
