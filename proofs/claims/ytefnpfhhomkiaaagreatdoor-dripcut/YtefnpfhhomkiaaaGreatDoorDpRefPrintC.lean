
/- What the document's Print (tidemillref07) answers: the walk. -/
import Derived.Test.YtefnpfhhomkiaaaGreatDoorDpRefPrint
namespace Go.Proofs.YtefnpfhhomkiaaaGreatDoor
open Go.RowKit Go.Shelf
namespace Dp
open Fx (textL)
theorem B_app (a b : List UInt8) : B a ++ B b = B (a ++ b) := Fx.mk_append a b
/-- in a world that only grew, the event's block -/
structure PrI (w W : World) (e : Ev) (v : Value) : Prop where
  bl : Below w.heap.size w W
  k : Blk W w.heap.size tE #[strV e.met, v, .int .i64 e.kind, .int .i64 e.val, strV e.mem, .int .i64 e.rate, .int .i64 e.time, strV e.src, .int .i64 e.seq]
theorem PrI.next {w W W' : World} {e : Ev} {v : Value} (h : PrI w W e v) (hb : Below W.heap.size W W') : PrI w W' e v := ⟨below_step h.bl (Nat.le_refl _) hb, h.k.below hb h.k.lt⟩
theorem prI_new (w : World) (e : Ev) (v : Value) : PrI w (w.alloc (evO e v)) e v := ⟨(Below.refl _ w).alloc (Nat.le_refl _) _, Blk.new w _ _⟩
set_option maxRecDepth 100000 in
set_option maxHeartbeats 8000000 in
theorem refPrint_any (e : Ev) (hp : Prt e) (a : Option Addr) (n c : Nat) (f : Nat → Y2.Tg.LabM) (w : World) (hI : Y2.LabsAt (·.1) w.heap.size w a n f) (hL : Y2.Tg.labs (Y2.Tg.upto f n) = e.labs) :
    Calls Tryz.prog 12 #[evV e (.slice a n c)] w fun r w' => r = .returned (strV (lineL e e.labs)) ∧ Below w.heap.size w w' := by
  have HP := Lib.hid hp
  have HPI := Lib.hid (prI_new w e (.slice a n c))
  obtain ⟨W1, hW1⟩ : ∃ W1, w.alloc (evO e (.slice a n c)) = W1 := ⟨_, rfl⟩
  rw [hW1] at HPI
  obtain ⟨p0, p1, p2, p3, p4, p5, p6, p7, p8⟩ := cells9 HPI.out.k
  have HI := Lib.hid hI
  have HL := Lib.hid hL
  have z1 := hp.met
  have z2 := hp.mem
  have HTX := fun w1 => Lib.hid (refText_any e.val hp.val w1)
  have HDR := fun w1 => Lib.hid (decimal_any e.rate hp.rate w1)
  clear hI hL hp
  go_enter Tryz.func12, Tryz.ntmps12
  go_upto_if 11 with (fail)
  go_cut [3] (fun s wc => s = strV (preA e) ∧ Hid (PrI w wc e (.slice a n c)))
  case first =>
    by_cases h4 : e.kind = 4
    · have g4 : (e.kind == 4) = true := beq_iff_eq.2 h4
      have HR : Hid (preA e = e.met ++ [58] ++ e.mem) := by show _ = _; unfold preA measT; rw [if_pos h4]; simp
      clear h4
      go_wp2
      go_meet
      case rel => exact ⟨by rw [HR.out]; unfold strV; rw [← B_app, ← B_app], HPI⟩
    · have g4 : (e.kind == 4) = false := beq_eq_false_iff_ne.2 h4
      have HR : Hid (preA e = e.met ++ [58] ++ textL e.val) := by show _ = _; unfold preA measT; rw [if_neg h4]; simp
      have htl := Fx.text_len e.val HP.out.val
      clear h4
      go_wp2_with fail
      refine (HTX _).out.mono ?_
      rintro r W2 ⟨rfl, hb2⟩
      go_wp2
      go_meet
      case rel => exact ⟨by rw [HR.out]; unfold strV; rw [← B_app, ← B_app], Lib.hid (HPI.out.next hb2)⟩
  case rest =>
    obtain ⟨rfl, HPJ⟩ := hcut
    clear HPI p0 p1 p2 p3 p4 p5 p6 p7 p8 hW1 HTX
    obtain ⟨p0, p1, p2, p3, p4, p5, p6, p7, p8⟩ := cells9 HPJ.out.k
    have hpa : (preA e).length ≤ 1001 := by
      have h1 := HP.out.met
      have h2 := HP.out.meas
      unfold preA
      rw [List.length_append, List.length_cons]; omega
    go_upto_region 5 with (fail)
    go_cut [3] (fun s wx => s = strV (preB e) ∧ wc = wx)
    case first =>
      have HR : Hid (preB e = preA e ++ [124] ++ word e.kind) := by show _ = _; unfold preB; simp
      have HWK : Hid (∀ k, e.kind = k → word e.kind = word k) := fun k h => by rw [h]
      rcases HP.out.kind with h | h | h | h
      · have hw := HWK.out 1 h
        rw [h] at p2
        have hi := word_1
        generalize preA e = pa at *
        go_wp2
        go_meet
        case rel => exact ⟨by rw [HR.out, hw]; unfold strV; rw [← B_app, ← B_app]; rfl, rfl⟩
      · have hw := HWK.out 2 h
        rw [h] at p2
        have hi := word_2
        generalize preA e = pa at *
        go_wp2
        go_meet
        case rel => exact ⟨by rw [HR.out, hw]; unfold strV; rw [← B_app, ← B_app]; rfl, rfl⟩
      · have hw := HWK.out 3 h
        rw [h] at p2
        have hi := word_3
        generalize preA e = pa at *
        go_wp2
        go_meet
        case rel => exact ⟨by rw [HR.out, hw]; unfold strV; rw [← B_app, ← B_app]; rfl, rfl⟩
      · have hw := HWK.out 4 h
        rw [h] at p2
        have hi := word_4
        generalize preA e = pa at *
        go_wp2
        go_meet
        case rel => exact ⟨by rw [HR.out, hw]; unfold strV; rw [← B_app, ← B_app]; rfl, rfl⟩
    case rest =>
      obtain ⟨rfl, rfl⟩ := hcut
      have hpb : (preB e).length ≤ 1010 := by
        have := word_len e.kind
        unfold preB
        rw [List.length_append, List.length_cons]; omega
      clear hpa
      go_upto_if 30 with (fail)
      go_cut [3] (fun s wx => s = strV (preR e) ∧ Hid (PrI w wx e (.slice a n c)))
      case first =>
        by_cases h1 : e.rate = 1
        · have g1 : (e.rate != 1) = false := by rw [h1]; rfl
          have HR : Hid (preR e = preB e) := by show _ = _; unfold preR; rw [if_pos h1, List.append_nil]
          clear h1
          go_wp2
          go_meet
          case rel => exact ⟨by rw [HR.out], HPJ⟩
        · have g1 : (e.rate != 1) = true := by rw [bne, beq_eq_false_iff_ne.2 h1]; rfl
          have HR : Hid (preR e = preB e ++ [124, 64] ++ dec e.rate) := by show _ = _; unfold preR; rw [if_neg h1]; simp
          have hdl := dec_le20 e.rate HP.out.rate
          clear h1
          generalize preB e = pb at *
          generalize dec e.rate = dr at *
          go_wp2_with fail
          refine (HDR _).out.mono ?_
          rintro r W2 ⟨rfl, hb2⟩
          go_wp2
          go_meet
          case rel => exact ⟨by rw [HR.out]; unfold strV; rw [← B_app, ← B_app], Lib.hid (HPJ.out.next hb2)⟩
      case rest =>
        obtain ⟨rfl, HPK⟩ := hcut
        clear p0 p1 p2 p3 p4 p5 p6 p7 p8 HDR HPJ hpb
        obtain ⟨p0, p1, p2, p3, p4, p5, p6, p7, p8⟩ := cells9 HPK.out.k
        have hnl : n = e.labs.length := by rw [← HL.out]; simp [Y2.Tg.labs, Y2.Tg.upto_len]
        have hn20 : n ≤ 20 := by have := HP.out.few; omega
        have HNL := Lib.hid hnl
        clear hnl
        go_wp2
        go_loopw [3, 4, 41] (fun s _ i wr => ∃ (k : Nat) (t : ByteArray), k ≤ n ∧ i = .int .i64 k ∧ s = .string t ∧ t.data.toList = preR e ++ labsT (e.labs.take k) ∧ Dr wc wr) (fun _ _ i _ => n - (intOf i).toNat)
        case atStart => exact ⟨0, B (preR e), Nat.zero_le _, rfl, rfl, by simp [labsT], Dr.refl _⟩
        case round =>
          obtain ⟨k, t, hk, rfl, rfl, ht, hdr⟩ := hrel
          have HT := Lib.hid ht
          have hts : t.size ≤ 2400 := by
            have h1 := congrArg List.length ht
            rw [← Lib.size_eq, List.length_append] at h1
            have h2 := labsT_le (e.labs.take k) (fun x hx => HP.out.labs x (List.mem_of_mem_take hx))
            rw [List.length_take] at h2
            have h3 := HP.out.preR
            have := HNL.out
            omega
          clear ht
          have s1 : wr.cell? ⟨w.heap.size, 1, none⟩ = some (.slice a n c) := (hdr.cell _).trans p1
          by_cases hlt : k < n
          · rcases HI.out with h0 | ⟨b, off, rfl, hb, hc⟩
            · omega
            have q1 : wr.cell? ⟨b, off + k * 2, none⟩ = some (.string (f k).1.1) := (hdr.cell _).trans ((HPK.out.bl.cell (p := ⟨b, off + k * 2, none⟩) hb).trans (hc k hlt).1)
            have q2 : wr.cell? ⟨b, off + k * 2 + 1, none⟩ = some (.string (f k).1.2) := (hdr.cell _).trans ((HPK.out.bl.cell (p := ⟨b, off + k * 2 + 1, none⟩) hb).trans (hc k hlt).2)
            have hkn : (k : Int) < (n : Int) := by omega
            have hat : e.labs[k]? = some (f k).1 := by
              rw [← HL.out]
              simp [Y2.Tg.labs, Y2.Tg.upto, hlt]
            have HN : Hid (labsT (e.labs.take (k + 1)) = labsT (e.labs.take k) ++ ((if (e.labs.take k).isEmpty then [124, 35] else [44]) ++ (f k).1.1.data.toList ++ [61] ++ (f k).1.2.data.toList)) := by
              show _ = _
              have hk' : k < e.labs.length := by have := HNL.out; omega
              rw [List.take_succ_eq_append_getElem hk', labsT_snoc]
              rw [List.getElem?_eq_getElem hk'] at hat
              injection hat with hat
              rw [hat]
            obtain ⟨hl1, hl2⟩ := HP.out.labs (f k).1 (List.mem_of_getElem? hat)
            have HEM : Hid ((e.labs.take k).isEmpty = decide (k = 0)) := by
              show _ = _
              have hk' : k < e.labs.length := by have := HNL.out; omega
              rw [Bool.eq_iff_iff, List.isEmpty_iff]
              simp only [decide_eq_true_eq, List.take_eq_nil_iff]
              exact ⟨fun h => h.elim (fun h => h) (fun h => by rw [h] at hk'; simp at hk'), .inl⟩
            generalize (f k).1.1 = y1 at q1 HN hl1
            generalize (f k).1.2 = y2 at q2 HN hl2
            clear hat hc hb
            by_cases hk0 : k = 0
            · have hkz : ((k : Int) == 0) = true := beq_iff_eq.2 (by omega)
              have HNN : Hid (labsT (e.labs.take (k + 1)) = labsT (e.labs.take k) ++ ([124, 35] ++ y1.data.toList ++ [61] ++ y2.data.toList)) := by show _ = _; rw [HN.out, HEM.out, decide_eq_true hk0]; rfl
              clear hk0
              go_wp2
              go_quiet (fail)
              go_wp2
              go_roundw
              case rel => exact ⟨k + 1, _, by omega, by go_num, rfl, by rw [HNN.out]; simp [HT.out], hdr.more _⟩
              case measure => simp [intOf]; omega
            · have hkz : ((k : Int) == 0) = false := beq_eq_false_iff_ne.2 (by omega)
              have HNN : Hid (labsT (e.labs.take (k + 1)) = labsT (e.labs.take k) ++ ([44] ++ y1.data.toList ++ [61] ++ y2.data.toList)) := by show _ = _; rw [HN.out, HEM.out, decide_eq_false hk0]; rfl
              clear hk0
              go_wp2
              go_quiet (fail)
              go_wp2
              go_roundw
              case rel => exact ⟨k + 1, _, by omega, by go_num, rfl, by rw [HNN.out]; simp [HT.out], hdr.more _⟩
              case measure => simp [intOf]; omega
          · obtain rfl : k = n := by omega
            have HTT : Hid (lineL e e.labs = t.data.toList ++ [124, 84] ++ dec e.time ++ [124, 83] ++ e.src ++ [46] ++ dec e.seq) := by
              show _ = _
              rw [line_eq, HT.out, HNL.out, List.take_length]; simp
            have HPW : Hid (PrI w wr e (.slice a k c)) := by
              obtain ⟨q, rfl⟩ := hdr
              exact HPK.out.next (below_q wc q)
            have HKEEP : Hid (∀ W', Below wr.heap.size wr W' → W'.cell? ⟨w.heap.size, 6, none⟩ = some (.int .i64 e.time) ∧ W'.cell? ⟨w.heap.size, 7, none⟩ = some (strV e.src) ∧ W'.cell? ⟨w.heap.size, 8, none⟩ = some (.int .i64 e.seq)) := fun W' hb => by
              obtain ⟨_, _, _, _, _, _, r6, r7, r8⟩ := cells9 (HPW.out.next hb).k
              exact ⟨r6, r7, r8⟩
            have HDT : Hid (∀ W', Below wr.heap.size wr W' → Calls Tryz.prog 37 #[.int .i64 e.time] W' fun r w' => r = .returned (strV (dec e.time)) ∧ Below wr.heap.size wr w') := fun W' hb => (decimal_any e.time HP.out.time W').mono fun _ _ ⟨h1, h2⟩ => ⟨h1, below_step hb (Nat.le_refl _) h2⟩
            have HDS : Hid (∀ W', Below wr.heap.size wr W' → Calls Tryz.prog 37 #[.int .i64 e.seq] W' fun r w' => r = .returned (strV (dec e.seq)) ∧ Below wr.heap.size wr w') := fun W' hb => (decimal_any e.seq HP.out.seq W').mono fun _ _ ⟨h1, h2⟩ => ⟨h1, below_step hb (Nat.le_refl _) h2⟩
            have u1 := dec_le20 e.time HP.out.time
            have u2 := dec_le20 e.seq HP.out.seq
            have u3 := HP.out.src
            have HFIN : Hid (∀ W', Below wr.heap.size wr W' → Below w.heap.size w W') := fun W' hb => below_step HPW.out.bl (Nat.le_refl _) hb
            generalize dec e.time = dt at HDT HTT u1
            generalize dec e.seq = ds at HDS HTT u2
            have HX : Hid (Ending.returned (.string (t ++ (⟨#[124, 84]⟩ : ByteArray) ++ B dt ++ ⟨#[124, 83]⟩ ++ B e.src ++ ⟨#[46]⟩ ++ B ds)) = .returned (strV (lineL e e.labs))) := by
              show _ = _
              rw [HTT.out]
              unfold strV
              rw [← B_app, ← B_app, ← B_app, ← B_app, ← B_app, ← B_app, B_data]
            generalize e.time = tm at HKEEP HDT
            generalize e.seq = sq at HKEEP HDS
            clear p0 p1 p2 p3 p4 p5 p6 p7 p8 HPK HPW HT
            go_wp2
            go_region_held (fun w' => w'.cell? ⟨w.heap.size, 6, none⟩ = some (.int .i64 tm) ∧ w'.cell? ⟨w.heap.size, 7, none⟩ = some (strV e.src) ∧ w'.cell? ⟨w.heap.size, 8, none⟩ = some (.int .i64 sq)) (first | exact HKEEP.out _ B2 | exact HKEEP.out _ B1 | exact HKEEP.out _ (below_dr0 _)) (first
              | (go_at_call 37; refine (HDS.out _ B1).mono ?_; rintro r wB ⟨rfl, B2⟩)
              | (go_at_call 37; refine (HDT.out _ B2).mono ?_; rintro r wA ⟨rfl, B1⟩)
              | (go_at_call 37; refine (HDT.out _ (below_dr0 _)).mono ?_; rintro r wA ⟨rfl, B1⟩)
              | (go_at_call 37; refine (HDS.out _ (below_dr0 _)).mono ?_; rintro r wB ⟨rfl, B2⟩))
            all_goals
              go_wp2
              go_ret
              first | exact ⟨HX.out, HFIN.out _ B2⟩ | exact ⟨HX.out, HFIN.out _ B1⟩
end Dp
end Go.Proofs.YtefnpfhhomkiaaaGreatDoor
