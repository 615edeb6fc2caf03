
/- What drip.Print answers, of a good event. -/
import Derived.Test.YtefnpfhhomkiaaaGreatDoorDpPrint2
namespace Go.Proofs.YtefnpfhhomkiaaaGreatDoor
open Go.RowKit Go.Shelf
namespace Dp
attribute [local go_sem] Oper.semAt_some
/-- the cells of the event and of its word -/
def Cs (E k : Nat) (e : Ev) (v : Value) (wd : List UInt8) (w' : World) : Prop := w'.cell? ⟨E, 0, none⟩ = some (strV e.met) ∧ w'.cell? ⟨E, 1, none⟩ = some v ∧ w'.cell? ⟨E, 2, none⟩ = some (.int .i64 (k : Int)) ∧ w'.cell? ⟨E, 3, none⟩ = some (.int .i64 e.val) ∧ w'.cell? ⟨E, 4, none⟩ = some (strV e.mem) ∧ w'.cell? ⟨E, 5, none⟩ = some (.int .i64 e.rate) ∧ w'.cell? ⟨E, 6, none⟩ = some (.int .i64 e.time) ∧ w'.cell? ⟨E, 7, none⟩ = some (strV e.src) ∧ w'.cell? ⟨E, 8, none⟩ = some (.int .i64 e.seq) ∧ w'.cell? ⟨0, k, none⟩ = some (strV wd)
theorem PrB.cs {w W : World} {e : Ev} {v : Value} {bb : Nat} {l : List UInt8} (h : PrB w W e v bb l) (hE : Env w) {k : Nat} (hk : e.kind = (k : Int)) (h1 : 1 ≤ k) (h4 : k ≤ 4) {E : Nat} (he : w.heap.size = E) {wd : List UInt8} (hw : word e.kind = wd) : Cs E k e v wd W := by
  obtain ⟨p0, p1, p2, p3, p4, p5, p6, p7, p8⟩ := cells9 h.pr.k
  subst he hw
  rw [hk] at p2 ⊢
  exact ⟨p0, p1, p2, p3, p4, p5, p6, p7, p8, hE.word h.pr.bl h1 h4⟩
set_option maxRecDepth 100000 in
set_option maxHeartbeats 8000000 in
theorem print_any (e : Ev) (G : Good e) (hp : Prt e) (a : Option Addr) (n c : Nat) (f : Nat → Y2.Tg.LabM) (w : World) (hE : Env w) (hE1 : Env1 w) (hI : Y2.LabsAt (·.1) w.heap.size w a n f) (hL : Y2.Tg.labs (Y2.Tg.upto f n) = e.labs) :
    Calls Tryz.prog 10 #[evV e (.slice a n c)] w fun r w' => r = .returned (strV (lineL e e.labs)) ∧ Below w.heap.size w w' := by
  have hgd : good e = true := (good_iff e).2 G
  have HG := Lib.hid G
  have HP := Lib.hid hp
  have HI := Lib.hid hI
  have HL := Lib.hid hL
  have HEN := Lib.hid hE
  have HE1 : Hid (∀ W, Below w.heap.size w W → Env1 W) := fun W h => hE1.below h
  have HGD : Hid (∀ W, Below w.heap.size w W → Calls Tryz.prog 9 #[evV e (.slice a n c)] W fun r w' => r = .returned (.bool true) ∧ Below W.heap.size W w') := fun W h => by
    rw [← hgd]
    exact good_any e a n c f W ((hI.below h).mono h.size) hL (Nat.le_trans hp.met (by decide)) (Nat.le_trans hp.mem (by decide)) (Nat.le_trans hp.src (by decide))
  obtain ⟨k, hk, hk1, hk4⟩ : ∃ k : Nat, e.kind = (k : Int) ∧ 1 ≤ k ∧ k ≤ 4 := ⟨e.kind.toNat, by rcases G.kind with h | h | h | h <;> omega, by rcases G.kind with h | h | h | h <;> omega, by rcases G.kind with h | h | h | h <;> omega⟩
  have HK := Lib.hid hk
  have hk5 : (k : Int) < 5 := by omega
  have HME : Hid (∀ W, Below w.heap.size w W → Calls Tryz.prog 24 #[.agg #[strV e.met, .slice a n c, .int .i64 (k : Int), .int .i64 e.val, strV e.mem, .int .i64 e.rate, .int .i64 e.time, strV e.src, .int .i64 e.seq]] W fun r w' => r = .returned (strV (measT e)) ∧ Below W.heap.size W w') := fun W h => by
    have h := measurement_any e (.slice a n c) W (hE1.below h) hp.val
    unfold evV at h
    rwa [hk] at h
  have HIR := fun W h => Lib.hid (itoa_any e.rate hp.rate W (HE1.out W h))
  have HIM := fun W h => Lib.hid (itoa_any e.time hp.time W (HE1.out W h))
  have HIQ := fun W h => Lib.hid (itoa_any e.seq hp.seq W (HE1.out W h))
  have HPI := Lib.hid (prI_new w e (.slice a n c))
  obtain ⟨W1, hW1⟩ : ∃ W1, w.alloc (evO e (.slice a n c)) = W1 := ⟨_, rfl⟩
  rw [hW1] at HPI
  have z1 := hp.met
  have z2 := hp.meas
  have z3 := word_len e.kind
  have z4 := hp.src
  have z5 := dec_le20 e.rate hp.rate
  have z6 := dec_le20 e.time hp.time
  have z7 := dec_le20 e.seq hp.seq
  obtain ⟨p0, p1, p2, p3, p4, p5, p6, p7, p8⟩ := cells9 HPI.out.k
  have HCS := fun W l bb (h : PrB w W e (.slice a n c) bb l) E he wd hw => Lib.hid (h.cs HEN.out HK.out hk1 hk4 (E := E) he (wd := wd) hw)
  clear hE hE1 hI hL G hp hgd hk hk1 hk4
  refine (callsIn_wide (n := 3)).1 ?_
  refine callsIn_of_wp_marks Tryz.func10 rfl trivial ?_ rfl
  simp only [Tryz.ntmps10, List.size_toArray, List.length_cons, List.length_nil, Nat.reduceAdd, Nat.reduceSub, Array.replicate_succ, Array.replicate_zero, List.push_toArray, List.append_toArray, List.nil_append, List.cons_append]
  gi_wp2_with fail
  refine ⟨trivial, (callsIn_wide.2 (HGD.out _ HPI.out.bl)).mono ?_⟩
  rintro r W2 ⟨rfl, hb2⟩
  have HP2 := Lib.hid (HPI.out.next hb2)
  clear hb2 hW1 p0 p1 p2 p3 p4 p5 p6 p7 p8 HPI
  obtain ⟨bb, hbb⟩ : ∃ bb, W2.heap.size = bb := ⟨_, rfl⟩
  have HLT : Hid (w.heap.size < bb) := by show _ < _; rw [← hbb]; exact HP2.out.k.lt
  obtain ⟨V, hV⟩ : ∃ V, W2.alloc (.cells #[.pointer none, .slice none 0 0] 44) = V := ⟨_, rfl⟩
  have HPV : Hid (PrI w V e (.slice a n c)) := by rw [← hV]; exact HP2.out.next ((Below.refl _ W2).alloc (Nat.le_refl _) _)
  have HKV : Hid (Blk V bb 44 #[.pointer none, .slice none 0 0]) := by rw [← hV, ← hbb]; exact Blk.new W2 _ _
  obtain ⟨U, hU⟩ : ∃ U, (V.setCell ⟨bb, 0, none⟩ (.pointer none)).setCell ⟨bb, 1, none⟩ (.slice none 0 0) = U := ⟨_, rfl⟩
  have HB0 : Hid (PrB w U e (.slice a n c) bb []) := by
    rw [← hU]
    have h1 : Blk ((V.setCell ⟨bb, 0, none⟩ (.pointer none)).setCell ⟨bb, 1, none⟩ (.slice none 0 0)) bb 44 #[.pointer none, .slice none 0 0] := (HKV.out.set 0 _).set 1 _
    have hne : bb ≠ w.heap.size := by have := HLT.out; omega
    exact PrB.start ⟨below_set (below_set HPV.out.bl (Nat.le_of_lt HLT.out) _) (Nat.le_of_lt HLT.out) _, (HPV.out.k.other hne _).other hne _⟩ h1 HLT.out
  have f0 := frozen7 HKV.out
  have g0 := (HKV.out.cl 0 _ rfl).1
  have g1 := (HKV.out.cl 1 _ rfl).1
  gi_wp2_with fail
  have HPD := Lib.hid (HB0.out.next (below_dr0 U))
  have HPB : Hid ((preB e).length ≤ 1100) := by
    show _ ≤ _
    have h := HP.out.preR
    unfold preR at h
    rw [List.length_append] at h
    omega
  clear f0 g0 g1 hU hV
  refine norm_i ?_
  refine region_i (S := (fun w' => Cs w.heap.size k e (.slice a n c) (word e.kind) w')) (by kernel_rfl) ((HCS U.drew [] bb HPD.out _ rfl _ rfl).out) (fun hHeld => ?_)
  refine take_i (fun _ => trivial) rfl (i := 0) (d := 11) (v := .pointer (some ⟨w.heap.size, 0, none⟩)) rfl rfl (by kernel_rfl) (by kernel_rfl) (by kernel_rfl) (fun _ _ _ h => h) (Or.inl ⟨by kernel_rfl, ?_⟩) (by assumption) ?_
  · intro wS hSw
    obtain ⟨hS0, hS1, hS2, hS3, hS4, hS5, hS6, hS7, hS8, hS9⟩ := hSw
    go_simp
  simp only [Act.put, List.setIfInBounds_toArray, List.set_cons_zero, List.set_cons_succ]
  refine take_i (fun _ => trivial) rfl (i := 1) (d := 12) (v := .pointer (some ⟨w.heap.size, 0, none⟩)) rfl rfl (by kernel_rfl) (by kernel_rfl) (by kernel_rfl) (fun _ _ _ h => h) (Or.inl ⟨by kernel_rfl, ?_⟩) (by assumption) ?_
  · intro wS hSw
    obtain ⟨hS0, hS1, hS2, hS3, hS4, hS5, hS6, hS7, hS8, hS9⟩ := hSw
    go_simp
  simp only [Act.put, List.setIfInBounds_toArray, List.set_cons_zero, List.set_cons_succ]
  refine take_i (fun _ => trivial) rfl (i := 2) (d := 13) (v := strV e.met) rfl rfl (by kernel_rfl) (by kernel_rfl) (by kernel_rfl) (fun _ _ _ h => h) (Or.inl ⟨by kernel_rfl, ?_⟩) (by assumption) ?_
  · intro wS hSw
    obtain ⟨hS0, hS1, hS2, hS3, hS4, hS5, hS6, hS7, hS8, hS9⟩ := hSw
    go_simp
  simp only [Act.put, List.setIfInBounds_toArray, List.set_cons_zero, List.set_cons_succ]
  refine take_i (fun _ => trivial) rfl (i := 3) (d := 14) (v := .string (B e.met ++ ⟨#[58]⟩)) rfl rfl (by kernel_rfl) (by kernel_rfl) (by kernel_rfl) (fun _ _ _ h => h) (Or.inl ⟨by kernel_rfl, ?_⟩) (by assumption) ?_
  · intro wS hSw
    obtain ⟨hS0, hS1, hS2, hS3, hS4, hS5, hS6, hS7, hS8, hS9⟩ := hSw
    go_simp
    omega
  simp only [Act.put, List.setIfInBounds_toArray, List.set_cons_zero, List.set_cons_succ]
  refine take_i (fun _ => trivial) rfl (i := 4) (d := 15) (v := .agg #[strV e.met, .slice a n c, .int .i64 (k : Int), .int .i64 e.val, strV e.mem, .int .i64 e.rate, .int .i64 e.time, strV e.src, .int .i64 e.seq]) rfl rfl (by kernel_rfl) (by kernel_rfl) (by kernel_rfl) (fun _ _ _ h => h) (Or.inl ⟨by kernel_rfl, ?_⟩) (by assumption) ?_
  · intro wS hSw
    obtain ⟨hS0, hS1, hS2, hS3, hS4, hS5, hS6, hS7, hS8, hS9⟩ := hSw
    go_simp
  simp only [Act.put, List.setIfInBounds_toArray, List.set_cons_zero, List.set_cons_succ]
  refine take_i (fun _ => trivial) rfl (i := 8) (d := 19) (v := .pointer (some ⟨w.heap.size, 2, none⟩)) rfl rfl (by kernel_rfl) (by kernel_rfl) (by kernel_rfl) (fun _ _ _ h => h) (Or.inl ⟨by kernel_rfl, ?_⟩) (by assumption) ?_
  · intro wS hSw
    obtain ⟨hS0, hS1, hS2, hS3, hS4, hS5, hS6, hS7, hS8, hS9⟩ := hSw
    go_simp
  simp only [Act.put, List.setIfInBounds_toArray, List.set_cons_zero, List.set_cons_succ]
  refine take_i (fun _ => trivial) rfl (i := 9) (d := 20) (v := .int .i64 (k : Int)) rfl rfl (by kernel_rfl) (by kernel_rfl) (by kernel_rfl) (fun _ _ _ h => h) (Or.inl ⟨by kernel_rfl, ?_⟩) (by assumption) ?_
  · intro wS hSw
    obtain ⟨hS0, hS1, hS2, hS3, hS4, hS5, hS6, hS7, hS8, hS9⟩ := hSw
    go_simp
  simp only [Act.put, List.setIfInBounds_toArray, List.set_cons_zero, List.set_cons_succ]
  refine take_i (fun _ => trivial) rfl (i := 10) (d := 21) (v := .pointer (some ⟨0, k, none⟩)) rfl rfl (by kernel_rfl) (by kernel_rfl) (by kernel_rfl) (fun _ _ _ h => h) (Or.inl ⟨by kernel_rfl, ?_⟩) (by assumption) ?_
  · intro wS hSw
    obtain ⟨hS0, hS1, hS2, hS3, hS4, hS5, hS6, hS7, hS8, hS9⟩ := hSw
    go_simp
  simp only [Act.put, List.setIfInBounds_toArray, List.set_cons_zero, List.set_cons_succ]
  refine take_i (fun _ => trivial) rfl (i := 11) (d := 22) (v := strV (word e.kind)) rfl rfl (by kernel_rfl) (by kernel_rfl) (by kernel_rfl) (fun _ _ _ h => h) (Or.inl ⟨by kernel_rfl, ?_⟩) (by assumption) ?_
  · intro wS hSw
    obtain ⟨hS0, hS1, hS2, hS3, hS4, hS5, hS6, hS7, hS8, hS9⟩ := hSw
    go_simp
  simp only [Act.put, List.setIfInBounds_toArray, List.set_cons_zero, List.set_cons_succ]
  refine ready_i (i := 5) (by kernel_rfl) rfl (by kernel_rfl) (fun K hK => ?_)
  go_simp
  gi_wp2_with (refine ⟨trivial, ?_⟩; gi_at_call 24; refine (callsIn_wide.2 (HME.out _ HPD.out.pr.bl)).mono ?_; rintro r W3 ⟨rfl, hb3⟩)
  have HP3 := Lib.hid (HPD.out.next hb3)
  clear hb3
  refine hK.out _ _ ?_ (fun hHeld => ?_)
  · exact (HCS W3 [] bb HP3.out _ rfl _ rfl).out
  clear hK K
  refine take_i (fun _ => trivial) rfl (i := 6) (d := 17) (v := .string (B e.met ++ ⟨#[58]⟩ ++ B (measT e))) rfl rfl (by kernel_rfl) (by kernel_rfl) (by kernel_rfl) (fun _ _ _ h => h) (Or.inl ⟨by kernel_rfl, ?_⟩) (by assumption) ?_
  · intro wS hSw
    obtain ⟨hS0, hS1, hS2, hS3, hS4, hS5, hS6, hS7, hS8, hS9⟩ := hSw
    go_simp
    omega
  simp only [Act.put, List.setIfInBounds_toArray, List.set_cons_zero, List.set_cons_succ]
  refine take_i (fun _ => trivial) rfl (i := 7) (d := 18) (v := .string (B e.met ++ ⟨#[58]⟩ ++ B (measT e) ++ ⟨#[124]⟩)) rfl rfl (by kernel_rfl) (by kernel_rfl) (by kernel_rfl) (fun _ _ _ h => h) (Or.inl ⟨by kernel_rfl, ?_⟩) (by assumption) ?_
  · intro wS hSw
    obtain ⟨hS0, hS1, hS2, hS3, hS4, hS5, hS6, hS7, hS8, hS9⟩ := hSw
    go_simp
    omega
  simp only [Act.put, List.setIfInBounds_toArray, List.set_cons_zero, List.set_cons_succ]
  refine take_i (fun _ => trivial) rfl (i := 12) (d := 23) (v := .string (B e.met ++ ⟨#[58]⟩ ++ B (measT e) ++ ⟨#[124]⟩ ++ B (word e.kind))) rfl rfl (by kernel_rfl) (by kernel_rfl) (by kernel_rfl) (fun _ _ _ h => h) (Or.inl ⟨by kernel_rfl, ?_⟩) (by assumption) ?_
  · intro wS hSw
    obtain ⟨hS0, hS1, hS2, hS3, hS4, hS5, hS6, hS7, hS8, hS9⟩ := hSw
    go_simp
    omega
  simp only [Act.put, List.setIfInBounds_toArray, List.set_cons_zero, List.set_cons_succ]
  have HWR := Lib.hid (HP3.out.writes (preB e) (by have := HPB.out; simp; omega))
  rw [← preB_app, List.nil_append] at HWR
  refine ready_i (i := 13) (by kernel_rfl) rfl (by kernel_rfl) (fun K hK => ?_)
  go_simp
  gi_wp2_with (refine ⟨trivial, ?_⟩; gi_at_call 23; refine (callsIn_wide.2 HWR.out).mono ?_; rintro r W4 ⟨rfl, hd4, -⟩)
  have HP4 := Lib.hid hd4
  clear hd4
  refine hK.out _ _ ?_ (fun hHeld => ?_)
  · exact (HCS W4 _ bb HP4.out _ rfl _ rfl).out
  clear hK K
  refine done_i (by kernel_rfl) ?_ _
  refine NormI.normal ?_
  clear hHeld
  obtain ⟨p0, p1, p2, p3, p4, p5, p6, p7, p8⟩ := cells9 HP4.out.pr.k
  by_cases hr1 : e.rate = 1
  · have q1 : (e.rate != 1) = false := by rw [hr1]; rfl
    have HPR : Hid (PrB w W4 e (.slice a n c) bb (preR e)) := by
      show PrB _ _ _ _ _ _
      unfold preR
      rw [if_pos hr1, List.append_nil]
      exact HP4.out
    clear hr1 p0 p1 p2 p3 p4 p6 p7 p8
    obtain ⟨X5, W5, hX5, hW5, x1, x2, hk5, hb5, hz5⟩ := box_lay W4 9 (.string ⟨#[]⟩) (.string ⟨#[124, 35]⟩)
    have HP5 := Lib.hid (HPR.out.next hb5)
    have HK5 := Lib.hid hk5
    obtain ⟨ah, hah⟩ : ∃ ah, W4.heap.size = ah := ⟨_, rfl⟩
    have HAH : Hid (w.heap.size < ah ∧ bb < ah) := by
      have h1 := HPR.out.ne
      obtain ⟨cs, t, fr, h2⟩ := HPR.out.cells
      have h3 := (Array.getElem?_eq_some_iff.1 h2).1
      show _ ∧ _
      omega
    rw [hah] at HK5 hW5 x1 x2
    have hn20 : n ≤ 20 := by
      have h1 := HP.out.few
      rw [← HL.out] at h1
      simp [Y2.Tg.labs, Y2.Tg.upto_len] at h1
      exact h1
    have HAL := Lib.hid (Y2.all_any (B e.met) a n c f (by omega) W5 ((HI.out.below HP5.out.pr.bl).mono HP5.out.pr.bl.size))
    obtain ⟨s0, s1, -, -, -, -, -, -, -⟩ := cells9 HP5.out.pr.k
    clear hk5 hb5 hz5 hn20
    gi_wp2_with (refine ⟨trivial, ?_⟩; gi_at_call 26; refine (callsIn_wide.2 HAL.out).mono ?_; rintro r W6 ⟨Bs, a1, cap1, rfl, hBs, hbk, hrow, hb6⟩)
    clear x1 x2 hX5 hW5 s0 s1
    have hlen : (Y2.Tg.upto f n).length = n := Y2.Tg.upto_len f n
    rw [hlen] at hbk hrow
    obtain ⟨fS, hfS, hlS⟩ := labs_short f n e.labs HL.out HP.out.labs
    have HLS := Lib.hid hlS
    have HP6 := Lib.hid (HP5.out.next hb6)
    have HZ6 : Hid (W5.heap.size ≤ W6.heap.size ∧ w.heap.size ≤ W6.heap.size) := ⟨hb6.size, HP6.out.pr.bl.size⟩
    have HST : Hid (PrL w e (.slice a n c) bb ah n [] W6) := by
      refine ⟨?_, ?_, Nat.zero_le _⟩
      · rw [show labsT (Y2.Tg.labsS []) = [] from rfl, List.append_nil]; exact HP6.out
      · rw [show sepB (Y2.Tg.labsS []) = ⟨#[124, 35]⟩ from rfl]
        exact HK5.out.below hb6 HK5.out.lt
    have hn20 : n ≤ 20 := by
      have h1 := HP.out.few
      rw [← HL.out] at h1
      simp [Y2.Tg.labs, Y2.Tg.upto_len] at h1
      exact h1
    have HN20 := Lib.hid hn20
    refine wpIn_rangeFunc_ownF rfl (by decide) (gf := 71) (lb := #[.pointer (some ⟨Bs, 0, none⟩)]) rfl trivial Y2.pairs1_enters
      (pairs_keep Bs W5.heap.size a1 n cap1 (Y2.Tg.upto f n) fS (by omega) W6 hbk.lt ((hbk.cl 0 _ rfl).1) hrow (fun j hj => by rw [hfS j hj]; exact congrArg Subtype.val (fnOf_upto f n j hj).symm)) (fun h k => h.trans k) (fun W l o o' _ hk hc _ => KL.put W l o o' hk hc) (Below.refl _ _) (fun _ => rfl)
      (PrL w e (.slice a n c) bb ah n) (fun _ _ _ => False) (PrL.own HZ6.out.2) (fun _ _ _ _ _ hs _ _ => hs) HST.out ?a1 ?assign ?body ?done ?stop
    case assign =>
      intro lp x W K hK
      gi_wp2
      exact hK
    case body =>
      rintro lp pre x W ⟨hP, hsep, hpl⟩ hlt
      have HS := Lib.hid (labsT_sep (Y2.Tg.labsS pre) x.1)
      have HLB := Lib.hid (labsS_snoc' pre x)
      have hol := labsT_le' pre
      have hpr := HP.out.preR
      have hx1 := x.2.1
      have hx2 := x.2.2
      have hsz : (sepB (Y2.Tg.labsS pre)).size ≤ 2 := by unfold sepB; split <;> decide
      have hne : Hid (sepB (Y2.Tg.labsS (pre ++ [x])) = ⟨#[44]⟩) := by
        show _ = _
        rw [HLB.out]; unfold sepB; simp
      generalize sepB (Y2.Tg.labsS pre) = y at hsep hsz HS
      have hcs := (hsep.cl 0 _ rfl).1
      have HW := Lib.hid (hP.writes (y.data.toList ++ x.1.1.data.toList ++ [61] ++ x.1.2.data.toList) (by
        have h1 := Lib.size_eq y
        have h2 := Lib.size_eq x.1.1
        have h3 := Lib.size_eq x.1.2
        have h4 := HN20.out
        simp only [List.length_append, List.length_cons, List.length_nil]
        omega))
      rw [← piece_app] at HW
      have HPP := Lib.hid hP
      have HSE := Lib.hid hsep
      have HPL := Lib.hid hpl
      clear hol hpr hP hsep
      gi_wp2_with (refine ⟨trivial, ?_⟩; gi_at_call 23; refine (CallsIn.inRound lp (callsIn_wide.2 HW.out)).mono ?_; rintro r w2 ⟨rfl, hd2, hb2, hk2, hs2⟩; have hsep2 := blk_others HSE.out hk2 (show ah ≠ bb by have := HAH.out.2; omega) (by decide); have hcs2 := (hsep2.cl 0 _ rfl).1; have hfs2 := (hsep2.cl 0 _ rfl).2)
      rw [List.append_assoc, ← HS.out, ← HLB.out] at hd2
      refine ⟨(Y2.others_keeps hk2 hs2 HPP.out.cells).trans (KeepsOthers.setCell _ _ _), (HPP.out.kl hk2).trans (KL.box hsep2 _), hd2.box hsep2 HAH.out.1 _, ?_, by rw [List.length_append, List.length_singleton]; omega⟩
      rw [hne.out]
      exact hsep2.set 0 _
    case done =>
      rintro D ys W hD rfl ⟨hP, -, -⟩ hK
      rw [HLS.out] at hP
      have HPZ : Hid (PrB w W.drew e (.slice a n c) bb (preR e ++ labsT e.labs)) := hP.next (below_dr0 W)
      have HDZ : Hid (W.drew.heap[D]? = some (.deferred (some []))) := hK
      have HNE : Hid (D ≠ bb) := by
        have h1 := HAH.out.2
        have h2 := HZ6.out.1
        have h3 := HK5.out.lt
        show _ ≠ _
        omega
      have HDB : Hid (w.heap.size ≤ D) := Nat.le_trans HZ6.out.2 hD
      have HLAST : Hid ((preR e ++ labsT e.labs).length + ((124 :: 84 :: dec e.time) ++ (124 :: 83 :: (e.src ++ 46 :: dec e.seq))).length ≤ 1000000) := by
        have h1 := HP.out.preR
        have h2 := labsT_le e.labs HP.out.labs
        have h3 := HP.out.few
        show _ ≤ _
        simp only [List.length_append, List.length_cons]
        omega
      clear hP hK hD
      gi_wp2_with fail
      refine norm_i ?_
      refine region_i (S := (fun w' => w'.heap[D]? = some (.deferred (some [])) ∧ Cs w.heap.size k e (.slice a n c) (word e.kind) w')) (by kernel_rfl) (⟨HDZ.out, (HCS W.drew _ bb HPZ.out _ rfl _ rfl).out⟩) (fun hHeld => ?_)
      refine take_i (fun _ => trivial) rfl (i := 0) (d := 45) (v := .pointer (some ⟨w.heap.size, 6, none⟩)) rfl rfl (by kernel_rfl) (by kernel_rfl) (by kernel_rfl) (fun _ _ _ h => h) (Or.inl ⟨by kernel_rfl, ?_⟩) (by assumption) ?_
      · intro wS hSw
        obtain ⟨hS0, hS1, hS2, hS3, hS4, hS5, hS6, hS7, hS8, hS9, hS10⟩ := hSw
        go_simp
      simp only [Act.put, List.setIfInBounds_toArray, List.set_cons_zero, List.set_cons_succ]
      refine take_i (fun _ => trivial) rfl (i := 1) (d := 46) (v := .int .i64 e.time) rfl rfl (by kernel_rfl) (by kernel_rfl) (by kernel_rfl) (fun _ _ _ h => h) (Or.inl ⟨by kernel_rfl, ?_⟩) (by assumption) ?_
      · intro wS hSw
        obtain ⟨hS0, hS1, hS2, hS3, hS4, hS5, hS6, hS7, hS8, hS9, hS10⟩ := hSw
        go_simp
      simp only [Act.put, List.setIfInBounds_toArray, List.set_cons_zero, List.set_cons_succ]
      refine take_i (fun _ => trivial) rfl (i := 5) (d := 50) (v := .pointer (some ⟨w.heap.size, 7, none⟩)) rfl rfl (by kernel_rfl) (by kernel_rfl) (by kernel_rfl) (fun _ _ _ h => h) (Or.inl ⟨by kernel_rfl, ?_⟩) (by assumption) ?_
      · intro wS hSw
        obtain ⟨hS0, hS1, hS2, hS3, hS4, hS5, hS6, hS7, hS8, hS9, hS10⟩ := hSw
        go_simp
      simp only [Act.put, List.setIfInBounds_toArray, List.set_cons_zero, List.set_cons_succ]
      refine take_i (fun _ => trivial) rfl (i := 6) (d := 51) (v := strV e.src) rfl rfl (by kernel_rfl) (by kernel_rfl) (by kernel_rfl) (fun _ _ _ h => h) (Or.inl ⟨by kernel_rfl, ?_⟩) (by assumption) ?_
      · intro wS hSw
        obtain ⟨hS0, hS1, hS2, hS3, hS4, hS5, hS6, hS7, hS8, hS9, hS10⟩ := hSw
        go_simp
      simp only [Act.put, List.setIfInBounds_toArray, List.set_cons_zero, List.set_cons_succ]
      refine take_i (fun _ => trivial) rfl (i := 9) (d := 54) (v := .pointer (some ⟨w.heap.size, 8, none⟩)) rfl rfl (by kernel_rfl) (by kernel_rfl) (by kernel_rfl) (fun _ _ _ h => h) (Or.inl ⟨by kernel_rfl, ?_⟩) (by assumption) ?_
      · intro wS hSw
        obtain ⟨hS0, hS1, hS2, hS3, hS4, hS5, hS6, hS7, hS8, hS9, hS10⟩ := hSw
        go_simp
      simp only [Act.put, List.setIfInBounds_toArray, List.set_cons_zero, List.set_cons_succ]
      refine take_i (fun _ => trivial) rfl (i := 10) (d := 55) (v := .int .i64 e.seq) rfl rfl (by kernel_rfl) (by kernel_rfl) (by kernel_rfl) (fun _ _ _ h => h) (Or.inl ⟨by kernel_rfl, ?_⟩) (by assumption) ?_
      · intro wS hSw
        obtain ⟨hS0, hS1, hS2, hS3, hS4, hS5, hS6, hS7, hS8, hS9, hS10⟩ := hSw
        go_simp
      simp only [Act.put, List.setIfInBounds_toArray, List.set_cons_zero, List.set_cons_succ]
      refine ready_i (i := 2) (by kernel_rfl) rfl (by kernel_rfl) (fun K hK => ?_)
      go_simp
      gi_wp2_with (refine ⟨trivial, ?_⟩; gi_at_call 25; refine (callsIn_wide.2 (HIM _ HPZ.out.pr.bl).out).mono ?_; rintro r Wa ⟨rfl, hba⟩)
      have HPa := Lib.hid (HPZ.out.next hba)
      have HDa : Hid (Wa.heap[D]? = some (.deferred (some []))) := (hba.block D (Array.getElem?_eq_some_iff.1 HDZ.out).1).trans HDZ.out
      clear hba
      refine hK.out _ _ ?_ (fun hHeld => ?_)
      · exact ⟨HDa.out, (HCS Wa _ bb HPa.out _ rfl _ rfl).out⟩
      clear hK K
      refine take_i (fun _ => trivial) rfl (i := 3) (d := 48) (v := .string (⟨#[124, 84]⟩ ++ B (dec e.time))) rfl rfl (by kernel_rfl) (by kernel_rfl) (by kernel_rfl) (fun _ _ _ h => h) (Or.inl ⟨by kernel_rfl, ?_⟩) (by assumption) ?_
      · intro wS hSw
        obtain ⟨hS0, hS1, hS2, hS3, hS4, hS5, hS6, hS7, hS8, hS9, hS10⟩ := hSw
        go_simp
        omega
      simp only [Act.put, List.setIfInBounds_toArray, List.set_cons_zero, List.set_cons_succ]
      refine take_i (fun _ => trivial) rfl (i := 4) (d := 49) (v := .string (⟨#[124, 84]⟩ ++ B (dec e.time) ++ ⟨#[124, 83]⟩)) rfl rfl (by kernel_rfl) (by kernel_rfl) (by kernel_rfl) (fun _ _ _ h => h) (Or.inl ⟨by kernel_rfl, ?_⟩) (by assumption) ?_
      · intro wS hSw
        obtain ⟨hS0, hS1, hS2, hS3, hS4, hS5, hS6, hS7, hS8, hS9, hS10⟩ := hSw
        go_simp
        omega
      simp only [Act.put, List.setIfInBounds_toArray, List.set_cons_zero, List.set_cons_succ]
      refine take_i (fun _ => trivial) rfl (i := 7) (d := 52) (v := .string (⟨#[124, 84]⟩ ++ B (dec e.time) ++ ⟨#[124, 83]⟩ ++ B e.src)) rfl rfl (by kernel_rfl) (by kernel_rfl) (by kernel_rfl) (fun _ _ _ h => h) (Or.inl ⟨by kernel_rfl, ?_⟩) (by assumption) ?_
      · intro wS hSw
        obtain ⟨hS0, hS1, hS2, hS3, hS4, hS5, hS6, hS7, hS8, hS9, hS10⟩ := hSw
        go_simp
        omega
      simp only [Act.put, List.setIfInBounds_toArray, List.set_cons_zero, List.set_cons_succ]
      refine take_i (fun _ => trivial) rfl (i := 8) (d := 53) (v := .string (⟨#[124, 84]⟩ ++ B (dec e.time) ++ ⟨#[124, 83]⟩ ++ B e.src ++ ⟨#[46]⟩)) rfl rfl (by kernel_rfl) (by kernel_rfl) (by kernel_rfl) (fun _ _ _ h => h) (Or.inl ⟨by kernel_rfl, ?_⟩) (by assumption) ?_
      · intro wS hSw
        obtain ⟨hS0, hS1, hS2, hS3, hS4, hS5, hS6, hS7, hS8, hS9, hS10⟩ := hSw
        go_simp
        omega
      simp only [Act.put, List.setIfInBounds_toArray, List.set_cons_zero, List.set_cons_succ]
      refine ready_i (i := 11) (by kernel_rfl) rfl (by kernel_rfl) (fun K hK => ?_)
      go_simp
      gi_wp2_with (refine ⟨trivial, ?_⟩; gi_at_call 25; refine (callsIn_wide.2 (HIQ _ HPa.out.pr.bl).out).mono ?_; rintro r Wb ⟨rfl, hbb⟩)
      have HPb := Lib.hid (HPa.out.next hbb)
      have HDb : Hid (Wb.heap[D]? = some (.deferred (some []))) := (hbb.block D (Array.getElem?_eq_some_iff.1 HDa.out).1).trans HDa.out
      clear hbb
      refine hK.out _ _ ?_ (fun hHeld => ?_)
      · exact ⟨HDb.out, (HCS Wb _ bb HPb.out _ rfl _ rfl).out⟩
      clear hK K
      refine take_i (fun _ => trivial) rfl (i := 12) (d := 57) (v := .string (⟨#[124, 84]⟩ ++ B (dec e.time) ++ ⟨#[124, 83]⟩ ++ B e.src ++ ⟨#[46]⟩ ++ B (dec e.seq))) rfl rfl (by kernel_rfl) (by kernel_rfl) (by kernel_rfl) (fun _ _ _ h => h) (Or.inl ⟨by kernel_rfl, ?_⟩) (by assumption) ?_
      · intro wS hSw
        obtain ⟨hS0, hS1, hS2, hS3, hS4, hS5, hS6, hS7, hS8, hS9, hS10⟩ := hSw
        go_simp
        omega
      simp only [Act.put, List.setIfInBounds_toArray, List.set_cons_zero, List.set_cons_succ]
      have HWR := Lib.hid (HPb.out.writes ((124 :: 84 :: dec e.time) ++ (124 :: 83 :: (e.src ++ 46 :: dec e.seq))) HLAST.out)
      rw [← last_app] at HWR
      refine ready_i (i := 13) (by kernel_rfl) rfl (by kernel_rfl) (fun K hK => ?_)
      go_simp
      gi_wp2_with (refine ⟨trivial, ?_⟩; gi_at_call 23; refine (callsIn_wide.2 HWR.out).mono ?_; rintro r Wc ⟨rfl, hdc, hbc, hkc, hsc⟩)
      have HPc := Lib.hid hdc
      have HDc : Hid (Wc.heap[D]? = some (.deferred (some []))) := hkc D _ HDb.out (fun e => HNE.out (by injection e)) (fun c fz e => by cases e)
      clear hdc hbc hkc hsc
      refine hK.out _ _ ?_ (fun hHeld => ?_)
      · exact ⟨HDc.out, (HCS Wc _ bb HPc.out _ rfl _ rfl).out⟩
      clear hK K
      refine done_i (by kernel_rfl) ?_ _
      refine NormI.normal ?_
      clear hHeld
      have HEQ : Hid (preR e ++ labsT e.labs ++ ((124 :: 84 :: dec e.time) ++ (124 :: 83 :: (e.src ++ 46 :: dec e.seq))) = lineL e e.labs) := by show _ = _; rw [line_eq, List.append_assoc (preR e ++ labsT e.labs)]
      rw [HEQ.out] at HPc
      have HX := Lib.hid (Tryz.Builder_String_any_k w.heap.size bb _ Wc HPc.out.bd HPc.out.pr.bl.size)
      gi_wp2_with (refine ⟨trivial, ?_⟩; gi_at_call 27; refine (callsIn_wide.2 HX.out).mono ?_; rintro r Wd ⟨rfl, hdd, hbd, hkd⟩)
      have HDd : Hid (Wd.heap[D]? = some (.deferred (some []))) := hkd D _ HDc.out (fun e => HNE.out (by injection e)) (fun c fz e => by cases e)
      refine ⟨by simp, .inl ⟨_, _, rfl, run_takeDeferred HDd.out, ?_⟩⟩
      exact ⟨_, results_tmp rfl _ _ _, rfl, (HPc.out.pr.bl.trans hbd).trans (belowK_b (w := w) (Nat.le_refl _) _ D _ _ HDB.out HDd.out rfl rfl)⟩
    case stop =>
      rintro D c pre W _ _ h _
      exact h.elim
  · have q1 : (e.rate != 1) = true := bne_iff_ne.2 hr1
    have HWR := fun W (h : PrB w W e (.slice a n c) bb (preB e)) => Lib.hid (h.writes (124 :: 64 :: dec e.rate) (by have := HPB.out; simp; omega))
    have HEQ1 : Hid ((⟨#[124, 64]⟩ : ByteArray) ++ B (dec e.rate) = B (124 :: 64 :: dec e.rate)) := by show B [124, 64] ++ _ = _; rw [B_app]; rfl
    have HPQ : Hid (preB e ++ 124 :: 64 :: dec e.rate = preR e) := by show _ = _; unfold preR; rw [if_neg hr1]
    rw [HPQ.out, ← HEQ1.out] at HWR
    clear hr1 p0 p1 p2 p3 p4 p6 p7 p8
    gi_wp2_with (refine ⟨trivial, ?_⟩; gi_at_call 25; refine (callsIn_wide.2 (HIR _ HP4.out.pr.bl).out).mono ?_; rintro r Wq ⟨rfl, hbq⟩)
    have HPq := Lib.hid (HP4.out.next hbq)
    clear hbq
    gi_wp2_with (
      refine ⟨trivial, ?_⟩
      gi_at_call 23
      refine (callsIn_wide.2 (HWR _ HPq.out).out).mono ?_
      rintro r W4r ⟨rfl, hd4, -⟩
      have HPR := Lib.hid hd4
      clear hd4
      obtain ⟨X5, W5, hX5, hW5, x1, x2, hk5, hb5, hz5⟩ := box_lay W4r 9 (.string ⟨#[]⟩) (.string ⟨#[124, 35]⟩)
      have HP5 := Lib.hid (HPR.out.next hb5)
      have HK5 := Lib.hid hk5
      obtain ⟨ah, hah⟩ : ∃ ah, W4r.heap.size = ah := ⟨_, rfl⟩
      have HAH : Hid (w.heap.size < ah ∧ bb < ah) := by
        have h1 := HPR.out.ne
        obtain ⟨cs, t, fr, h2⟩ := HPR.out.cells
        have h3 := (Array.getElem?_eq_some_iff.1 h2).1
        show _ ∧ _
        omega
      rw [hah] at HK5 hW5 x1 x2
      have hn20 : n ≤ 20 := by
        have h1 := HP.out.few
        rw [← HL.out] at h1
        simp [Y2.Tg.labs, Y2.Tg.upto_len] at h1
        exact h1
      have HAL := Lib.hid (Y2.all_any (B e.met) a n c f (by omega) W5 ((HI.out.below HP5.out.pr.bl).mono HP5.out.pr.bl.size))
      obtain ⟨s0, s1, -, -, -, -, -, -, -⟩ := cells9 HP5.out.pr.k
      clear hk5 hb5 hz5 hn20
      )
    gi_wp2_with (refine ⟨trivial, ?_⟩; gi_at_call 26; refine (callsIn_wide.2 HAL.out).mono ?_; rintro r W6 ⟨Bs, a1, cap1, rfl, hBs, hbk, hrow, hb6⟩)
    clear x1 x2 hX5 hW5 s0 s1
    have hlen : (Y2.Tg.upto f n).length = n := Y2.Tg.upto_len f n
    rw [hlen] at hbk hrow
    obtain ⟨fS, hfS, hlS⟩ := labs_short f n e.labs HL.out HP.out.labs
    have HLS := Lib.hid hlS
    have HP6 := Lib.hid (HP5.out.next hb6)
    have HZ6 : Hid (W5.heap.size ≤ W6.heap.size ∧ w.heap.size ≤ W6.heap.size) := ⟨hb6.size, HP6.out.pr.bl.size⟩
    have HST : Hid (PrL w e (.slice a n c) bb ah n [] W6) := by
      refine ⟨?_, ?_, Nat.zero_le _⟩
      · rw [show labsT (Y2.Tg.labsS []) = [] from rfl, List.append_nil]; exact HP6.out
      · rw [show sepB (Y2.Tg.labsS []) = ⟨#[124, 35]⟩ from rfl]
        exact HK5.out.below hb6 HK5.out.lt
    have hn20 : n ≤ 20 := by
      have h1 := HP.out.few
      rw [← HL.out] at h1
      simp [Y2.Tg.labs, Y2.Tg.upto_len] at h1
      exact h1
    have HN20 := Lib.hid hn20
    refine wpIn_rangeFunc_ownF rfl (by decide) (gf := 71) (lb := #[.pointer (some ⟨Bs, 0, none⟩)]) rfl trivial Y2.pairs1_enters
      (pairs_keep Bs W5.heap.size a1 n cap1 (Y2.Tg.upto f n) fS (by omega) W6 hbk.lt ((hbk.cl 0 _ rfl).1) hrow (fun j hj => by rw [hfS j hj]; exact congrArg Subtype.val (fnOf_upto f n j hj).symm)) (fun h k => h.trans k) (fun W l o o' _ hk hc _ => KL.put W l o o' hk hc) (Below.refl _ _) (fun _ => rfl)
      (PrL w e (.slice a n c) bb ah n) (fun _ _ _ => False) (PrL.own HZ6.out.2) (fun _ _ _ _ _ hs _ _ => hs) HST.out ?a12 ?assign2 ?body2 ?done2 ?stop2
    case assign2 =>
      intro lp x W K hK
      gi_wp2
      exact hK
    case body2 =>
      rintro lp pre x W ⟨hP, hsep, hpl⟩ hlt
      have HS := Lib.hid (labsT_sep (Y2.Tg.labsS pre) x.1)
      have HLB := Lib.hid (labsS_snoc' pre x)
      have hol := labsT_le' pre
      have hpr := HP.out.preR
      have hx1 := x.2.1
      have hx2 := x.2.2
      have hsz : (sepB (Y2.Tg.labsS pre)).size ≤ 2 := by unfold sepB; split <;> decide
      have hne : Hid (sepB (Y2.Tg.labsS (pre ++ [x])) = ⟨#[44]⟩) := by
        show _ = _
        rw [HLB.out]; unfold sepB; simp
      generalize sepB (Y2.Tg.labsS pre) = y at hsep hsz HS
      have hcs := (hsep.cl 0 _ rfl).1
      have HW := Lib.hid (hP.writes (y.data.toList ++ x.1.1.data.toList ++ [61] ++ x.1.2.data.toList) (by
        have h1 := Lib.size_eq y
        have h2 := Lib.size_eq x.1.1
        have h3 := Lib.size_eq x.1.2
        have h4 := HN20.out
        simp only [List.length_append, List.length_cons, List.length_nil]
        omega))
      rw [← piece_app] at HW
      have HPP := Lib.hid hP
      have HSE := Lib.hid hsep
      have HPL := Lib.hid hpl
      clear hol hpr hP hsep
      gi_wp2_with (refine ⟨trivial, ?_⟩; gi_at_call 23; refine (CallsIn.inRound lp (callsIn_wide.2 HW.out)).mono ?_; rintro r w2 ⟨rfl, hd2, hb2, hk2, hs2⟩; have hsep2 := blk_others HSE.out hk2 (show ah ≠ bb by have := HAH.out.2; omega) (by decide); have hcs2 := (hsep2.cl 0 _ rfl).1; have hfs2 := (hsep2.cl 0 _ rfl).2)
      rw [List.append_assoc, ← HS.out, ← HLB.out] at hd2
      refine ⟨(Y2.others_keeps hk2 hs2 HPP.out.cells).trans (KeepsOthers.setCell _ _ _), (HPP.out.kl hk2).trans (KL.box hsep2 _), hd2.box hsep2 HAH.out.1 _, ?_, by rw [List.length_append, List.length_singleton]; omega⟩
      rw [hne.out]
      exact hsep2.set 0 _
    case done2 =>
      rintro D ys W hD rfl ⟨hP, -, -⟩ hK
      rw [HLS.out] at hP
      have HPZ : Hid (PrB w W.drew e (.slice a n c) bb (preR e ++ labsT e.labs)) := hP.next (below_dr0 W)
      have HDZ : Hid (W.drew.heap[D]? = some (.deferred (some []))) := hK
      have HNE : Hid (D ≠ bb) := by
        have h1 := HAH.out.2
        have h2 := HZ6.out.1
        have h3 := HK5.out.lt
        show _ ≠ _
        omega
      have HDB : Hid (w.heap.size ≤ D) := Nat.le_trans HZ6.out.2 hD
      have HLAST : Hid ((preR e ++ labsT e.labs).length + ((124 :: 84 :: dec e.time) ++ (124 :: 83 :: (e.src ++ 46 :: dec e.seq))).length ≤ 1000000) := by
        have h1 := HP.out.preR
        have h2 := labsT_le e.labs HP.out.labs
        have h3 := HP.out.few
        show _ ≤ _
        simp only [List.length_append, List.length_cons]
        omega
      clear hP hK hD
      gi_wp2_with fail
      refine norm_i ?_
      refine region_i (S := (fun w' => w'.heap[D]? = some (.deferred (some [])) ∧ Cs w.heap.size k e (.slice a n c) (word e.kind) w')) (by kernel_rfl) (⟨HDZ.out, (HCS W.drew _ bb HPZ.out _ rfl _ rfl).out⟩) (fun hHeld => ?_)
      refine take_i (fun _ => trivial) rfl (i := 0) (d := 45) (v := .pointer (some ⟨w.heap.size, 6, none⟩)) rfl rfl (by kernel_rfl) (by kernel_rfl) (by kernel_rfl) (fun _ _ _ h => h) (Or.inl ⟨by kernel_rfl, ?_⟩) (by assumption) ?_
      · intro wS hSw
        obtain ⟨hS0, hS1, hS2, hS3, hS4, hS5, hS6, hS7, hS8, hS9, hS10⟩ := hSw
        go_simp
      simp only [Act.put, List.setIfInBounds_toArray, List.set_cons_zero, List.set_cons_succ]
      refine take_i (fun _ => trivial) rfl (i := 1) (d := 46) (v := .int .i64 e.time) rfl rfl (by kernel_rfl) (by kernel_rfl) (by kernel_rfl) (fun _ _ _ h => h) (Or.inl ⟨by kernel_rfl, ?_⟩) (by assumption) ?_
      · intro wS hSw
        obtain ⟨hS0, hS1, hS2, hS3, hS4, hS5, hS6, hS7, hS8, hS9, hS10⟩ := hSw
        go_simp
      simp only [Act.put, List.setIfInBounds_toArray, List.set_cons_zero, List.set_cons_succ]
      refine take_i (fun _ => trivial) rfl (i := 5) (d := 50) (v := .pointer (some ⟨w.heap.size, 7, none⟩)) rfl rfl (by kernel_rfl) (by kernel_rfl) (by kernel_rfl) (fun _ _ _ h => h) (Or.inl ⟨by kernel_rfl, ?_⟩) (by assumption) ?_
      · intro wS hSw
        obtain ⟨hS0, hS1, hS2, hS3, hS4, hS5, hS6, hS7, hS8, hS9, hS10⟩ := hSw
        go_simp
      simp only [Act.put, List.setIfInBounds_toArray, List.set_cons_zero, List.set_cons_succ]
      refine take_i (fun _ => trivial) rfl (i := 6) (d := 51) (v := strV e.src) rfl rfl (by kernel_rfl) (by kernel_rfl) (by kernel_rfl) (fun _ _ _ h => h) (Or.inl ⟨by kernel_rfl, ?_⟩) (by assumption) ?_
      · intro wS hSw
        obtain ⟨hS0, hS1, hS2, hS3, hS4, hS5, hS6, hS7, hS8, hS9, hS10⟩ := hSw
        go_simp
      simp only [Act.put, List.setIfInBounds_toArray, List.set_cons_zero, List.set_cons_succ]
      refine take_i (fun _ => trivial) rfl (i := 9) (d := 54) (v := .pointer (some ⟨w.heap.size, 8, none⟩)) rfl rfl (by kernel_rfl) (by kernel_rfl) (by kernel_rfl) (fun _ _ _ h => h) (Or.inl ⟨by kernel_rfl, ?_⟩) (by assumption) ?_
      · intro wS hSw
        obtain ⟨hS0, hS1, hS2, hS3, hS4, hS5, hS6, hS7, hS8, hS9, hS10⟩ := hSw
        go_simp
      simp only [Act.put, List.setIfInBounds_toArray, List.set_cons_zero, List.set_cons_succ]
      refine take_i (fun _ => trivial) rfl (i := 10) (d := 55) (v := .int .i64 e.seq) rfl rfl (by kernel_rfl) (by kernel_rfl) (by kernel_rfl) (fun _ _ _ h => h) (Or.inl ⟨by kernel_rfl, ?_⟩) (by assumption) ?_
      · intro wS hSw
        obtain ⟨hS0, hS1, hS2, hS3, hS4, hS5, hS6, hS7, hS8, hS9, hS10⟩ := hSw
        go_simp
      simp only [Act.put, List.setIfInBounds_toArray, List.set_cons_zero, List.set_cons_succ]
      refine ready_i (i := 2) (by kernel_rfl) rfl (by kernel_rfl) (fun K hK => ?_)
      go_simp
      gi_wp2_with (refine ⟨trivial, ?_⟩; gi_at_call 25; refine (callsIn_wide.2 (HIM _ HPZ.out.pr.bl).out).mono ?_; rintro r Wa ⟨rfl, hba⟩)
      have HPa := Lib.hid (HPZ.out.next hba)
      have HDa : Hid (Wa.heap[D]? = some (.deferred (some []))) := (hba.block D (Array.getElem?_eq_some_iff.1 HDZ.out).1).trans HDZ.out
      clear hba
      refine hK.out _ _ ?_ (fun hHeld => ?_)
      · exact ⟨HDa.out, (HCS Wa _ bb HPa.out _ rfl _ rfl).out⟩
      clear hK K
      refine take_i (fun _ => trivial) rfl (i := 3) (d := 48) (v := .string (⟨#[124, 84]⟩ ++ B (dec e.time))) rfl rfl (by kernel_rfl) (by kernel_rfl) (by kernel_rfl) (fun _ _ _ h => h) (Or.inl ⟨by kernel_rfl, ?_⟩) (by assumption) ?_
      · intro wS hSw
        obtain ⟨hS0, hS1, hS2, hS3, hS4, hS5, hS6, hS7, hS8, hS9, hS10⟩ := hSw
        go_simp
        omega
      simp only [Act.put, List.setIfInBounds_toArray, List.set_cons_zero, List.set_cons_succ]
      refine take_i (fun _ => trivial) rfl (i := 4) (d := 49) (v := .string (⟨#[124, 84]⟩ ++ B (dec e.time) ++ ⟨#[124, 83]⟩)) rfl rfl (by kernel_rfl) (by kernel_rfl) (by kernel_rfl) (fun _ _ _ h => h) (Or.inl ⟨by kernel_rfl, ?_⟩) (by assumption) ?_
      · intro wS hSw
        obtain ⟨hS0, hS1, hS2, hS3, hS4, hS5, hS6, hS7, hS8, hS9, hS10⟩ := hSw
        go_simp
        omega
      simp only [Act.put, List.setIfInBounds_toArray, List.set_cons_zero, List.set_cons_succ]
      refine take_i (fun _ => trivial) rfl (i := 7) (d := 52) (v := .string (⟨#[124, 84]⟩ ++ B (dec e.time) ++ ⟨#[124, 83]⟩ ++ B e.src)) rfl rfl (by kernel_rfl) (by kernel_rfl) (by kernel_rfl) (fun _ _ _ h => h) (Or.inl ⟨by kernel_rfl, ?_⟩) (by assumption) ?_
      · intro wS hSw
        obtain ⟨hS0, hS1, hS2, hS3, hS4, hS5, hS6, hS7, hS8, hS9, hS10⟩ := hSw
        go_simp
        omega
      simp only [Act.put, List.setIfInBounds_toArray, List.set_cons_zero, List.set_cons_succ]
      refine take_i (fun _ => trivial) rfl (i := 8) (d := 53) (v := .string (⟨#[124, 84]⟩ ++ B (dec e.time) ++ ⟨#[124, 83]⟩ ++ B e.src ++ ⟨#[46]⟩)) rfl rfl (by kernel_rfl) (by kernel_rfl) (by kernel_rfl) (fun _ _ _ h => h) (Or.inl ⟨by kernel_rfl, ?_⟩) (by assumption) ?_
      · intro wS hSw
        obtain ⟨hS0, hS1, hS2, hS3, hS4, hS5, hS6, hS7, hS8, hS9, hS10⟩ := hSw
        go_simp
        omega
      simp only [Act.put, List.setIfInBounds_toArray, List.set_cons_zero, List.set_cons_succ]
      refine ready_i (i := 11) (by kernel_rfl) rfl (by kernel_rfl) (fun K hK => ?_)
      go_simp
      gi_wp2_with (refine ⟨trivial, ?_⟩; gi_at_call 25; refine (callsIn_wide.2 (HIQ _ HPa.out.pr.bl).out).mono ?_; rintro r Wb ⟨rfl, hbb⟩)
      have HPb := Lib.hid (HPa.out.next hbb)
      have HDb : Hid (Wb.heap[D]? = some (.deferred (some []))) := (hbb.block D (Array.getElem?_eq_some_iff.1 HDa.out).1).trans HDa.out
      clear hbb
      refine hK.out _ _ ?_ (fun hHeld => ?_)
      · exact ⟨HDb.out, (HCS Wb _ bb HPb.out _ rfl _ rfl).out⟩
      clear hK K
      refine take_i (fun _ => trivial) rfl (i := 12) (d := 57) (v := .string (⟨#[124, 84]⟩ ++ B (dec e.time) ++ ⟨#[124, 83]⟩ ++ B e.src ++ ⟨#[46]⟩ ++ B (dec e.seq))) rfl rfl (by kernel_rfl) (by kernel_rfl) (by kernel_rfl) (fun _ _ _ h => h) (Or.inl ⟨by kernel_rfl, ?_⟩) (by assumption) ?_
      · intro wS hSw
        obtain ⟨hS0, hS1, hS2, hS3, hS4, hS5, hS6, hS7, hS8, hS9, hS10⟩ := hSw
        go_simp
        omega
      simp only [Act.put, List.setIfInBounds_toArray, List.set_cons_zero, List.set_cons_succ]
      have HWR := Lib.hid (HPb.out.writes ((124 :: 84 :: dec e.time) ++ (124 :: 83 :: (e.src ++ 46 :: dec e.seq))) HLAST.out)
      rw [← last_app] at HWR
      refine ready_i (i := 13) (by kernel_rfl) rfl (by kernel_rfl) (fun K hK => ?_)
      go_simp
      gi_wp2_with (refine ⟨trivial, ?_⟩; gi_at_call 23; refine (callsIn_wide.2 HWR.out).mono ?_; rintro r Wc ⟨rfl, hdc, hbc, hkc, hsc⟩)
      have HPc := Lib.hid hdc
      have HDc : Hid (Wc.heap[D]? = some (.deferred (some []))) := hkc D _ HDb.out (fun e => HNE.out (by injection e)) (fun c fz e => by cases e)
      clear hdc hbc hkc hsc
      refine hK.out _ _ ?_ (fun hHeld => ?_)
      · exact ⟨HDc.out, (HCS Wc _ bb HPc.out _ rfl _ rfl).out⟩
      clear hK K
      refine done_i (by kernel_rfl) ?_ _
      refine NormI.normal ?_
      clear hHeld
      have HEQ : Hid (preR e ++ labsT e.labs ++ ((124 :: 84 :: dec e.time) ++ (124 :: 83 :: (e.src ++ 46 :: dec e.seq))) = lineL e e.labs) := by show _ = _; rw [line_eq, List.append_assoc (preR e ++ labsT e.labs)]
      rw [HEQ.out] at HPc
      have HX := Lib.hid (Tryz.Builder_String_any_k w.heap.size bb _ Wc HPc.out.bd HPc.out.pr.bl.size)
      gi_wp2_with (refine ⟨trivial, ?_⟩; gi_at_call 27; refine (callsIn_wide.2 HX.out).mono ?_; rintro r Wd ⟨rfl, hdd, hbd, hkd⟩)
      have HDd : Hid (Wd.heap[D]? = some (.deferred (some []))) := hkd D _ HDc.out (fun e => HNE.out (by injection e)) (fun c fz e => by cases e)
      refine ⟨by simp, .inl ⟨_, _, rfl, run_takeDeferred HDd.out, ?_⟩⟩
      exact ⟨_, results_tmp rfl _ _ _, rfl, (HPc.out.pr.bl.trans hbd).trans (belowK_b (w := w) (Nat.le_refl _) _ D _ _ HDB.out HDd.out rfl rfl)⟩
    case stop2 =>
      rintro D c pre W _ _ h _
      exact h.elim
end Dp
end Go.Proofs.YtefnpfhhomkiaaaGreatDoor
