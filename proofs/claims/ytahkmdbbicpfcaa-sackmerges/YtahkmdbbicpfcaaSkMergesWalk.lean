
/- SackMerges: it answers true. -/
import Derived.Test.YtahkmdbbicpfcaaSkArg
import Derived.Test.YtahkmdbbicpfcaaSkHas
namespace Go.Proofs.Ytahkmdbbicpfcaa
open Go.RowKit
namespace Sk
open Rk
theorem arg_src {W : World} {a : Option Addr} {c : Nat} {l : List Int} (h : ArgN W a l) : Vec.Src encN W (.slice a l.length c) l := by
  refine ⟨_, _, rfl, fun h0 => ?_⟩
  rcases h with h | ⟨b, o, rfl, hlt, hc⟩
  · omega
  · refine ⟨b, o, rfl, fun j u hu => ?_⟩
    have hj : j < l.length := by
      have := (List.getElem?_eq_some_iff.1 hu).1
      rw [Vec.cells_len (sz := 1) (fun _ => rfl)] at this
      omega
    have h3 := Vec.cells_at (enc := encN) (sz := 1) (fun _ => rfl) l j 0 hj (by decide)
    rw [Nat.mul_one, Nat.add_zero, hu] at h3
    rw [hc j hj, h3]
    rfl
/-- all that the law has made -/
structure Mg (w : World) (s R o Ro c Rc : Nat) (K : Int) (ls lo lc : List Int) (v1 v2 : Value) (l m : List Int) (W : World) : Prop where
  hs : Sak W s R K ls
  ho : Sak W o Ro 60 lo
  hc : Sak W c Rc K lc
  e1 : EsN W v1 l
  e2 : EsN W v2 m
  below : Below w.heap.size w W
  ge : w.heap.size ≤ s ∧ w.heap.size ≤ R ∧ w.heap.size ≤ c ∧ w.heap.size ≤ Rc
  sc : s ≠ c ∧ R ≠ Rc
  so : s ≠ o ∧ R ≠ Ro
theorem Mg.next {w W W' : World} {s R o Ro c Rc : Nat} {K : Int} {ls lo lc l m : List Int} {v1 v2 : Value} (h : Mg w s R o Ro c Rc K ls lo lc v1 v2 l m W) (hb : Below W.heap.size W W') : Mg w s R o Ro c Rc K ls lo lc v1 v2 l m W' :=
  ⟨h.hs.below hb, h.ho.below hb, h.hc.below hb, h.e1.below hb, h.e2.below hb, h.below.trans (hb.mono h.below.size), h.ge, h.sc, h.so⟩
/-- two sacks, and what one's call does to the other -/
theorem sak_other {W W' : World} {s R c Rc : Nat} {K Kc : Int} {ls lc : List Int} (hs : Sak W s R K ls) (hc : Sak W c Rc Kc lc) (h1 : s ≠ c) (h2 : R ≠ Rc) (ho : Only [Rc, c] W W') : Sak W' s R K ls := by
  obtain ⟨csr, hr⟩ := hs.rack
  obtain ⟨csc, hrc⟩ := hc.rack
  refine hs.only ho (fun k hk => ?_) (fun hk => ?_) (fun hk => ?_)
  · rcases List.mem_cons.1 hk with rfl | hk
    · exact ⟨_, _, hrc, by decide⟩
    · rw [List.mem_singleton] at hk; subst hk; exact ⟨_, _, hc.blk, by decide⟩
  · rcases List.mem_cons.1 hk with hk | hk
    · exact hs.blk.apart hrc (by decide) hk
    · rw [List.mem_singleton] at hk; exact h1 hk
  · rcases List.mem_cons.1 hk with hk | hk
    · exact h2 hk
    · rw [List.mem_singleton] at hk; exact hr.apart hc.blk (by decide) hk
theorem put_both (a b : List Int) : put (put [] a) (put [] b) = put [] (b ++ a) :=
  srt_ext _ _ (put_srt _ _ (put_srt _ _ List.Pairwise.nil)) (put_srt _ _ List.Pairwise.nil) (fun y => by
    rw [put_count, put_count, put_count, put_count, List.count_append]; simp; omega)
attribute [local go_sem ↓] appN_eq
set_option maxRecDepth 2000000 in
set_option maxHeartbeats 8000000 in
theorem sackMerges_walk (a0 : Option Addr) (n0 c0 : Nat) (f0 : Nat → Int) (a1 : Option Addr) (n1 c1 : Nat) (f1 : Nat → Int) (kr : Int) (w : World) (_hm0 : n0 ≤ maxLen) (hf0 : ∀ i, i < n0 → -9223372036854775808 ≤ f0 i ∧ f0 i ≤ 9223372036854775807) (hH0 : Holds (fun n : Int => Value.int .i64 n) w a0 n0 f0)
    (_hm1 : n1 ≤ maxLen) (hf1 : ∀ i, i < n1 → -9223372036854775808 ≤ f1 i ∧ f1 i ≤ 9223372036854775807) (hH1 : Holds (fun n : Int => Value.int .i64 n) w a1 n1 f1) (hkr : (Lit.int .u8 kr).wf = true) :
    Calls Try.prog 5 #[.slice a0 n0 c0, .slice a1 n1 c1, .int .u8 kr] w fun e w' => e = .returned (.bool true) ∧ Below w.heap.size w w' := by
  have HAW : Hid (∀ W, Calls Try.prog 7 #[] W fun e w' => e = .returned (.bool true) ∧ Below W.heap.size W w') := awake_any
  have hkb := wf_u8 hkr
  by_cases hn : n0 ≤ 60 ∧ n1 ≤ 60
  · obtain ⟨hn0, hn1⟩ := hn
    have hd0 : decide (60 < (n0 : Int)) = false := decide_eq_false (by omega)
    have hd1 : decide (60 < (n1 : Int)) = false := decide_eq_false (by omega)
    have q1 : IntKind.i64.wrap kr = kr := wr64 _ (by omega) (by omega)
    obtain ⟨K, hK⟩ : ∃ K, max kr (n0 : Int) = K := ⟨_, rfl⟩
    have hKb : 0 ≤ K ∧ (n0 : Int) ≤ K ∧ K ≤ 255 := by omega
    obtain ⟨la, hla⟩ : ∃ la, upN f0 n0 = la := ⟨_, rfl⟩
    obtain ⟨lb, hlb⟩ : ∃ lb, upN f1 n1 = lb := ⟨_, rfl⟩
    have la0 : la.length = n0 := by rw [← hla, upN_len]
    have lb0 : lb.length = n1 := by rw [← hlb, upN_len]
    have ga : ArgN w a0 la := by rw [← hla]; exact upN_arg hH0
    have gb : ArgN w a1 lb := by rw [← hlb]; exact upN_arg hH1
    have fa : Fit la := by rw [← hla]; exact upN_fit hf0
    have fb : Fit lb := by rw [← hlb]; exact upN_fit hf1
    obtain ⟨l, hl⟩ : ∃ l, put [] la = l := ⟨_, rfl⟩
    obtain ⟨m, hm⟩ : ∃ m, put [] lb = m := ⟨_, rfl⟩
    have ll : l.length = n0 := by rw [← hl, put_len, la0]; simp
    have lm : m.length = n1 := by rw [← hm, put_len, lb0]; simp
    have HF0 : Hid (∀ W, Below w.heap.size w W → Calls Try.prog 20 #[.slice a0 n0 c0, .int .i64 K] W fun e w' => ∃ s R v, e = .returned (.tuple #[.pointer (some ⟨s, 0, none⟩), v, .bool true]) ∧ Full W K la s R v w') := fun W hb =>
      fill_any a0 n0 c0 la K W la0.symm (by omega) (by omega) fa (ga.below hb)
    have HF1 : Hid (∀ W, Below w.heap.size w W → Calls Try.prog 20 #[.slice a1 n1 c1, .int .i64 60] W fun e w' => ∃ s R v, e = .returned (.tuple #[.pointer (some ⟨s, 0, none⟩), v, .bool true]) ∧ Full W 60 lb s R v w') := fun W hb =>
      fill_any a1 n1 c1 lb 60 W lb0.symm (by omega) (by decide) fb (gb.below hb)
    have HGA := Lib.hid ga
    have HGB := Lib.hid gb
    have HLA := Lib.hid la0
    have HLB := Lib.hid lb0
    have HFA := Lib.hid fa
    have HFB := Lib.hid fb
    have HL := Lib.hid hl
    have HM := Lib.hid hm
    have HLL := Lib.hid ll
    have HLM := Lib.hid lm
    have HKB := Lib.hid hKb
    clear hf0 hH0 _hm0 hf1 hH1 _hm1 hkr hkb hla hlb la0 lb0 ga gb fa fb hl hm ll lm
    go_enter Try.func5, Try.ntmps5
    go_wp2_with fail
    refine (HAW.out _).mono ?_
    rintro e w1 ⟨rfl, hb1⟩
    have HF0' := Lib.hid (HF0.out _ hb1)
    have HB1 := Lib.hid hb1
    clear hb1
    go_wp2_with fail
    refine HF0'.out.mono ?_
    rintro e w2 ⟨s, R, v1, rfl, fu1⟩
    have hb2 : Below w.heap.size w w2 := below_step HB1.out (Nat.le_refl _) fu1.below
    have HF1' := Lib.hid (HF1.out _ hb2)
    obtain ⟨x1, y1, rfl⟩ := es_slice fu1.es
    have hlz : (put [] la).length = n0 := by rw [HL.out, HLL.out]
    rw [hlz] at fu1 ⊢
    have FU1 := Lib.hid fu1
    clear hb2 fu1 hlz
    go_wp2_with fail
    refine HF1'.out.mono ?_
    rintro e w3 ⟨o, Ro, v2, rfl, fu2⟩
    obtain ⟨x2, y2, rfl⟩ := es_slice fu2.es
    have hlz : (put [] lb).length = n1 := by rw [HM.out, HLM.out]
    rw [hlz] at fu2 ⊢
    have FU2 := Lib.hid fu2
    have hs3 : Sak w3 s R K l := by have := FU1.out.sak.below fu2.below; rwa [HL.out] at this
    have HCL := Lib.hid (Clone_any hs3)
    clear hs3 fu2 hlz
    go_wp2_with fail
    refine HCL.out.mono ?_
    rintro e w4 ⟨c, Rc, rfl, hc4, hcs, hcR, hb4⟩
    have MG4 : Hid (Mg w s R o Ro c Rc K l m l (.slice x1 n0 y1) (.slice x2 n1 y2) l m w4) := by
      have u1 := FU1.out
      have u2 := FU2.out
      have b1 := HB1.out
      have b2 := u1.below
      have b3 := u2.below
      have s1 := b1.size
      have s2 := b2.size
      have s3 := b3.size
      have hs3 := u1.sak.below b3
      have he1 := u1.es.below b3
      have hs2 := u2.sak
      have he2 := u2.es
      rw [HL.out] at hs3 he1
      rw [HM.out] at hs2 he2
      have l1 := hs3.lt
      have l2 := hs3.rlt
      have g1 := u1.s0
      have g2 := u1.r0
      have l3 := u1.sak.lt
      have l4 := u1.sak.rlt
      have g3 := u2.s0
      have g4 := u2.r0
      exact ⟨hs3.below hb4, hs2.below hb4, hc4, he1.below hb4, he2.below hb4, below_step (below_step (below_step b1 (Nat.le_refl _) b2) (Nat.le_refl _) b3) (Nat.le_refl _) hb4, ⟨by omega, by omega, by omega, by omega⟩, ⟨by omega, by omega⟩, ⟨by omega, by omega⟩⟩
    clear hc4 hcs hcR hb4 FU1 FU2 HB1 HF0 HF1 HCL HF0' HF1'
    have HA : Hid (∀ (W : World) (s R : Nat) (room : Int) (l : List Int), Sak W s R room l → Calls Try.prog 19 #[.pointer (some ⟨s, 0, none⟩)] W fun e W' => ∃ f, e = .returned f ∧ SeqA W' f l ∧ Below W.heap.size W W') := fun W s R room l h => All_any h
    have HH : Hid (∀ (W : World) (f v : Value) (l : List Int), l.length ≤ 10000 → SeqA W f l → EsN W v l → Calls Try.prog 18 #[f, v, .int .i64 200] W fun e W' => e = .returned (.bool true) ∧ Below W.heap.size W W') := fun W f v l h1 h2 h3 => has_any 200 h1 h2 h3
    have q2 : IntKind.i64.wrap (K - (n0 : Int)) = K - n0 := wr64 _ (by have := HKB.out; omega) (by have := HKB.out; omega)
    have q3 : IntKind.i64.wrap ((n0 : Int) + (n1 : Int)) = (n0 : Int) + n1 := wr64 _ (by omega) (by omega)
    by_cases hfit : (n0 : Int) + n1 ≤ K
    · have HMR := Lib.hid (Merge_yes MG4.out.hs MG4.out.ho (by rw [HLL.out, HLM.out]; exact hfit))
      have MGN : Hid (∀ w5, Sak w5 s R K (put l m) → Only [R, s] w4 w5 → Mg w s R o Ro c Rc K (put [] (lb ++ la)) m l (.slice x1 n0 y1) (.slice x2 n1 y2) l m w5) := fun w5 k1 k2 => by
        have g := MG4.out
        have e : put l m = put [] (lb ++ la) := by rw [← HL.out, ← HM.out, put_both]
        rw [e] at k1
        exact ⟨k1, sak_other g.ho g.hs (Ne.symm g.so.1) (Ne.symm g.so.2) k2, sak_other g.hc g.hs (Ne.symm g.sc.1) (Ne.symm g.sc.2) k2, es_only g.hs k2 g.e1, es_only g.hs k2 g.e2, g.below.trans (k2.drop g.below.size (fun k hk => by
          rcases List.mem_cons.1 hk with rfl | hk
          · exact g.ge.2.1
          · rw [List.mem_singleton] at hk; subst hk; exact g.ge.1)), g.ge, g.sc, g.so⟩
      have hd2 : decide (K < (n0 : Int) + n1) = false := decide_eq_false (by omega)
      have HAL : Hid ((put [] (lb ++ la)).length ≤ 10000) := by show _ ≤ _; rw [put_len, List.length_append, HLA.out, HLB.out]; simp; omega
      clear hfit
      go_wp2_with fail
      refine HMR.out.mono ?_
      rintro e w5 ⟨rfl, k1, k2⟩
      have MG5 := Lib.hid (MGN.out w5 k1 k2)
      clear k1 k2 MGN HMR
      go_wp2_with fail
      refine (HA.out _ _ _ _ _ MG5.out.ho).mono ?_
      rintro e w6 ⟨f6, rfl, sq6, b6⟩
      have MG6 := Lib.hid (MG5.out.next b6)
      have HH6 := Lib.hid (HH.out w6 f6 _ _ (by have := HLM.out; omega) sq6 MG6.out.e2)
      clear sq6 b6
      go_wp2_with fail
      refine HH6.out.mono ?_
      rintro e w7 ⟨rfl, b7⟩
      have MG7 := Lib.hid (MG6.out.next b7)
      clear b7
      go_wp2_with fail
      refine (HA.out _ _ _ _ _ MG7.out.hc).mono ?_
      rintro e w8 ⟨f8, rfl, sq8, b8⟩
      have MG8 := Lib.hid (MG7.out.next b8)
      have HH8 := Lib.hid (HH.out w8 f8 _ _ (by have := HLL.out; omega) sq8 MG8.out.e1)
      clear sq8 b8
      go_wp2_with fail
      refine HH8.out.mono ?_
      rintro e w9 ⟨rfl, b9⟩
      have MG9 := Lib.hid (MG8.out.next b9)
      clear b9
      have HR9 := Lib.hid (sroom_any MG9.out.hc)
      rw [HLL.out] at HR9
      go_wp2_with fail
      refine HR9.out.mono ?_
      rintro e w10 ⟨rfl, b10⟩
      have MG10 := Lib.hid (MG9.out.next b10)
      clear b10 HR9
      obtain ⟨r1, W1, p1, u1, t1, -⟩ := appN_step (w := w10) (v := .slice (some ⟨w10.heap.size, 0, none⟩) 0 0) (l1 := []) ((Below.refl _ w10).alloc (Nat.le_refl _) _) (Vec.Own.new encN 1 w10 w10.heap.size (Nat.le_refl _)) (arg_src (c := c1) ((HGB.out.below MG10.out.below).below ((Below.refl _ w10).alloc (Nat.le_refl _) _))) (by have := HLB.out; simp; omega)
      rw [List.nil_append] at u1
      obtain ⟨r2, W2, p2, u2, t2, -⟩ := appN_step (w := w10) t1 u1 (arg_src (c := c0) ((HGA.out.below MG10.out.below).below t1)) (by have := HLA.out; have := HLB.out; omega)
      rw [HLB.out] at p1
      rw [HLA.out] at p2
      obtain ⟨x3, y3, rfl⟩ := es_slice u2.es
      have HFI := Lib.hid (fill_any x3 (lb ++ la).length y3 (lb ++ la) 120 W2 rfl (by have := HLA.out; have := HLB.out; rw [List.length_append]; omega) (by decide) (fun x hx => (List.mem_append.1 hx).elim (HFB.out x) (HFA.out x)) (es_arg u2.es))
      have T2 := Lib.hid t2
      generalize (lb ++ la).length = n3 at p2 HFI
      clear t1 u1 u2 t2
      go_wp2_with fail
      refine HFI.out.mono ?_
      rintro e w11 ⟨q, Rq, v3, rfl, fu⟩
      have b11 : Below w10.heap.size w10 w11 := T2.out.trans (fu.below.mono T2.out.size)
      have MG11 := Lib.hid (MG10.out.next b11)
      have BO11 : Hid (Sak w11 q Rq 120 (put [] (lb ++ la)) ∧ EsN w11 v3 (put [] (lb ++ la))) := ⟨fu.sak, fu.es⟩
      obtain ⟨x4, y4, rfl⟩ := es_slice fu.es
      clear b11 fu p1 p2 T2 HFI
      go_wp2_with fail
      refine (HA.out _ _ _ _ _ MG11.out.hs).mono ?_
      rintro e w12 ⟨f12, rfl, sq12, b12⟩
      have MG12 := Lib.hid (MG11.out.next b12)
      have BO12 : Hid (Sak w12 q Rq 120 (put [] (lb ++ la)) ∧ EsN w12 (.slice x4 (put [] (lb ++ la)).length y4) (put [] (lb ++ la))) := ⟨BO11.out.1.below b12, BO11.out.2.below b12⟩
      have HH12 := Lib.hid (HH.out w12 f12 _ _ (by exact HAL.out) sq12 BO12.out.2)
      clear sq12 b12
      go_wp2_with fail
      refine HH12.out.mono ?_
      rintro e w13 ⟨rfl, b13⟩
      have MG13 := Lib.hid (MG12.out.next b13)
      have BO13 : Hid (Sak w13 q Rq 120 (put [] (lb ++ la)) ∧ EsN w13 (.slice x4 (put [] (lb ++ la)).length y4) (put [] (lb ++ la))) := ⟨BO12.out.1.below b13, BO12.out.2.below b13⟩
      clear b13
      go_wp2_with fail
      refine (HA.out _ _ _ _ _ BO13.out.1).mono ?_
      rintro e w14 ⟨f14, rfl, sq14, b14⟩
      have MG14 := Lib.hid (MG13.out.next b14)
      have BO14 : Hid (Sak w14 q Rq 120 (put [] (lb ++ la)) ∧ EsN w14 (.slice x4 (put [] (lb ++ la)).length y4) (put [] (lb ++ la))) := ⟨BO13.out.1.below b14, BO13.out.2.below b14⟩
      have HH14 := Lib.hid (HH.out w14 f14 _ _ (by exact HAL.out) sq14 BO14.out.2)
      clear sq14 b14
      go_wp2_with fail
      refine HH14.out.mono ?_
      rintro e w15 ⟨rfl, b15⟩
      have MG15 := Lib.hid (MG14.out.next b15)
      have BO15 : Hid (Sak w15 q Rq 120 (put [] (lb ++ la)) ∧ EsN w15 (.slice x4 (put [] (lb ++ la)).length y4) (put [] (lb ++ la))) := ⟨BO14.out.1.below b15, BO14.out.2.below b15⟩
      clear b15
      have HMI : Hid (∀ W, EsN W (.slice x1 n0 y1) l → Calls Try.prog 24 #[.slice x1 n0 y1, .int .i64 0] W fun e w' => e = .returned (.int .i64 (if l.count 0 = 0 then 5 else 0)) ∧ W = w') := fun W h => missing_any x1 n0 y1 l 0 W (by have := HLL.out; omega) h
      have HDR : Hid (Calls Try.prog 13 #[.pointer (some ⟨c, 0, none⟩), .int .i64 0] w15 fun e w' => e = .returned (.int .i64 (if l.count 0 = 0 then 5 else 0)) ∧ Sak w' s R K (put [] (lb ++ la)) ∧ EsN w' (.slice x1 n0 y1) l ∧ EsN w' (.slice x4 (put [] (lb ++ la)).length y4) (put [] (lb ++ la)) ∧ Below w.heap.size w w') := by
        have g := MG15.out
        have e4 := BO15.out.2
        by_cases h0 : l.count 0 = 0
        · exact (Drop_no g.hc 0 h0).mono fun e w' ⟨z1, z2⟩ => ⟨by rw [z1, if_pos h0], g.hs.below z2, g.e1.below z2, e4.below z2, (g.next z2).below⟩
        · exact (Drop_yes g.hc 0 (by omega)).mono fun e w' ⟨z1, z2, z3⟩ => ⟨by rw [z1, if_neg h0], sak_other g.hs g.hc g.sc.1 g.sc.2 z3, es_only g.hc z3 g.e1, es_only g.hc z3 e4, g.below.trans (z3.drop g.below.size (fun k hk => by
            rcases List.mem_cons.1 hk with rfl | hk
            · exact g.ge.2.2.2
            · rw [List.mem_singleton] at hk; subst hk; exact g.ge.2.2.1))⟩
      generalize (if l.count 0 = 0 then (5 : Int) else 0) = cd at HMI HDR
      go_wp2_with fail
      refine HDR.out.mono ?_
      rintro e w16 ⟨rfl, z1, z2, z3, z4⟩
      have HMJ := Lib.hid (HMI.out _ z2)
      have Z1 := Lib.hid z1
      have Z3 := Lib.hid z3
      have Z4 := Lib.hid z4
      clear z1 z2 z3 z4
      go_wp2_with fail
      refine HMJ.out.mono ?_
      rintro e wz ⟨rfl, rfl⟩
      go_wp2_with fail
      refine (HA.out _ _ _ _ _ Z1.out).mono ?_
      rintro e wy ⟨fy, rfl, sqy, by'⟩
      have HHY := Lib.hid (HH.out wy fy _ _ HAL.out sqy (Z3.out.below by'))
      have ZY := Lib.hid (below_step Z4.out (Nat.le_refl _) by')
      clear sqy by'
      go_wp2_with fail
      refine HHY.out.mono ?_
      rintro e wx ⟨rfl, bx⟩
      have ZX := Lib.hid (below_step ZY.out (Nat.le_refl _) bx)
      clear bx
      go_wp2
      go_ret
      exact ⟨rfl, ZX.out⟩
    · have HMR := Lib.hid (Merge_no MG4.out.hs MG4.out.ho (by rw [HLL.out, HLM.out]; omega))
      have hd2 : decide (K < (n0 : Int) + n1) = true := decide_eq_true (by omega)
      clear hfit
      go_wp2_with fail
      refine HMR.out.mono ?_
      rintro e w5 ⟨rfl, b5⟩
      have MG5 := Lib.hid (MG4.out.next b5)
      clear b5 HMR
      go_wp2_with fail
      refine (HA.out _ _ _ _ _ MG5.out.ho).mono ?_
      rintro e w6 ⟨f6, rfl, sq6, b6⟩
      have MG6 := Lib.hid (MG5.out.next b6)
      have HH6 := Lib.hid (HH.out w6 f6 _ _ (by have := HLM.out; omega) sq6 MG6.out.e2)
      clear sq6 b6
      go_wp2_with fail
      refine HH6.out.mono ?_
      rintro e w7 ⟨rfl, b7⟩
      have MG7 := Lib.hid (MG6.out.next b7)
      clear b7
      go_wp2_with fail
      refine (HA.out _ _ _ _ _ MG7.out.hc).mono ?_
      rintro e w8 ⟨f8, rfl, sq8, b8⟩
      have MG8 := Lib.hid (MG7.out.next b8)
      have HH8 := Lib.hid (HH.out w8 f8 _ _ (by have := HLL.out; omega) sq8 MG8.out.e1)
      clear sq8 b8
      go_wp2_with fail
      refine HH8.out.mono ?_
      rintro e w9 ⟨rfl, b9⟩
      have MG9 := Lib.hid (MG8.out.next b9)
      clear b9
      have HR9 := Lib.hid (sroom_any MG9.out.hc)
      rw [HLL.out] at HR9
      go_wp2_with fail
      refine HR9.out.mono ?_
      rintro e w10 ⟨rfl, b10⟩
      have MG10 := Lib.hid (MG9.out.next b10)
      clear b10 HR9
      go_wp2_with fail
      refine (HA.out _ _ _ _ _ MG10.out.hs).mono ?_
      rintro e w11 ⟨f11, rfl, sq11, b11⟩
      have MG11 := Lib.hid (MG10.out.next b11)
      have HH11 := Lib.hid (HH.out w11 f11 _ _ (by have := HLL.out; omega) sq11 MG11.out.e1)
      clear sq11 b11
      go_wp2_with fail
      refine HH11.out.mono ?_
      rintro e w12 ⟨rfl, b12⟩
      have MG12 := Lib.hid (MG11.out.next b12)
      clear b12
      go_wp2
      go_ret
      exact ⟨rfl, MG12.out.below⟩
  · have hd : decide (60 < (n0 : Int)) = true ∨ decide (60 < (n0 : Int)) = false ∧ decide (60 < (n1 : Int)) = true := by
      simp only [decide_eq_true_eq, decide_eq_false_iff_not]
      omega
    clear hf0 hH0 _hm0 hf1 hH1 _hm1 hkr hkb hn
    rcases hd with hd0 | ⟨hd0, hd1⟩
    all_goals
      go_enter Try.func5, Try.ntmps5
      go_wp2_with fail
      refine (HAW.out _).mono ?_
      rintro e w1 ⟨rfl, hb1⟩
      have HB1 := Lib.hid hb1
      clear hb1
      go_wp2_with fail
      refine (HAW.out _).mono ?_
      rintro e w2 ⟨rfl, hb2⟩
      have HB2 := Lib.hid (below_step HB1.out (Nat.le_refl _) hb2)
      clear hb2
      go_wp2
      go_ret
      exact ⟨rfl, HB2.out⟩
end Sk
end Go.Proofs.Ytahkmdbbicpfcaa
