
/- What the document's Parse answers: the set that the program's Parse reads, its place, its error. -/
import Derived.Test.YtiahelekgjdjlaaGreatDoorRuRefParB
import Derived.Test.YtiahelekgjdjlaaGreatDoorRuRefRul
import Derived.Test.YtiahelekgjdjlaaGreatDoorRuRefPolW
import Derived.Test.YtiahelekgjdjlaaGreatDoorRuRefCheck
import Derived.Test.YtiahelekgjdjlaaGreatDoorRuRefSplit
namespace Go.Proofs.YtiahelekgjdjlaaGreatDoor
open Go.RowKit Go.Shelf
open Dp Gb
attribute [local go_sem] Oper.semAt_some
namespace Ru
attribute [local go_sem ↓] apR_eq
theorem polW_flat (v : Value) (ws : List (List UInt8)) (w : World) (ok : Bool) (PD : Option Pol) (h1 : polD ws = PD) (h2 : PD.isSome = ok) (hv : RdT w v ws) (hl : ws.length ≤ 10000) (hx : ∀ x ∈ ws, x.length ≤ 9000) :
    Calls Tryz.prog 38 #[v] w fun e w' => ∃ (qn : List UInt8) (i1 i2 i3 i4 : Int), e = .returned (.tuple #[.agg #[.string (B qn), .int .i64 i1, .int .i64 i2, .int .i64 i3, .int .i64 i4], .bool ok]) ∧ (∀ p, PD = some p → (⟨qn, i1, i2, i3, i4⟩ : Pol) = p) ∧ Below w.heap.size w w' := by
  subst h1 h2
  refine (refPolW_any v ws w hv hl hx).mono ?_
  rintro e w' ⟨⟨qn, i1, i2, i3, i4⟩, he, hq, hb⟩
  exact ⟨qn, i1, i2, i3, i4, he, hq, hb⟩
theorem rulW_flat (v : Value) (ws : List (List UInt8)) (w : World) (is : Bool) (RD : Option Rul) (h1 : rulD ws = RD) (h2 : RD.isSome = is) (h0 : ws ≠ []) (hv : RdT w v ws) (hl : ws.length ≤ 9001) (hx : ∀ x ∈ ws, x.length ≤ 9000) :
    Calls Tryz.prog 39 #[v] w fun e w' => ∃ (kd : Int) (x1 : Option Addr) (y1 z1 : Nat) (x2 : Option Addr) (y2 z2 : Nat) (mt : List UInt8) (kp : Bool) (x5 : Option Addr) (y5 z5 : Nat), e = .returned (.tuple #[.agg #[.int .i64 kd, .slice x1 y1 z1, .slice x2 y2 z2, .string (B mt), .bool kp, .slice x5 y5 z5], .bool is]) ∧
      (∀ x, RD = some x → RrIs w' ⟨kd, ⟨x1, y1, z1⟩, ⟨x2, y2, z2⟩, mt, kp, ⟨x5, y5, z5⟩⟩ x) ∧ Below w.heap.size w w' := by
  subst h1 h2
  obtain ⟨w0, wt, rfl⟩ := List.exists_cons_of_ne_nil h0
  refine (refRulW_any v w0 wt w hv (by simpa using hl) hx).mono ?_
  rintro e w' ⟨⟨kd, ⟨x1, y1, z1⟩, ⟨x2, y2, z2⟩, mt, kp, ⟨x5, y5, z5⟩⟩, he, hq, hb⟩
  exact ⟨kd, x1, y1, z1, x2, y2, z2, mt, kp, x5, y5, z5, he, hq, hb⟩
/-- what is kept from line to line -/
def PaI (w : World) (G : RSet × Nat × Nat) (r : List UInt8) (k : Nat) (s : RSet) (v0 v1 : Value) (V : World) : Prop :=
  PsS w v0 v1 s V ∧ goU (linesP r) s k = G ∧ FitS s ∧ s.pols.length + s.rules.length = k ∧ k + r.length ≤ 9000
set_option maxRecDepth 2000000 in
set_option maxHeartbeats 16000000 in
theorem refParse_any (l : List UInt8) (w : World) (hl : l.length ≤ 9000) :
    Calls Tryz.prog 16 #[.string (B l)] w fun e w' => ∃ a1 n1 c1 a2 n2 c2, e = .returned (.tuple #[.agg #[.slice a1 n1 c1, .slice a2 n2 c2], .int .i64 ((parseP l).2.1 : Nat), .int .i64 ((parseP l).2.2 : Nat)]) ∧ n1 = (parseP l).1.pols.length ∧ FitS (parseP l).1 ∧ Below w.heap.size w w' := by
  have hG := doc_parse l
  obtain ⟨G, hGe⟩ : ∃ G, parseP l = G := ⟨_, rfl⟩
  rw [hGe] at hG ⊢
  have HN := psS_new w
  obtain ⟨X, hX⟩ : ∃ X, (w.alloc (.cells #[.slice none 0 0, .slice none 0 0] 35)).alloc (.cells #[.slice none 0 0, .slice none 0 0] 35) = X := ⟨_, rfl⟩
  rw [show (w.alloc (.cells setZ setR)).alloc (.cells setZ setR) = X from hX] at HN
  have HST : Hid (PaI w G l 0 ⟨[], []⟩ (.slice none 0 0) (.slice none 0 0) X) := ⟨HN, hG, fit_none, rfl, by omega⟩
  have HXE := Lib.hid hX
  have HOUT : Hid (∀ V, Below w.heap.size w V → Blk V w.heap.size setR setZ → Below w.heap.size w ((V.setCell ⟨w.heap.size, 0, none⟩ (.slice none 0 0)).setCell ⟨w.heap.size, 1, none⟩ (.slice none 0 0)) ∧ Blk ((V.setCell ⟨w.heap.size, 0, none⟩ (.slice none 0 0)).setCell ⟨w.heap.size, 1, none⟩ (.slice none 0 0)) w.heap.size setR #[.slice none 0 0, .slice none 0 0]) := fun V h1 h2 =>
    ⟨(h1.setCell (p := ⟨w.heap.size, 0, none⟩) (Nat.le_refl _) _).setCell (p := ⟨w.heap.size, 1, none⟩) (Nat.le_refl _) _, (h2.set 0 _).set 1 _⟩
  clear HN hX hG hGe hl
  go_enter Tryz.func16, Tryz.ntmps16
  go_wp2
  rw [HXE.out]
  clear HXE
  go_loopw [0, 6, 7, 8, 9, 10, 12, 14] (fun t n _ _ _ _ _ _ wr => ∃ (r : List UInt8) (k : Nat) (s : RSet) (a1 : Option Addr) (n1 c1 : Nat) (a2 : Option Addr) (n2 c2 : Nat), t = strV r ∧ n = .int .i64 (k : Int) ∧ Hid (PaI w G r k s (.slice a1 n1 c1) (.slice a2 n2 c2) wr)) (fun t _ _ _ _ _ _ _ _ => (match t with | .string x => x.size | _ => 0))
  case atStart => exact ⟨l, 0, ⟨[], []⟩, none, 0, 0, none, 0, 0, rfl, rfl, HST.out⟩
  case round =>
    clear HST
    obtain ⟨r, k, s, a1, n1, c1, a2, n2, c2, rfl, rfl, HS⟩ := hrel
    have dm : ((B r).toList == []) = r.isEmpty := by rw [eq_lit]; cases r <;> rfl
    have dm2 : ((B r).toList != []) = !r.isEmpty := by rw [bne, dm]
    have dm3 : ((B r).toList.isEmpty) = r.isEmpty := by rw [Lib.toList_data]
    by_cases hr0 : r = []
    · have he : r.isEmpty = true := by rw [hr0]; rfl
      have HG : Hid ((if (checkP s).2 = 0 then (s, 0, 0) else ((⟨[], []⟩ : RSet), (checkP s).1, (checkP s).2)) = G) := by
        have := HS.out.2.1
        rw [hr0, goU_end] at this
        exact this
      have HV := Lib.hid HS.out.1
      have HF := Lib.hid HS.out.2.2.1
      have HC := Lib.hid (refCheck_any s a1 a2 n1 c1 n2 c2 wr HF.out HV.out.read.1 HV.out.read.2)
      have HLN := Lib.hid HV.out.lens.1
      obtain ⟨cp, hcp⟩ : ∃ c, checkP s = c := ⟨_, rfl⟩
      rw [hcp] at HG HC
      obtain ⟨at', code⟩ := cp
      simp only at HG HC
      obtain ⟨rs, hrs⟩ : ∃ t, B r = t := ⟨_, rfl⟩
      rw [he] at dm dm2 dm3
      simp only [strV, hrs] at dm dm2 dm3 ⊢
      have s0 := (HV.out.st.cl 0 _ rfl).1
      have s1 := (HV.out.st.cl 1 _ rfl).1
      have sl := HV.out.st.lt
      clear he hr0 hcp hrs HS
      go_wp2_with fail
      refine HC.out.mono ?_
      rintro e w1 ⟨rfl, hb⟩
      have HV := Lib.hid (HV.out.step hb)
      clear hb HC s0 s1 sl dm dm2 dm3
      by_cases hc : code = 0
      · subst hc
        have HGE : Hid (G = (s, 0, 0)) := HG.out.symm
        have s0 := (HV.out.st.cl 0 _ rfl).1
        have s1 := (HV.out.st.cl 1 _ rfl).1
        have sl := HV.out.st.lt
        have r0 := (HV.out.res.cl 0 _ rfl).2
        have r0c := (HV.out.res.cl 0 _ rfl).1
        have r1 := (HV.out.res.cl 1 _ rfl).2
        have r1c := (HV.out.res.cl 1 _ rfl).1
        have rl := HV.out.res.lt
        have HR : Hid (Below w.heap.size w ((w1.setCell ⟨w.heap.size, 0, none⟩ (.slice a1 n1 c1)).setCell ⟨w.heap.size, 1, none⟩ (.slice a2 n2 c2)) ∧ Blk ((w1.setCell ⟨w.heap.size, 0, none⟩ (.slice a1 n1 c1)).setCell ⟨w.heap.size, 1, none⟩ (.slice a2 n2 c2)) w.heap.size setR #[.slice a1 n1 c1, .slice a2 n2 c2]) :=
          ⟨(HV.out.bl.setCell (p := ⟨w.heap.size, 0, none⟩) (Nat.le_refl _) _).setCell (p := ⟨w.heap.size, 1, none⟩) (Nat.le_refl _) _, (HV.out.res.set 0 _).set 1 _⟩
        clear HG HOUT
        go_wp2
        refine bodyPost_ret (results_refParse _ w.heap.size _ _ _ _ _ HR.out.2 rfl rfl rfl) rfl ?_
        rw [HGE.out]
        exact ⟨_, _, _, _, _, _, rfl, HLN.out, HF.out, HR.out.1⟩
      · have HGE : Hid (G = (⟨[], []⟩, at', code)) := by
          have := HG.out
          rw [if_neg hc] at this
          exact this.symm
        have hc' : (((code : Nat) : Int) != 0) = true := bne_iff_ne.2 (by omega)
        have r0 := (HV.out.res.cl 0 _ rfl).2
        have r0c := (HV.out.res.cl 0 _ rfl).1
        have r1 := (HV.out.res.cl 1 _ rfl).2
        have r1c := (HV.out.res.cl 1 _ rfl).1
        have rl := HV.out.res.lt
        have HR := Lib.hid (HOUT.out w1 HV.out.bl HV.out.res)
        have hcn : ¬ ((code : Nat) : Int) = 0 := by omega
        clear HG HOUT hc
        go_wp2
        refine bodyPost_ret (results_refParse _ w.heap.size _ _ _ _ _ HR.out.2 rfl rfl rfl) rfl ?_
        rw [HGE.out]
        exact ⟨_, _, _, _, _, _, rfl, rfl, fit_none, HR.out.1⟩
    · have he : r.isEmpty = false := by cases r with
        | nil => exact absurd rfl hr0
        | cons y t => rfl
      rw [he] at dm dm2 dm3
      have hrl : r.length ≤ 9000 := by have := HS.out.2.2.2.2; omega
      have HC := Lib.hid (Y2.refCut_any (B r) 10 wr (small_max (by omega)))
      change Hid (Calls _ _ #[.string (B r), .int .u8 10] wr fun e w' => e = .returned (.tuple #[.string (B (Lib.cut r [10]).1), .string (B (Lib.cut r [10]).2.1), .bool (Lib.cut r [10]).2.2]) ∧ _) at HC
      have hcl := cut_len 10 r
      have hless : (Lib.cut r [10]).2.2 = true → (Lib.cut r [10]).2.1.length < r.length := fun h => by
        rcases cut_cases 10 r with ⟨_, e⟩ | ⟨p, q, _, e1, e⟩
        · rw [e] at h; cases h
        · rw [e, e1]; simp; omega
      have hlast := fun s k h => goU_last (r := r) s k hr0 h
      obtain ⟨cc, hcc⟩ : ∃ c, Lib.cut r [10] = c := ⟨_, rfl⟩
      rw [hcc] at HC hcl hless hlast
      obtain ⟨one, bh, en⟩ := cc
      simp only at HC hcl hless hlast
      have HCC := Lib.hid hcc
      have HLS := Lib.hid hless
      have HLA : Hid (∀ s k, en = false → goU (linesP r) s k = (⟨[], []⟩, k, 2)) := hlast
      have hone : one.length ≤ 9000 := by omega
      have HBL : Hid (bh.length ≤ r.length) := hcl.2
      have HMEM : Hid (∀ x ∈ spl 32 one, x.length ≤ 9000) := fun x hx => Nat.le_trans (spl_le hx) hone
      have HMANY : Hid ((spl 32 one).length ≤ 9001) := by have := spl_many 32 one; show _ ≤ _; omega
      have HNE := Lib.hid (spl_ne 32 one)
      have HFR := Lib.hid (fun x (h : rulD (spl 32 one) = some x) => fit_rulD (Nat.le_trans hone (by decide)) h)
      have HFP := Lib.hid (fun p (h : polD (spl 32 one) = some p) => fit_polD h)
      have HSP := fun W => Lib.hid (refSplitR_any one 32 W hone)
      simp only [strV] at HSP
      obtain ⟨PD, hPD⟩ : ∃ p, polD (spl 32 one) = p := ⟨_, rfl⟩
      obtain ⟨RD, hRD⟩ : ∃ p, rulD (spl 32 one) = p := ⟨_, rfl⟩
      obtain ⟨ok, hok⟩ : ∃ b, PD.isSome = b := ⟨_, rfl⟩
      obtain ⟨is, his⟩ : ∃ b, RD.isSome = b := ⟨_, rfl⟩
      have HPW := fun v W (hv : RdT W v (spl 32 one)) => Lib.hid (polW_flat v (spl 32 one) W ok PD hPD hok hv (Nat.le_trans HMANY.out (by decide)) HMEM.out)
      have HRW := fun v W (hv : RdT W v (spl 32 one)) => Lib.hid (rulW_flat v (spl 32 one) W is RD hRD his HNE.out hv HMANY.out HMEM.out)
      rw [hPD] at HFP
      rw [hRD] at HFR
      have HPD := Lib.hid hPD
      have HRD := Lib.hid hRD
      have HOK := Lib.hid hok
      have HIS := Lib.hid his
      have HMS : Hid (bh.length < r.length → (B bh).size < (B r).size) := fun h => by rw [B_size, B_size]; exact h
      have HIL := Lib.hid hrl
      clear hcl hless hlast hcc hone hPD hRD hok his he hr0 hrl HMEM HMANY HNE
      obtain ⟨rs, hrs⟩ : ∃ t, B r = t := ⟨_, rfl⟩
      obtain ⟨os, hos⟩ : ∃ t, B one = t := ⟨_, rfl⟩
      obtain ⟨bs, hbs⟩ : ∃ t, B bh = t := ⟨_, rfl⟩
      simp only [strV, hrs, hos, hbs] at dm dm2 dm3 HC HSP HMS ⊢
      have HBS : Hid (.string bs = strV bh) := by show _ = _; rw [← hbs]
      clear hrs hos hbs
      go_wp2_with fail
      refine HC.out.mono ?_
      rintro e w1 ⟨rfl, q, hw1⟩
      have HV : Hid (PsS w (.slice a1 n1 c1) (.slice a2 n2 c2) s w1) := by rw [hw1]; exact HS.out.1.step (below_q wr q)
      have HI := Lib.hid HS.out.2
      clear hw1 HC HS dm dm2 dm3
      go_wp2_with fail
      refine (HSP _).out.mono ?_
      rintro e w2 ⟨a, n, kk, rfl, ho, hb⟩
      have HV := Lib.hid (HV.out.step hb)
      have HWS : Hid (RdT w2 (.slice a n kk) (spl 32 one)) := ho.es.rd
      clear hb ho HSP
      go_wp2_with fail
      refine (HPW _ _ HWS.out).out.mono ?_
      rintro e w3 ⟨qn, i1, i2, i3, i4, rfl, hq, hb⟩
      have HQ := Lib.hid hq
      have HWS := Lib.hid (Vec.Rd.below HWS.out hb)
      have HV3 := Lib.hid (HV.out.step hb)
      obtain ⟨qs, hqs⟩ : ∃ t, B qn = t := ⟨_, rfl⟩
      have HQS : Hid (strV qn = .string qs) := by show Value.string (B qn) = _; rw [hqs]
      obtain ⟨V4, hV4⟩ : ∃ V, w3.alloc (.cells #[.string (B qn), .int .i64 i1, .int .i64 i2, .int .i64 i3, .int .i64 i4] 42) = V := ⟨_, rfl⟩
      have hb4 : Below w3.heap.size w3 V4 := by rw [← hV4]; exact (Below.refl _ _).alloc (Nat.le_refl _) _
      have HX4 : Hid (Blk V4 w3.heap.size polR' #[.string qs, .int .i64 i1, .int .i64 i2, .int .i64 i3, .int .i64 i4]) := by rw [← hV4, ← hqs]; exact Blk.new _ _ _
      have HV4 := Lib.hid (HV3.out.step hb4)
      have HW4 := Lib.hid (Vec.Rd.below HWS.out hb4)
      simp only [hqs] at hV4 ⊢
      clear hb hq hqs HV HV3 HWS hb4 HPW
      go_wp2_with fail
      refine (HRW _ _ HW4.out).out.mono ?_
      clear hV4
      rintro e w5 ⟨kd, x1, y1, z1, x2, y2, z2, mt, kp, x5, y5, z5, rfl, hx, hb⟩
      obtain ⟨ms, hms⟩ : ∃ t, B mt = t := ⟨_, rfl⟩
      have HMT : Hid (strV mt = .string ms) := by show Value.string (B mt) = _; rw [hms]
      obtain ⟨V6, hV6⟩ : ∃ V, w5.alloc (.cells #[.int .i64 kd, .slice x1 y1 z1, .slice x2 y2 z2, .string (B mt), .bool kp, .slice x5 y5 z5] 68) = V := ⟨_, rfl⟩
      have hb6 : Below w5.heap.size w5 V6 := by rw [← hV6]; exact (Below.refl _ _).alloc (Nat.le_refl _) _
      have HX6 : Hid (Blk V6 w5.heap.size rulR' #[.int .i64 kd, .slice x1 y1 z1, .slice x2 y2 z2, .string ms, .bool kp, .slice x5 y5 z5]) := by rw [← hV6, ← hms]; exact Blk.new _ _ _
      have hb46 : Below V4.heap.size V4 V6 := below_step hb (Nat.le_refl _) hb6
      have HX4 := Lib.hid (HX4.out.below hb46 HX4.out.lt)
      have HV6 := Lib.hid (HV4.out.step hb46)
      have HXR : Hid (∀ x, RD = some x → RrIs V6 ⟨kd, ⟨x1, y1, z1⟩, ⟨x2, y2, z2⟩, mt, kp, ⟨x5, y5, z5⟩⟩ x) := fun x h => (hx x h).below hb6
      simp only [hms] at hV6 ⊢
      clear hb hx hb6 hb46 HV4 HW4 HRW hms
      have s1 := (HV6.out.st.cl 1 _ rfl).1
      have sl := HV6.out.st.lt
      cases en with
      | false =>
        have HGE : Hid (G = (⟨[], []⟩, k, 2)) := HI.out.1.symm.trans (HLA.out s k rfl)
        have r0 := (HV6.out.res.cl 0 _ rfl).2
        have r0c := (HV6.out.res.cl 0 _ rfl).1
        have r1 := (HV6.out.res.cl 1 _ rfl).2
        have r1c := (HV6.out.res.cl 1 _ rfl).1
        have rl := HV6.out.res.lt
        have HR := Lib.hid (HOUT.out V6 HV6.out.bl HV6.out.res)
        clear HOUT
        go_wp2
        clear hV6
        refine bodyPost_ret (results_refParse _ w.heap.size _ _ _ _ _ HR.out.2 rfl rfl rfl) rfl ?_
        rw [HGE.out]
        exact ⟨_, _, ⟨_, _, _, _, rfl⟩, rfl, fit_none, HR.out.1⟩
      | true =>
        cases is with
        | true =>
          obtain ⟨x, hx⟩ : ∃ x, RD = some x := by
            have := HIS.out
            cases RD with
            | none => cases this
            | some x => exact ⟨x, rfl⟩
          have HGE : Hid (goU (linesP bh) ⟨s.pols, s.rules ++ [x]⟩ (k + 1) = G) := (goU_rule s k HCC.out (HRD.out.trans hx)).symm.trans HI.out.1
          have hsum := HI.out.2.2.1
          have hall := HI.out.2.2.2
          have hbl := HLS.out rfl
          have HFT : Hid (FitS ⟨s.pols, s.rules ++ [x]⟩) := fit_ruleU HI.out.2.1 (HFR.out x hx) (by omega)
          obtain ⟨raws, ho, hr⟩ := HV6.out.rules
          have hrl : raws.length ≤ 10000 := by rw [hr.1]; omega
          obtain ⟨a', n', k', W', h1, h2, -, h3, -, h5⟩ := app2 layRr (W := V6) (Bs := w.heap.size + 2) (v := .slice a2 n2 c2) ⟨kd, ⟨x1, y1, z1⟩, ⟨x2, y2, z2⟩, mt, kp, ⟨x5, y5, z5⟩⟩ #[.int .i64 kd, .slice x1 y1 z1, .slice x2 y2 z2, strV mt, .bool kp, .slice x5 y5 z5] rfl ho hrl HV6.out.sz
          obtain ⟨hN, hsb⟩ := HV6.out.moreR hr (HXR.out x hx) h2 h3 h5
          have HN : Hid (PaI w G bh (k + 1) ⟨s.pols, s.rules ++ [x]⟩ (.slice a1 n1 c1) (.slice a' n' k') (W'.setCell ⟨w.heap.size + 1, 1, none⟩ (.slice a' n' k'))) := ⟨hN, HGE.out, HFT.out, by simp; omega, by omega⟩
          have zc := (hsb.cl 1 _ rfl).1
          have zf := (hsb.cl 1 _ rfl).2
          rw [HMT.out] at h1
          obtain ⟨v0, v1, v2, v3, v4, v5⟩ := cells6 HX6.out
          have vl := HX6.out.lt
          have hk9 : k ≤ 9000 := by omega
          have HME := Lib.hid (HMS.out hbl)
          clear hx HGE hsum hall hbl HFT ho hr hrl h2 h3 h5 hN hsb HI HFR HFP HQ HX4 HX6 HXR HMT HQS HV6 HOUT HLS HLA HMS HIS HOK HRD HPD HCC HBL HIL
          go_wp2
          go_roundw
          case rel => exact ⟨bh, k + 1, ⟨s.pols, s.rules ++ [x]⟩, a1, n1, c1, a', n', k', HBS.out, by go_num, HN⟩
          case measure => exact HME.out
        | false =>
          have hrn : RD = none := by
            have := HIS.out
            cases RD with
            | none => rfl
            | some x => cases this
          cases ok with
          | false =>
            have hpn : PD = none := by
              have := HOK.out
              cases PD with
              | none => rfl
              | some x => cases this
            have HGE : Hid (G = (⟨[], []⟩, k, 2)) := HI.out.1.symm.trans (goU_bad s k HCC.out (HRD.out.trans hrn) (.inl (HPD.out.trans hpn)))
            have r0 := (HV6.out.res.cl 0 _ rfl).2
            have r0c := (HV6.out.res.cl 0 _ rfl).1
            have r1 := (HV6.out.res.cl 1 _ rfl).2
            have r1c := (HV6.out.res.cl 1 _ rfl).1
            have rl := HV6.out.res.lt
            have HR := Lib.hid (HOUT.out V6 HV6.out.bl HV6.out.res)
            clear HOUT hrn hpn
            go_wp2
            clear hV6
            refine bodyPost_ret (results_refParse _ w.heap.size _ _ _ _ _ HR.out.2 rfl rfl rfl) rfl ?_
            rw [HGE.out]
            exact ⟨_, _, ⟨_, _, _, _, rfl⟩, rfl, fit_none, HR.out.1⟩
          | true =>
            by_cases hn2 : n2 = 0
            · subst hn2
              have hr0 : s.rules = [] := List.length_eq_zero_iff.1 HV6.out.lens.2.symm
              obtain ⟨p, hp⟩ : ∃ x, PD = some x := by
                have := HOK.out
                cases PD with
                | none => cases this
                | some x => exact ⟨x, rfl⟩
              obtain rfl := HQ.out p hp
              have HGE : Hid (goU (linesP bh) ⟨s.pols ++ [⟨qn, i1, i2, i3, i4⟩], s.rules⟩ (k + 1) = G) := (goU_pol s k HCC.out (HRD.out.trans hrn) (HPD.out.trans hp) hr0).symm.trans HI.out.1
              have hsum := HI.out.2.2.1
              have hall := HI.out.2.2.2
              have hbl := HLS.out rfl
              have HFT : Hid (FitS ⟨s.pols ++ [⟨qn, i1, i2, i3, i4⟩], s.rules⟩) := fit_polU HI.out.2.1 (HFP.out _ hp) (by omega)
              obtain ⟨a', n', k', W', h1, h2, -, h3, -, h5⟩ := app2 layP (W := V6) (Bs := w.heap.size + 2) (v := .slice a1 n1 c1) (⟨qn, i1, i2, i3, i4⟩ : Pol) #[strV qn, .int .i64 i1, .int .i64 i2, .int .i64 i3, .int .i64 i4] rfl HV6.out.pols (by omega) HV6.out.sz
              obtain ⟨hN, hsb⟩ := HV6.out.moreP h2 h3 h5
              have HN : Hid (PaI w G bh (k + 1) ⟨s.pols ++ [⟨qn, i1, i2, i3, i4⟩], s.rules⟩ (.slice a' n' k') (.slice a2 0 c2) (W'.setCell ⟨w.heap.size + 1, 0, none⟩ (.slice a' n' k'))) := ⟨hN, HGE.out, HFT.out, by simp; omega, by omega⟩
              have zc := (hsb.cl 0 _ rfl).1
              have zf := (hsb.cl 0 _ rfl).2
              rw [HQS.out] at h1
              have v0 := (HX4.out.cl 0 _ rfl).1
              have v1 := (HX4.out.cl 1 _ rfl).1
              have v2 := (HX4.out.cl 2 _ rfl).1
              have v3 := (HX4.out.cl 3 _ rfl).1
              have v4 := (HX4.out.cl 4 _ rfl).1
              have vl := HX4.out.lt
              have s0 := (HV6.out.st.cl 0 _ rfl).1
              have hk9 : k ≤ 9000 := by omega
              have HME := Lib.hid (HMS.out hbl)
              clear hp hr0 hrn HGE hsum hall hbl HFT h2 h3 h5 hN hsb HI HFR HFP HQ HX4 HX6 HXR HMT HQS HV6 HOUT HLS HLA HMS HIS HOK HRD HPD HCC HBL HIL
              go_wp2
              go_roundw
              case rel => exact ⟨bh, k + 1, ⟨s.pols ++ [⟨qn, i1, i2, i3, i4⟩], s.rules⟩, a', n', k', a2, 0, c2, HBS.out, by go_num, HN⟩
              case measure => exact HME.out
            · have hr0 : s.rules ≠ [] := fun e => hn2 (by rw [HV6.out.lens.2, e]; rfl)
              have HGE : Hid (G = (⟨[], []⟩, k, 2)) := HI.out.1.symm.trans (goU_bad s k HCC.out (HRD.out.trans hrn) (.inr hr0))
              have r0 := (HV6.out.res.cl 0 _ rfl).2
              have r0c := (HV6.out.res.cl 0 _ rfl).1
              have r1 := (HV6.out.res.cl 1 _ rfl).2
              have r1c := (HV6.out.res.cl 1 _ rfl).1
              have rl := HV6.out.res.lt
              have HR := Lib.hid (HOUT.out V6 HV6.out.bl HV6.out.res)
              have hnp : (0 : Int) < (n2 : Int) := by omega
              clear HOUT hrn hr0 hn2
              go_wp2
              clear hV6
              refine bodyPost_ret (results_refParse _ w.heap.size _ _ _ _ _ HR.out.2 rfl rfl rfl) rfl ?_
              rw [HGE.out]
              exact ⟨_, _, ⟨_, _, _, _, rfl⟩, rfl, fit_none, HR.out.1⟩
end Ru
end Go.Proofs.YtiahelekgjdjlaaGreatDoor
