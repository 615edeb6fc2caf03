
/- What the law's Ref answers: the set, as the document has it. -/
import Derived.Test.YtiahelekgjdjlaaGreatDoorRuRefForm
import Derived.Test.YtiahelekgjdjlaaGreatDoorGsK
namespace Go.Proofs.YtiahelekgjdjlaaGreatDoor
open Go.RowKit Go.Shelf
open Dp Gb
attribute [local go_sem] Oper.semAt_some
namespace Ru
attribute [local go_sem ↓] apR_eq
abbrev setP : TypeId := 25
abbrev setR : TypeId := 35
abbrev rulR' : TypeId := 68
abbrev matR' : TypeId := 56
theorem results_ref (W : World) (b : Nat) (a : Array Value) (x0 x1 : Value) (h : Blk W b setR #[x0, x1]) (h2 : a[2]? = some (.pointer (some ⟨b, 0, none⟩))) :
    (results Tryz.f11 a).run Tryz.prog W = .ok (.agg #[x0, x1]) W := by
  have c0 : W.cell? ⟨b, 0, none⟩ = some x0 := (h.cl 0 _ rfl).1
  have c1 : W.cell? ⟨b, 1, none⟩ = some x1 := (h.cl 1 _ rfl).1
  simp [results, Tryz.results11, go_sem, h2, c0, c1]
/-- a rule of the document's in memory: its matchers are its own, its names those of the set that came in -/
structure RrOw (w W : World) (r : Raw) (x : Rul) : Prop where
  kind : r.kind = x.kind
  when : EsMr W r.when.v x.when
  tos : RdT w r.to.v x.to
  met : r.met = x.met
  keep : r.keep = x.keep
  labs : RdT w r.labs.v x.labs
theorem RrOw.keep' {w W W' : World} {r : Raw} {x : Rul} (h : RrOw w W r x) (k1 : ∀ b cs, Blk W b matR' cs → Blk W' b matR' cs) : RrOw w W' r x :=
  ⟨h.kind, Vec.Es.keep h.when k1, h.tos, h.met, h.keep, h.labs⟩
theorem RrOw.rd {w W : World} {r : Raw} {x : Rul} (h : RrOw w W r x) (hb : Below w.heap.size w W) : RawRd W r x :=
  ⟨h.kind, h.when.rd, h.tos.below hb, h.met, h.keep, h.labs.below hb⟩
def RrsOw (w W : World) (raws : List Raw) (l : List Rul) : Prop := raws.length = l.length ∧ ∀ (j : Nat) r x, raws[j]? = some r → l[j]? = some x → RrOw w W r x
theorem RrsOw.snoc {w W : World} {raws : List Raw} {l : List Rul} {r : Raw} {x : Rul} (h : RrsOw w W raws l) (k : RrOw w W r x) : RrsOw w W (raws ++ [r]) (l ++ [x]) := by
  refine ⟨by simp [h.1], fun j r' x' h1 h2 => ?_⟩
  by_cases hj : j < l.length
  · rw [List.getElem?_append_left (by rw [h.1]; exact hj)] at h1
    rw [List.getElem?_append_left hj] at h2
    exact h.2 j _ _ h1 h2
  · rw [List.getElem?_append_right (by rw [h.1]; omega), h.1] at h1
    rw [List.getElem?_append_right (by omega)] at h2
    have : j - l.length = 0 := by
      have := (List.getElem?_eq_some_iff.1 h2).1
      simp at this
      omega
    rw [this] at h1 h2
    simp at h1 h2
    subst h1 h2
    exact k
/-- what Ref has so far: the box of the set, the result's cells, those of out, and out's rules -/
structure RefSt (w : World) (A0 A1 : Value) (l : List Rul) (v : Value) (W : World) : Prop where
  bl : Below w.heap.size w W
  box : Blk W w.heap.size setP #[A0, A1]
  res : Blk W (w.heap.size + 1) setR #[.slice none 0 0, .slice none 0 0]
  out : Blk W (w.heap.size + 2) setR #[A0, v]
  own : ∃ raws, OwnRr W (w.heap.size + 3) v raws ∧ RrsOw w W raws l
theorem RefSt.step {w W W' : World} {A0 A1 v : Value} {l : List Rul} (h : RefSt w A0 A1 l v W) (hb : Below W.heap.size W W') : RefSt w A0 A1 l v W' := by
  refine ⟨below_step h.bl (Nat.le_refl _) hb, h.box.below hb h.box.lt, h.res.below hb h.res.lt, h.out.below hb h.out.lt, ?_⟩
  obtain ⟨raws, h1, h2⟩ := h.own
  exact ⟨raws, own_stays h1 (fun g cs k => k.below hb k.lt), h2.1, fun j r x a b => (h2.2 j r x a b).keep' (fun g cs k => k.below hb k.lt)⟩
/-- one rule more -/
theorem RefSt.more {w W W' : World} {A0 A1 v v' : Value} {l : List Rul} {raws : List Raw} {raw : Raw} {x : Rul} (h : RefSt w A0 A1 l v W) (hra : RrsOw w W raws l) (hx : RrOw w W raw x) (ho : OwnRr W' (w.heap.size + 3) v' (raws ++ [raw]))
    (hb : Below (w.heap.size + 3) W W') (hk : ∀ g t2 cs2, Blk W g t2 cs2 → t2 ≠ rulR' → Blk W' g t2 cs2) : RefSt w A0 A1 (l ++ [x]) v' (W'.setCell ⟨w.heap.size + 2, 1, none⟩ v') := by
  have hz := h.out.lt
  have hout : Blk W' (w.heap.size + 2) setR #[A0, v] := hk _ _ _ h.out (by decide)
  have kt : ∀ g t cs, Blk W g t cs → t ≠ rulR' → t ≠ setR → Blk (W'.setCell ⟨w.heap.size + 2, 1, none⟩ v') g t cs := fun g t cs k h1 h2 => (hk g t cs k h1).other (fun e => by
    have := hout.apart (hk g t cs k h1) (Ne.symm h2)
    exact this e) _
  refine ⟨?_, kt _ _ _ h.box (by decide) (by decide), (hk _ _ _ h.res (by decide)).other (by show w.heap.size + 2 ≠ w.heap.size + 1; omega) _, hout.set 1 _, raws ++ [raw], ?_, ?_⟩
  · exact (h.bl.trans (hb.mono (by omega))).setCell (p := ⟨w.heap.size + 2, 1, none⟩) (by show w.heap.size ≤ w.heap.size + 2; omega) _
  · refine own_stays ho (fun g cs k => k.other (fun e => ?_) _)
    exact hout.apart k (by decide) e
  · exact RrsOw.snoc ⟨hra.1, fun j r y h1 h2 => (hra.2 j r y h1 h2).keep' (fun b cs k => kt _ _ _ k (by decide) (by decide))⟩ (hx.keep' (fun b cs k => kt _ _ _ k (by decide) (by decide)))
/-- the rule that is being made -/
structure RefX (wr : World) (c0 c2 c3 c4 c5 : Value) (l : List Mat) (v : Value) (W : World) : Prop where
  bl : Below wr.heap.size wr W
  x : Blk W (wr.heap.size + 1) rulR' #[c0, v, c2, c3, c4, c5]
  own : OwnMr W (wr.heap.size + 2) v l
  sz : wr.heap.size + 2 ≤ W.heap.size
theorem take_more {α : Type} {l : List α} {k : Nat} {x : α} (h : l[k]? = some x) : l.take (k + 1) = l.take k ++ [x] := by
  obtain ⟨hk, rfl⟩ := List.getElem?_eq_some_iff.1 h
  rw [List.take_succ_eq_append_getElem hk]
theorem RefX.more {wr W W' : World} {c0 c2 c3 c4 c5 v v' : Value} {l : List Mat} (h : RefX wr c0 c2 c3 c4 c5 l v W) {l' : List Mat} (o : Obj) (ho : OwnMr W' (wr.heap.size + 2) v' l') (hb : Below (wr.heap.size + 2) (W.alloc o) W') (hk : ∀ g t2 cs2, Blk (W.alloc o) g t2 cs2 → t2 ≠ matR' → Blk W' g t2 cs2) :
    RefX wr c0 c2 c3 c4 c5 l' v' (W'.setCell ⟨wr.heap.size + 1, 1, none⟩ v') ∧ Blk W' (wr.heap.size + 1) rulR' #[c0, v, c2, c3, c4, c5] := by
  have hx : Blk W' (wr.heap.size + 1) rulR' #[c0, v, c2, c3, c4, c5] := hk _ _ _ (h.x.alloc o) (by decide)
  have h1 : Below wr.heap.size wr (W.alloc o) := h.bl.alloc h.bl.size o
  have hs := h.sz
  refine ⟨⟨?_, hx.set 1 _, ?_, ?_⟩, hx⟩
  · exact (h1.trans (hb.mono (by omega))).setCell (p := ⟨wr.heap.size + 1, 1, none⟩) (by show wr.heap.size ≤ wr.heap.size + 1; omega) _
  · exact own_stays ho (fun g cs k => k.other (fun e => hx.apart k (by decide) e) _)
  · have := hb.size
    simp at this ⊢
    omega
set_option maxRecDepth 2000000 in
set_option maxHeartbeats 16000000 in
theorem ref_any (s : RSet) (b1 b2 : Option Addr) (m1 e1 m2 e2 : Nat) (w : World) (hR : RulesRd w (.slice b2 m2 e2) s.rules) (hm : s.rules.length ≤ 1000) (hw : ∀ r ∈ s.rules, r.when.length ≤ 1000) :
    Calls Tryz.prog 11 #[.agg #[.slice b1 m1 e1, .slice b2 m2 e2]] w fun e w' => ∃ a n c, e = .returned (.agg #[.slice b1 m1 e1, .slice a n c]) ∧ RulesRd w' (.slice a n c) s.rules ∧ Below w.heap.size w w' := by
  obtain ⟨raws, hrv, hra⟩ := hR
  obtain ⟨a', c', g1, hc', hrat⟩ := RdR.at hrv
  injection g1 with g1 g2 g3
  subst g1 g3
  have g2' : m2 = raws.length := g2
  have hm2 : m2 = s.rules.length := by rw [g2', hra.1]
  have HL2 : Hid (raws.length = m2 ∧ s.rules.length = m2) := ⟨g2'.symm, hm2.symm⟩
  have HRAT := Lib.hid hrat
  have HRA := Lib.hid hra
  have HWL := Lib.hid hw
  have z2 : m2 ≤ 1000 := by rw [hm2]; exact hm
  obtain ⟨X, hX⟩ : ∃ X, ((w.alloc (.cells #[.slice b1 m1 e1, .slice b2 m2 e2] setP)).alloc (.cells #[.slice none 0 0, .slice none 0 0] setR)).alloc (.cells #[.slice b1 m1 e1, .slice none 0 0] setR) = X := ⟨_, rfl⟩
  have HX : Hid (RefSt w (.slice b1 m1 e1) (.slice b2 m2 e2) [] (.slice none 0 0) X) := by
    refine ⟨?_, ?_, ?_, ?_, [], World.ownsRow_nil _ _ _ _, rfl, fun j r x h => by simp at h⟩
    · rw [← hX]; exact (((Below.refl _ w).alloc (Nat.le_refl _) _).alloc (by simp) _).alloc (by simp; omega) _
    · rw [← hX]; exact ((Blk.new w _ _).alloc _).alloc _
    · rw [← hX]
      have := Blk.new (w.alloc (.cells #[.slice b1 m1 e1, .slice b2 m2 e2] setP)) setR #[.slice none 0 0, .slice none 0 0]
      rw [World.size_alloc] at this
      exact this.alloc _
    · rw [← hX]
      have := Blk.new ((w.alloc (.cells #[.slice b1 m1 e1, .slice b2 m2 e2] setP)).alloc (.cells #[.slice none 0 0, .slice none 0 0] setR)) setR #[.slice b1 m1 e1, .slice none 0 0]
      rw [World.size_alloc, World.size_alloc] at this
      exact this
  have HXE := Lib.hid hX
  clear hrat hra hrv hc' g2 g2' hm2 hX hw hm
  go_enter Tryz.func11, Tryz.ntmps11
  go_wp2
  simp only [setP, setR] at HXE
  rw [HXE.out]
  go_loopw [15] (fun i wr => ∃ (k : Nat) (a3 : Option Addr) (n3 c3 : Nat), k ≤ m2 ∧ i = .int .i64 (k : Int) ∧ Hid (RefSt w (.slice b1 m1 e1) (.slice b2 m2 e2) (s.rules.take k) (.slice a3 n3 c3) wr)) (fun i _ => m2 - (intOf i).toNat)
  case atStart => exact ⟨0, none, 0, 0, Nat.zero_le _, rfl, HX⟩
  case round =>
    obtain ⟨wo, rfl⟩ : ∃ x, x = wr := ⟨_, rfl⟩
    obtain ⟨k, a3, n3, c3, hk, rfl, HS⟩ := hrel
    have HZ : Hid (w.heap.size + 3 ≤ wo.heap.size) := by have := HS.out.out.lt; show _ ≤ _; omega
    by_cases hlt : k < m2
    · obtain ⟨rb, ro, rfl, hrcs⟩ := HRAT.out (by rw [HL2.out.1]; omega)
      obtain ⟨raw, hraw⟩ : ∃ r, raws[k]? = some r := ⟨_, List.getElem?_eq_getElem (by rw [HL2.out.1]; exact hlt)⟩
      obtain ⟨rul, hrul⟩ : ∃ r, s.rules[k]? = some r := ⟨_, List.getElem?_eq_getElem (by rw [HL2.out.2]; exact hlt)⟩
      have hri := HRA.out.2 k _ _ hraw hrul
      have hwl := HWL.out rul (List.mem_of_getElem? hrul)
      have HTK := Lib.hid (take_more hrul)
      have up : ∀ (i : Nat) (u : Value), (encR raw)[i]? = some u → wo.cell? ⟨rb, ro + k * 6 + i, none⟩ = some u := fun i u h => cell_bl HS.out.bl (hrcs k _ hraw i u h)
      obtain ⟨kd, ⟨x1, y1, w1⟩, ⟨x2, y2, w2⟩, mt, kp, ⟨x5, y5, w5⟩⟩ := raw
      have q0 : wo.cell? ⟨rb, ro + k * 6, none⟩ = some (.int .i64 kd) := up 0 _ rfl
      have q1 : wo.cell? ⟨rb, ro + k * 6 + 1, none⟩ = some (.slice x1 y1 w1) := up 1 _ rfl
      have q2 : wo.cell? ⟨rb, ro + k * 6 + 2, none⟩ = some (.slice x2 y2 w2) := up 2 _ rfl
      have q3 : wo.cell? ⟨rb, ro + k * 6 + 3, none⟩ = some (.string (B mt)) := up 3 _ rfl
      have q4 : wo.cell? ⟨rb, ro + k * 6 + 4, none⟩ = some (.bool kp) := up 4 _ rfl
      have q5 : wo.cell? ⟨rb, ro + k * 6 + 5, none⟩ = some (.slice x5 y5 w5) := up 5 _ rfl
      have hy1 : y1 = rul.when.length := es_len (h := ⟨x1, y1, w1⟩) hri.when
      have HWH : Hid (RdM w (.slice x1 y1 w1) rul.when ∧ rul.when.length = y1) := ⟨hri.when, hy1.symm⟩
      have zy : y1 ≤ 1000 := by rw [hy1]; exact hwl
      have HRR : Hid (∀ W (a4 : Option Addr) (n4 c4 : Nat), EsMr W (.slice a4 n4 c4) rul.when → RrOw w W ⟨kd, ⟨a4, n4, c4⟩, ⟨x2, y2, w2⟩, mt, kp, ⟨x5, y5, w5⟩⟩ rul) := fun W a4 n4 c4 he =>
        ⟨hri.kind, he, hri.to, hri.met, hri.keep, hri.labs⟩
      obtain ⟨ms, hms⟩ : ∃ t, B mt = t := ⟨_, rfl⟩
      rw [hms] at q3
      have HMS : Hid (strV mt = .string ms) := by show Value.string (B mt) = _; rw [hms]
      have ikn : (k : Int) < (m2 : Int) := by omega
      obtain ⟨V, hV⟩ : ∃ V, (wo.alloc (.cells #[.int .i64 kd, .slice x1 y1 w1, .slice x2 y2 w2, .string ms, .bool kp, .slice x5 y5 w5] 60)).alloc (.cells #[.int .i64 kd, .slice none 0 0, .slice x2 y2 w2, .string ms, .bool kp, .slice x5 y5 w5] 68) = V := ⟨_, rfl⟩
      have HV : Hid (RefX wo (.int .i64 kd) (.slice x2 y2 w2) (.string ms) (.bool kp) (.slice x5 y5 w5) [] (.slice none 0 0) V) := by
        refine ⟨?_, ?_, World.ownsRow_nil _ _ _ _, ?_⟩
        · rw [← hV]; exact ((Below.refl _ wo).alloc (Nat.le_refl _) _).alloc (by simp) _
        · rw [← hV]
          have := Blk.new (wo.alloc (.cells #[.int .i64 kd, .slice x1 y1 w1, .slice x2 y2 w2, .string ms, .bool kp, .slice x5 y5 w5] 60)) rulR' #[.int .i64 kd, .slice none 0 0, .slice x2 y2 w2, .string ms, .bool kp, .slice x5 y5 w5]
          rw [World.size_alloc] at this
          exact this
        · rw [← hV]; simp
      have HVE := Lib.hid hV
      clear hrcs hraw hrul hri hwl up hms hy1 hV HX HXE
      go_wp2
      rw [HVE.out]
      clear q0 q1 q2 q3 q4 q5
      go_loopw [33] (fun i wr => ∃ (j : Nat) (a4 : Option Addr) (n4 c4 : Nat), j ≤ y1 ∧ i = .int .i64 (j : Int) ∧ Hid (RefX wo (.int .i64 kd) (.slice x2 y2 w2) (.string ms) (.bool kp) (.slice x5 y5 w5) (rul.when.take j) (.slice a4 n4 c4) wr)) (fun i _ => y1 - (intOf i).toNat)
      case atStart => exact ⟨0, none, 0, 0, Nat.zero_le _, rfl, HV⟩
      case round =>
        clear HV HVE
        obtain ⟨j, a4, n4, c4, hj, rfl, HJ⟩ := hrel
        have HBW : Hid (Below w.heap.size w wr) := below_step HS.out.bl (Nat.le_refl _) HJ.out.bl
        by_cases hjt : j < y1
        · obtain ⟨ma, mc, te, _, hmat⟩ := RdM.at HWH.out.1
          injection te with te1 te2 te3
          subst te1 te3
          obtain ⟨mb, mo, rfl, hmcs⟩ := hmat (by rw [HWH.out.2]; omega)
          obtain ⟨mat, hmt⟩ : ∃ r, rul.when[j]? = some r := ⟨_, List.getElem?_eq_getElem (by rw [HWH.out.2]; exact hjt)⟩
          have ub : ∀ (i : Nat) (u : Value), (encM mat)[i]? = some u → wr.cell? ⟨mb, mo + j * 3 + i, none⟩ = some u := fun i u h => cell_bl HBW.out (hmcs j _ hmt i u h)
          have HMK := Lib.hid (take_more hmt)
          obtain ⟨mn, mg, mp⟩ := mat
          have u0 : wr.cell? ⟨mb, mo + j * 3, none⟩ = some (.string (B mn)) := ub 0 _ rfl
          have u1 : wr.cell? ⟨mb, mo + j * 3 + 1, none⟩ = some (.bool mg) := ub 1 _ rfl
          have u2 : wr.cell? ⟨mb, mo + j * 3 + 2, none⟩ = some (.string (B mp)) := ub 2 _ rfl
          have x1' := (HJ.out.x.cl 1 _ rfl).1
          have x1l := HJ.out.x.lt
          have ijn : (j : Int) < (y1 : Int) := by omega
          obtain ⟨a', n', k', W', h1, h2, -, h3, -, h5⟩ := app2 layMr (W := wr.alloc (.cells #[.string (B mn), .bool mg, .string (B mp)] 49)) (Bs := wo.heap.size + 2) (v := .slice a4 n4 c4) ⟨mn, mg, mp⟩ #[strV mn, .bool mg, strV mp] rfl
            (own_stays HJ.out.own (fun g cs k => k.alloc _)) (by rw [List.length_take]; omega) (by have := HJ.out.sz; simp; omega)
          obtain ⟨hN, hxb⟩ := HJ.out.more (.cells #[.string (B mn), .bool mg, .string (B mp)] 49) (l' := rul.when.take (j + 1)) (by rw [HMK.out]; exact h2) h3 h5
          have HN := Lib.hid hN
          have z1 := (hxb.cl 1 _ rfl).1
          have z1f := (hxb.cl 1 _ rfl).2
          simp only [World.size_alloc] at h1
          change ∀ ty, (ApR _ ty _).run _ (World.alloc _ (.cells #[.string (B mn), .bool mg, .string (B mp)] _)) = _ at h1
          obtain ⟨ns, hns⟩ : ∃ t, B mn = t := ⟨_, rfl⟩
          obtain ⟨ps, hps⟩ : ∃ t, B mp = t := ⟨_, rfl⟩
          simp only [hns, hps] at u0 u2 h1
          have u0l := lt_of_cell u0
          clear hmat hmcs hmt ub te2 hns hps HMK h2 h3 h5 hN hxb HJ HRR HWH HRA HRAT HWL HMS HTK
          go_wp2
          go_roundw
          case rel => exact ⟨j + 1, a', n', k', by omega, by go_num, HN⟩
          case measure => simp [intOf]; omega
        · obtain rfl : j = y1 := by omega
          have hS2 := HS.out.step (Below.mono HJ.out.bl (Nat.le_refl _))
          obtain ⟨rs, ho, hr⟩ := hS2.own
          have hfull : rul.when.take j = rul.when := List.take_of_length_le (by rw [HWH.out.2]; exact Nat.le_refl _)
          have hown := HJ.out.own
          rw [hfull] at hown
          have hrr := HRR.out wr a4 n4 c4 hown.es
          have hrl : rs.length ≤ 10000 := by rw [hr.1, List.length_take]; omega
          obtain ⟨a', n', k', W', h1, h2, -, h3, -, h5⟩ := app2 layRr (W := wr) (Bs := w.heap.size + 3) (v := .slice a3 n3 c3) ⟨kd, ⟨a4, n4, c4⟩, ⟨x2, y2, w2⟩, mt, kp, ⟨x5, y5, w5⟩⟩ #[.int .i64 kd, .slice a4 n4 c4, .slice x2 y2 w2, strV mt, .bool kp, .slice x5 y5 w5] rfl ho hrl (by have := HZ.out; have := HJ.out.sz; omega)
          have HN : Hid (RefSt w (.slice b1 m1 e1) (.slice (some ⟨rb, ro, none⟩) m2 e2) (s.rules.take (k + 1)) (.slice a' n' k') (W'.setCell ⟨w.heap.size + 2, 1, none⟩ (.slice a' n' k'))) := by
            have := hS2.more hr hrr h2 h3 h5
            rwa [← HTK.out] at this
          have hob : Blk W' (w.heap.size + 2) setR #[.slice b1 m1 e1, .slice a3 n3 c3] := h5 _ _ _ hS2.out (by decide)
          have z1 := (hob.cl 1 _ rfl).1
          have z1f := (hob.cl 1 _ rfl).2
          have o1 := (hS2.out.cl 1 _ rfl).1
          rw [HMS.out] at h1
          obtain ⟨v0, v1, v2, v3, v4, v5⟩ := cells6 HJ.out.x
          have vl := HJ.out.x.lt
          have ol := hS2.out.lt
          clear hS2 ho hr hfull hown hrr hrl h2 h3 h5 hob HJ HRR HWH HRA HRAT HWL HMS HTK HS
          go_wp2
          go_roundw
          case rel => exact ⟨k + 1, a', n', k', by omega, by go_num, HN⟩
          case measure => simp [intOf]; omega
    · obtain rfl : k = m2 := by omega
      have HFIN : Hid (∀ W', Below w.heap.size w W' → (∀ t g cs, Blk wo g t cs → t ≠ setR → Blk W' g t cs) → RulesRd W' (.slice a3 n3 c3) s.rules) := fun W' hb hk => by
        obtain ⟨rs, ho, hr⟩ := HS.out.own
        rw [List.take_of_length_le (by rw [HL2.out.2]; exact Nat.le_refl _)] at hr
        exact ⟨rs, (Vec.Es.keep ho.es (fun b cs k => hk _ _ _ k (by decide))).rd, hr.1, fun j r x h1 h2 => ((hr.2 j r x h1 h2).keep' (fun b cs k => hk _ _ _ k (by decide))).rd hb⟩
      have HSB := Lib.hid (And.intro HS.out.bl HS.out.res)
      have r0 := (HS.out.res.cl 0 _ rfl).1
      have r0f := (HS.out.res.cl 0 _ rfl).2
      have r1 := (HS.out.res.cl 1 _ rfl).1
      have r1f := (HS.out.res.cl 1 _ rfl).2
      have o0 := (HS.out.out.cl 0 _ rfl).1
      have o1 := (HS.out.out.cl 1 _ rfl).1
      clear HS HRA HRAT HWL HX HXE
      go_wp2
      have hbF := (HSB.out.1.setCell (p := ⟨w.heap.size + 1, 0, none⟩) (Nat.le_succ _) (.slice b1 m1 e1)).setCell (p := ⟨w.heap.size + 1, 1, none⟩) (Nat.le_succ _) (.slice a3 n3 c3)
      refine bodyPost_ret (results_ref _ (w.heap.size + 1) _ (.slice b1 m1 e1) (.slice a3 n3 c3) ((HSB.out.2.set 0 _).set 1 _) rfl) rfl ⟨a3, n3, c3, rfl, HFIN.out _ hbF ?_, hbF⟩
      exact fun t g cs h ht => (h.other (fun e => HSB.out.2.apart h (Ne.symm ht) e) _).other (fun e => HSB.out.2.apart h (Ne.symm ht) e) _
end Ru
end Go.Proofs.YtiahelekgjdjlaaGreatDoor
