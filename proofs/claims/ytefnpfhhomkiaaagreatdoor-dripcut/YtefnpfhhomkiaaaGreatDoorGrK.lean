/- What drip.readSeries answers. What drip.readSeries answers: the walk. Events in memory; what drip.Parse keeps while it goes on. -/
import Derived.Test.YtefnpfhhomkiaaaGreatDoorDpSeq
import Derived.Test.YtefnpfhhomkiaaaGreatDoorDpSplitC
import Derived.Test.YtefnpfhhomkiaaaGreatDoorGrI
namespace Go.Proofs.YtefnpfhhomkiaaaGreatDoor
open Go.RowKit Go.Shelf
attribute [local go_sem] Oper.semAt_some
namespace Dp
open Y2 (Row)
def App (ats : Array TypeId) (ty : TypeId) (args : Array Value) : Sem Value := Builtin.append_ ats ty args
theorem app_eq (ats : Array TypeId) (ty : TypeId) (args : Array Value) : Builtin.append_ ats ty args = App ats ty args := rfl
/-- a part's label, in memory -/
def lm (p : List UInt8) : Y2.Tg.LabM := if h : (labOf p).1.size ≤ maxLen ∧ (labOf p).2.size ≤ maxLen then ⟨labOf p, h⟩ else Y2.Tg.labDef
theorem lm_val {p : List UInt8} (h : p.length ≤ 100000) : (lm p).1 = labOf p := by
  have h1 := cut_len 61 p
  have hb : (labOf p).1.size ≤ maxLen ∧ (labOf p).2.size ≤ maxLen := by
    unfold labOf maxLen
    rw [B_size, B_size]
    omega
  unfold lm
  rw [dif_pos hb]
theorem lm_labs {ps : List (List UInt8)} (h : ∀ p ∈ ps, p.length ≤ 100000) : Y2.Tg.labs (ps.map lm) = ps.map labOf := by
  unfold Y2.Tg.labs
  rw [List.map_map]
  exact List.map_congr_left fun p hp => lm_val (h p hp)
theorem Row.free {W W' : World} {B : Nat} {v : Value} {l : List Y2.Tg.LabM} (h : Row W B v l) (hf : Free W W') : Row W' B v l :=
  Vec.Own.stay (enc := Y2.Tg.enc) h (fun g e => by
    rcases h.2 with ⟨rfl, _⟩ | ⟨g', c, cur, rfl, hg, hh, _⟩
    · cases e
    · obtain rfl : g' = g := by injection e
      exact hf.heap (show Blk W g' _ _ from hh))
theorem Row.own {W : World} {B : Nat} {v : Value} {l : List Y2.Tg.LabM} (h : Row W B v l) : ∀ g, v.ownBlock = some g → B ≤ g ∧ ∃ cs, Blk W g 70 cs := fun g e => by
  rcases h.2 with ⟨rfl, _⟩ | ⟨g', c, cur, rfl, hg, hh, _⟩
  · cases e
  · obtain rfl : g' = g := by injection e
    exact ⟨hg, _, hh⟩
theorem Row.only {W W' : World} {B bx : Nat} {v : Value} {l : List Y2.Tg.LabM} (h : Row W B v l) (ho : Only [bx] W W') (hbx : bx < B) : Row W' B v l :=
  Vec.Own.stay (enc := Y2.Tg.enc) h (fun g e => by
    obtain ⟨h1, cs, hb⟩ := Row.own h g e
    exact ho.block g hb.lt (by simp; omega))
theorem others_grown {W W' : World} {B : Nat} {v : Value} {l : List Y2.Tg.LabM} (h : Row W B v l) (hg : W.grownBy W' v.ownBlock) : KeepsOthers W W' := by
  cases ho : v.ownBlock with
  | none => rw [ho] at hg; exact (Only.mk (ks := []) hg.os hg.tape hg.output hg.size (fun k hk _ => hg.block k hk (by simp))).others (fun _ e => by cases e)
  | some g =>
    rw [ho] at hg
    obtain ⟨_, cs, hb⟩ := Row.own h g ho
    exact (Only.grown hg (ks := [g]) (by simp)).others (fun k hk => by rw [List.mem_singleton] at hk; subst hk; exact ⟨_, _, hb⟩)
abbrev ser0 : Array Value := #[.string ⟨#[]⟩, .slice none 0 0]
/-- where rest is left of the parts -/
def SerI (w : World) (b : Nat) (ps : List (List UInt8)) (rest : List (List UInt8)) (W : World) : Prop :=
  ∃ pre v, ps = pre ++ rest ∧ Blk W (b + 1) 22 #[v] ∧ Row W (b + 5) v (pre.map lm) ∧ Blk W b 24 ser0 ∧ Below b w W ∧ b + 5 ≤ W.heap.size
theorem serI_own {w : World} {b B' : Nat} {ps : List (List UInt8)} (hB : b ≤ B') : OwnFrom B' (SerI w b ps) := by
  rintro rest W W' row ⟨pre, v, h1, h2, h3, h4, h5, h6⟩ hg hr
  have hf : Free W W' := ⟨row, hg, fun r e => (hr r e).2⟩
  exact ⟨pre, v, h1, hf.blk h2, Row.free h3 hf, hf.blk h4, ⟨hg.os.trans h5.os, hg.tape.trans h5.tape, hg.output.trans h5.output, Nat.le_trans h5.size hg.size, fun k hk => (hg.block k (by omega) (fun e => by have := (hr k e.symm).1; omega)).trans (h5.block k hk)⟩, Nat.le_trans h6 hf.size⟩
theorem serI_box {w : World} {b : Nat} {ps rest : List (List UInt8)} {A C : World} (h : SerI w b ps rest A) (ho : Only [b + 2] A C) : SerI w b ps rest C := by
  obtain ⟨pre, v, h1, h2, h3, h4, h5, h6⟩ := h
  exact ⟨pre, v, h1, ho.blk h2 (by simp), Row.only h3 ho (by omega), ho.blk h4 (by simp), ⟨ho.os.trans h5.os, ho.tape.trans h5.tape, ho.output.trans h5.output, Nat.le_trans h5.size ho.size, fun k hk => (ho.block k (by omega) (by simp; omega)).trans (h5.block k hk)⟩, Nat.le_trans h6 ho.size⟩
/-- one more label -/
theorem app_lab {w W : World} {b : Nat} {ps pre rest : List (List UInt8)} {v : Value} {x : List UInt8} (hx : x.length ≤ 100000) (hp : ps = pre ++ x :: rest) (hv : Blk W (b + 1) 22 #[v]) (hr : Row W (b + 5) v (pre.map lm)) (h0 : Blk W b 24 ser0) (hb : Below b w W) (hz : b + 5 ≤ W.heap.size) (hl : pre.length ≤ 100000) :
    ∃ v' W3, Sem.run Tryz.prog (App #[22, 22] 22 #[v, .slice (some ⟨W.heap.size, 0, none⟩) 1 1]) (W.alloc (.cells #[.string (labOf x).1, .string (labOf x).2] 70)) = .ok v' W3 ∧
      Blk W3 (b + 1) 22 #[v] ∧ SerI w b ps rest (W3.setCell ⟨b + 1, 0, none⟩ v') ∧ Keep3 (b + 2) W (W3.setCell ⟨b + 1, 0, none⟩ v') ∧ KeepsOthers W (W3.setCell ⟨b + 1, 0, none⟩ v') ∧ ∃ a n c, v' = .slice a n c := by
  have hX := lm_val hx
  have hsrc := Y2.src_new W (lm x)
  rw [hX] at hsrc
  have hr1 : Row (W.alloc (.cells #[.string (labOf x).1, .string (labOf x).2] 70)) (b + 5) v (pre.map lm) := Y2.Row.alloc hr _
  obtain ⟨v', W3, hrun, hrow, hg, -⟩ := Y2.run_src _ 22 (b + 5) v _ _ _ hr1 hsrc (by simp; omega) (by simp; omega)
  have hown := Row.own hr1
  have hne : ∀ k, k < b + 5 → some k ≠ v.ownBlock := fun k hk e => by have := (hown k e.symm).1; omega
  have blk3 : ∀ k t cs, k < b + 5 → Blk W k t cs → Blk W3 k t cs := fun k t cs hk h => (h.alloc _).grown hg (hne k hk)
  have hv3 := blk3 (b + 1) _ _ (by omega) hv
  refine ⟨v', W3, hrun, hv3, ⟨pre ++ [x], v', by rw [hp]; simp, hv3.set 0 v', ?_, (blk3 b _ _ (by omega) h0).other (by show b + 1 ≠ b; omega) _, ?_, ?_⟩, ?_, ?_, ?_⟩
  · rw [List.map_append]
    exact Vec.Own.stay (enc := Y2.Tg.enc) hrow (fun g e => heap_set (by show b + 1 ≠ g; have := (Row.own hrow g e).1; omega))
  · refine below_set (g := b + 1) (i := 0) ?_ (by omega) v'
    exact ((hb.alloc (by omega) _).grown hg (by simp; omega) (fun g e => by have := (hown g e).1; omega))
  · have := hg.size; simp at this; show b + 5 ≤ (W3.setCell _ _).heap.size; rw [World.size_setCell]; omega
  · intro i hi t cs h
    exact (blk3 (b + 2 + i) _ _ (by omega) h).other (by show b + 1 ≠ b + 2 + i; omega) _
  · exact ((others_below ((Below.refl _ W).alloc (Nat.le_refl _) _)).trans (others_grown hr1 hg)).trans ((Only.set W3 (b + 1) 0 v' (ks := [b + 1]) (by simp)).others (fun k hk => by rw [List.mem_singleton] at hk; subst hk; exact ⟨_, _, hv3⟩))
  · obtain ⟨a, c, e, -⟩ := Y2.Row.labs hrow
    exact ⟨a, _, c, e⟩
end Dp
end Go.Proofs.YtefnpfhhomkiaaaGreatDoor
namespace Go.Proofs.YtefnpfhhomkiaaaGreatDoor
open Go.RowKit Go.Shelf
attribute [local go_sem] Oper.semAt_some
namespace Dp
open Y2 (Row)
attribute [local go_sem ↓] app_eq
/-- what readSeries hands back -/
def SerOf (m s : List UInt8) (w : World) (e : Ending) (w' : World) : Prop :=
  ∃ m' a n c r, e = .returned (.tuple #[.agg #[.string m', .slice a n c], .bool (decide (Tg.makeE (B m) (labsOf s) = 0))]) ∧ Row w' w.heap.size (.slice a n c) r ∧ Below w.heap.size w w' ∧ (Tg.makeE (B m) (labsOf s) = 0 → m' = B m ∧ Y2.Tg.labs r = Tg.sortL (labsOf s))
theorem make_row (m : List UInt8) (hm : m.length ≤ 100000) {B' : Nat} (v : Value) (r : List Y2.Tg.LabM) (W : World) (hr : Row W B' v r) (hl : r.length ≤ 100000) :
    Calls Tryz.prog 67 #[strV m, v] W fun e w' => ∃ m' a n c r', e = .returned (.tuple #[.agg #[.string m', .slice a n c], .int .i64 (Tg.makeE (B m) (Y2.Tg.labs r))]) ∧ Row w' W.heap.size (.slice a n c) r' ∧ Below W.heap.size W w' ∧ (Tg.makeE (B m) (Y2.Tg.labs r) = 0 → m' = B m ∧ Y2.Tg.labs r' = Tg.sortL (Y2.Tg.labs r)) := by
  obtain ⟨a, c, rfl, hI⟩ := Y2.Row.labs hr
  refine (Y2.make_any (B m) (small_max hm) a r.length c (Y2.Tg.fnOf r) (by omega) W hI).mono ?_
  rintro e w' ⟨m', v, r', he, hr', hb, -, h2⟩
  rw [Y2.Tg.upto_fnOf] at he h2
  obtain ⟨a1, c1, rfl, -⟩ := Y2.Row.labs hr'
  exact ⟨m', a1, _, c1, r', he, hr', hb, h2⟩
theorem results_ser (W : World) (b : Nat) (a : Array Value) (fl : Bool) (x0 x1 : Value) (h : Blk W b 24 #[x0, x1]) (h2 : a[4]? = some (.pointer (some ⟨b, 0, none⟩))) (h3 : a[5]? = some (.bool fl)) :
    (results Tryz.f33 a).run Tryz.prog W = .ok (.tuple #[.agg #[x0, x1], .bool fl]) W := by
  have c0 := (h.cl 0 _ rfl).1
  have c1 := (h.cl 1 _ rfl).1
  simp [results, Tryz.f33, go_sem, h2, h3, c0, c1]
theorem ser_set {W : World} {b : Nat} {t : TypeId} {u0 u1 : Value} (h : Blk W b t #[u0, u1]) (x0 x1 : Value) : Blk ((W.setCell ⟨b, 0, none⟩ x0).setCell ⟨b, 1, none⟩ x1) b t #[x0, x1] := by
  have h : Blk (W.setCell ⟨b, 0, none⟩ x0) b t #[x0, u1] := h.set 0 x0
  exact h.set 1 x1
/-- what is stored of a series that was made, and handed back -/
theorem ser_tail {w w1 : World} {b B0 : Nat} {m' : ByteArray} {a : Option Addr} {n c : Nat} {r : List Y2.Tg.LabM} (h0 : Blk w1 b 24 ser0) (hr : Row w1 B0 (.slice a n c) r) (hB : b < B0) (hb : Below b w w1) :
    ∃ Y Y' Z, w1.alloc (.cells ser0 24) = Y ∧ ((Y.setCell ⟨w1.heap.size, 0, none⟩ (.string m')).setCell ⟨w1.heap.size, 1, none⟩ (.slice a n c)) = Y' ∧ ((Y'.setCell ⟨b, 0, none⟩ (.string m')).setCell ⟨b, 1, none⟩ (.slice a n c)) = Z ∧
      Blk Y w1.heap.size 24 ser0 ∧ Blk Y' w1.heap.size 24 #[.string m', .slice a n c] ∧ Blk Y' b 24 ser0 ∧ Blk Z b 24 #[.string m', .slice a n c] ∧ Row Z b (.slice a n c) r ∧ Below b w Z ∧ (∀ D, D ≠ b → D < w1.heap.size → Z.heap[D]? = w1.heap[D]?) := by
  have hlt := h0.lt
  have kY := Blk.new w1 24 ser0
  have kY' := ser_set kY (.string m') (.slice a n c)
  have kb' : Blk (((w1.alloc (.cells ser0 24)).setCell ⟨w1.heap.size, 0, none⟩ (.string m')).setCell ⟨w1.heap.size, 1, none⟩ (.slice a n c)) b 24 ser0 := ((h0.alloc _).other (by show w1.heap.size ≠ b; omega) _).other (by show w1.heap.size ≠ b; omega) _
  have hD : ∀ D, D ≠ b → D < w1.heap.size → (((((w1.alloc (.cells ser0 24)).setCell ⟨w1.heap.size, 0, none⟩ (.string m')).setCell ⟨w1.heap.size, 1, none⟩ (.slice a n c)).setCell ⟨b, 0, none⟩ (.string m')).setCell ⟨b, 1, none⟩ (.slice a n c)).heap[D]? = w1.heap[D]? := fun D h1 h2 => by
    rw [heap_set (by show b ≠ D; omega), heap_set (by show b ≠ D; omega), heap_set (by show w1.heap.size ≠ D; omega), heap_set (by show w1.heap.size ≠ D; omega), Below.heap_alloc _ _ _ h2]
  refine ⟨_, _, _, rfl, rfl, rfl, kY, kY', kb', ser_set kb' _ _, ?_, ?_, hD⟩
  · exact Y2.Row.base (Vec.Own.stay (enc := Y2.Tg.enc) hr (fun g e => by
      obtain ⟨h1, cs, h2⟩ := Row.own hr g e
      exact hD g (by omega) h2.lt)) (by omega)
  · exact below_set (below_set (below_set (below_set (hb.alloc (by omega) _) (by omega) _) (by omega) _) (Nat.le_refl _) _) (Nat.le_refl _) _
set_option maxRecDepth 100000 in
set_option maxHeartbeats 4000000 in
theorem readSeries_any (m s : List UInt8) (w : World) (hE : Env w) (hm : m.length ≤ 100000) (hs : s.length ≤ 100000) :
    Calls Tryz.prog 33 #[strV m, strV s] w (SerOf m s w) := by
  obtain ⟨b, hb⟩ : ∃ b, w.heap.size = b := ⟨_, rfl⟩
  obtain ⟨X, hX⟩ : ∃ X, (w.alloc (.cells ser0 24)).alloc (.cells #[.slice none 0 0] 22) = X := ⟨_, rfl⟩
  have hbX : Below b w X := by rw [← hX, ← hb]; exact ((Below.refl _ w).alloc (Nat.le_refl _) _).alloc (by simp) _
  have hzX : X.heap.size = b + 2 := by rw [← hX, ← hb]; simp
  have k0 : Blk X b 24 ser0 := by rw [← hX, ← hb]; exact (Blk.new w _ _).alloc _
  have k1 : Blk X (b + 1) 22 #[.slice none 0 0] := by
    rw [← hX, ← hb]
    have := Blk.new (w.alloc (.cells ser0 24)) 22 #[.slice none 0 0]
    rwa [World.size_alloc] at this
  have hEX : EnvC X := EnvC.below hE.max (by rw [hb]; exact hbX)
  refine (callsIn_wide (n := 3)).1 ?_
  refine callsIn_of_wp_marks Tryz.func33 rfl trivial ?_ rfl
  simp only [Tryz.ntmps33, List.size_toArray, List.length_cons, List.length_nil, Nat.reduceAdd, Nat.reduceSub, Array.replicate_succ, Array.replicate_zero, List.push_toArray, List.append_toArray, List.nil_append, List.cons_append]
  cases s with
  | nil =>
    have HMK := Lib.hid (make_row m hm (B' := b) (.slice none 0 0) [] X (Y2.Row.nil _ _) (by simp))
    have HK0 := Lib.hid k0
    have hc1 := (k1.cl 0 _ rfl).1
    have HBX := Lib.hid hbX
    have HB := Lib.hid hb
    have HL : Hid (labsOf [] = Y2.Tg.labs []) := rfl
    have HQ : Hid ((Tg.makeE (B m) (Y2.Tg.labs []) == 0) = decide (Tg.makeE (B m) (labsOf []) = 0)) := by show _ = _; rw [HL.out, Bool.eq_iff_iff]; simp
    have hq := HQ.out
    generalize Tg.makeE (B m) (Y2.Tg.labs []) = mk at HMK hq
    clear k0 k1 hbX hEX hE HQ hs
    gi_wp2_with fail
    refine ⟨trivial, (callsIn_wide.2 HMK.out).mono ?_⟩
    rintro e w1 ⟨m', a, n, c, r, rfl, hr, hb1, h2⟩
    obtain ⟨Y, Y', Z, hY, hY', hZ, kY, kY', kb', kZ, hrZ, hbZ, -⟩ := ser_tail (m' := m') (HK0.out.below hb1 HK0.out.lt) hr (show b < X.heap.size by omega) (below_step HBX.out (by omega) hb1)
    have f0 := frozen7 kY
    have y2 : Y.cell? ⟨w1.heap.size, 0, none⟩ = some (.string ⟨#[]⟩) := (kY.cl 0 _ rfl).1
    have y3 : Y.cell? ⟨w1.heap.size, 1, none⟩ = some (.slice none 0 0) := (kY.cl 1 _ rfl).1
    have y4 : Y'.cell? ⟨b, 0, none⟩ = some (.string ⟨#[]⟩) := (kb'.cl 0 _ rfl).1
    have y5 : Y'.cell? ⟨b, 1, none⟩ = some (.slice none 0 0) := (kb'.cl 1 _ rfl).1
    have y0 : Y'.cell? ⟨w1.heap.size, 0, none⟩ = some (.string m') := (kY'.cl 0 _ rfl).1
    have y1 : Y'.cell? ⟨w1.heap.size, 1, none⟩ = some (.slice a n c) := (kY'.cl 1 _ rfl).1
    have f1 := frozen7 kb'
    have HFIN : Hid (SerOf m [] w (.returned (.tuple #[.agg #[.string m', .slice a n c], .bool (decide (Tg.makeE (B m) (labsOf []) = 0))])) Z) := ⟨m', a, n, c, r, rfl, by rw [HB.out]; exact hrZ, by rw [HB.out]; exact hbZ, fun h => by
      have h' : mk = 0 := by have := hq; rw [decide_eq_true h] at this; simpa using this
      exact h2 h'⟩
    have HKZ := Lib.hid kZ
    clear kY kY' kb' kZ hrZ hbZ h2 hr hb1 hX
    gi_wp2
    exact ⟨_, results_ser Z b _ _ _ _ HKZ.out rfl rfl, HFIN.out⟩
  | cons c0 t =>
    have HSQ := Lib.hid (splitSeq_pub t 44 X (by simp at hs; omega))
    have HLO : Hid (labsOf (c0 :: t) = (spl 44 t).map labOf) := rfl
    have HPS : Hid (∀ p ∈ spl 44 t, p.length ≤ 100000) := fun p hp => by have := spl_le hp; simp at hs; omega
    have hmany := spl_many 44 t
    have HMN : Hid ((spl 44 t).length ≤ 100000) := by show _ ≤ _; simp at hs; omega
    have x1 := B_tail c0 t
    have hsz : (B (c0 :: t)).size ≤ 100001 ∧ 1 ≤ (B (c0 :: t)).size := by rw [B_size]; simp at hs ⊢; omega
    have hne : ((B (c0 :: t)).toList == []) = false := by rw [bytes_toList]; rfl
    obtain ⟨sv, hsv⟩ : ∃ sv, B (c0 :: t) = sv := ⟨_, rfl⟩
    rw [hsv] at x1 hsz hne
    obtain ⟨hsz1, hsz2⟩ := hsz
    show Code.wpIn _ _ _ _ _ { tmps := #[strV m, .string (B (c0 :: t)), _, _, _, _, _, _, _, _, _, _, _, _, _, _, _, _, _, _, _, _, _, _, _, _, _, _, _, _, _, _, _, _, _, _, _, _, _, _], defers := [] } w
    rw [hsv]
    have HK0 := Lib.hid k0
    have HK1 := Lib.hid k1
    have HBX := Lib.hid hbX
    have HB := Lib.hid hb
    have HEX := Lib.hid hEX
    have HM := Lib.hid hm
    have HEW := Lib.hid hE.max
    generalize spl 44 t = ps at HSQ HLO HPS HMN
    clear k0 k1 hbX hEX hE hs hmany hm hsv
    gi_wp2_with (refine ⟨trivial, ?_⟩; gi_at_call 66; refine (callsIn_wide.2 HSQ.out).mono ?_; rintro e w2 ⟨lbf, rfl, hseq, hb2, hz2, hbx⟩)
    rw [hzX] at hseq hb2 hz2 hbx
    have HST : Hid (SerI w b ps ps w2) := ⟨[], _, rfl, HK1.out.below hb2 (by omega), Y2.Row.nil _ _, HK0.out.below hb2 (by omega), below_step HBX.out (by omega) (by rw [hzX]; exact hb2), by omega⟩
    clear hX hbx
    refine wpIn_rangeB (by decide) (gf := 101) (lbf := lbf) rfl splitSeq1_enters hseq (by omega) (fun h k => Keep3.trans h k) (fun W k o o' hk hc _ i _ t cs h => (Free.put o' hk hc).blk h) (Below.refl _ _) (fun _ => rfl)
      (fun _ => true) (SerI w b ps) (fun _ _ => False) (serI_own (by omega)) (fun r A C h ho => serI_box h ho) (fun c A C row hs hg hr => hs) HST.out ?a1 ?assign ?body ?done ?stop
    case assign =>
      intro lp x V K hK
      gi_wp2
      exact hK
    case body =>
      rintro lp x rest V ⟨pre, v, h1, h2, h3, h4, h5, h6⟩
      have hx : x.length ≤ 100000 := HPS.out x (by rw [h1]; simp)
      have hpl : pre.length ≤ 100000 := by have := HMN.out; rw [h1] at this; simp at this; omega
      have HCU := Lib.hid (cut_any x 61 V (EnvC.below HEW.out (by rw [HB.out]; exact h5)) hx)
      have HLB : Hid (labOf x = (B (Lib.cut x [61]).1, B (Lib.cut x [61]).2.1)) := rfl
      have HH : Hid (∀ q, ∃ v' W3, Sem.run Tryz.prog (App #[22, 22] 22 #[v, .slice (some ⟨V.heap.size, 0, none⟩) 1 1]) ((V.drewN q).alloc (.cells #[.string (labOf x).1, .string (labOf x).2] 70)) = .ok v' W3 ∧
          Blk W3 (b + 1) 22 #[v] ∧ SerI w b ps rest (W3.setCell ⟨b + 1, 0, none⟩ v') ∧ Keep3 (b + 2) V (W3.setCell ⟨b + 1, 0, none⟩ v') ∧ KeepsOthers V (W3.setCell ⟨b + 1, 0, none⟩ v') ∧ ∃ a n c, v' = .slice a n c) := fun q => by
        obtain ⟨v', W3, hr, k1, k2, k3, k4, k5⟩ := app_lab (w := w) (W := V.drewN q) hx h1 h2 h3 h4 (below_drewN h5 q) h6 hpl
        exact ⟨v', W3, hr, k1, k2, k3, (others_below (below_q V q)).trans k4, k5⟩
      obtain ⟨a1, c1, rfl, -⟩ := Y2.Row.labs h3
      have hc1 : V.cell? ⟨b + 1, 0, none⟩ = some (.slice a1 (pre.map lm).length c1) := (h2.cl 0 _ rfl).1
      generalize (pre.map lm).length = n1 at HH hc1
      generalize labOf x = lx at HH HLB
      obtain rfl := HLB.out
      generalize (Lib.cut x [61]).1 = cx at HH HCU
      generalize (Lib.cut x [61]).2.1 = cy at HH HCU
      generalize (Lib.cut x [61]).2.2 = cz at HCU
      clear h1 h2 h3 h4 h5 h6 hx hpl HLB
      gi_wp2_with (refine ⟨trivial, ?_⟩; gi_at_call 58; refine (CallsIn.inRound lp (callsIn_wide.2 HCU.out)).mono ?_; rintro e V1 ⟨rfl, q, rfl⟩; obtain ⟨v', W3, hap, k1, k2, k3, k4, a2, n2, c2, rfl⟩ := HH.out q; have HFIN : Hid (KeepsOthers V (W3.setCell ⟨b + 1, 0, none⟩ (.slice a2 n2 c2)) ∧ Keep3 (b + 2) V (W3.setCell ⟨b + 1, 0, none⟩ (.slice a2 n2 c2)) ∧ SerI w b ps rest (W3.setCell ⟨b + 1, 0, none⟩ (.slice a2 n2 c2))) := ⟨k4, k3, k2⟩; have d0 := (k1.cl 0 _ rfl).1; have d1 := (k1.cl 0 _ rfl).2; clear k2 k3 k4 k1 HH)
      exact ⟨HFIN.out.1, HFIN.out.2.1, rfl, HFIN.out.2.2⟩
    case done =>
      rintro D V hD - ⟨pre, v, h1, h2, h3, h4, h5, h6⟩ hK
      rw [List.append_nil] at h1
      subst h1
      have HMK := Lib.hid (make_row m HM.out (B' := b + 5) v (ps.map lm) V h3 (by have := HMN.out; simp; omega))
      rw [lm_labs HPS.out, ← HLO.out] at HMK
      have HV0 := Lib.hid h4
      have HBV := Lib.hid h5
      have HKD := Lib.hid hK
      have HQ : Hid ((Tg.makeE (B m) (labsOf (c0 :: t)) == 0) = decide (Tg.makeE (B m) (labsOf (c0 :: t)) = 0)) := by show _ = _; rw [Bool.eq_iff_iff]; simp
      have hq := HQ.out
      have HDl : Hid (b + 5 ≤ D ∧ D < V.heap.size) := ⟨by omega, (Array.getElem?_eq_some_iff.1 hK).1⟩
      obtain ⟨a1, c1, rfl, -⟩ := Y2.Row.labs h3
      have hc1 : V.cell? ⟨b + 1, 0, none⟩ = some (.slice a1 (ps.map lm).length c1) := (h2.cl 0 _ rfl).1
      generalize (ps.map lm).length = n1 at HMK hc1
      have HSF : Hid (∀ e Z, (∃ m' a n c r, e = .returned (.tuple #[.agg #[.string m', .slice a n c], .bool (decide (Tg.makeE (B m) (labsOf (c0 :: t)) = 0))]) ∧ Row Z b (.slice a n c) r ∧ Below b w Z ∧ (Tg.makeE (B m) (labsOf (c0 :: t)) = 0 → m' = B m ∧ Y2.Tg.labs r = Tg.sortL (labsOf (c0 :: t)))) → SerOf m (c0 :: t) w e Z) := fun e Z h => by unfold SerOf; rw [HB.out]; exact h
      generalize Tg.makeE (B m) (labsOf (c0 :: t)) = mk at HMK hq HSF
      generalize labsOf (c0 :: t) = LL at HMK HSF HLO
      clear h2 h3 h4 h5 h6 hK HQ HLO hb
      gi_wp2_with (refine ⟨trivial, ?_⟩; gi_at_call 67; refine (callsIn_wide.2 HMK.out).mono ?_; rintro e w1 ⟨m', a, n, c, r, rfl, hr, hb1, h2⟩; obtain ⟨Y, Y', Z, hY, hY', hZ, kY, kY', kb', kZ, hrZ, hbZ, hDD⟩ := ser_tail (m' := m') (HV0.out.below hb1 HV0.out.lt) hr (show b < V.heap.size by have := HV0.out.lt; omega) (below_step HBV.out (by have := HB.out; omega) hb1); have f0 := frozen7 kY; have y2 : Y.cell? ⟨w1.heap.size, 0, none⟩ = some (.string ⟨#[]⟩) := (kY.cl 0 _ rfl).1; have y3 : Y.cell? ⟨w1.heap.size, 1, none⟩ = some (.slice none 0 0) := (kY.cl 1 _ rfl).1; have y4 : Y'.cell? ⟨b, 0, none⟩ = some (.string ⟨#[]⟩) := (kb'.cl 0 _ rfl).1; have y5 : Y'.cell? ⟨b, 1, none⟩ = some (.slice none 0 0) := (kb'.cl 1 _ rfl).1; have y0 : Y'.cell? ⟨w1.heap.size, 0, none⟩ = some (.string m') := (kY'.cl 0 _ rfl).1; have y1 : Y'.cell? ⟨w1.heap.size, 1, none⟩ = some (.slice a n c) := (kY'.cl 1 _ rfl).1; have f1 := frozen7 kb'; have HKZ := Lib.hid kZ; have HRZ := Lib.hid hrZ; have HBZ := Lib.hid hbZ; have H2 := Lib.hid h2; have HDZ : Hid (Z.heap[D]? = some (.deferred (some []))) := (hDD D (by have := HDl.out.1; omega) (Nat.lt_of_lt_of_le HDl.out.2 hb1.size)).trans ((hb1.block D HDl.out.2).trans HKD.out); clear kY kY' kb' kZ hrZ hbZ h2 hr hb1 hDD)
      refine ⟨by simp, .inl ⟨_, _, rfl, run_takeDeferred HDZ.out, ?_⟩⟩
      have hf : Free Z (Z.putObj D (.deferred none)) := Free.put _ HDZ.out rfl
      refine ⟨_, results_ser _ b _ _ _ _ (hf.blk HKZ.out) rfl rfl, HSF.out _ _ ⟨m', a, n, c, r, rfl, Row.free HRZ.out hf, below_free HBZ.out (by have := HB.out; omega) (grownBy_putObj' Z D _) (fun r e => by have := HDl.out.1; injection e with e; omega), fun h => H2.out h⟩⟩
    case stop =>
      rintro D c V hD hr hF
      exact hF.elim
end Dp
end Go.Proofs.YtefnpfhhomkiaaaGreatDoor
namespace Go.Proofs.YtefnpfhhomkiaaaGreatDoor
open Go.RowKit Go.Shelf
namespace Dp
open Y2 (Row)
/-- an event, its labels' slice given -/
abbrev evV (e : Ev) (v : Value) : Value := .agg #[strV e.met, v, .int .i64 e.kind, .int .i64 e.val, strV e.mem, .int .i64 e.rate, .int .i64 e.time, strV e.src, .int .i64 e.seq]
/-- x is the event e, its labels in memory from block B on -/
def EvIs (W : World) (B : Nat) (x : Value) (e : Ev) : Prop := ∃ a n c r, x = evV e (.slice a n c) ∧ Row W B (.slice a n c) r ∧ Y2.Tg.labs r = e.labs
abbrev evC (v0 v1 v2 v3 v4 v5 v6 v7 v8 : Value) : Array Value := #[v0, v1, v2, v3, v4, v5, v6, v7, v8]
abbrev e0 : Array Value := #[.string ⟨#[]⟩, .slice none 0 0, .int .i64 0, .int .i64 0, .string ⟨#[]⟩, .int .i64 0, .int .i64 0, .string ⟨#[]⟩, .int .i64 0]
abbrev tE : TypeId := 26
abbrev tP : TypeId := 56
abbrev pC (p : Parts) : Array Value := #[strV p.met, strV p.meas, strV p.kind, strV p.rate, strV p.labs, strV p.time, strV p.id]
theorem evIs_zero (W : World) (b : Nat) : EvIs W b (evV ev0 (.slice none 0 0)) ev0 := ⟨none, 0, 0, [], rfl, Y2.Row.nil _ _, rfl⟩
theorem EvIs.free {W W' : World} {b : Nat} {x : Value} {e : Ev} (h : EvIs W b x e) (hf : Free W W') : EvIs W' b x e := by
  obtain ⟨a, n, c, r, h1, h2, h3⟩ := h
  exact ⟨a, n, c, r, h1, Row.free h2 hf, h3⟩
theorem EvIs.below {W W' : World} {b : Nat} {x : Value} {e : Ev} (h : EvIs W b x e) (hb : Below W.heap.size W W') : EvIs W' b x e := by
  obtain ⟨a, n, c, r, h1, h2, h3⟩ := h
  exact ⟨a, n, c, r, h1, Y2.Row.below h2 hb (Nat.le_refl _), h3⟩
theorem EvIs.base {W : World} {b b' : Nat} {x : Value} {e : Ev} (h : EvIs W b x e) (hb : b' ≤ b) : EvIs W b' x e := by
  obtain ⟨a, n, c, r, h1, h2, h3⟩ := h
  exact ⟨a, n, c, r, h1, Y2.Row.base h2 hb, h3⟩
/-- what Parse hands back -/
def Parsed (l : List UInt8) (w : World) (e : Ending) (w' : World) : Prop := ∃ x, e = .returned (.tuple #[x, .int .i64 (parseE l)]) ∧ EvIs w' w.heap.size x (parseV l) ∧ Below w.heap.size w w'
theorem results_parse (W : World) (b : Nat) (a : Array Value) (cd : Int) (x0 x1 x2 x3 x4 x5 x6 x7 x8 : Value) (h : Blk W b tE #[x0, x1, x2, x3, x4, x5, x6, x7, x8]) (h2 : a[2]? = some (.pointer (some ⟨b, 0, none⟩))) (h3 : a[3]? = some (.int .i64 cd)) :
    (results Tryz.f11 a).run Tryz.prog W = .ok (.tuple #[.agg #[x0, x1, x2, x3, x4, x5, x6, x7, x8], .int .i64 cd]) W := by
  obtain ⟨c0, c1, c2, c3, c4, c5, c6, c7, c8⟩ := cells9 h
  simp [results, Tryz.results11, go_sem, h2, h3, c0, c1, c2, c3, c4, c5, c6, c7, c8]
/-- what Parse keeps: the result's block, the parts', the event's -/
structure St (w W : World) (b bp bq : Nat) (p : Parts) (cs : Array Value) : Prop where
  kb : Blk W b tE e0
  kp : Blk W bp tP (pC p)
  kq : Blk W bq tE cs
  bl : Below b w W
  lp : b < bp
  lq : bp < bq
theorem St.below {w W W' : World} {b bp bq : Nat} {p : Parts} {cs : Array Value} (h : St w W b bp bq p cs) (hb : Below W.heap.size W W') : St w W' b bp bq p cs :=
  ⟨h.kb.below hb h.kb.lt, h.kp.below hb h.kp.lt, h.kq.below hb h.kq.lt, h.bl.trans (hb.mono (Nat.le_of_lt h.kb.lt)), h.lp, h.lq⟩
theorem St.set {w W : World} {b bp bq : Nat} {p : Parts} {cs : Array Value} (h : St w W b bp bq p cs) (i : Nat) (u : Value) : St w (W.setCell ⟨bq, i, none⟩ u) b bp bq p (cs.setIfInBounds i u) :=
  ⟨h.kb.other (by show bq ≠ b; have := h.lp; have := h.lq; omega) _, h.kp.other (by show bq ≠ bp; have := h.lq; omega) _, h.kq.set i u, below_set h.bl (by have := h.lp; have := h.lq; omega) u, h.lp, h.lq⟩
/-- an event that wasn't told -/
theorem fail9 {w W : World} {b : Nat} (kb : Blk W b tE e0) (bl : Below b w W) : ∃ Z, (((((((((W.setCell ⟨b, 0, none⟩ (.string ⟨#[]⟩)).setCell ⟨b, 1, none⟩ (.slice none 0 0)).setCell ⟨b, 2, none⟩ (.int .i64 0)).setCell ⟨b, 3, none⟩ (.int .i64 0)).setCell ⟨b, 4, none⟩ (.string ⟨#[]⟩)).setCell ⟨b, 5, none⟩ (.int .i64 0)).setCell ⟨b, 6, none⟩ (.int .i64 0)).setCell ⟨b, 7, none⟩ (.string ⟨#[]⟩)).setCell ⟨b, 8, none⟩ (.int .i64 0)) = Z ∧ Blk Z b tE e0 ∧ Below b w Z :=
  ⟨_, rfl, blk9 kb _ _ _ _ _ _ _ _ _, below9 bl (Nat.le_refl _) _ _ _ _ _ _ _ _ _⟩
theorem first_len (c : UInt8) (m : List (List UInt8)) (k : Nat) (h : ∀ p ∈ m, p.length ≤ k) : (first c m).1.length ≤ k ∧ ∀ p ∈ (first c m).2, p.length ≤ k := by
  cases m with
  | nil => exact ⟨Nat.zero_le _, fun p hp => by cases hp⟩
  | cons x t =>
    simp only [first]
    split
    · exact ⟨h x (by simp), fun p hp => h p (by simp [hp])⟩
    · exact ⟨Nat.zero_le _, fun p hp => h p hp⟩
/-- no part is longer than the line -/
theorem parts_len {l : List UInt8} {p : Parts} (h : partsOf l = some p) : p.met.length ≤ l.length ∧ p.meas.length ≤ l.length ∧ p.kind.length ≤ l.length ∧ p.rate.length ≤ l.length ∧ p.labs.length ≤ l.length ∧ p.time.length ≤ l.length ∧ p.id.length ≤ l.length := by
  unfold partsOf at h
  split at h
  · cases h
  split at h
  · injection h with h
    subst h
    have hc := cut_len 58 ((spl 124 l).getD 0 [])
    have h0 := getD_le (l := l) 124 0
    have h1 := getD_le (l := l) 124 1
    have ht := getD_le (l := l) 124 ((spl 124 l).length - 2)
    have hi := getD_le (l := l) 124 ((spl 124 l).length - 1)
    have hm : ∀ p ∈ mid (spl 124 l), p.length ≤ l.length := fun p hp => spl_le (List.mem_of_mem_drop (List.mem_of_mem_take hp))
    obtain ⟨f1, f2⟩ := first_len 64 _ _ hm
    obtain ⟨f3, -⟩ := first_len 35 _ _ f2
    refine ⟨?_, ?_, h1, f1, f3, ?_, ?_⟩
    · show (Lib.cut ((spl 124 l).getD 0 []) [58]).1.length ≤ _; omega
    · show (Lib.cut ((spl 124 l).getD 0 []) [58]).2.1.length ≤ _; omega
    · show ((timeP (spl 124 l)).drop 1).length ≤ _; rw [List.length_drop]; unfold timeP; omega
    · show ((idP (spl 124 l)).drop 1).length ≤ _; rw [List.length_drop]; unfold idP; omega
  · cases h
theorem parse_none {l : List UInt8} (h : partsOf l = none) : parseE l = 2 ∧ parseV l = ev0 := by unfold parseE parseV; rw [h]; exact ⟨rfl, rfl⟩
theorem parse_some {l : List UInt8} {p : Parts} (h : partsOf l = some p) : parseE l = errOf p ∧ parseV l = if errOf p = 0 then evOf p else ev0 := by unfold parseE parseV; rw [h]; exact ⟨rfl, rfl⟩
end Dp
end Go.Proofs.YtefnpfhhomkiaaaGreatDoor
