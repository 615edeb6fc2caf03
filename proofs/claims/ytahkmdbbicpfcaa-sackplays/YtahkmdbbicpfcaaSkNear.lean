
/- Sacks: Near. -/
import Derived.Test.YtahkmdbbicpfcaaSkPut
namespace Go.Proofs.Ytahkmdbbicpfcaa
open Go.RowKit
attribute [local go_sem] Oper.semAt_some
namespace Sk
open Rk
/-- the place of the nearest rank -/
def place (p q n : Int) : Int := max ((p * n + q - 1) / q - 1) 0
theorem place_div (p q n : Int) (hq : 1 ≤ q) : (p * n + q - 1) / q * q ≤ p * n + q - 1 ∧ p * n ≤ (p * n + q - 1) / q * q := by
  have h1 := Int.ediv_mul_le (p * n + q - 1) (show q ≠ 0 by omega)
  have h2 := Int.lt_ediv_add_one_mul_self (p * n + q - 1) (show 0 < q by omega)
  rw [Int.add_mul] at h2
  omega
theorem place_ge (p q n : Int) : 0 ≤ place p q n := by unfold place; omega
theorem place_lt (p q n : Int) (hq : 1 ≤ q) (hpq : p ≤ q) (hn : 1 ≤ n) : place p q n < n := by
  have h1 : (p * n + q - 1) / q < n + 1 := by
    refine Int.ediv_lt_of_lt_mul (by omega) ?_
    have : p * n ≤ q * n := Int.mul_le_mul_of_nonneg_right hpq (by omega)
    rw [Int.add_mul, Int.mul_comm n q]
    omega
  unfold place
  omega
theorem place_far (p q n : Int) (hq : 1 ≤ q) : p * n ≤ (place p q n + 1) * q := by
  obtain ⟨-, h2⟩ := place_div p q n hq
  have : (p * n + q - 1) / q * q ≤ (place p q n + 1) * q := Int.mul_le_mul_of_nonneg_right (by unfold place; omega) (by omega)
  omega
theorem place_near (p q n i : Int) (hq : 1 ≤ q) (hi : 0 ≤ i) (h : i < place p q n) : (i + 1) * q < p * n := by
  obtain ⟨h1, -⟩ := place_div p q n hq
  have h2 : (i + 1) * q ≤ ((p * n + q - 1) / q - 1) * q := Int.mul_le_mul_of_nonneg_right (by unfold place at h; omega) (by omega)
  rw [Int.sub_mul] at h2
  omega
theorem pn_le (p q n : Int) (hp : 0 ≤ p) (hpq : p ≤ q) (hq1 : q ≤ 1000000) (hn : 0 ≤ n) (hn1 : n ≤ 1000) : 0 ≤ p * n ∧ p * n ≤ 1000000000 := by
  have h1 : p * n ≤ 1000000 * n := Int.mul_le_mul_of_nonneg_right (by omega) hn
  exact ⟨Int.mul_nonneg hp hn, by omega⟩
set_option maxRecDepth 100000 in
theorem nearest_any (p q n : Int) (hq : 1 ≤ q) (hp : 0 ≤ p) (hpq : p ≤ q) (hq1 : q ≤ 1000000) (hn : 0 ≤ n) (hn1 : n ≤ 1000) (w : World) :
    Calls Try.prog 35 #[.int .i64 p, .int .i64 q, .int .i64 n] w fun e w' => e = .returned (.int .i64 (place p q n)) ∧ w = w' := by
  have hb := pn_le p q n hp hpq hq1 hn hn1
  have e1 : IntKind.i64.wrap (p * n) = p * n := wr64 _ (by omega) (by omega)
  have e2 : IntKind.i64.wrap (p * n + q) = p * n + q := wr64 _ (by omega) (by omega)
  have e3 : IntKind.i64.wrap (p * n + q - 1) = p * n + q - 1 := wr64 _ (by omega) (by omega)
  have hdv : (p * n + q - 1).tdiv q = (p * n + q - 1) / q := Int.tdiv_eq_ediv_of_nonneg (by omega)
  have hd0 : 0 ≤ (p * n + q - 1) / q := Int.ediv_nonneg (by omega) (by omega)
  have hd1 : (p * n + q - 1) / q ≤ 2000000000 := Int.le_trans (Int.ediv_le_self _ (by omega)) (by omega)
  have e4 : IntKind.i64.wrap ((p * n + q - 1) / q) = (p * n + q - 1) / q := wr64 _ (by omega) (by omega)
  have e5 : IntKind.i64.wrap ((p * n + q - 1) / q - 1) = (p * n + q - 1) / q - 1 := wr64 _ (by omega) (by omega)
  have hne : ¬ q = 0 := by omega
  have HP : Hid (max ((p * n + q - 1) / q - 1) 0 = place p q n) := rfl
  generalize (p * n + q - 1) / q = d at hdv e4 e5 HP
  generalize place p q n = r at HP ⊢
  clear hq hp hpq hq1 hn hn1 hb hd0 hd1
  go_enter Try.func35, Try.ntmps35
  go_wp2
  go_ret
  refine ⟨?_, rfl⟩
  rw [← HP.out]
  rfl
theorem flat_snoc (L : List (Int × Int)) (x : Int × Int) : (flat (L ++ [x])).length = (flat L).length + x.2.toNat := by
  rw [flat_app, flat_cons, List.length_append, List.length_append, List.length_replicate]
  rfl
/-- two cells of results, stored -/
theorem two_cells {X : World} {b0 b1 : Nat} {t0 t1 : TypeId} {u0 u1 : Value} (h0 : Blk X b0 t0 #[u0]) (h1 : Blk X b1 t1 #[u1]) (hne : b0 ≠ b1) (v0 v1 : Value) :
    Blk ((X.setCell ⟨b0, 0, none⟩ v0).setCell ⟨b1, 0, none⟩ v1) b0 t0 #[v0] ∧ Blk ((X.setCell ⟨b0, 0, none⟩ v0).setCell ⟨b1, 0, none⟩ v1) b1 t1 #[v1] :=
  ⟨(h0.set 0 v0).other (p := ⟨b1, 0, none⟩) (Ne.symm hne) _, (h1.other (p := ⟨b0, 0, none⟩) hne v0).set 0 v1⟩
section
variable (w : World)
/-- the world with the cells of the two results -/
theorem near_start : ∃ X, (w.alloc (.cells #[.int .i64 0] 3)).alloc (.cells #[.int .i64 0] 25) = X ∧ Blk X w.heap.size 3 #[.int .i64 0] ∧ Blk X (w.heap.size + 1) 25 #[.int .i64 0] ∧ Below w.heap.size w X ∧ X.heap.size = w.heap.size + 2 := by
  refine ⟨_, rfl, (Blk.new w _ _).alloc _, ?_, ((Below.refl _ w).alloc (Nat.le_refl _) _).alloc (by simp) _, by simp⟩
  have := Blk.new (w.alloc (.cells #[.int .i64 0] 3)) 25 #[.int .i64 0]
  rwa [World.size_alloc] at this
end
set_option maxRecDepth 100000 in
set_option maxHeartbeats 2000000 in
theorem Near_bad (s : Nat) (p q : Int) (hbad : q < 1 ∨ p < 0 ∨ q < p ∨ 1000000 < q) (w : World) :
    Calls Try.prog 21 #[.pointer (some ⟨s, 0, none⟩), .int .i64 p, .int .i64 q] w fun e w' => e = .returned (.tuple #[.int .i64 0, .int .i64 1]) ∧ Below w.heap.size w w' := by
  obtain ⟨X, hX, h0, h1, hb, -⟩ := near_start w
  have hz := two_cells h0 h1 (by omega) (.int .i64 0) (.int .i64 1)
  have hbz : Below w.heap.size w ((X.setCell ⟨w.heap.size, 0, none⟩ (.int .i64 0)).setCell ⟨w.heap.size + 1, 0, none⟩ (.int .i64 1)) := (hb.setCell (p := ⟨w.heap.size, 0, none⟩) (Nat.le_refl _) _).setCell (p := ⟨w.heap.size + 1, 0, none⟩) (Nat.le_succ _) _
  have HB := Lib.hid hbz
  have HE : Hid (((X.setCell ⟨w.heap.size, 0, none⟩ (.int .i64 0)).setCell ⟨w.heap.size + 1, 0, none⟩ (.int .i64 1)).cell? ⟨w.heap.size, 0, none⟩ = some (.int .i64 0) ∧ ((X.setCell ⟨w.heap.size, 0, none⟩ (.int .i64 0)).setCell ⟨w.heap.size + 1, 0, none⟩ (.int .i64 1)).cell? ⟨w.heap.size + 1, 0, none⟩ = some (.int .i64 1)) := ⟨(hz.1.cl 0 _ rfl).1, (hz.2.cl 0 _ rfl).1⟩
  have c0 := (h0.cl 0 _ rfl).1
  have f0 := (h0.cl 0 _ rfl).2
  have c1 := (h1.cl 0 _ rfl).1
  have f1 := (h1.cl 0 _ rfl).2
  have hd : (decide (q < 1) = true) ∨ (decide (q < 1) = false ∧ decide (p < 0) = true) ∨ (decide (q < 1) = false ∧ decide (p < 0) = false ∧ decide (q < p) = true) ∨ (decide (q < 1) = false ∧ decide (p < 0) = false ∧ decide (q < p) = false ∧ decide (1000000 < q) = true) := by
    simp only [decide_eq_true_eq, decide_eq_false_iff_not]
    omega
  clear h0 h1 hb hz hbz hbad
  refine (callsIn_wide (n := 3)).1 ?_
  refine callsIn_of_wp_marks Try.func21 rfl trivial ?_ rfl
  simp only [Try.ntmps21, List.size_toArray, List.length_cons, List.length_nil, Nat.reduceAdd, Nat.reduceSub, Array.replicate_succ, Array.replicate_zero, List.push_toArray, List.append_toArray, List.nil_append, List.cons_append]
  rcases hd with d1 | ⟨d1, d2⟩ | ⟨d1, d2, d3⟩ | ⟨d1, d2, d3, d4⟩
  all_goals
    gi_wp2
    refine ⟨.tuple #[.int .i64 0, .int .i64 1], ?_, rfl, HB.out⟩
    simp [results, Try.f21, go_sem, HE.out.1, HE.out.2]
/-- what holds where rest is left of the runs -/
def NearI (w : World) (l : List Int) (P : Int) (rest : List (Int × Int)) (W : World) : Prop :=
  ∃ pre, runs l = pre ++ rest ∧ ((flat pre).length : Int) ≤ P ∧ Blk W w.heap.size 3 #[.int .i64 0] ∧ Blk W (w.heap.size + 1) 25 #[.int .i64 0] ∧ Blk W (w.heap.size + 2) 3 #[.int .i64 (P - ((flat pre).length : Int))] ∧ Below w.heap.size w W
/-- what holds where the thing is found -/
def NearX (w : World) (l : List Int) (P : Int) (c : Code) (W : World) : Prop :=
  c = .ret ∧ ∃ v, l[P.toNat]? = some v ∧ Blk W w.heap.size 3 #[.int .i64 v] ∧ Blk W (w.heap.size + 1) 25 #[.int .i64 0] ∧ Below w.heap.size w W
theorem nearI_own (w : World) (l : List Int) (P : Int) {B : Nat} (hB : w.heap.size ≤ B) : OwnFrom B (NearI w l P) := by
  rintro rest W W' row ⟨pre, h1, h2, h3, h4, h5, h6⟩ hg hr
  have hf : Free W W' := ⟨row, hg, fun r e => (hr r e).2⟩
  exact ⟨pre, h1, h2, hf.blk h3, hf.blk h4, hf.blk h5, below_free h6 (Nat.le_refl _) hg (fun r e => Nat.le_trans hB (hr r e).1)⟩
theorem nearX_own (w : World) (l : List Int) (P : Int) {B : Nat} (hB : w.heap.size ≤ B) : OwnFrom B (NearX w l P) := by
  rintro c W W' row ⟨h1, v, h2, h3, h4, h6⟩ hg hr
  have hf : Free W W' := ⟨row, hg, fun r e => (hr r e).2⟩
  exact ⟨h1, v, h2, hf.blk h3, hf.blk h4, below_free h6 (Nat.le_refl _) hg (fun r e => Nat.le_trans hB (hr r e).1)⟩
set_option maxRecDepth 100000 in
set_option maxHeartbeats 4000000 in
theorem Near_ok {w : World} {s R : Nat} {room : Int} {l : List Int} (h : Sak w s R room l) (p q : Int) (hq : 1 ≤ q) (hp : 0 ≤ p) (hpq : p ≤ q) (hq1 : q ≤ 1000000) :
    Calls Try.prog 21 #[.pointer (some ⟨s, 0, none⟩), .int .i64 p, .int .i64 q] w fun e w' => (∃ v c, e = .returned (.tuple #[.int .i64 v, .int .i64 c]) ∧ ((l = [] ∧ v = 0 ∧ c = 5) ∨ (l[(place p q (l.length : Int)).toNat]? = some v ∧ c = 0))) ∧ Below w.heap.size w w' := by
  obtain ⟨X, hX, h0, h1, hb, hxs⟩ := near_start w
  have hlr := h.len
  have hrm := h.room
  have HNE := Lib.hid (nearest_any p q (l.length : Int) hq hp hpq hq1 (by omega) (by omega) X)
  have hcs : X.cell? ⟨s, 1, none⟩ = some (.int .i64 (l.length : Int)) := ((h.blk.below hb h.lt).cl 1 _ rfl).1
  obtain ⟨T, -, hrep⟩ := h.rak
  have hflat : flat (runs l) = l := hrep.flatr
  have hpos : pos (runs l) := hrep.posr
  obtain ⟨P, hP⟩ : ∃ P, place p q (l.length : Int) = P := ⟨_, rfl⟩
  have hP0 : 0 ≤ P := by rw [← hP]; exact place_ge _ _ _
  have hPl : 1 ≤ (l.length : Int) → P < l.length := fun h1 => by rw [← hP]; exact place_lt p q _ hq hpq h1
  rw [hP] at HNE ⊢
  obtain ⟨Y, hY⟩ : ∃ Y, X.alloc (.cells #[.int .i64 P] 3) = Y := ⟨_, rfl⟩
  have hbY : Below w.heap.size w Y := by rw [← hY]; exact hb.alloc (by omega) _
  have y0 : Blk Y w.heap.size 3 #[.int .i64 0] := by rw [← hY]; exact h0.alloc _
  have y1 : Blk Y (w.heap.size + 1) 25 #[.int .i64 0] := by rw [← hY]; exact h1.alloc _
  have y2 : Blk Y (w.heap.size + 2) 3 #[.int .i64 P] := by rw [← hY, ← hxs]; exact Blk.new X _ _
  have HRN := Lib.hid (Runs_any (h.below hbY))
  have HST : Hid (∀ W, Below Y.heap.size Y W → NearI w l P (runs l) W) := fun W hb =>
    ⟨[], rfl, hP0, y0.below hb y0.lt, y1.below hb y1.lt, by show Blk _ _ _ #[.int .i64 (P - 0)]; rw [Int.sub_zero]; exact y2.below hb y2.lt, hbY.trans (hb.mono hbY.size)⟩
  have hys : w.heap.size + 2 < Y.heap.size := y2.lt
  have d1 : decide (q < 1) = false := decide_eq_false (by omega)
  have d2 : decide (p < 0) = false := decide_eq_false (by omega)
  have d3 : decide (q < p) = false := decide_eq_false (by omega)
  have d4 : decide (1000000 < q) = false := decide_eq_false (by omega)
  have HLB : Hid (-1000000 ≤ P ∧ P ≤ 1000) := ⟨by omega, by
    by_cases e : 1 ≤ (l.length : Int)
    · have := hPl e; omega
    · have : P = place p q 0 := by rw [← hP, show (l.length : Int) = 0 by omega]
      rw [this]; unfold place
      rw [Int.mul_zero, Int.zero_add, Int.ediv_eq_zero_of_lt (by omega) (by omega)]
      omega⟩
  have HPL := Lib.hid hPl
  have HFL := Lib.hid hflat
  have HPO := Lib.hid hpos
  obtain ⟨n, hn⟩ : ∃ n : Int, (l.length : Int) = n := ⟨_, rfl⟩
  rw [hn] at hcs HNE
  have HN := Lib.hid hn
  clear h hlr hrm hrep hflat hpos hP hPl hbY y0 y1 y2 hq hp hpq hq1 hn hP0 h0 h1 hb
  refine (callsIn_wide (n := 3)).1 ?_
  refine callsIn_of_wp_marks Try.func21 rfl trivial ?_ rfl
  simp only [Try.ntmps21, List.size_toArray, List.length_cons, List.length_nil, Nat.reduceAdd, Nat.reduceSub, Array.replicate_succ, Array.replicate_zero, List.push_toArray, List.append_toArray, List.nil_append, List.cons_append]
  gi_wp2_with (refine ⟨trivial, ?_⟩; gi_at_call 35; refine (callsIn_wide.2 HNE.out).mono ?_; rintro e w1 ⟨rfl, rfl⟩)
  clear hX hY hxs hcs HNE d1 d2 d3 d4
  refine ⟨trivial, ?_⟩
  refine (callsIn_wide.2 HRN.out).mono ?_
  rintro e w2 ⟨f, rfl, hf, B2⟩
  obtain ⟨-, gf, lbf, rfl, eg, hseq⟩ := hf
  gi_wp2_with fail
  refine wpIn_rangeR (by decide) (gf := gf) (lbf := lbf) rfl eg hseq (fun h k => h.trans k) (fun W k o o' hk hc _ => (Free.put o' hk hc).keeps _) (Below.refl _ _) (fun _ => rfl)
    (fun rest => decide (n - ((flat rest).length : Int) ≤ P)) (NearI w l P) (NearX w l P) (nearI_own w l P (by have := B2.size; omega)) (nearX_own w l P (by have := B2.size; omega)) (HST.out _ B2) ?a1 ?assign ?body ?done ?stop
  case assign =>
    intro lp x W K hK
    simp only [encI]
    gi_wp2
    exact hK
  case body =>
    rintro lp x rest W ⟨pre, e1, e2, e3, e4, e5, e6⟩
    have c2 := (e5.cl 0 _ rfl).1
    have f2 := (e5.cl 0 _ rfl).2
    have c0 := (e3.cl 0 _ rfl).1
    have f0 := (e3.cl 0 _ rfl).2
    have c1 := (e4.cl 0 _ rfl).1
    have f1 := (e4.cl 0 _ rfl).2
    have hx1 : 1 ≤ x.2 := HPO.out x (by rw [e1]; simp)
    have hlm : (flat pre).length + x.2.toNat + (flat rest).length = l.length := by
      have := congrArg (fun L => (flat L).length) e1
      rw [HFL.out, flat_app, flat_cons, List.length_append, List.length_append, List.length_replicate] at this
      omega
    have hnn := HN.out
    have hlb := HLB.out
    obtain ⟨fp, hfp⟩ : ∃ fp : Int, ((flat pre).length : Int) = fp := ⟨_, rfl⟩
    have hwl : w.heap.size + 2 < W.heap.size := e5.lt
    rw [hfp] at c2 e2 e5
    by_cases hlt : P - fp < x.2
    · have hd : decide (P - fp < x.2) = true := decide_eq_true hlt
      have hc : decide (n - ((flat rest).length : Int) ≤ P) = false := decide_eq_false (by omega)
      have hz := two_cells e3 e4 (by omega) (.int .i64 x.1) (.int .i64 0)
      have HFIN : Hid (∀ act, Ends (Keeps 76) (decide (n - ((flat rest).length : Int) ≤ P)) (NearI w l P rest) (NearX w l P) W .ret act ((W.setCell ⟨w.heap.size, 0, none⟩ (.int .i64 x.1)).setCell ⟨w.heap.size + 1, 0, none⟩ (.int .i64 0))) := fun act => by
        refine ⟨(KeepsOthers.setCell _ _ _).trans (KeepsOthers.setCell _ _ _), (Keeps.set e3 (by decide) 0 _).trans (Keeps.set (e4.other (p := ⟨w.heap.size, 0, none⟩) (show w.heap.size ≠ w.heap.size + 1 by omega) _) (by decide) 0 _), hc, rfl, x.1, ?_, hz.1, hz.2, (e6.setCell (p := ⟨w.heap.size, 0, none⟩) (Nat.le_refl _) _).setCell (p := ⟨w.heap.size + 1, 0, none⟩) (Nat.le_succ _) _⟩
        have hl : l = flat pre ++ (List.replicate x.2.toNat x.1 ++ flat rest) := by
          have := congrArg flat e1
          rwa [HFL.out, flat_app, flat_cons] at this
        rw [hl, List.getElem?_append_right (by omega), List.getElem?_append_left (by rw [List.length_replicate]; omega), List.getElem?_replicate, if_pos (by omega)]
      clear e1 e2 e3 e4 e5 e6 hlm hnn hlb hfp hx1 hz hc hlt hwl
      gi_wp2
      exact HFIN.out _
    · have hd : decide (P - fp < x.2) = false := decide_eq_false hlt
      have hc : decide (n - ((flat rest).length : Int) ≤ P) = true := decide_eq_true (by omega)
      have ew : IntKind.i64.wrap (P - fp - x.2) = P - fp - x.2 := wr64 _ (by omega) (by omega)
      have HFIN : Hid (∀ act, Ends (Keeps 76) (decide (n - ((flat rest).length : Int) ≤ P)) (NearI w l P rest) (NearX w l P) W .normal act (W.setCell ⟨w.heap.size + 2, 0, none⟩ (.int .i64 (P - fp - x.2)))) := fun act => by
        have hlp : ((flat (pre ++ [x])).length : Int) = fp + x.2 := by rw [flat_snoc]; omega
        refine ⟨KeepsOthers.setCell _ _ _, Keeps.set e5 (by decide) 0 _, hc, pre ++ [x], by rw [e1]; simp, by rw [hlp]; omega, e3.other (p := ⟨w.heap.size + 2, 0, none⟩) (show w.heap.size + 2 ≠ w.heap.size by omega) _, e4.other (p := ⟨w.heap.size + 2, 0, none⟩) (show w.heap.size + 2 ≠ w.heap.size + 1 by omega) _, ?_, e6.setCell (p := ⟨w.heap.size + 2, 0, none⟩) (by show w.heap.size ≤ w.heap.size + 2; omega) _⟩
        rw [hlp, show P - (fp + x.2) = P - fp - x.2 by omega]
        exact e5.set 0 _
      clear e1 e2 e3 e4 e5 e6 hlm hnn hlb hfp hx1 hc hlt hwl
      gi_wp2
      exact HFIN.out _
  case done =>
    rintro D W hD - ⟨pre, e1, e2, e3, e4, e5, e6⟩ hK
    have hl : l = [] := by
      rw [List.append_nil] at e1
      rw [← e1, HFL.out] at e2
      have := HPL.out
      exact List.length_eq_zero_iff.1 (by omega)
    have c0 := (e3.cl 0 _ rfl).1
    have f0 := (e3.cl 0 _ rfl).2
    have c1 := (e4.cl 0 _ rfl).1
    have f1 := (e4.cl 0 _ rfl).2
    have hz := two_cells e3 e4 (by omega) (.int .i64 0) (.int .i64 5)
    have hDw : w.heap.size ≤ D := by have := B2.size; omega
    have hK2 : ((W.setCell ⟨w.heap.size, 0, none⟩ (.int .i64 0)).setCell ⟨w.heap.size + 1, 0, none⟩ (.int .i64 5)).heap[D]? = some (.deferred (some [])) := ((KeepsOthers.setCell W ⟨w.heap.size, 0, none⟩ (.int .i64 0)).trans (KeepsOthers.setCell _ ⟨w.heap.size + 1, 0, none⟩ (.int .i64 5))).same D _ hK rfl
    have hb5 : Below w.heap.size w ((W.setCell ⟨w.heap.size, 0, none⟩ (.int .i64 0)).setCell ⟨w.heap.size + 1, 0, none⟩ (.int .i64 5)) := (e6.setCell (p := ⟨w.heap.size, 0, none⟩) (Nat.le_refl _) _).setCell (p := ⟨w.heap.size + 1, 0, none⟩) (Nat.le_succ _) _
    have hf : Free _ (((W.setCell ⟨w.heap.size, 0, none⟩ (.int .i64 0)).setCell ⟨w.heap.size + 1, 0, none⟩ (.int .i64 5)).putObj D (.deferred none)) := Free.put _ hK2 rfl
    have hr0 := ((hf.blk hz.1).cl 0 _ rfl).1
    have hr1 := ((hf.blk hz.2).cl 0 _ rfl).1
    have HR0 := Lib.hid hr0
    have HR1 := Lib.hid hr1
    have HBB := Lib.hid (below_free hb5 (Nat.le_refl _) (grownBy_putObj' _ D (.deferred none)) (fun r e => by injection e with e; omega))
    clear e1 e2 e3 e4 e5 e6 hz hf hr0 hr1 hb5
    gi_wp2
    refine ⟨by simp, .inl ⟨_, _, rfl, run_takeDeferred hK2, ?_⟩⟩
    refine ⟨.tuple #[.int .i64 0, .int .i64 5], ?_, ⟨0, 5, rfl, .inl ⟨hl, rfl, rfl⟩⟩, HBB.out⟩
    simp [results, Try.f21, go_sem, HR0.out, HR1.out]
  case stop =>
    rintro D c W hD - ⟨rfl, v, e1, e3, e4, e6⟩ hK
    have hDw : w.heap.size ≤ D := by have := B2.size; omega
    have hf : Free W (W.putObj D (.deferred none)) := Free.put _ hK rfl
    have HR0 := Lib.hid ((hf.blk e3).cl 0 _ rfl).1
    have HR1 := Lib.hid ((hf.blk e4).cl 0 _ rfl).1
    have HBB := Lib.hid (below_free e6 (Nat.le_refl _) (grownBy_putObj' _ D (.deferred none)) (fun r e => by injection e with e; omega))
    clear e3 e4 e6 hf
    gi_wp2
    refine ⟨by simp, .inl ⟨_, _, rfl, run_takeDeferred hK, ?_⟩⟩
    refine ⟨.tuple #[.int .i64 v, .int .i64 0], ?_, ⟨v, 0, rfl, .inr ⟨e1, rfl⟩⟩, HBB.out⟩
    simp [results, Try.f21, go_sem, HR0.out, HR1.out]
end Sk
end Go.Proofs.Ytahkmdbbicpfcaa
