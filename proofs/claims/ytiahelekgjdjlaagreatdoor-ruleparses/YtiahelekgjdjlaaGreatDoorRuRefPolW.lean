
/- What the document's own policy answers of any words. -/
import Derived.Test.YtiahelekgjdjlaaGreatDoorRuRefDig
import Derived.Test.YtiahelekgjdjlaaGreatDoorRuRefForm
namespace Go.Proofs.YtiahelekgjdjlaaGreatDoor
open Go.RowKit Go.Shelf
open Dp Gb
attribute [local go_sem] Oper.semAt_some
namespace Ru
abbrev polTD : TypeId := 42
theorem results_polD (W : World) (b : Nat) (a : Array Value) (fl : Bool) (x0 x1 x2 x3 x4 : Value) (h : Blk W b polTD #[x0, x1, x2, x3, x4]) (h2 : a[2]? = some (.pointer (some ⟨b, 0, none⟩))) (h3 : a[3]? = some (.bool fl)) :
    (results Tryz.f38 a).run Tryz.prog W = .ok (.tuple #[.agg #[x0, x1, x2, x3, x4], .bool fl]) W := by
  have c0 : W.cell? ⟨b, 0, none⟩ = some x0 := (h.cl 0 _ rfl).1
  have c1 : W.cell? ⟨b, 1, none⟩ = some x1 := (h.cl 1 _ rfl).1
  have c2 : W.cell? ⟨b, 2, none⟩ = some x2 := (h.cl 2 _ rfl).1
  have c3 : W.cell? ⟨b, 3, none⟩ = some x3 := (h.cl 3 _ rfl).1
  have c4 : W.cell? ⟨b, 4, none⟩ = some x4 := (h.cl 4 _ rfl).1
  simp [results, Tryz.results38, go_sem, h2, h3, c0, c1, c2, c3, c4]
theorem blk5D {V : World} {h : Nat} {x0 x1 x2 x3 x4 : Value} (k : Blk V h polTD #[x0, x1, x2, x3, x4]) (u0 u1 u2 u3 u4 : Value) :
    Blk (((((V.setCell ⟨h, 0, none⟩ u0).setCell ⟨h, 1, none⟩ u1).setCell ⟨h, 2, none⟩ u2).setCell ⟨h, 3, none⟩ u3).setCell ⟨h, 4, none⟩ u4) h polTD #[u0, u1, u2, u3, u4] :=
  ((((k.set 0 u0).set 1 u1).set 2 u2).set 3 u3).set 4 u4
theorem below5D {w V : World} {h : Nat} (k : Below w.heap.size w V) (hb : w.heap.size ≤ h) (u0 u1 u2 u3 u4 : Value) :
    Below w.heap.size w (((((V.setCell ⟨h, 0, none⟩ u0).setCell ⟨h, 1, none⟩ u1).setCell ⟨h, 2, none⟩ u2).setCell ⟨h, 3, none⟩ u3).setCell ⟨h, 4, none⟩ u4) :=
  ((((k.setCell (p := ⟨h, 0, none⟩) hb _).setCell (p := ⟨h, 1, none⟩) hb _).setCell (p := ⟨h, 2, none⟩) hb _).setCell (p := ⟨h, 3, none⟩) hb _).setCell (p := ⟨h, 4, none⟩) hb _
def polV' (q : Pol) : Value := .agg #[.string (B q.name), .int .i64 q.size, .int .i64 q.slide, .int .i64 q.late, .int .i64 q.keep]
set_option maxRecDepth 2000000 in
set_option maxHeartbeats 16000000 in
theorem refPolW_any (v : Value) (ws : List (List UInt8)) (w : World) (hv : RdT w v ws) (hl : ws.length ≤ 10000) (hx : ∀ x ∈ ws, x.length ≤ 9000) :
    Calls Tryz.prog 38 #[v] w fun e w' => ∃ q : Pol, e = .returned (.tuple #[polV' q, .bool (polD ws).isSome]) ∧ (∀ p, polD ws = some p → q = p) ∧ Below w.heap.size w w' := by
  obtain ⟨a, c, rfl, hc, hat⟩ := hv.at
  obtain ⟨n, hn⟩ : ∃ n, ws.length = n := ⟨_, rfl⟩
  have hk : Blk (w.alloc (.cells #[.string ⟨#[]⟩, .int .i64 0, .int .i64 0, .int .i64 0, .int .i64 0] polTD)) w.heap.size polTD #[.string ⟨#[]⟩, .int .i64 0, .int .i64 0, .int .i64 0, .int .i64 0] := Blk.new _ _ _
  have hb : Below w.heap.size w (w.alloc (.cells #[.string ⟨#[]⟩, .int .i64 0, .int .i64 0, .int .i64 0, .int .i64 0] polTD)) := (Below.refl _ w).alloc (Nat.le_refl _) _
  obtain ⟨X, hX⟩ : ∃ X, w.alloc (.cells #[.string ⟨#[]⟩, .int .i64 0, .int .i64 0, .int .i64 0, .int .i64 0] 42) = X := ⟨_, rfl⟩
  rw [show w.alloc (.cells #[.string ⟨#[]⟩, .int .i64 0, .int .i64 0, .int .i64 0, .int .i64 0] polTD) = X from hX] at hk hb
  have HK := Lib.hid (And.intro hk hb)
  have HXE := Lib.hid hX
  have HZ0 : Hid (∀ V, (Blk V w.heap.size polTD #[.string ⟨#[]⟩, .int .i64 0, .int .i64 0, .int .i64 0, .int .i64 0] ∧ Below w.heap.size w V) → polD ws = none → ∃ q : Pol, (∀ a, a[2]? = some (.pointer (some ⟨w.heap.size, 0, none⟩)) → a[3]? = some (.bool false) → (results Tryz.f38 a).run Tryz.prog V = .ok (.tuple #[polV' q, .bool (polD ws).isSome]) V) ∧ (∀ p, polD ws = some p → q = p) ∧ Below w.heap.size w V) := fun V h h0 =>
    ⟨⟨[], 0, 0, 0, 0⟩, fun a h2 h3 => by rw [h0]; exact results_polD _ w.heap.size a false _ _ _ _ _ h.1 h2 h3, fun p hp => (by rw [h0] at hp; cases hp), h.2⟩
  have HZ1 : Hid (∀ V, (Blk V w.heap.size polTD #[.string ⟨#[]⟩, .int .i64 0, .int .i64 0, .int .i64 0, .int .i64 0] ∧ Below w.heap.size w V) → polD ws = none → ∃ q : Pol, (∀ a, a[2]? = some (.pointer (some ⟨w.heap.size, 0, none⟩)) → a[3]? = some (.bool false) → (results Tryz.f38 a).run Tryz.prog (((((V.setCell ⟨w.heap.size, 0, none⟩ (.string ⟨#[]⟩)).setCell ⟨w.heap.size, 1, none⟩ (.int .i64 0)).setCell ⟨w.heap.size, 2, none⟩ (.int .i64 0)).setCell ⟨w.heap.size, 3, none⟩ (.int .i64 0)).setCell ⟨w.heap.size, 4, none⟩ (.int .i64 0)) = .ok (.tuple #[polV' q, .bool (polD ws).isSome]) (((((V.setCell ⟨w.heap.size, 0, none⟩ (.string ⟨#[]⟩)).setCell ⟨w.heap.size, 1, none⟩ (.int .i64 0)).setCell ⟨w.heap.size, 2, none⟩ (.int .i64 0)).setCell ⟨w.heap.size, 3, none⟩ (.int .i64 0)).setCell ⟨w.heap.size, 4, none⟩ (.int .i64 0))) ∧ (∀ p, polD ws = some p → q = p) ∧ Below w.heap.size w (((((V.setCell ⟨w.heap.size, 0, none⟩ (.string ⟨#[]⟩)).setCell ⟨w.heap.size, 1, none⟩ (.int .i64 0)).setCell ⟨w.heap.size, 2, none⟩ (.int .i64 0)).setCell ⟨w.heap.size, 3, none⟩ (.int .i64 0)).setCell ⟨w.heap.size, 4, none⟩ (.int .i64 0))) := fun V h h0 =>
    ⟨⟨[], 0, 0, 0, 0⟩, fun a h2 h3 => by rw [h0]; exact results_polD _ w.heap.size a false _ _ _ _ _ (blk5D h.1 _ _ _ _ _) h2 h3, fun p hp => (by rw [h0] at hp; cases hp), below5D h.2 (Nat.le_refl _) _ _ _ _ _⟩
  have k0 := (hk.cl 0 _ rfl).1
  have k0f := (hk.cl 0 _ rfl).2
  have k1 := (hk.cl 1 _ rfl).1
  have k1f := (hk.cl 1 _ rfl).2
  have k2 := (hk.cl 2 _ rfl).1
  have k2f := (hk.cl 2 _ rfl).2
  have k3 := (hk.cl 3 _ rfl).1
  have k3f := (hk.cl 3 _ rfl).2
  have k4 := (hk.cl 4 _ rfl).1
  have k4f := (hk.cl 4 _ rfl).2
  by_cases h6 : ws.length = 6
  case neg =>
    have i6 : ¬ (n : Int) = 6 := by omega
    have HZ := Lib.hid (HZ0.out X HK.out (polD_not6 h6))
    rw [hn]
    clear hv hat hx hl hc hn h6 HZ0 HZ1 HK hk hb hX
    go_enter Tryz.func38, Tryz.ntmps38
    go_wp2
    rw [HXE.out]
    go_wp2
    obtain ⟨q, h1, h2, h3⟩ := HZ.out
    exact bodyPost_ret (h1 _ rfl rfl) rfl ⟨q, rfl, h2, h3⟩
  obtain ⟨y0, y1, y2, y3, y4, y5, rfl⟩ : ∃ y0 y1 y2 y3 y4 y5, ws = [y0, y1, y2, y3, y4, y5] := by
    match ws, h6 with
    | [y0, y1, y2, y3, y4, y5], _ => exact ⟨y0, y1, y2, y3, y4, y5, rfl⟩
  obtain ⟨b, o, rfl, hcs⟩ := hat (by simp)
  have up : ∀ (j : Nat) (y : List UInt8), [y0, y1, y2, y3, y4, y5][j]? = some y → X.cell? ⟨b, o + j, none⟩ = some (.string (B y)) := fun j y hy => cell_bl hb (hcs j y hy)
  have u0 : X.cell? ⟨b, o, none⟩ = some (.string (B y0)) := up 0 _ rfl
  have u1 : X.cell? ⟨b, o + 1, none⟩ = some (.string (B y1)) := up 1 _ rfl
  have u2 : X.cell? ⟨b, o + 2, none⟩ = some (.string (B y2)) := up 2 _ rfl
  have u3 : X.cell? ⟨b, o + 3, none⟩ = some (.string (B y3)) := up 3 _ rfl
  have u4 : X.cell? ⟨b, o + 4, none⟩ = some (.string (B y4)) := up 4 _ rfl
  have u5 : X.cell? ⟨b, o + 5, none⟩ = some (.string (B y5)) := up 5 _ rfl
  have uw0 : w.cell? ⟨b, o, none⟩ = some (.string (B y0)) := hcs 0 _ rfl
  have uw1 : w.cell? ⟨b, o + 1, none⟩ = some (.string (B y1)) := hcs 1 _ rfl
  have uwl := lt_of_cell uw0
  have HWD := fun W => Lib.hid (Y2.refWord_any (B y1) W (small_max (Nat.le_trans (hx y1 (by simp)) (by decide))))
  have HD2 := fun W => Lib.hid (refDig_any y2 dSize W (Nat.le_trans (hx y2 (by simp)) (by decide)) (by decide))
  have HD3 := fun W => Lib.hid (refDig_any y3 dSlide W (Nat.le_trans (hx y3 (by simp)) (by decide)) (by decide))
  have HD4 := fun W => Lib.hid (refDig_any y4 dLate W (Nat.le_trans (hx y4 (by simp)) (by decide)) (by decide))
  have HD5 := fun W => Lib.hid (refDig_any y5 dKeep W (Nat.le_trans (hx y5 (by simp)) (by decide)) (by decide))
  simp only at HWD
  have hq0 : ((B y0).toList == [112, 111, 108, 105, 99, 121]) = decide (y0 = wPolicy) := by
    rw [eq_lit, Bool.eq_iff_iff, beq_iff_eq, decide_eq_true_eq]
    rfl
  have HH0 : Hid (y0 ≠ wPolicy → polD [y0, y1, y2, y3, y4, y5] = none) := polD_head
  have HH1 : Hid (Tg.wordB y1 = false → polD [y0, y1, y2, y3, y4, y5] = none) := polD_word
  have HSIX := Lib.hid (polD_six y0 y1 y2 y3 y4 y5)
  obtain ⟨PD, hPD⟩ : ∃ p, polD [y0, y1, y2, y3, y4, y5] = p := ⟨_, rfl⟩
  rw [hPD] at HH0 HH1 HSIX HZ0 HZ1 ⊢
  obtain ⟨x2, hx2⟩ : ∃ p, digD dSize y2 = p := ⟨_, rfl⟩
  obtain ⟨x3, hx3⟩ : ∃ p, digD dSlide y3 = p := ⟨_, rfl⟩
  obtain ⟨x4, hx4⟩ : ∃ p, digD dLate y4 = p := ⟨_, rfl⟩
  obtain ⟨x5, hx5⟩ : ∃ p, digD dKeep y5 = p := ⟨_, rfl⟩
  rw [hx2, hx3, hx4, hx5] at HSIX
  simp only [hx2] at HD2
  simp only [hx3] at HD3
  simp only [hx4] at HD4
  simp only [hx5] at HD5
  change ∀ W, Hid (Calls _ _ #[_, .string ⟨#[115, 105, 122, 101, 61]⟩] W _) at HD2
  change ∀ W, Hid (Calls _ _ #[_, .string ⟨#[115, 108, 105, 100, 101, 61]⟩] W _) at HD3
  change ∀ W, Hid (Calls _ _ #[_, .string ⟨#[108, 97, 116, 101, 61]⟩] W _) at HD4
  change ∀ W, Hid (Calls _ _ #[_, .string ⟨#[107, 101, 101, 112, 61]⟩] W _) at HD5
  obtain ⟨n6, hn6⟩ : ∃ n6, [y0, y1, y2, y3, y4, y5].length = n6 := ⟨_, rfl⟩
  have hn66 : n6 = 6 := hn6.symm
  rw [hn6]
  subst hn66
  obtain ⟨s0, hs0⟩ : ∃ t, B y0 = t := ⟨_, rfl⟩
  obtain ⟨s1, hs1⟩ : ∃ t, B y1 = t := ⟨_, rfl⟩
  obtain ⟨s2, hs2⟩ : ∃ t, B y2 = t := ⟨_, rfl⟩
  obtain ⟨s3, hs3⟩ : ∃ t, B y3 = t := ⟨_, rfl⟩
  obtain ⟨s4, hs4⟩ : ∃ t, B y4 = t := ⟨_, rfl⟩
  obtain ⟨s5, hs5⟩ : ∃ t, B y5 = t := ⟨_, rfl⟩
  rw [hs0] at u0 hq0 uw0
  simp only [hs1] at u1 HWD uw1
  simp only [hs2] at u2 HD2
  simp only [hs3] at u3 HD3
  simp only [hs4] at u4 HD4
  simp only [hs5] at u5 HD5
  have HS1 := Lib.hid hs1
  clear hv hat hcs hl hc hn h6 hX hb hk hx up hPD hx2 hx3 hx4 hx5 hn6 hs0 hs1 hs2 hs3 hs4 hs5
  by_cases h0 : y0 = wPolicy
  case neg =>
    rw [decide_eq_false h0] at hq0
    have HZ := Lib.hid (HZ0.out X HK.out (HH0.out h0))
    clear HZ0 HZ1 HH0 HH1 HSIX HD2 HD3 HD4 HD5 HWD h0 HK
    go_enter Tryz.func38, Tryz.ntmps38
    go_wp2
    rw [HXE.out]
    go_wp2
    obtain ⟨q, h1, h2, h3⟩ := HZ.out
    exact bodyPost_ret (h1 _ rfl rfl) rfl ⟨q, rfl, h2, h3⟩
  rw [decide_eq_true h0] at hq0
  obtain ⟨d1, hd1⟩ : ∃ d, Tg.wordB y1 = d := ⟨_, rfl⟩
  have HSX := Lib.hid (HSIX.out h0)
  rw [hd1] at HSX HH1
  simp only [hd1] at HWD
  clear HSIX HH0 h0 hd1
  go_enter Tryz.func38, Tryz.ntmps38
  go_wp2_with fail
  rw [HXE.out]
  clear HXE
  refine (HWD _).out.mono ?_
  rintro e w1 ⟨rfl, q1, hw1⟩
  have HKV : Hid (Blk w1 w.heap.size polTD #[.string ⟨#[]⟩, .int .i64 0, .int .i64 0, .int .i64 0, .int .i64 0] ∧ Below w.heap.size w w1) := by rw [hw1]; exact ⟨HK.out.1, below_drewN HK.out.2 q1⟩
  have v1 : w1.cell? ⟨b, o + 1, none⟩ = some (.string s1) := by rw [hw1]; exact u1
  have v2 : w1.cell? ⟨b, o + 2, none⟩ = some (.string s2) := by rw [hw1]; exact u2
  have v3 : w1.cell? ⟨b, o + 3, none⟩ = some (.string s3) := by rw [hw1]; exact u3
  have v4 : w1.cell? ⟨b, o + 4, none⟩ = some (.string s4) := by rw [hw1]; exact u4
  have v5 : w1.cell? ⟨b, o + 5, none⟩ = some (.string s5) := by rw [hw1]; exact u5
  clear hw1 u0 u1 u2 u3 u4 u5 uw0 uw1 uwl k0 k0f k1 k1f k2 k2f k3 k3f k4 k4f HWD HK hq0
  have k0 := (HKV.out.1.cl 0 _ rfl).1
  have k0f := (HKV.out.1.cl 0 _ rfl).2
  have k1 := (HKV.out.1.cl 1 _ rfl).1
  have k1f := (HKV.out.1.cl 1 _ rfl).2
  have k2 := (HKV.out.1.cl 2 _ rfl).1
  have k2f := (HKV.out.1.cl 2 _ rfl).2
  have k3 := (HKV.out.1.cl 3 _ rfl).1
  have k3f := (HKV.out.1.cl 3 _ rfl).2
  have k4 := (HKV.out.1.cl 4 _ rfl).1
  have k4f := (HKV.out.1.cl 4 _ rfl).2
  cases d1 with
  | false =>
    have HZ := Lib.hid (HZ1.out w1 HKV.out (HH1.out rfl))
    clear HZ0 HZ1 HH1 HSX HD2 HD3 HD4 HD5 HKV
    go_wp2
    obtain ⟨q, h1, h2, h3⟩ := HZ.out
    exact bodyPost_ret (h1 _ rfl rfl) rfl ⟨q, rfl, h2, h3⟩
  | true =>
    have HS2 : Hid (PD.isSome = (x2.isSome && (x3.isSome && (x4.isSome && x5.isSome)))) := (HSX.out rfl).1
    have HS3 := Lib.hid (HSX.out rfl).2
    clear HZ0 HZ1 HH1 HSX
    obtain ⟨g2, hg2⟩ : ∃ g, x2.isSome = g := ⟨_, rfl⟩
    obtain ⟨g3, hg3⟩ : ∃ g, x3.isSome = g := ⟨_, rfl⟩
    obtain ⟨g4, hg4⟩ : ∃ g, x4.isSome = g := ⟨_, rfl⟩
    obtain ⟨g5, hg5⟩ : ∃ g, x5.isSome = g := ⟨_, rfl⟩
    rw [hg2, hg3, hg4, hg5] at HS2
    simp only [hg2] at HD2
    simp only [hg3] at HD3
    simp only [hg4] at HD4
    simp only [hg5] at HD5
    clear hg2 hg3 hg4 hg5
    go_wp2_with fail
    refine (HD2 _).out.mono ?_
    rintro e w2 ⟨n2, rfl, hn2, rfl⟩
    have HN2 := Lib.hid hn2
    clear hn2 HD2
    go_wp2_with fail
    refine (HD3 _).out.mono ?_
    rintro e w2 ⟨n3, rfl, hn3, rfl⟩
    have HN3 := Lib.hid hn3
    clear hn3 HD3
    go_wp2_with fail
    refine (HD4 _).out.mono ?_
    rintro e w2 ⟨n4, rfl, hn4, rfl⟩
    have HN4 := Lib.hid hn4
    clear hn4 HD4
    go_wp2_with fail
    refine (HD5 _).out.mono ?_
    rintro e w2 ⟨n5, rfl, hn5, rfl⟩
    have HN5 := Lib.hid hn5
    clear hn5 HD5
    have HV : Hid (∀ p, PD = some p → (⟨y1, n2, n3, n4, n5⟩ : Pol) = p) := HS3.out n2 n3 n4 n5 HN2.out HN3.out HN4.out HN5.out
    clear HS3 HN2 HN3 HN4 HN5
    have HFIN : Hid (∀ fl : Bool, PD.isSome = fl → ∃ q : Pol, (∀ a, a[2]? = some (.pointer (some ⟨w.heap.size, 0, none⟩)) → a[3]? = some (.bool fl) → (results Tryz.f38 a).run Tryz.prog (((((w1.setCell ⟨w.heap.size, 0, none⟩ (.string s1)).setCell ⟨w.heap.size, 1, none⟩ (.int .i64 n2)).setCell ⟨w.heap.size, 2, none⟩ (.int .i64 n3)).setCell ⟨w.heap.size, 3, none⟩ (.int .i64 n4)).setCell ⟨w.heap.size, 4, none⟩ (.int .i64 n5)) = .ok (.tuple #[polV' q, .bool PD.isSome]) (((((w1.setCell ⟨w.heap.size, 0, none⟩ (.string s1)).setCell ⟨w.heap.size, 1, none⟩ (.int .i64 n2)).setCell ⟨w.heap.size, 2, none⟩ (.int .i64 n3)).setCell ⟨w.heap.size, 3, none⟩ (.int .i64 n4)).setCell ⟨w.heap.size, 4, none⟩ (.int .i64 n5))) ∧ (∀ p, PD = some p → q = p) ∧ Below w.heap.size w (((((w1.setCell ⟨w.heap.size, 0, none⟩ (.string s1)).setCell ⟨w.heap.size, 1, none⟩ (.int .i64 n2)).setCell ⟨w.heap.size, 2, none⟩ (.int .i64 n3)).setCell ⟨w.heap.size, 3, none⟩ (.int .i64 n4)).setCell ⟨w.heap.size, 4, none⟩ (.int .i64 n5))) := fun fl hfl =>
      ⟨⟨y1, n2, n3, n4, n5⟩, fun a h2 h3 => by rw [hfl]; unfold polV'; rw [HS1.out]; exact results_polD _ w.heap.size a fl _ _ _ _ _ (blk5D HKV.out.1 _ _ _ _ _) h2 h3, HV.out, below5D HKV.out.2 (Nat.le_refl _) _ _ _ _ _⟩
    clear HV HKV
    cases g2 with
    | false =>
      have HF := Lib.hid (HFIN.out false HS2.out)
      clear HFIN HS2
      go_wp2
      obtain ⟨q, h1, h2, h3⟩ := HF.out
      exact bodyPost_ret (h1 _ rfl rfl) rfl ⟨q, rfl, h2, h3⟩
    | true =>
      cases g3 with
      | false =>
        have HF := Lib.hid (HFIN.out false HS2.out)
        clear HFIN HS2
        go_wp2
        obtain ⟨q, h1, h2, h3⟩ := HF.out
        exact bodyPost_ret (h1 _ rfl rfl) rfl ⟨q, rfl, h2, h3⟩
      | true =>
        cases g4 with
        | false =>
          have HF := Lib.hid (HFIN.out false HS2.out)
          clear HFIN HS2
          go_wp2
          obtain ⟨q, h1, h2, h3⟩ := HF.out
          exact bodyPost_ret (h1 _ rfl rfl) rfl ⟨q, rfl, h2, h3⟩
        | true =>
          cases g5 with
          | false =>
            have HF := Lib.hid (HFIN.out false HS2.out)
            clear HFIN HS2
            go_wp2
            obtain ⟨q, h1, h2, h3⟩ := HF.out
            exact bodyPost_ret (h1 _ rfl rfl) rfl ⟨q, rfl, h2, h3⟩
          | true =>
            have HF := Lib.hid (HFIN.out true HS2.out)
            clear HFIN HS2
            go_wp2
            obtain ⟨q, h1, h2, h3⟩ := HF.out
            exact bodyPost_ret (h1 _ rfl rfl) rfl ⟨q, rfl, h2, h3⟩
end Ru
end Go.Proofs.YtiahelekgjdjlaaGreatDoor
