
/- Sacks: All. -/
import Derived.Test.YtahkmdbbicpfcaaSkPut
import Derived.LoopIn
import Derived.Laws.EntriesVeiled
import Derived.Shelf.AbstractIn
namespace Go.Proofs.Ytahkmdbbicpfcaa
open Go.RowKit Go.Shelf
attribute [local go_sem] Oper.semAt_some
namespace Sk
open Rk
/-- what a consumer may change: cells that lay below B, and no tree's -/
def Mild (B : Nat) (W W' : World) : Prop := ∃ ks, Only ks W W' ∧ ∀ k ∈ ks, k < B ∧ ∃ t2 cs2, Blk W k t2 cs2 ∧ 76 ≠ t2
theorem Mild.keeps {B : Nat} {W W' : World} (h : Mild B W W') : Keeps 76 W W' := by
  obtain ⟨ks, h1, h2⟩ := h
  exact h1.keeps _ (fun k hk => (h2 k hk).2)
theorem Mild.others {B : Nat} {W W' : World} (h : Mild B W W') : KeepsOthers W W' := by
  obtain ⟨ks, h1, h2⟩ := h
  exact h1.others (fun k hk => by obtain ⟨-, t2, cs2, hb, -⟩ := h2 k hk; exact ⟨t2, cs2, hb⟩)
theorem Mild.blk {B : Nat} {W W' : World} (h : Mild B W W') {g : Nat} {t : TypeId} {cs : Array Value} (hb : Blk W g t cs) (hg : B ≤ g) : Blk W' g t cs := by
  obtain ⟨ks, h1, h2⟩ := h
  exact h1.blk hb (fun hk => by have := (h2 g hk).1; omega)
/-- f, called with a function, goes through l as far as that asks, in whatever world that only grew -/
def SeqA (w : World) (f : Value) (l : List Int) : Prop := ∃ gf lbf, f = .func (.func gf) #[] lbf ∧ (∀ args w, (callFunc gf args).run Try.prog w = .ok (.enter gf args) w) ∧
  ∀ (g : Nat) (lb : Array Value) (_ : ∀ args w, (callFunc g args).run Try.prog w = .ok (.enter g args) w) (cont : List Int → Bool) (J : List Int → World → Prop) (Jx : World → Prop) (W : World),
    OwnFrom W.heap.size J → OwnFrom W.heap.size (fun (_ : Unit) => Jx) →
    (∀ x rest W1, J (x :: rest) W1 → Calls Try.prog g (#[.int .i64 x] ++ lb) W1 fun e W2 => e = .returned (.bool (cont rest)) ∧ Res J Jx (cont rest) rest W2 ∧ Mild W.heap.size W1 W2) →
    Below w.heap.size w W → J l W → Calls Try.prog gf (#[.func (.func g) #[] lb] ++ lbf) W fun e W' => (∃ v, e = .returned v) ∧ Res J Jx (run cont l []) [] W'
theorem SeqA.below {w w' : World} {f : Value} {l : List Int} (h : SeqA w f l) (hb : Below w.heap.size w w') : SeqA w' f l := by
  obtain ⟨gf, lbf, e, eg, h⟩ := h
  exact ⟨gf, lbf, e, eg, fun g lb e2 cont J Jx W h1 h2 hY hW hJ => h g lb e2 cont J Jx W h1 h2 hY (hb.trans (hW.mono hb.size)) hJ⟩
theorem OwnFrom.up {β : Type} {B B' : Nat} {I : β → World → Prop} (h : OwnFrom B I) (hB : B ≤ B') : OwnFrom B' I := fun s W W' row hs hg hr => h s W W' row hs hg (fun r e => ⟨Nat.le_trans hB (hr r e).1, (hr r e).2⟩)
/-- whether a run's round goes on: where rest is left behind it -/
def contR (cont : List Int → Bool) (L rest : List (Int × Int)) : Bool := match L[L.length - rest.length - 1]? with
  | some e => run cont (List.replicate e.2.toNat e.1) (flat rest)
  | none => true
theorem contR_at (cont : List Int → Bool) (pre rest : List (Int × Int)) (x : Int × Int) : contR cont (pre ++ x :: rest) rest = run cont (List.replicate x.2.toNat x.1) (flat rest) := by
  unfold contR
  rw [show (pre ++ x :: rest).length - rest.length - 1 = pre.length by rw [List.length_append, List.length_cons]; omega, List.getElem?_append_right (Nat.le_refl _), Nat.sub_self]
  rfl
theorem contR_run (cont : List Int → Bool) : ∀ (M pre : List (Int × Int)), run (contR cont (pre ++ M)) M [] = run cont (flat M) []
  | [], _ => rfl
  | x :: M, pre => by
    rw [run, List.append_nil, contR_at, flat_cons, run_app, List.append_nil]
    have := contR_run cont M (pre ++ [x])
    rw [List.append_assoc, List.singleton_append] at this
    rw [this]
section
variable (g : Nat) (lb : Array Value) (eg : ∀ args w, (callFunc g args).run Try.prog w = .ok (.enter g args) w) (cont : List Int → Bool) (J : List Int → World → Prop) (Jx : World → Prop)
/-- what holds where rest is left of the runs -/
def AllI (B : Nat) (l : List Int) (rest : List (Int × Int)) (W : World) : Prop := (∃ pre, runs l = pre ++ rest) ∧ J (flat rest) W ∧ Blk W B 64 #[.func (.func g) #[] lb]
theorem allI_own {B B' : Nat} (l : List Int) (hJ : OwnFrom B' J) : OwnFrom B' (AllI g lb J B l) := by
  rintro rest W W' row ⟨h1, h2, h3⟩ hg hr
  have hf : Free W W' := ⟨row, hg, fun r e => (hr r e).2⟩
  exact ⟨h1, hJ _ W W' row h2 hg hr, hf.blk h3⟩
include eg
set_option maxRecDepth 100000 in
set_option maxHeartbeats 4000000 in
theorem all1_any (l : List Int) (hflat : flat (runs l) = l) (hpos : pos (runs l)) (hfit : l.length ≤ 1000) (b : Nat) (f : Value) (W : World) (hb : Blk W b 54 #[f]) (hf : BothI W f (runs l)) (hJo : OwnFrom W.heap.size J) (hJx : OwnFrom W.heap.size (fun (_ : Unit) => Jx))
    (hY : ∀ x rest W1, J (x :: rest) W1 → Calls Try.prog g (#[.int .i64 x] ++ lb) W1 fun e W2 => e = .returned (.bool (cont rest)) ∧ Res J Jx (cont rest) rest W2 ∧ Mild W.heap.size W1 W2) (hJ : J l W) :
    Calls Try.prog 34 #[.func (.func g) #[] lb, .pointer (some ⟨b, 0, none⟩)] W fun e W' => (∃ v, e = .returned v) ∧ Res J Jx (run cont l []) [] W' := by
  refine (callsIn_wide (n := 3)).1 ?_
  refine callsIn_of_wp_marks Try.func34 rfl trivial ?_ rfl
  simp only [Try.ntmps34, List.size_toArray, List.length_cons, List.length_nil, Nat.reduceAdd, Nat.reduceSub, Array.replicate_succ, Array.replicate_zero, List.push_toArray, List.append_toArray, List.nil_append, List.cons_append]
  obtain ⟨X, hX⟩ : ∃ X, W.alloc (.cells #[.func (.func g) #[] lb] 64) = X := ⟨_, rfl⟩
  have hbX : Below W.heap.size W X := by rw [← hX]; exact (Below.refl _ W).alloc (Nat.le_refl _) _
  have bX : Blk X W.heap.size 64 #[.func (.func g) #[] lb] := by rw [← hX]; exact Blk.new W _ _
  have hJX : J l X := by rw [← hX]; exact hJo.alloc _ hJ
  obtain ⟨-, gf, lbf, rfl, eg2, hseq⟩ := hf.below hbX
  have hcb : X.cell? ⟨b, 0, none⟩ = some (.func (.func gf) #[] lbf) := ((hb.below hbX hb.lt).cl 0 _ rfl).1
  have hrun := contR_run cont (runs l) []
  rw [List.nil_append, hflat] at hrun
  have HRU := Lib.hid hrun
  have HFL := Lib.hid hflat
  have HPO := Lib.hid hpos
  have HY := Lib.hid hY
  have HST : Hid (AllI g lb J W.heap.size l (runs l) X) := ⟨⟨[], rfl⟩, by rw [hflat]; exact hJX, bX⟩
  have hXs : W.heap.size < X.heap.size := bX.lt
  clear hf hb hbX bX hJX hJ hflat hpos hY hrun
  gi_wp2_with fail
  clear hX
  refine wpIn_rangeR (by decide) (gf := gf) (lbf := lbf) rfl eg2 hseq (fun h k => h.trans k) (fun W k o o' hk hc _ => (Free.put o' hk hc).keeps _) (Below.refl _ _) (fun _ => rfl)
    (contR cont (runs l)) (AllI g lb J W.heap.size l) (fun c W' => c = .ret ∧ Jx W') (allI_own g lb J l (OwnFrom.up hJo (by omega))) (fun c A B row hs hg hr => ⟨hs.1, (OwnFrom.up hJx (show W.heap.size ≤ X.heap.size by omega)) () A B row hs.2 hg hr⟩) HST.out ?a1 ?assign ?body ?done ?stop
  case assign =>
    intro lp x V K hK
    simp only [encI]
    gi_wp2
    exact hK
  case body =>
    rintro lp x rest V ⟨⟨pre, e1⟩, e2, e3⟩
    have hx1 : 1 ≤ x.2 := HPO.out x (by rw [e1]; simp)
    have hlm : (flat pre).length + x.2.toNat + (flat rest).length = l.length := by
      have := congrArg (fun L => (flat L).length) e1
      rw [HFL.out, flat_app, flat_cons, List.length_append, List.length_append, List.length_replicate] at this
      omega
    obtain ⟨k, hk⟩ : ∃ k : Nat, x.2 = k := ⟨x.2.toNat, by omega⟩
    have hkb : k ≤ 1000 := by omega
    have hct : contR cont (runs l) rest = run cont (List.replicate k x.1) (flat rest) := by rw [e1, contR_at, hk]; simp
    obtain ⟨bb, hbb⟩ : ∃ bb, contR cont (runs l) rest = bb := ⟨_, rfl⟩
    rw [hbb] at hct ⊢
    have HCT := Lib.hid hct
    have HE1 : Hid (∃ pre', runs l = pre' ++ rest) := ⟨pre ++ [x], by rw [e1]; simp⟩
    have HJ0 : Hid (J (List.replicate k x.1 ++ flat rest) V) := by
      have e2' := e2
      rw [flat_cons, hk, show ((k : Nat) : Int).toNat = k by omega] at e2'
      exact e2'
    have HE3 := Lib.hid e3
    obtain ⟨x1, hx1'⟩ : ∃ x1, x.1 = x1 := ⟨_, rfl⟩
    rw [hx1'] at HCT HJ0 ⊢
    rw [hk]
    clear e1 e2 e3 hx1 hlm hct hbb hk hx1'
    gi_wp2_with fail
    gi_loopw [9] (fun v wr => ∃ i : Nat, i ≤ k ∧ v = .int .i64 (i : Int) ∧ Hid (J (List.replicate (k - i) x1 ++ flat rest) wr ∧ bb = run cont (List.replicate (k - i) x1) (flat rest) ∧ Keeps 76 V wr ∧ KeepsOthers V wr ∧ Blk wr W.heap.size 64 #[.func (.func g) #[] lb])) (fun v _ => k - (intOf v).toNat)
    case atStart => exact ⟨0, Nat.zero_le _, rfl, HJ0.out, HCT.out, Keeps.refl _ _, KeepsOthers.refl _, HE3.out⟩
    case round =>
      obtain ⟨i, hik, rfl, HREL⟩ := hrel
      by_cases hlt : i < k
      · have hrep : List.replicate (k - i) x1 = x1 :: List.replicate (k - (i + 1)) x1 := by rw [show k - i = (k - (i + 1)) + 1 by omega, List.replicate_succ]
        have hc0 : wr.cell? ⟨W.heap.size, 0, none⟩ = some (.func (.func g) #[] lb) := (HREL.out.2.2.2.2.cl 0 _ rfl).1
        have hj := HREL.out.1
        have hbr := HREL.out.2.1
        rw [hrep, List.cons_append] at hj
        rw [hrep, run] at hbr
        have HYX := Lib.hid (HY.out x1 _ wr hj)
        have HBR := Lib.hid hbr
        obtain ⟨c, hcc⟩ : ∃ c, cont (List.replicate (k - (i + 1)) x1 ++ flat rest) = c := ⟨_, rfl⟩
        rw [hcc] at HYX HBR
        clear hj hbr hcc hrep
        cases c with
        | true =>
          gi_wp2_with (refine ⟨trivial, ?_⟩; gi_at_fn g; refine (CallsIn.inRound lp (callsIn_wide.2 HYX.out)).mono ?_; rintro e w3 ⟨rfl, R3, M3⟩)
          have HN2 : Hid (J (List.replicate (k - (i + 1)) x1 ++ flat rest) w3 ∧ bb = run cont (List.replicate (k - (i + 1)) x1) (flat rest) ∧ Keeps 76 V w3 ∧ KeepsOthers V w3 ∧ Blk w3 W.heap.size 64 #[.func (.func g) #[] lb]) :=
            ⟨R3.1 rfl, by rw [HBR.out, Bool.true_and], HREL.out.2.2.1.trans M3.keeps, HREL.out.2.2.2.1.trans M3.others, M3.blk HREL.out.2.2.2.2 (Nat.le_refl _)⟩
          clear R3 M3
          go_roundw
          case rel => exact ⟨i + 1, by omega, by simp, HN2⟩
          case measure => simp [intOf]; omega
        | false =>
          gi_wp2_with (refine ⟨trivial, ?_⟩; gi_at_fn g; refine (CallsIn.inRound lp (callsIn_wide.2 HYX.out)).mono ?_; rintro e w3 ⟨rfl, R3, M3⟩)
          exact ⟨HREL.out.2.2.2.1.trans M3.others, HREL.out.2.2.1.trans M3.keeps, by rw [HBR.out, Bool.false_and], rfl, R3.2 rfl⟩
      · obtain rfl : i = k := by omega
        have HFIN : Hid (bb = true ∧ AllI g lb J W.heap.size l rest wr) := by
          obtain ⟨k1, k2, -, -, k5⟩ := HREL.out
          rw [Nat.sub_self] at k1 k2
          exact ⟨k2, HE1.out, k1, k5⟩
        gi_wp2
        exact ⟨HREL.out.2.2.2.1, HREL.out.2.2.1, HFIN.out⟩
  case done =>
    rintro D V hD hr ⟨-, e2, -⟩ hK
    rw [HRU.out] at hr
    have HFIN : Hid (Res J Jx (run cont l []) [] (V.putObj D (.deferred none))) := ⟨fun _ => hJo.putObj _ e2 (by omega) hK rfl, fun h => absurd (hr.symm.trans h) (by decide)⟩
    clear e2 hr
    gi_wp2
    refine ⟨by simp, .inl ⟨_, _, rfl, run_takeDeferred hK, ?_⟩⟩
    exact ⟨_, results_none rfl _ _ _, ⟨_, rfl⟩, HFIN.out⟩
  case stop =>
    rintro D c V hD hr ⟨rfl, e2⟩ hK
    rw [HRU.out] at hr
    have HFIN : Hid (Res J Jx (run cont l []) [] (V.putObj D (.deferred none))) := ⟨fun h => absurd (hr.symm.trans h) (by decide), fun _ => hJx.putObj (s := ()) _ e2 (by omega) hK rfl⟩
    clear e2 hr
    gi_wp2
    refine ⟨by simp, .inl ⟨_, _, rfl, run_takeDeferred hK, ?_⟩⟩
    exact ⟨_, results_none rfl _ _ _, ⟨_, rfl⟩, HFIN.out⟩
end
set_option maxRecDepth 100000 in
theorem All_any {w : World} {s R : Nat} {room : Int} {l : List Int} (h : Sak w s R room l) : Calls Try.prog 19 #[.pointer (some ⟨s, 0, none⟩)] w fun e w' => ∃ f, e = .returned f ∧ SeqA w' f l ∧ Below w.heap.size w w' := by
  have HR := Lib.hid (Runs_any h)
  obtain ⟨T, -, hp⟩ := h.rak
  have HS : Hid (∀ (w1 : World) (f : Value), BothI w1 f (runs l) → Below w.heap.size w w1 → SeqA (w1.alloc (.cells #[f] 54)) (.func (.func 34) #[] #[.pointer (some ⟨w1.heap.size, 0, none⟩)]) l ∧ Below w.heap.size w (w1.alloc (.cells #[f] 54))) := fun w1 f hf hb => by
    have hb1 : Below w1.heap.size w1 (w1.alloc (.cells #[f] 54)) := (Below.refl _ _).alloc (Nat.le_refl _) _
    have hk := Blk.new w1 54 #[f]
    exact ⟨⟨_, _, rfl, fun args w => by kernel_rfl, fun g lb eg cont J Jx W hJo hJx hY hW hJ => all1_any g lb eg cont J Jx l hp.flatr hp.posr (by have := h.len; have := h.room; omega) w1.heap.size f W (hk.below hW hk.lt) ((hf.below hb1).below hW) hJo hJx hY hJ⟩, hb.trans (hb1.mono hb.size)⟩
  clear h hp
  go_enter Try.func19, Try.ntmps19
  go_wp2_with fail
  refine HR.out.mono ?_
  rintro e w1 ⟨f, rfl, hf, hb⟩
  have HZ := Lib.hid (HS.out w1 f hf hb)
  obtain ⟨-, gf, lbf, rfl, -, -⟩ := hf
  clear hb
  go_wp2
  go_ret
  exact ⟨_, rfl, HZ.out⟩
end Sk
end Go.Proofs.Ytahkmdbbicpfcaa
