/- The law TagSifts: the walk. -/
import Derived.Test.YtpfhfiokmhijmaaTgSiftsMath
import Derived.Test.YtpfhfiokmhijmaaTgThose
import Derived.Deep.RegionHeld3
import Derived.Deep.DeepCutAuto
namespace Go.Proofs.Ytpfhfiokmhijmaa
open Go.RowKit
theorem blk_after {n : Nat} {X w' : World} (hb : Below n X w') {i : Nat} {t : TypeId} {cs : Array Value} (h : Blk X i t cs) (hi : i < n) : Blk w' i t cs := h.below hb hi
theorem blk_newN (w : World) (t : TypeId) (cs : Array Value) (N : Nat) (hN : w.heap.size = N) : Blk (w.alloc (.cells cs t)) N t cs := by subst hN; exact Blk.new w t cs
section
variable {A w : World}
theorem below_al {o : Obj} (h : Below A.heap.size A w) : Below A.heap.size A (w.alloc o) := h.alloc h.size _
theorem below_dr (h : Below A.heap.size A w) : Below A.heap.size A w.drew := below_h h rfl rfl rfl rfl
theorem below_sc {p : Addr} {x : Value} (hp : A.heap.size ≤ p.block) (h : Below A.heap.size A w) : Below A.heap.size A (w.setCell p x) := h.setCell hp _
theorem below_to {w' : World} (h : Below A.heap.size A w) (k : Below w.heap.size w w') : Below A.heap.size A w' := h.trans (k.mono h.size)
end
def Sift2 (B : Nat) (m : ByteArray) (r : List Tg.LabM) (w : World) (e : Ending) (w' : World) : Prop :=
  ∃ a n c, e = .returned (.agg #[.string m, .slice a n c]) ∧ Row w' B (.slice a n c) r ∧ Below w.heap.size w w'
theorem row_1 {wL wO : World} {B : Nat} {v : Value} {l : List Tg.LabM} (h : Row wL B v l) (bO : Below wL.heap.size wL wO) : Row wO B v l := h.stay fun i _ hi => bO.block i hi
theorem row_2 {wL wO : World} {B : Nat} {v : Value} {l : List Tg.LabM} {o : Obj} (h : Row wL B v l) (bO : Below (wL.alloc o).heap.size (wL.alloc o) wO) : Row wO B v l := row_1 (h.alloc o) bO
theorem row_3 {wL wO : World} {B : Nat} {v : Value} {l : List Tg.LabM} {o o' : Obj} (h : Row wL B v l) (bO : Below ((wL.alloc o).alloc o').heap.size ((wL.alloc o).alloc o') wO) : Row wO B v l := row_1 ((h.alloc o).alloc o') bO
/-- what stands behind the two parts -/
def Mid (m : ByteArray) (LL LO : List Tg.LabM) (w2 : World) (s5 s6 : Value) (wc : World) : Prop :=
  ∃ b5 b6 aL nL cL aO nO cO, s5 = .pointer (some ⟨b5, 0, none⟩) ∧ s6 = .pointer (some ⟨b6, 0, none⟩) ∧ b5 ≠ b6 ∧ w2.heap.size ≤ b5 ∧ w2.heap.size ≤ b6 ∧ Blk wc b5 25 #[.string m, .slice aL nL cL] ∧ Blk wc b6 25 #[.string m, .slice aO nO cO] ∧
    Row wc w2.heap.size (.slice aL nL cL) LL ∧ Row wc w2.heap.size (.slice aO nO cO) LO ∧ Below w2.heap.size w2 wc
/-- what stands behind the whole -/
def Mid2 (m : ByteArray) (L : List Tg.Lab) (w2 : World) (s7 s8 : Value) (wc : World) : Prop :=
  ∃ b7 aM nM cM rM, s7 = .pointer (some ⟨b7, 0, none⟩) ∧ s8 = .int .i64 0 ∧ Blk wc b7 25 #[.string m, .slice aM nM cM] ∧ Row wc w2.heap.size (.slice aM nM cM) rM ∧ nM ≤ 100 ∧ Tg.labs rM = L ∧ Below w2.heap.size w2 wc
theorem src_row {w : World} {B n c : Nat} {a : Option Addr} {l : List Tg.LabM} (h : Row w B (.slice a n c) l) : Src w (.slice a n c) l := by
  have hn := row_len h
  subst hn
  refine ⟨a, c, rfl, fun h0 => ?_⟩
  rcases h.2 with ⟨e, hz⟩ | ⟨g, cap, cur, e, _⟩
  · omega
  · injection e with e1 _ _
    subst e1
    exact ⟨_, rfl, fun j u hu => by rw [add_at, Nat.zero_add]; exact row_cell h j u hu⟩
theorem blk_g {w w' : World} {g : Nat} {t : TypeId} {cs : Array Value} {row : Option Nat} (h : Blk w g t cs) (hg : w.grownBy w' row) (hne : row ≠ some g) : Blk w' g t cs := (hg.block g h.lt (Ne.symm hne)).trans h
theorem gr_h {w x w' : World} {row : Option Nat} (hg : x.grownBy w' row) (e1 : x.os = w.os := by rfl) (e2 : x.tape = w.tape := by rfl) (e3 : x.output = w.output := by rfl) (e4 : x.heap = w.heap := by rfl) : w.grownBy w' row :=
  ⟨hg.os.trans e1, hg.tape.trans e2, hg.output.trans e3, by rw [← e4]; exact hg.size, fun k hk hr => by rw [← e4]; exact hg.block k (by rw [e4]; exact hk) hr⟩
theorem row_other {W : World} {B g : Nat} {v : Value} {l : List Tg.LabM} {cs : Array Value} (h : Row W B v l) (hb : Blk W g 25 cs) : v.ownBlock ≠ some g := fun e => by
  rcases h.2 with ⟨rfl, _⟩ | ⟨g', cap, cur, rfl, _, hh, _⟩
  · cases e
  · have e' : g' = g := by simpa [Value.ownBlock] using e
    subst e'
    rw [show W.heap[g']? = _ from hb] at hh
    simp at hh
theorem row_keep {W W' : World} {B : Nat} {v : Value} {l : List Tg.LabM} (h : Row W B v l) (hk : ∀ g, v.ownBlock = some g → W'.heap[g]? = W.heap[g]?) : Row W' B v l := by
  rcases h.2 with h0 | ⟨g, cap, cur, e, hg, hh, r⟩
  · exact ⟨h.1, .inl h0⟩
  · exact ⟨h.1, .inr ⟨g, cap, cur, e, hg, (hk g (by rw [e]; rfl)).trans hh, r⟩⟩
theorem fin7_set {m : ByteArray} {L : List Tg.Lab} {w2 wM : World} {b7 : Nat} {aM : Option Addr} {nM cM : Nat} {rM : List Tg.LabM} {x y : Value} (h7 : Blk wM b7 25 #[x, y]) (z7 : w2.heap.size ≤ b7) (hR : Row wM w2.heap.size (.slice aM nM cM) rM) (hb : Below w2.heap.size w2 wM) (hM : nM ≤ 100 ∧ Tg.labs rM = L) :
    Mid2 m L w2 (.pointer (some ⟨b7, 0, none⟩)) (.int .i64 0) ((wM.setCell ⟨b7, 0, none⟩ (.string m)).setCell ⟨b7, 1, none⟩ (.slice aM nM cM)) :=
  ⟨b7, aM, nM, cM, rM, rfl, rfl, (h7.set 0 _).set 1 _, row_keep hR fun g e => (heap_set (p := ⟨b7, 1, none⟩) (fun e' => row_other hR h7 (by rw [e]; exact congrArg some e'.symm))).trans (heap_set (p := ⟨b7, 0, none⟩) (fun e' => row_other hR h7 (by rw [e]; exact congrArg some e'.symm))), hM.1, hM.2, (hb.setCell (p := ⟨b7, 0, none⟩) z7 _).setCell (p := ⟨b7, 1, none⟩) z7 _⟩
theorem fin7_new {m : ByteArray} {L : List Tg.Lab} {w2 wM : World} {aM : Option Addr} {nM cM : Nat} {rM : List Tg.LabM} (hR : Row wM w2.heap.size (.slice aM nM cM) rM) (hb : Below w2.heap.size w2 wM) (hM : nM ≤ 100 ∧ Tg.labs rM = L) :
    Mid2 m L w2 (.pointer (some ⟨wM.heap.size, 0, none⟩)) (.int .i64 0) (wM.alloc (.cells #[.string m, .slice aM nM cM] 25)) :=
  ⟨_, aM, nM, cM, rM, rfl, rfl, Blk.new wM _ _, hR.alloc _, hM.1, hM.2, below_al hb⟩
theorem fin_set {m : ByteArray} {LL LO : List Tg.LabM} {w2 wz : World} {b5 b6 : Nat} {aL aO : Option Addr} {nL cL nO cO : Nat} {x5 y5 x6 y6 : Value} (h5 : Blk wz b5 25 #[x5, y5]) (h6 : Blk wz b6 25 #[x6, y6]) (hne : b5 ≠ b6) (z5 : w2.heap.size ≤ b5) (z6 : w2.heap.size ≤ b6)
    (hL : Row wz w2.heap.size (.slice aL nL cL) LL) (hO : Row wz w2.heap.size (.slice aO nO cO) LO) (hb : Below w2.heap.size w2 wz) :
    Mid m LL LO w2 (.pointer (some ⟨b5, 0, none⟩)) (.pointer (some ⟨b6, 0, none⟩)) ((((wz.setCell ⟨b5, 0, none⟩ (.string m)).setCell ⟨b5, 1, none⟩ (.slice aL nL cL)).setCell ⟨b6, 0, none⟩ (.string m)).setCell ⟨b6, 1, none⟩ (.slice aO nO cO)) := by
  have k : ∀ g, g ≠ b5 → g ≠ b6 → ((((wz.setCell ⟨b5, 0, none⟩ (.string m)).setCell ⟨b5, 1, none⟩ (.slice aL nL cL)).setCell ⟨b6, 0, none⟩ (.string m)).setCell ⟨b6, 1, none⟩ (.slice aO nO cO)).heap[g]? = wz.heap[g]? := fun g n5 n6 =>
    (((heap_set (p := ⟨b6, 1, none⟩) (Ne.symm n6)).trans (heap_set (p := ⟨b6, 0, none⟩) (Ne.symm n6))).trans (heap_set (p := ⟨b5, 1, none⟩) (Ne.symm n5))).trans (heap_set (p := ⟨b5, 0, none⟩) (Ne.symm n5))
  refine ⟨b5, b6, aL, nL, cL, aO, nO, cO, rfl, rfl, hne, z5, z6, ?_, ?_, ?_, ?_, ?_⟩
  · exact (((h5.set 0 _).set 1 _).other (p := ⟨b6, 0, none⟩) (Ne.symm hne) _).other (p := ⟨b6, 1, none⟩) (Ne.symm hne) _
  · exact (((h6.other (p := ⟨b5, 0, none⟩) hne _).other (p := ⟨b5, 1, none⟩) hne _).set 0 _).set 1 _
  · exact row_keep hL fun g e => k g (fun e' => row_other hL h5 (by rw [e, e'])) (fun e' => row_other hL h6 (by rw [e, e']))
  · exact row_keep hO fun g e => k g (fun e' => row_other hO h5 (by rw [e, e'])) (fun e' => row_other hO h6 (by rw [e, e']))
  · exact (((hb.setCell (p := ⟨b5, 0, none⟩) z5 _).setCell (p := ⟨b5, 1, none⟩) z5 _).setCell (p := ⟨b6, 0, none⟩) z6 _).setCell (p := ⟨b6, 1, none⟩) z6 _
theorem row_al {W : World} {B : Nat} {v : Value} {l : List Tg.LabM} (h : Row W B v l) (o : Obj) : Row (W.alloc o) B v l := h.alloc o
/-- one of the two is made behind both calls, whole -/
theorem fin_mix {m : ByteArray} {LL LO : List Tg.LabM} {w2 wz : World} {b6 : Nat} {aL aO : Option Addr} {nL cL nO cO : Nat} {x6 y6 : Value} (h6 : Blk wz b6 25 #[x6, y6]) (z6 : w2.heap.size ≤ b6)
    (hL : Row wz w2.heap.size (.slice aL nL cL) LL) (hO : Row wz w2.heap.size (.slice aO nO cO) LO) (hb : Below w2.heap.size w2 wz) :
    Mid m LL LO w2 (.pointer (some ⟨wz.heap.size, 0, none⟩)) (.pointer (some ⟨b6, 0, none⟩)) (((wz.alloc (.cells #[.string m, .slice aL nL cL] 25)).setCell ⟨b6, 0, none⟩ (.string m)).setCell ⟨b6, 1, none⟩ (.slice aO nO cO)) := by
  have h5 := Blk.new wz 25 #[.string m, .slice aL nL cL]
  have h6a := h6.alloc (.cells #[.string m, .slice aL nL cL] 25)
  have hne : wz.heap.size ≠ b6 := by have := h6.lt; omega
  have k : ∀ g, g ≠ b6 → (((wz.alloc (.cells #[.string m, .slice aL nL cL] 25)).setCell ⟨b6, 0, none⟩ (.string m)).setCell ⟨b6, 1, none⟩ (.slice aO nO cO)).heap[g]? = (wz.alloc (.cells #[.string m, .slice aL nL cL] 25)).heap[g]? := fun g n6 =>
    (heap_set (p := ⟨b6, 1, none⟩) (Ne.symm n6)).trans (heap_set (p := ⟨b6, 0, none⟩) (Ne.symm n6))
  refine ⟨wz.heap.size, b6, aL, nL, cL, aO, nO, cO, rfl, rfl, hne, hb.size, z6, ?_, ?_, ?_, ?_, ?_⟩
  · exact (h5.other (p := ⟨b6, 0, none⟩) (Ne.symm hne) _).other (p := ⟨b6, 1, none⟩) (Ne.symm hne) _
  · exact (h6a.set 0 _).set 1 _
  · exact row_keep (hL.alloc _) fun g e => k g (fun e' => row_other (hL.alloc _) h6a (by rw [e, e']))
  · exact row_keep (hO.alloc _) fun g e => k g (fun e' => row_other (hO.alloc _) h6a (by rw [e, e']))
  · exact ((hb.alloc hb.size _).setCell (p := ⟨b6, 0, none⟩) z6 _).setCell (p := ⟨b6, 1, none⟩) z6 _
theorem fin_two {m : ByteArray} {LL LO : List Tg.LabM} {w2 wz : World} {aL aO : Option Addr} {nL cL nO cO : Nat}
    (hL : Row wz w2.heap.size (.slice aL nL cL) LL) (hO : Row wz w2.heap.size (.slice aO nO cO) LO) (hb : Below w2.heap.size w2 wz) :
    Mid m LL LO w2 (.pointer (some ⟨wz.heap.size, 0, none⟩)) (.pointer (some ⟨wz.heap.size + 1, 0, none⟩)) ((wz.alloc (.cells #[.string m, .slice aL nL cL] 25)).alloc (.cells #[.string m, .slice aO nO cO] 25)) :=
  ⟨_, _, aL, nL, cL, aO, nO, cO, rfl, rfl, by omega, hb.size, by have := hb.size; omega, (Blk.new wz _ _).alloc _, blk_newN _ _ _ _ (by simp), (hL.alloc _).alloc _, (hO.alloc _).alloc _, below_al (below_al hb)⟩
theorem fin_swap {m : ByteArray} {LL LO : List Tg.LabM} {w2 wz : World} {aL aO : Option Addr} {nL cL nO cO : Nat}
    (hL : Row wz w2.heap.size (.slice aL nL cL) LL) (hO : Row wz w2.heap.size (.slice aO nO cO) LO) (hb : Below w2.heap.size w2 wz) :
    Mid m LL LO w2 (.pointer (some ⟨wz.heap.size + 1, 0, none⟩)) (.pointer (some ⟨wz.heap.size, 0, none⟩)) ((wz.alloc (.cells #[.string m, .slice aO nO cO] 25)).alloc (.cells #[.string m, .slice aL nL cL] 25)) :=
  ⟨_, _, aL, nL, cL, aO, nO, cO, rfl, rfl, by omega, by have := hb.size; omega, hb.size, blk_newN _ _ _ _ (by simp), (Blk.new wz _ _).alloc _, (hL.alloc _).alloc _, (hO.alloc _).alloc _, below_al (below_al hb)⟩
set_option maxRecDepth 100000 in
set_option maxHeartbeats 16000000 in
theorem tagSifts_walk (m : ByteArray) (a : Option Addr) (len cap : Nat) (f : Nat → Tg.LabM) (na : Option Addr) (nl nc : Nat) (g : Nat → ByteArray) (w : World) (hm : m.size ≤ maxLen) (hlen : len ≤ maxLen) (hI : LabsAt (·.1) w.heap.size w a len f) (hnl : nl ≤ maxLen) (hN : StrsAt w.heap.size w na nl g) :
    Calls Try.prog 4 #[.agg #[.string m, .slice a len cap], .slice na nl nc] w fun e w' => e = .returned (.bool true) ∧ Below w.heap.size w w' := by
  have hB0 : Below w.heap.size w (w.alloc (.cells #[.string m, .slice a len cap] 25)) := (Below.refl _ w).alloc (Nat.le_refl _) _
  have bx0 := Blk.new w 25 #[.string m, .slice a len cap]
  have hs0 : (w.alloc (.cells #[.string m, .slice a len cap] 25)).heap.size = w.heap.size + 1 := by simp
  have HI := Lib.hid hI
  have HNM := Lib.hid hN
  have HNL := Lib.hid hnl
  clear hI hN
  go_enter Try.func4, Try.ntmps4
  go_wp2_with fail
  refine (awake_any _).mono ?_
  rintro e w1 ⟨rfl, hb1⟩
  rw [hs0] at hb1
  have hB1 : Below w.heap.size w w1 := hB0.trans (hb1.mono (by omega))
  have hz1 : w.heap.size + 1 ≤ w1.heap.size := by have := hb1.size; omega
  have bx1 := bx0.below hb1 (by omega)
  have c10 := (bx1.cl 0 _ rfl).1
  have c11 := (bx1.cl 1 _ rfl).1
  have hG := Lib.hid (refGood_any m hm a len cap f hlen w1 ((HI.out.below hB1).mono hB1.size))
  have HGB : Hid (Tg.goodB m (Tg.labs (Tg.upto f len)) = Tg.goodB m (Tg.labs (Tg.upto f len))) := rfl
  unfold maxLen at hnl
  cases hgd : Tg.goodB m (Tg.labs (Tg.upto f len)) with
  | false =>
    rw [hgd] at hG
    go_wp2_with fail
    refine hG.out.mono ?_
    rintro e w2 ⟨rfl, hb2⟩
    go_wp2_with fail
    refine (awake_any _).mono ?_
    rintro e w3 ⟨rfl, hb3⟩
    go_wp2
    go_ret
    exact ⟨rfl, (hB1.trans (hb2.mono hB1.size)).trans (hb3.mono (Nat.le_trans hB1.size hb2.size))⟩
  | true =>
    rw [hgd] at hG
    have HGD := Lib.hid hgd
    clear hgd HGB
    by_cases h20 : 20 < nl
    · have h20' : (20 : Int) < (nl : Int) := by omega
      go_wp2_with fail
      refine hG.out.mono ?_
      rintro e w2 ⟨rfl, hb2⟩
      go_wp2_with fail
      refine (awake_any _).mono ?_
      rintro e w3 ⟨rfl, hb3⟩
      go_wp2
      go_ret
      exact ⟨rfl, (hB1.trans (hb2.mono hB1.size)).trans (hb3.mono (Nat.le_trans hB1.size hb2.size))⟩
    · have h20' : ¬ (20 : Int) < (nl : Int) := by omega
      go_wp2_with fail
      refine hG.out.mono ?_
      rintro e w2 ⟨rfl, hb2⟩
      have hB2 : Below w.heap.size w w2 := hB1.trans (hb2.mono hB1.size)
      have bx2 := bx1.below hb2 (by omega)
      have c20 := (bx2.cl 0 _ rfl).1
      have c21 := (bx2.cl 1 _ rfl).1
      have hz2 : w.heap.size < w2.heap.size := by have := hb2.size; omega
      have hl6 : len ≤ 6 := by
        have h := HGD.out
        simp only [Tg.goodB, Bool.and_eq_true, decide_eq_true_eq] at h
        have := h.1.2
        simpa [Tg.labs, Tg.upto_len] using this
      have HL : Hid (∀ w', Below w2.heap.size w2 w' → Calls Try.prog 11 #[.agg #[.string m, .slice a len cap], .slice na nl nc] w' (Sift2 w2.heap.size m (Tg.sift (Tg.upto g nl) false (Tg.upto f len)) w')) := fun w' hb => by
        have hB' : Below w.heap.size w w' := hB2.trans (hb.mono hB2.size)
        exact (less_any m a len cap f na nl nc g (by omega) HNL.out w' ((HI.out.below hB').mono hB'.size) ((HNM.out.below hB').mono hB'.size)).mono fun e w'' ⟨a1, n1, c1, he, hr, hbb⟩ => ⟨a1, n1, c1, he, hr.base hb.size, hbb⟩
      have HO : Hid (∀ w', Below w2.heap.size w2 w' → Calls Try.prog 12 #[.agg #[.string m, .slice a len cap], .slice na nl nc] w' (Sift2 w2.heap.size m (Tg.sift (Tg.upto g nl) true (Tg.upto f len)) w')) := fun w' hb => by
        have hB' : Below w.heap.size w w' := hB2.trans (hb.mono hB2.size)
        exact (only_any m a len cap f na nl nc g (by omega) HNL.out w' ((HI.out.below hB').mono hB'.size) ((HNM.out.below hB').mono hB'.size)).mono fun e w'' ⟨a1, n1, c1, he, hr, hbb⟩ => ⟨a1, n1, c1, he, hr.base hb.size, hbb⟩
      clear hG hb1 hb2 bx0 bx1 c10 c11
      have HK : Hid (∀ w', Below w2.heap.size w2 w' → w'.cell? ⟨w.heap.size, 0, none⟩ = some (.string m) ∧ w'.cell? ⟨w.heap.size, 1, none⟩ = some (.slice a len cap)) := fun w' hb => ⟨(hb.cell (p := ⟨w.heap.size, 0, none⟩) hz2).trans c20, (hb.cell (p := ⟨w.heap.size, 1, none⟩) hz2).trans c21⟩
      go_upto_region 3 with (fail)
      go_cut [5, 6] (fun s5 s6 wc => Mid m (Tg.sift (Tg.upto g nl) false (Tg.upto f len)) (Tg.sift (Tg.upto g nl) true (Tg.upto f len)) w2 s5 s6 wc)
      case first =>
        go_region_held3 (fun w' => w'.cell? ⟨w.heap.size, 0, none⟩ = some (.string m) ∧ w'.cell? ⟨w.heap.size, 1, none⟩ = some (.slice a len cap)) ((refine HK.out _ ?_; (repeat (first | exact BO | exact BL | exact Below.refl _ _ | refine below_dr ?_ | refine below_al ?_ | refine below_sc (by first | exact Nat.le_refl _ | (dsimp only; omega)) ?_))))
          (first
            | (go_at_call 11; refine (HL.out _ (by (repeat (first | exact BO | exact BL | exact Below.refl _ _ | refine below_dr ?_ | refine below_al ?_ | refine below_sc (by first | exact Nat.le_refl _ | (dsimp only; omega)) ?_)))).mono ?_; rintro e wL ⟨aL, nL, cL, rfl, RL, bL⟩; have BL : Below w2.heap.size w2 wL := below_to (by (repeat (first | exact BO | exact BL | exact Below.refl _ _ | refine below_dr ?_ | refine below_al ?_ | refine below_sc (by first | exact Nat.le_refl _ | (dsimp only; omega)) ?_))) bL; have sL := BL.size; have qL := bL.size; (try simp at qL); (first | (have K5 := blk_after bL ((Blk.new w2 25 #[.string ⟨#[]⟩, .slice none 0 0]).alloc (.cells #[.string ⟨#[]⟩, .slice none 0 0] 25)) (by first | (simp; done) | (simp; omega) | omega); have K6 := blk_after bL (blk_newN (w2.alloc (.cells #[.string ⟨#[]⟩, .slice none 0 0] 25)) 25 #[.string ⟨#[]⟩, .slice none 0 0] (w2.heap.size + 1) (by simp)) (by first | (simp; done) | (simp; omega) | omega); have x0 := (K5.cl 0 _ rfl).1; have x1 := (K5.cl 1 _ rfl).1; have x2 := (K5.cl 0 _ rfl).2; have x3 := (K5.cl 1 _ rfl).2; have y0 := (K6.cl 0 _ rfl).1; have y1 := (K6.cl 1 _ rfl).1; have y2 := (K6.cl 0 _ rfl).2; have y3 := (K6.cl 1 _ rfl).2) | (have K5 := blk_after bL (Blk.new w2 25 #[.string ⟨#[]⟩, .slice none 0 0]) (by first | (simp; done) | (simp; omega) | omega); have x0 := (K5.cl 0 _ rfl).1; have x1 := (K5.cl 1 _ rfl).1; have x2 := (K5.cl 0 _ rfl).2; have x3 := (K5.cl 1 _ rfl).2) | skip))
            | (go_at_call 12; refine (HO.out _ (by (repeat (first | exact BO | exact BL | exact Below.refl _ _ | refine below_dr ?_ | refine below_al ?_ | refine below_sc (by first | exact Nat.le_refl _ | (dsimp only; omega)) ?_)))).mono ?_; rintro e wO ⟨aO, nO, cO, rfl, RO, bO⟩; have BO : Below w2.heap.size w2 wO := below_to (by (repeat (first | exact BO | exact BL | exact Below.refl _ _ | refine below_dr ?_ | refine below_al ?_ | refine below_sc (by first | exact Nat.le_refl _ | (dsimp only; omega)) ?_))) bO; have sO := BO.size; have qO := bO.size; (try simp at qO); (first | (have K5o := blk_after bO K5 (by first | (simp; done) | (simp; omega) | omega); have K6o := blk_after bO K6 (by first | (simp; done) | (simp; omega) | omega); have p0 := (K5o.cl 0 _ rfl).1; have p1 := (K5o.cl 1 _ rfl).1; have p2 := (K5o.cl 0 _ rfl).2; have p3 := (K5o.cl 1 _ rfl).2; have q0 := (K6o.cl 0 _ rfl).1; have q1 := (K6o.cl 1 _ rfl).1; have q2 := (K6o.cl 0 _ rfl).2; have q3 := (K6o.cl 1 _ rfl).2) | (have K5o := blk_after bO (K5.alloc (.cells #[.string ⟨#[]⟩, .slice none 0 0] 25)) (by first | (simp; done) | (simp; omega) | omega); have KAo := blk_after bO (Blk.new wL 25 #[.string ⟨#[]⟩, .slice none 0 0]) (by first | (simp; done) | (simp; omega) | omega); have p0 := (K5o.cl 0 _ rfl).1; have p1 := (K5o.cl 1 _ rfl).1; have p2 := (K5o.cl 0 _ rfl).2; have p3 := (K5o.cl 1 _ rfl).2; have q0 := (KAo.cl 0 _ rfl).1; have q1 := (KAo.cl 1 _ rfl).1; have q2 := (KAo.cl 0 _ rfl).2; have q3 := (KAo.cl 1 _ rfl).2) | (have K5o := blk_after bO K5 (by first | (simp; done) | (simp; omega) | omega); have p0 := (K5o.cl 0 _ rfl).1; have p1 := (K5o.cl 1 _ rfl).1; have p2 := (K5o.cl 0 _ rfl).2; have p3 := (K5o.cl 1 _ rfl).2; have r0 := ((K5o.alloc (.cells #[.string ⟨#[]⟩, .slice none 0 0] 25)).cl 0 _ rfl).1; have r1 := ((K5o.alloc (.cells #[.string ⟨#[]⟩, .slice none 0 0] 25)).cl 1 _ rfl).1; have r2 := ((K5o.alloc (.cells #[.string ⟨#[]⟩, .slice none 0 0] 25)).cl 0 _ rfl).2; have r3 := ((K5o.alloc (.cells #[.string ⟨#[]⟩, .slice none 0 0] 25)).cl 1 _ rfl).2; have s0 := ((K5o.alloc (.cells #[.string m, .slice aL nL cL] 25)).cl 0 _ rfl).1; have s1 := ((K5o.alloc (.cells #[.string m, .slice aL nL cL] 25)).cl 1 _ rfl).1; have s2 := ((K5o.alloc (.cells #[.string m, .slice aL nL cL] 25)).cl 0 _ rfl).2; have s3 := ((K5o.alloc (.cells #[.string m, .slice aL nL cL] 25)).cl 1 _ rfl).2) | (have KAo := blk_after bO ((Blk.new wL 25 #[.string ⟨#[]⟩, .slice none 0 0]).alloc (.cells #[.string ⟨#[]⟩, .slice none 0 0] 25)) (by first | (simp; done) | (simp; omega) | omega); have KBo := blk_after bO (blk_newN (wL.alloc (.cells #[.string ⟨#[]⟩, .slice none 0 0] 25)) 25 #[.string ⟨#[]⟩, .slice none 0 0] (wL.heap.size + 1) (by simp)) (by first | (simp; done) | (simp; omega) | omega); have p0 := (KAo.cl 0 _ rfl).1; have p1 := (KAo.cl 1 _ rfl).1; have p2 := (KAo.cl 0 _ rfl).2; have p3 := (KAo.cl 1 _ rfl).2; have q0 := (KBo.cl 0 _ rfl).1; have q1 := (KBo.cl 1 _ rfl).1; have q2 := (KBo.cl 0 _ rfl).2; have q3 := (KBo.cl 1 _ rfl).2) | (have KAo := blk_after bO (Blk.new wL 25 #[.string ⟨#[]⟩, .slice none 0 0]) (by first | (simp; done) | (simp; omega) | omega); have p0 := (KAo.cl 0 _ rfl).1; have p1 := (KAo.cl 1 _ rfl).1; have p2 := (KAo.cl 0 _ rfl).2; have p3 := (KAo.cl 1 _ rfl).2; have r0 := ((KAo.alloc (.cells #[.string ⟨#[]⟩, .slice none 0 0] 25)).cl 0 _ rfl).1; have r1 := ((KAo.alloc (.cells #[.string ⟨#[]⟩, .slice none 0 0] 25)).cl 1 _ rfl).1; have r2 := ((KAo.alloc (.cells #[.string ⟨#[]⟩, .slice none 0 0] 25)).cl 0 _ rfl).2; have r3 := ((KAo.alloc (.cells #[.string ⟨#[]⟩, .slice none 0 0] 25)).cl 1 _ rfl).2; have s0 := ((KAo.alloc (.cells #[.string m, .slice aL nL cL] 25)).cl 0 _ rfl).1; have s1 := ((KAo.alloc (.cells #[.string m, .slice aL nL cL] 25)).cl 1 _ rfl).1; have s2 := ((KAo.alloc (.cells #[.string m, .slice aL nL cL] 25)).cl 0 _ rfl).2; have s3 := ((KAo.alloc (.cells #[.string m, .slice aL nL cL] 25)).cl 1 _ rfl).2) | skip)))
        · go_wp2
          go_meet
          case rel => exact fin_two (row_1 RL bO) RO BO
        · go_wp2
          go_meet
          case rel => exact fin_swap (row_1 RL bO) RO BO
        · go_wp2
          go_meet
          case rel => exact fin_set (KAo.alloc (.cells #[.string ⟨#[]⟩, .slice none 0 0] 25)) (Blk.new wO _ _) (by omega) (by omega) (by omega) ((row_2 RL bO).alloc (.cells #[.string ⟨#[]⟩, .slice none 0 0] 25)) (RO.alloc (.cells #[.string ⟨#[]⟩, .slice none 0 0] 25)) (below_al BO)
        · go_wp2
          go_meet
          case rel => exact fin_set KAo KBo (by omega) (by omega) (by omega) (row_3 RL bO) RO BO
        · go_wp2
          go_meet
          case rel => exact fin_mix KAo (by omega) (row_2 RL bO) RO BO
        · go_wp2
          go_meet
          case rel => exact fin_set KBo KAo (by omega) (by omega) (by omega) (row_3 RL bO) RO BO
        · go_wp2
          go_meet
          case rel => exact fin_set (K5o.alloc (.cells #[.string ⟨#[]⟩, .slice none 0 0] 25)) (Blk.new wO _ _) (by omega) (by omega) (by omega) ((row_1 RL bO).alloc (.cells #[.string ⟨#[]⟩, .slice none 0 0] 25)) (RO.alloc (.cells #[.string ⟨#[]⟩, .slice none 0 0] 25)) (below_al BO)
        · go_wp2
          go_meet
          case rel => exact fin_set K5o KAo (by omega) (by omega) (by omega) (row_2 RL bO) RO BO
        · go_wp2
          go_meet
          case rel => exact fin_set K5o K6o (by omega) (by omega) (by omega) (row_1 RL bO) RO BO
        · go_wp2
          go_meet
          case rel => exact fin_mix K5o (by omega) (row_1 RL bO) RO BO
        · go_wp2
          go_meet
          case rel => exact fin_set KAo K5o (by omega) (by omega) (by omega) (row_2 RL bO) RO BO
        · go_wp2
          go_meet
          case rel => exact fin_set K6o K5o (by omega) (by omega) (by omega) (row_1 RL bO) RO BO
      case rest =>
        obtain ⟨b5, b6, aL, nL, cL, aO, nO, cO, rfl, rfl, hne, z5, z6, k5, k6, RL, RO, BC⟩ := hcut
        clear HL HO HK
        have cw := blk_after BC bx2 (by omega)
        obtain ⟨LL, hLL⟩ : ∃ LL, Tg.sift (Tg.upto g nl) false (Tg.upto f len) = LL := ⟨_, rfl⟩
        obtain ⟨LO, hLO⟩ : ∃ LO, Tg.sift (Tg.upto g nl) true (Tg.upto f len) = LO := ⟨_, rfl⟩
        have hlens : LL.length ≤ 6 ∧ LO.length ≤ 6 := by
          have h1 := List.length_filter_le (fun x : Tg.LabM => Lib.containsS (Tg.upto g nl) x.1.1 == false) (Tg.upto f len)
          have h2 := List.length_filter_le (fun x : Tg.LabM => Lib.containsS (Tg.upto g nl) x.1.1 == true) (Tg.upto f len)
          rw [Tg.upto_len] at h1 h2
          rw [← hLL, ← hLO]
          exact ⟨Nat.le_trans h1 hl6, Nat.le_trans h2 hl6⟩
        have HMADE := Lib.hid (Tg.sifts_made (Tg.upto g nl) HGD.out)
        rw [hLL, hLO] at HMADE
        have HSF : Hid (∀ w', Below wc.heap.size wc w' → Calls Try.prog 13 #[.agg #[.string m, .slice a len cap], .slice na nl nc, .bool false] w' fun e wS => ∃ aS nS cS, e = .returned (.agg #[.string m, .slice aS nS cS]) ∧ Row wS wc.heap.size (.slice aS nS cS) LL ∧ Below wc.heap.size wc wS) := fun w' hb => by
          have hB' : Below w.heap.size w w' := (hB2.trans (BC.mono hB2.size)).trans (hb.mono (Nat.le_trans hB2.size BC.size))
          rw [← hLL]
          exact (refSifted_any m a len cap f na nl nc g false (by omega) HNL.out w' ((HI.out.below hB').mono hB'.size) ((HNM.out.below hB').mono hB'.size)).mono fun e wS ⟨aS, nS, cS, he, hr, hbb⟩ => ⟨aS, nS, cS, he, hr.base hb.size, hb.trans (hbb.mono hb.size)⟩
        have HST : Hid (∀ w', Below wc.heap.size wc w' → Calls Try.prog 13 #[.agg #[.string m, .slice a len cap], .slice na nl nc, .bool true] w' fun e wS => ∃ aS nS cS, e = .returned (.agg #[.string m, .slice aS nS cS]) ∧ Row wS wc.heap.size (.slice aS nS cS) LO ∧ Below wc.heap.size wc wS) := fun w' hb => by
          have hB' : Below w.heap.size w w' := (hB2.trans (BC.mono hB2.size)).trans (hb.mono (Nat.le_trans hB2.size BC.size))
          rw [← hLO]
          exact (refSifted_any m a len cap f na nl nc g true (by omega) HNL.out w' ((HI.out.below hB').mono hB'.size) ((HNM.out.below hB').mono hB'.size)).mono fun e wS ⟨aS, nS, cS, he, hr, hbb⟩ => ⟨aS, nS, cS, he, hr.base hb.size, hb.trans (hbb.mono hb.size)⟩
        rw [hLL] at RL
        rw [hLO] at RO
        have HQL : Hid (∀ wS aS nS cS, Below wc.heap.size wc wS → Row wS wc.heap.size (.slice aS nS cS) LL → Calls Try.prog 8 #[.agg #[.string m, .slice aL nL cL], .agg #[.string m, .slice aS nS cS]] wS fun e wQ => e = .returned (.bool true) ∧ Below wc.heap.size wc wQ) := fun wS aS nS cS hb hr =>
          (same_rows m aL aS nL nS cL cS LL LL wS (RL.below hb (Nat.le_refl _)) hr (by have := row_len RL; omega) rfl).mono fun e wQ ⟨he, hq⟩ => ⟨he, hb.trans (hq.mono hb.size)⟩
        have HQO : Hid (∀ wS aS nS cS, Below wc.heap.size wc wS → Row wS wc.heap.size (.slice aS nS cS) LO → Calls Try.prog 8 #[.agg #[.string m, .slice aO nO cO], .agg #[.string m, .slice aS nS cS]] wS fun e wQ => e = .returned (.bool true) ∧ Below wc.heap.size wc wQ) := fun wS aS nS cS hb hr =>
          (same_rows m aO aS nO nS cO cS LO LO wS (RO.below hb (Nat.le_refl _)) hr (by have := row_len RO; omega) rfl).mono fun e wQ ⟨he, hq⟩ => ⟨he, hb.trans (hq.mono hb.size)⟩
        have HC : Hid (∀ w', Below wc.heap.size wc w' → (w'.cell? ⟨w.heap.size, 0, none⟩ = some (.string m) ∧ w'.cell? ⟨w.heap.size, 1, none⟩ = some (.slice a len cap)) ∧ (w'.cell? ⟨b5, 0, none⟩ = some (.string m) ∧ w'.cell? ⟨b5, 1, none⟩ = some (.slice aL nL cL)) ∧ (w'.cell? ⟨b6, 0, none⟩ = some (.string m) ∧ w'.cell? ⟨b6, 1, none⟩ = some (.slice aO nO cO))) := fun w' hb =>
          ⟨⟨((cw.below hb cw.lt).cl 0 _ rfl).1, ((cw.below hb cw.lt).cl 1 _ rfl).1⟩, ⟨((k5.below hb k5.lt).cl 0 _ rfl).1, ((k5.below hb k5.lt).cl 1 _ rfl).1⟩, ⟨((k6.below hb k6.lt).cl 0 _ rfl).1, ((k6.below hb k6.lt).cl 1 _ rfl).1⟩⟩
        have HBW := Lib.hid (hB2.trans (BC.mono hB2.size))
        have HRL := Lib.hid RL
        have HRO := Lib.hid RO
        have HK5 := Lib.hid k5
        have HK6 := Lib.hid k6
        have HCW := Lib.hid cw
        have HLE := Lib.hid hlens
        have HNE := Lib.hid hne
        have hc0 := HC.out wc (Below.refl _ _)
        clear bx2 c20 c21 hz2 hB2 hlens hLL hLO hl6 z5 z6 k5 k6 cw RL RO BC hB0 hs0 hB1 hz1 hne
        go_wp2
        go_region_held3 (fun w' => (w'.cell? ⟨w.heap.size, 0, none⟩ = some (.string m) ∧ w'.cell? ⟨w.heap.size, 1, none⟩ = some (.slice a len cap)) ∧ (w'.cell? ⟨b5, 0, none⟩ = some (.string m) ∧ w'.cell? ⟨b5, 1, none⟩ = some (.slice aL nL cL)) ∧ (w'.cell? ⟨b6, 0, none⟩ = some (.string m) ∧ w'.cell? ⟨b6, 1, none⟩ = some (.slice aO nO cO))) (first | exact HC.out _ BU | exact HC.out _ BT | exact HC.out _ BQ | exact HC.out _ BS | exact HC.out _ (below_dr (Below.refl _ _)))
          (first
            | (go_at_call 8; refine (HQO.out _ _ _ _ BT RT).mono ?_; rintro e wU ⟨rfl, BU⟩)
            | (go_at_call 13; refine (HST.out _ BQ).mono ?_; rintro e wT ⟨aT, nT, cT, rfl, RT, BT⟩)
            | (go_at_call 8; refine (HQL.out _ _ _ _ BS RS).mono ?_; rintro e wQ ⟨rfl, BQ⟩)
            | (go_at_call 13; refine (HSF.out _ (below_dr (Below.refl _ _))).mono ?_; rintro e wS ⟨aS, nS, cS, rfl, RS, BS⟩))
        go_upto_region 6 with (fail)
        have HCU : Hid (∀ w', Below wU.heap.size wU w' → w'.cell? ⟨w.heap.size, 0, none⟩ = some (.string m) ∧ w'.cell? ⟨b5, 1, none⟩ = some (.slice aL nL cL) ∧ w'.cell? ⟨b6, 1, none⟩ = some (.slice aO nO cO)) := fun w' hb => by
          have h := HC.out w' (BU.trans (hb.mono BU.size))
          exact ⟨h.1.1, h.2.1.2, h.2.2.2⟩
        have HSL : Hid (∀ w', Below wU.heap.size wU w' → ∀ x, x = .slice aL nL cL → Src w' x LL) := fun w' hb x hx => by
          rw [hx]
          exact src_row (HRL.out.below (BU.trans (hb.mono BU.size)) (Nat.le_refl _))
        have HSO : Hid (∀ w', Below wU.heap.size wU w' → ∀ x, x = .slice aO nO cO → Src w' x LO) := fun w' hb x hx => by
          rw [hx]
          exact src_row (HRO.out.below (BU.trans (hb.mono BU.size)) (Nat.le_refl _))
        have HMK : Hid (∀ w' v2, Below wU.heap.size wU w' → Row w' wU.heap.size v2 (LL ++ LO) → Calls Try.prog 6 #[.string m, v2] w' fun e wM => ∃ aM nM cM rM, e = .returned (.tuple #[.agg #[.string m, .slice aM nM cM], .int .i64 0]) ∧ Row wM wU.heap.size (.slice aM nM cM) rM ∧ Below wU.heap.size wU wM ∧ Below w'.heap.size w' wM ∧ nM ≤ 100 ∧ Tg.labs rM = Tg.labs (Tg.upto f len)) := fun w' v2 hb hr => by
          obtain ⟨a2, n2, c2, rfl⟩ := row_slice hr
          refine (make_r m hm a2 n2 c2 (LL ++ LO) w' hr (by have q1 := row_len hr; have q2 := HLE.out; rw [List.length_append] at q1; omega)).mono fun e wM ⟨m', aM, nM, cM, rM, he, h1, h2, h3, h4⟩ => ?_
          obtain ⟨rfl, h5⟩ := h4.2 HMADE.out.1
          rw [HMADE.out.1] at he
          exact ⟨aM, nM, cM, rM, he, h1.base hb.size, hb.trans (h2.mono hb.size), h2, h3, h5.trans HMADE.out.2⟩
        have Z10 : Hid (([] : List Tg.LabM).length + LL.length ≤ 1000000) := by show _ ≤ _; have := HLE.out; rw [List.length_nil]; omega
        have Z12 : Hid (LL.length + LO.length ≤ 1000000) := by show _ ≤ _; have := HLE.out; omega
        have HBU := Lib.hid BU
        have hcu := HCU.out wU (Below.refl _ _)
        clear hc0 BT RT BS RS BQ BU HSF HST HQL HQO HC hm hlen hnl h20' h20
        go_cut [7, 8] (fun s7 s8 wx => Mid2 m (Tg.labs (Tg.upto f len)) wU s7 s8 wx)
        case first =>
          go_region_held3 (fun w' => w'.cell? ⟨w.heap.size, 0, none⟩ = some (.string m) ∧ w'.cell? ⟨b5, 1, none⟩ = some (.slice aL nL cL) ∧ w'.cell? ⟨b6, 1, none⟩ = some (.slice aO nO cO)) ((refine HCU.out _ ?_; (repeat (first | exact BM | exact B2 | exact B1 | exact Below.refl _ _ | refine below_dr ?_ | refine below_al ?_ | refine below_sc (by first | exact Nat.le_refl _ | exact B2.size | exact B1.size | (dsimp only; omega)) ?_))))
            (first
              | (go_at_call 6; refine (HMK.out _ _ (by first | with_reducible exact B2 | with_reducible exact below_al B2) (by first | with_reducible exact R2 | with_reducible exact R2.alloc _)).mono ?_; rintro e wM ⟨aM, nM, cM, rM, rfl, RM, BM, bM, hM⟩; (first | (have QM := Q4.below bM Q4.lt; have y0 := (QM.cl 0 _ rfl).1; have y1 := (QM.cl 1 _ rfl).1; have y2 := (QM.cl 0 _ rfl).2; have y3 := (QM.cl 1 _ rfl).2) | (have QM := (Blk.new w4 25 #[.string ⟨#[]⟩, .slice none 0 0]).below bM (by simp); have y0 := (QM.cl 0 _ rfl).1; have y1 := (QM.cl 1 _ rfl).1; have y2 := (QM.cl 0 _ rfl).2; have y3 := (QM.cl 1 _ rfl).2) | skip))
              | (refine step_src (W := wU) (by rfl) _ _ (by rfl) v1 _ LL LO (by rfl) (by rfl) (below_h (B1.alloc B1.size _) rfl rfl rfl rfl) (R1.alloc _) (HSO.out _ (below_h (B1.alloc B1.size _) rfl rfl rfl rfl) _ (by go_simp)) Z12.out ?_; intro v2 w4 R2 B2 G2; have Q4 := blk_g (Blk.new w5 25 #[.string ⟨#[]⟩, .slice none 0 0]) G2 (fun e => by have := (World.ownsRow.lt R1 _ e).2; omega))
              | (refine step_src (W := wU) (by rfl) _ _ (by rfl) v1 _ LL LO (by rfl) (by rfl) (below_h B1 rfl rfl rfl rfl) R1 (HSO.out _ (below_h B1 rfl rfl rfl rfl) _ (by go_simp)) Z12.out ?_; intro v2 w4 R2 B2 G2; (first | (have Q4 := blk_g Q5 G2 (row_other R1 Q5)) | skip))
              | (refine step_src (W := wU) (by rfl) _ _ (by rfl) (.slice (some ⟨wU.heap.size, 0, none⟩) 0 0) _ [] LL (by rfl) (by rfl) (below_h ((Below.refl _ wU).alloc (Nat.le_refl _) _) rfl rfl rfl rfl) (row_new wU _ (Nat.le_refl _)) (HSL.out _ (below_h ((Below.refl _ wU).alloc (Nat.le_refl _) _) rfl rfl rfl rfl) _ (by go_simp)) Z10.out ?_; intro v1 w5 R1 B1 G1)
              | (refine step_src (W := wU) (by rfl) _ _ (by rfl) (.slice (some ⟨wU.heap.size, 0, none⟩) 0 0) _ [] LL (by rfl) (by rfl) (below_h (((Below.refl _ wU).alloc (Nat.le_refl _) _).alloc (by simp) _) rfl rfl rfl rfl) ((row_new wU _ (Nat.le_refl _)).alloc (.cells #[.string ⟨#[]⟩, .slice none 0 0] 25)) (HSL.out _ (below_h (((Below.refl _ wU).alloc (Nat.le_refl _) _).alloc (by simp) _) rfl rfl rfl rfl) _ (by go_simp)) Z10.out ?_; intro v1 w5 R1 B1 G1; have Q5 := blk_g (blk_newN (wU.alloc (.cells #[] 32)) 25 #[.string ⟨#[]⟩, .slice none 0 0] (wU.heap.size + 1) (by simp)) (gr_h G1) (by simp [Value.ownBlock]))
              | (refine step_src (W := wU) (by rfl) _ _ (by rfl) (.slice (some ⟨wU.heap.size + 1, 0, none⟩) 0 0) _ [] LL (by rfl) (by rfl) (below_h (((Below.refl _ wU).alloc (Nat.le_refl _) _).alloc (by simp) _) rfl rfl rfl rfl) (row_newN (wU.alloc _) _ _ (by simp) (Nat.le_succ _)) (HSL.out _ (below_h (((Below.refl _ wU).alloc (Nat.le_refl _) _).alloc (by simp) _) rfl rfl rfl rfl) _ (by go_simp)) Z10.out ?_; intro v1 w5 R1 B1 G1; have Q5 := blk_g ((Blk.new wU 25 #[.string ⟨#[]⟩, .slice none 0 0]).alloc (.cells #[] 32)) (gr_h G1) (by simp [Value.ownBlock])))
          all_goals
            go_wp2
            go_meet
            case rel =>
              first
                | exact fin7_set QM (by have := B1.size; have := B2.size; omega) RM BM hM
                | exact fin7_new RM BM hM
        case rest =>
          obtain ⟨b7, aM, nM, cM, rM, rfl, rfl, k7, RM, hnM, hlM, BX⟩ := hcut
          have c70 := (k7.cl 0 _ rfl).1
          have c71 := (k7.cl 1 _ rfl).1
          have cwx := HCW.out.below (HBU.out.trans (BX.mono HBU.out.size)) HCW.out.lt
          have cx0 := (cwx.cl 0 _ rfl).1
          have cx1 := (cwx.cl 1 _ rfl).1
          have hBx := HBW.out.trans ((HBU.out.trans (BX.mono HBU.out.size)).mono HBW.out.size)
          have HSA := Lib.hid (refSame_any m aM a cM cap nM len (Tg.fnOf rM) f (by unfold maxLen; omega) wc RM.labsAt.2 ((HI.out.below hBx).mono hBx.size) (by rw [row_len RM, Tg.upto_fnOf]; exact hlM))
          have HBX := Lib.hid hBx
          clear cwx k7 RM BX hBx hcu HMK HSL HSO HCU
          go_wp2_with fail
          refine HSA.out.mono ?_
          rintro e wY ⟨rfl, hbY⟩
          go_wp2
          go_ret
          exact ⟨rfl, HBX.out.trans (hbY.mono HBX.out.size)⟩
end Go.Proofs.Ytpfhfiokmhijmaa
