
/- What drip.Batch answers. -/
import Derived.Test.YtefnpfhhomkiaaaDoorDpLines
import Derived.Test.YtefnpfhhomkiaaaDoorDpRefBatch
namespace Go.Proofs.YtefnpfhhomkiaaaDoor
open Go.RowKit Go.Shelf
attribute [local go_sem] Oper.semAt_some
namespace Dp
attribute [local go_sem ↓] app_eq
def batR (L : List (List UInt8)) : List (List UInt8) := if 20 < (full L).length then [] else full L
def batE (L : List (List UInt8)) : Int := if 20 < (full L).length then 3 else 0
abbrev slT : TypeId := 23
abbrev erT : TypeId := 24
/-- what holds where rest is left of the lines -/
def BatI (w : World) (Lf : List (Nat × List UInt8)) (rest : List (Nat × List UInt8)) (W : World) : Prop :=
  (∃ pre a n k, Lf = pre ++ rest ∧ pre.length ≤ 20 ∧ OwnT W (w.heap.size + 11) (.slice a n k) (pre.map (·.2)) ∧ Blk W (w.heap.size + 2) slT #[.slice a n k]) ∧ Blk W w.heap.size slT #[.slice none 0 0] ∧ Blk W (w.heap.size + 1) erT #[.int .i64 0] ∧ Below w.heap.size w W
def BatX (w : World) (W : World) : Prop := Blk W w.heap.size slT #[.slice none 0 0] ∧ Blk W (w.heap.size + 1) erT #[.int .i64 3] ∧ Below w.heap.size w W
theorem OwnT.ab {b : Nat} {A C : World} {v : Value} {L : List (List UInt8)} (h : OwnT A (b + 5) v L) (ha : Ab5 b A C) : OwnT C (b + 5) v L :=
  Vec.Own.stay h (fun g e => by
    obtain ⟨-, hh⟩ := h
    rcases hh with ⟨rfl, _⟩ | ⟨g', c, cur, rfl, hg, hh, _⟩
    · cases e
    · obtain rfl : g' = g := by injection e
      exact (ha.blk hh (.inr hg)).trans hh.symm)
theorem BatI.ab {w : World} {Lf rest : List (Nat × List UInt8)} {A C : World} (h : BatI w Lf rest A) (ha : Ab5 (w.heap.size + 6) A C) : BatI w Lf rest C := by
  obtain ⟨⟨pre, a, n, k, h1, h2, h3, h4⟩, h5, h6, h7⟩ := h
  refine ⟨⟨pre, a, n, k, h1, h2, OwnT.ab h3 ha, ha.blk h4 (.inl (by omega))⟩, ha.blk h5 (.inl (by omega)), ha.blk h6 (.inl (by omega)), ?_⟩
  obtain ⟨ks, ho, hk⟩ := ha
  exact ⟨ho.os.trans h7.os, ho.tape.trans h7.tape, ho.output.trans h7.output, Nat.le_trans h7.size ho.size, fun j hj => (ho.block j (by have := h7.size; omega) (fun e => by have := (hk j e).1; omega)).trans (h7.block j hj)⟩
theorem BatX.ab {w : World} {A C : World} (h : BatX w A) (ha : Ab5 (w.heap.size + 6) A C) : BatX w C := by
  obtain ⟨h5, h6, h7⟩ := h
  refine ⟨ha.blk h5 (.inl (by omega)), ha.blk h6 (.inl (by omega)), ?_⟩
  obtain ⟨ks, ho, hk⟩ := ha
  exact ⟨ho.os.trans h7.os, ho.tape.trans h7.tape, ho.output.trans h7.output, Nat.le_trans h7.size ho.size, fun j hj => (ho.block j (by have := h7.size; omega) (fun e => by have := (hk j e).1; omega)).trans (h7.block j hj)⟩
theorem OwnT.freed {B : Nat} {A C : World} {v : Value} {L : List (List UInt8)} (h : OwnT A B v L) (ha : Free A C) : OwnT C B v L :=
  Vec.Own.stay h (fun g e => by
    obtain ⟨-, hh⟩ := h
    rcases hh with ⟨rfl, _⟩ | ⟨g', c, cur, rfl, hg, hh, _⟩
    · cases e
    · obtain rfl : g' = g := by injection e
      exact ha.heap hh)
theorem BatI.own {w : World} {Lf : List (Nat × List UInt8)} {c : Nat} (hc : w.heap.size + 4 ≤ c) : OwnFrom c (BatI w Lf) := by
  rintro rest A C row ⟨⟨pre, a, n, k, h1, h2, h3, h4⟩, h5, h6, h7⟩ hg hr
  have hf : Free A C := ⟨row, hg, fun r e => (hr r e).2⟩
  exact ⟨⟨pre, a, n, k, h1, h2, OwnT.freed h3 hf, hf.blk h4⟩, hf.blk h5, hf.blk h6, below_free h7 (by omega) hg (fun r e => by have := (hr r e).1; omega)⟩
theorem BatX.own {w : World} {c : Nat} (hc : w.heap.size + 4 ≤ c) {A C : World} {row : Option Nat} (h : BatX w A) (hg : A.grownBy C row) (hr : ∀ r, row = some r → c ≤ r ∧ ∃ o : Obj, A.heap[r]? = some o ∧ o.isCells = false) : BatX w C := by
  obtain ⟨h5, h6, h7⟩ := h
  have hf : Free A C := ⟨row, hg, fun r e => (hr r e).2⟩
  exact ⟨hf.blk h5, hf.blk h6, below_free h7 (by omega) hg (fun r e => by have := (hr r e).1; omega)⟩
/-- one text more, and what it changes -/
theorem appT2 {W : World} {Bs : Nat} {v : Value} {l : List (List UInt8)} (x : List UInt8) (h : OwnT W Bs v l) (hl : l.length ≤ 10000) (hB : Bs ≤ W.heap.size) :
    ∃ a n c W', (∀ ty, (App #[23, 23] ty #[v, .slice (some ⟨W.heap.size, 0, none⟩) 1 1]).run Tryd.prog (W.alloc (.cells #[strV x] 9)) = .ok (.slice a n c) W') ∧ OwnT W' Bs (.slice a n c) (l ++ [x]) ∧ ∃ ks, Only ks W W' ∧ ∀ k ∈ ks, Bs ≤ k ∧ ∃ t2 cs2, Blk W k t2 cs2 := by
  have hbk : ∀ g, v.ownBlock = some g → Bs ≤ g ∧ ∃ t2 cs2, Blk W g t2 cs2 := fun g e => by
    obtain ⟨-, hh⟩ := h
    rcases hh with ⟨rfl, _⟩ | ⟨g', c, cur, rfl, hg, hh, _⟩
    · cases e
    · obtain rfl : g' = g := by injection e
      exact ⟨hg, _, _, hh⟩
  have h1 : OwnT (W.alloc (.cells #[strV x] 9)) Bs v l := Vec.Own.stay h (fun g e => by
    obtain ⟨-, t2, cs2, hb⟩ := hbk g e
    exact Below.heap_alloc _ _ _ hb.lt)
  have hs : Vec.Src encT (W.alloc (.cells #[strV x] 9)) (.slice (some ⟨W.heap.size, 0, none⟩) 1 1) [x] := by
    refine ⟨some ⟨W.heap.size, 0, none⟩, 1, rfl, fun _ => ⟨W.heap.size, 0, rfl, fun j u hu => ?_⟩⟩
    have hb := Blk.new W 9 #[strV x]
    rw [Lib.cell_of_heap hb, Nat.zero_add]
    rw [cellsT] at hu
    simpa using hu
  obtain ⟨v', W', r1, o1, g1, _⟩ := Vec.run_app layT _ 23 Bs h1 hs (by simp; omega) (by simp; omega)
  have hown : ∃ a n c, v' = .slice a n c := by
    obtain ⟨a, c, e, _⟩ := o1.es
    exact ⟨a, _, c, e⟩
  obtain ⟨a, n, c, rfl⟩ := hown
  have h0 : Below W.heap.size W (W.alloc (.cells #[strV x] 9)) := (Below.refl _ W).alloc (Nat.le_refl _) _
  refine ⟨a, n, c, W', fun _ => r1, o1, ?_⟩
  cases hv : v.ownBlock with
  | none =>
    rw [hv] at g1
    exact ⟨[], (Only.below h0 []).trans ⟨g1.os, g1.tape, g1.output, g1.size, fun k hk _ => g1.block k hk (by simp)⟩, fun k hk => by cases hk⟩
  | some g =>
    rw [hv] at g1
    exact ⟨[g], (Only.below h0 [g]).trans (Only.grown g1 (by simp)), fun k hk => by rw [List.mem_singleton] at hk; subst hk; exact hbk _ hv⟩
/-- whether a line's round goes on -/
def contB (N : Nat) (rest : List (Nat × List UInt8)) : Bool := decide (N - rest.length ≤ 20)
theorem contB_run (N : Nat) : ∀ (l pre : List (Nat × List UInt8)), pre.length + l.length = N → pre.length ≤ 20 → Rk.run (contB N) l [] = decide (N ≤ 20)
  | [], pre, h, h2 => by simp only [List.length_nil, Nat.add_zero] at h; rw [← h]; simp [Rk.run, h2]
  | x :: l, pre, h, h2 => by
    simp only [List.length_cons] at h
    rw [Rk.run, List.append_nil]
    by_cases h3 : pre.length + 1 ≤ 20
    · have ih := contB_run N l (pre ++ [x]) (by simp; omega) (by simp; omega)
      rw [ih]
      unfold contB
      rw [decide_eq_true (by omega : N - l.length ≤ 20), Bool.true_and]
    · unfold contB
      rw [decide_eq_false (by omega : ¬ N - l.length ≤ 20), Bool.false_and, decide_eq_false (by omega)]
theorem results_batch (W : World) (b : Nat) (a : Array Value) (v u : Value) (h0 : Blk W b slT #[v]) (h1 : Blk W (b + 1) erT #[u]) (h2 : a[2]? = some (.pointer (some ⟨b, 0, none⟩))) (h3 : a[3]? = some (.pointer (some ⟨b + 1, 0, none⟩))) :
    (results Tryd.f6 a).run Tryd.prog W = .ok (.tuple #[v, u]) W := by
  have c0 := (h0.cl 0 _ rfl).1
  have c1 := (h1.cl 0 _ rfl).1
  simp [results, Tryd.results6, go_sem, h2, h3, c0, c1]
set_option maxRecDepth 100000 in
set_option maxHeartbeats 4000000 in
theorem batch_any (l : List UInt8) (w : World) (hl : l.length ≤ 8000) :
    Calls Tryd.prog 6 #[strV l] w fun e w' => ∃ a n k, e = .returned (.tuple #[.slice a n k, .int .i64 (batE (spl 10 l))]) ∧ OwnT w' w.heap.size (.slice a n k) (batR (spl 10 l)) ∧ Below w.heap.size w w' := by
  refine (callsIn_wide (n := 3)).1 ?_
  refine callsIn_of_wp_marks Tryd.func6 rfl trivial ?_ rfl
  simp only [Tryd.ntmps6, List.size_toArray, List.length_cons, List.length_nil, Nat.reduceAdd, Nat.reduceSub, Array.replicate_succ, Array.replicate_zero, List.push_toArray, List.append_toArray, List.nil_append, List.cons_append]
  obtain ⟨X, hX⟩ : ∃ X, ((w.alloc (.cells #[.slice none 0 0] slT)).alloc (.cells #[.int .i64 0] erT)).alloc (.cells #[.slice none 0 0] slT) = X := ⟨_, rfl⟩
  have hbX : Below w.heap.size w X := by rw [← hX]; exact (((Below.refl _ w).alloc (Nat.le_refl _) _).alloc (by simp) _).alloc (by simp; omega) _
  have hzX : X.heap.size = w.heap.size + 3 := by rw [← hX]; simp
  have k0 : Blk X w.heap.size slT #[.slice none 0 0] := by rw [← hX]; exact ((Blk.new w _ _).alloc _).alloc _
  have k1 : Blk X (w.heap.size + 1) erT #[.int .i64 0] := by
    rw [← hX]
    have := (Blk.new (w.alloc (.cells #[.slice none 0 0] slT)) erT #[.int .i64 0]).alloc (.cells #[.slice none 0 0] slT)
    rwa [World.size_alloc] at this
  have k2 : Blk X (w.heap.size + 2) slT #[.slice none 0 0] := by
    rw [← hX]
    have := Blk.new ((w.alloc (.cells #[.slice none 0 0] slT)).alloc (.cells #[.int .i64 0] erT)) slT #[.slice none 0 0]
    rwa [World.size_alloc, World.size_alloc] at this
  obtain ⟨U, hU⟩ : ∃ U, X.alloc (.cells #[.string (B l)] 9) = U := ⟨_, rfl⟩
  have hbXU : Below X.heap.size X U := by rw [← hU]; exact (Below.refl _ X).alloc (Nat.le_refl _) _
  have hzU : U.heap.size = w.heap.size + 4 := by rw [← hU]; simp [hzX]
  have kS : Blk U (w.heap.size + 3) 9 #[strV l] := by rw [← hU, ← hzX]; exact Blk.new X _ _
  have HLN := Lib.hid (lines_any (B l) X)
  rw [hU, hzX] at HLN
  have HLF : Hid (lin 0 (spl 10 l) = lin 0 (spl 10 l)) := rfl
  have HST : Hid (BatI w (lin 0 (spl 10 l)) (lin 0 (spl 10 l)) U) := ⟨⟨[], none, 0, 0, rfl, Nat.zero_le _, World.ownsRow_nil _ _ _ _, k2.below hbXU k2.lt⟩, k0.below hbXU k0.lt, k1.below hbXU k1.lt, below_step hbX (by omega) hbXU⟩
  have HSQ : Hid (∀ V : World, V.heap.size = U.heap.size + 2 → Below U.heap.size U V → SeqG Tryd.prog (w.heap.size + 11) (Ab5 (w.heap.size + 6)) (Kp5 (w.heap.size + 6)) (fun x : Nat × List UInt8 => #[.int .i64 ((x.1 : Nat) : Int), strV x.2]) V 17 #[.pointer (some ⟨w.heap.size + 3, 0, none⟩)] (lin 0 (spl 10 l))) := fun V hz hbV lp cont J Jx hJ hJx hY h0 => by
    have hz6 : V.heap.size = w.heap.size + 6 := by omega
    have h := lines1_yl lp cont J Jx l (by omega) (w.heap.size + 3) V (kS.below hbV kS.lt) (by rw [hz6]; exact hJ) (by rw [hz6]; exact hJx) (by rw [hz6]; exact fun x rest W1 hj hs => hY x rest W1 hj (by omega)) h0
    exact h
  have HRU : Hid (Rk.run (contB (full (spl 10 l)).length) (lin 0 (spl 10 l)) [] = decide ((full (spl 10 l)).length ≤ 20)) := contB_run _ _ [] (by simp [lin_len]) (Nat.zero_le _)
  have HLE : Hid ((lin 0 (spl 10 l)).length = (full (spl 10 l)).length) := lin_len _ _
  have HMP : Hid ((lin 0 (spl 10 l)).map (·.2) = full (spl 10 l)) := lin_full _ _
  have HRE : Hid (batR (spl 10 l) = if 20 < (full (spl 10 l)).length then [] else full (spl 10 l)) := rfl
  have HEE : Hid (batE (spl 10 l) = if 20 < (full (spl 10 l)).length then 3 else 0) := rfl
  generalize batR (spl 10 l) = RR at HRE ⊢
  generalize batE (spl 10 l) = EE at HEE ⊢
  generalize full (spl 10 l) = FF at HRU HLE HMP HRE HEE
  generalize lin 0 (spl 10 l) = Lf at HST HSQ HRU HLE HMP
  have HZU := Lib.hid hzU
  clear hbX hzX k0 k1 k2 kS hbXU HLF hU hzU
  gi_wp2_with (refine ⟨trivial, ?_⟩; gi_at_call 9; refine (callsIn_wide.2 HLN.out).mono ?_; rintro e w2 ⟨rfl, rfl⟩)
  clear hX
  have hzU := HZU.out
  refine wpIn_rangeG (by decide) (gf := 17) (lbf := #[.pointer (some ⟨w.heap.size + 3, 0, none⟩)]) rfl lines1_enters HSQ.out (fun h k => Kp5.trans h k)
    (fun W k o o' h1 h2 hk hc _ => ⟨⟨by simp, fun j o2 hj ho2 hcc => (World.putObj_heap_other (by omega)).trans ho2⟩, fun i _ t cs h => (Free.put o' hk hc).blk h⟩)
    (fun A C k o h1 h2 hk hc ho => by obtain ⟨ks, ho, hks⟩ := ho; exact (ho.block k (Array.getElem?_eq_some_iff.1 hk).1 (fun e => by have := (hks k e).1; omega)).trans hk) (fun _ => rfl)
    (contB FF.length) (BatI w Lf) (fun c V => c = .ret ∧ BatX w V) (BatI.own (by omega)) (fun r A C h ha => h.ab ha)
    (fun c A C row hs hg hr => ⟨hs.1, hs.2.own (by omega) hg hr⟩) (fun c A C hs ha => ⟨hs.1, hs.2.ab ha⟩) HST.out ?a1 ?assign ?body ?done ?stop
  case assign =>
    intro lp x V K hK
    gi_wp2
    exact hK
  case body =>
    rintro lp x rest V ⟨⟨pre, a, n, k, h1, h2, h3, h4⟩, h5, h6, h7⟩ hN
    have hn : n = pre.length := by
      obtain ⟨a', c', hx, -, -⟩ := Vec.Own.es h3
      injection hx with _ e2 _
      rw [e2, List.length_map]
    have hcb : contB FF.length rest = decide (n + 1 ≤ 20) := by
      unfold contB
      rw [← HLE.out, h1, List.length_append, List.length_cons, hn]
      congr 1
      rw [show pre.length + (rest.length + 1) - rest.length = pre.length + 1 by omega]
    have c4 := (h4.cl 0 _ rfl).1
    by_cases h20 : n = 20
    · have hcb' : contB FF.length rest = false := by rw [hcb, h20]; rfl
      have q20 : ((n : Int) == 20) = true := beq_iff_eq.2 (by omega)
      have f5 := (h5.cl 0 _ rfl).2
      obtain ⟨V1, hV1⟩ : ∃ V1, (V.setCell ⟨w.heap.size, 0, none⟩ (.slice none 0 0)) = V1 := ⟨_, rfl⟩
      have m5 : Blk V1 w.heap.size slT #[.slice none 0 0] := by rw [← hV1]; exact h5.set 0 _
      have m6 : Blk V1 (w.heap.size + 1) erT #[.int .i64 0] := by rw [← hV1]; exact h6.other (by show w.heap.size ≠ w.heap.size + 1; omega) _
      have c5 := (h5.cl 0 _ rfl).1
      have c6 := (m6.cl 0 _ rfl).1
      have f6 := (m6.cl 0 _ rfl).2
      obtain ⟨V2, hV2⟩ : ∃ V2, (V1.setCell ⟨w.heap.size + 1, 0, none⟩ (.int .i64 3)) = V2 := ⟨_, rfl⟩
      have n5 : Blk V2 w.heap.size slT #[.slice none 0 0] := by rw [← hV2]; exact m5.other (by show w.heap.size + 1 ≠ w.heap.size; omega) _
      have n6 : Blk V2 (w.heap.size + 1) erT #[.int .i64 3] := by rw [← hV2]; exact m6.set 0 _
      have HFIN : Hid (KeepsFrom U.heap.size V V2 ∧ Kp5 (w.heap.size + 6) V V2 ∧ BatX w V2) := by
        refine ⟨?_, ⟨?_, fun i _ t cs h => ?_⟩, n5, n6, ?_⟩
        · rw [← hV2, ← hV1]; exact ((KeepsOthers.setCell _ _ _).trans (KeepsOthers.setCell _ _ _)).from _
        · rw [← hV2, ← hV1]; exact ((KeepsOthers.setCell _ _ _).trans (KeepsOthers.setCell _ _ _)).from _
        · rw [← hV2, ← hV1]; exact (h.other (by show w.heap.size ≠ _; omega) _).other (by show w.heap.size + 1 ≠ _; omega) _
        · rw [← hV2, ← hV1]; exact below_set (below_set h7 (Nat.le_refl _) _) (Nat.le_succ _) _
      rw [hcb']
      clear h1 h2 h3 h4 h5 h6 h7 hN hn hcb hcb' h20 m5 m6 n5 n6
      gi_wp2
      exact ⟨HFIN.out.1, HFIN.out.2.1, rfl, rfl, HFIN.out.2.2⟩
    · have hcb' : contB FF.length rest = true := by rw [hcb, decide_eq_true (by omega)]
      have q20 : ((n : Int) == 20) = false := beq_eq_false_iff_ne.2 (by omega)
      obtain ⟨a', n', k', W', hap, ho, ks, hon, hks⟩ := appT2 (W := V) (Bs := w.heap.size + 11) x.2 h3 (by simp; omega) hN
      have hbo : Below (w.heap.size + 11) V W' := hon.drop hN (fun k hk => (hks k hk).1)
      have hkq : KeepsOthers V W' := hon.others (fun k hk => (hks k hk).2)
      have j4 : Blk W' (w.heap.size + 2) slT #[.slice a n k] := (hbo.block _ (by omega)).trans h4
      have j5 : Blk W' w.heap.size slT #[.slice none 0 0] := (hbo.block _ (by omega)).trans h5
      have j6 : Blk W' (w.heap.size + 1) erT #[.int .i64 0] := (hbo.block _ (by omega)).trans h6
      have d4 := (j4.cl 0 _ rfl).1
      have f4 := (j4.cl 0 _ rfl).2
      obtain ⟨V2, hV2⟩ : ∃ V2, (W'.setCell ⟨w.heap.size + 2, 0, none⟩ (.slice a' n' k')) = V2 := ⟨_, rfl⟩
      have HFIN : Hid (KeepsFrom U.heap.size V V2 ∧ Kp5 (w.heap.size + 6) V V2 ∧ BatI w Lf rest V2) := by
        have hko : KeepsOthers V V2 := by rw [← hV2]; exact hkq.trans (KeepsOthers.setCell _ _ _)
        refine ⟨hko.from _, ⟨hko.from _, fun i hi t cs h => ?_⟩, ⟨pre ++ [x], a', n', k', by rw [h1]; simp, by simp; omega, ?_, ?_⟩, ?_, ?_, ?_⟩
        · rw [← hV2]
          exact Blk.other (show Blk W' _ t cs from (hbo.block _ (by omega)).trans h) (by show w.heap.size + 2 ≠ _; omega) _
        · rw [← hV2, List.map_append]
          exact Vec.Own.stay ho (fun g e => heap_set (by show w.heap.size + 2 ≠ g; have := Vec.Own.geB ho g e; omega))
        · rw [← hV2]; exact j4.set 0 _
        · rw [← hV2]; exact j5.other (by show w.heap.size + 2 ≠ w.heap.size; omega) _
        · rw [← hV2]; exact j6.other (by show w.heap.size + 2 ≠ w.heap.size + 1; omega) _
        · rw [← hV2]; exact below_set ((h7.trans (hbo.mono (by omega)))) (by show w.heap.size ≤ w.heap.size + 2; omega) _
      rw [hcb']
      clear h1 h2 h3 h4 h5 h6 h7 hN hn hcb hcb' h20 j4 j5 j6 ho hbo hkq hon hks
      gi_wp2
      exact ⟨HFIN.out.1, HFIN.out.2.1, rfl, HFIN.out.2.2⟩
  case done =>
    rintro D V hD hr ⟨⟨pre, a, n, k, h1, h2, h3, h4⟩, h5, h6, h7⟩ hK
    rw [List.append_nil] at h1
    subst h1
    have hle : FF.length ≤ 20 := by rw [HRU.out] at hr; simpa using hr
    have hRR : RR = FF := by rw [HRE.out, if_neg (by omega)]
    have hEE : EE = 0 := by rw [HEE.out, if_neg (by omega)]
    rw [HMP.out] at h3
    subst hEE
    have c2 := (h4.cl 0 _ rfl).1
    have c0 := (h5.cl 0 _ rfl).1
    have f0 := (h5.cl 0 _ rfl).2
    obtain ⟨V1, hV1⟩ : ∃ V1, V.setCell ⟨w.heap.size, 0, none⟩ (.slice a n k) = V1 := ⟨_, rfl⟩
    have m5 : Blk V1 w.heap.size slT #[.slice a n k] := by rw [← hV1]; exact h5.set 0 _
    have m6 : Blk V1 (w.heap.size + 1) erT #[.int .i64 0] := by rw [← hV1]; exact h6.other (by show w.heap.size ≠ w.heap.size + 1; omega) _
    have c6 := (m6.cl 0 _ rfl).1
    have f6 := (m6.cl 0 _ rfl).2
    obtain ⟨V2, hV2⟩ : ∃ V2, V1.setCell ⟨w.heap.size + 1, 0, none⟩ (.int .i64 0) = V2 := ⟨_, rfl⟩
    have n5 : Blk V2 w.heap.size slT #[.slice a n k] := by rw [← hV2]; exact m5.other (by show w.heap.size + 1 ≠ w.heap.size; omega) _
    have n6 : Blk V2 (w.heap.size + 1) erT #[.int .i64 0] := by rw [← hV2]; exact m6.set 0 _
    have HDZ : Hid (V2.heap[D]? = some (.deferred (some []))) := by
      rw [← hV2, ← hV1]
      exact (heap_set (by show w.heap.size + 1 ≠ D; omega)).trans ((heap_set (by show w.heap.size ≠ D; omega)).trans hK)
    have hf : Free V2 (V2.putObj D (.deferred none)) := Free.put _ HDZ.out rfl
    have n3 : OwnT V2 (w.heap.size + 11) (.slice a n k) FF := by
      rw [← hV2, ← hV1]
      exact Vec.Own.stay h3 (fun g e => (heap_set (by show w.heap.size + 1 ≠ g; have := Vec.Own.geB h3 g e; omega)).trans (heap_set (by show w.heap.size ≠ g; have := Vec.Own.geB h3 g e; omega)))
    have n7 : Below w.heap.size w V2 := by rw [← hV2, ← hV1]; exact below_set (below_set h7 (Nat.le_refl _) _) (Nat.le_succ _) _
    have HFIN : Hid (Blk (V2.putObj D (.deferred none)) w.heap.size slT #[.slice a n k] ∧ Blk (V2.putObj D (.deferred none)) (w.heap.size + 1) erT #[.int .i64 0] ∧ OwnT (V2.putObj D (.deferred none)) w.heap.size (.slice a n k) RR ∧ Below w.heap.size w (V2.putObj D (.deferred none))) :=
      ⟨hf.blk n5, hf.blk n6, by rw [hRR]; exact Vec.Own.mono (OwnT.freed n3 hf) (by omega), below_free n7 (Nat.le_refl _) (grownBy_putObj' V2 D _) (fun r e => by injection e with e; omega)⟩
    clear h2 h3 h4 h5 h6 h7 hK hle hRR m5 m6 n5 n6 n3 n7 hf hr
    gi_wp2
    refine ⟨by simp, .inl ⟨_, _, rfl, run_takeDeferred HDZ.out, ?_⟩⟩
    exact ⟨_, results_batch _ w.heap.size _ _ _ HFIN.out.1 HFIN.out.2.1 rfl rfl, a, n, k, rfl, HFIN.out.2.2⟩
  case stop =>
    rintro D c V hD hr ⟨rfl, h5, h6, h7⟩ hK
    have hle : 20 < FF.length := by rw [HRU.out] at hr; simpa using hr
    have hRR : RR = [] := by rw [HRE.out, if_pos hle]
    have hEE : EE = 3 := by rw [HEE.out, if_pos hle]
    subst hEE hRR
    have hf : Free V (V.putObj D (.deferred none)) := Free.put _ hK rfl
    have HFIN : Hid (Blk (V.putObj D (.deferred none)) w.heap.size slT #[.slice none 0 0] ∧ Blk (V.putObj D (.deferred none)) (w.heap.size + 1) erT #[.int .i64 3] ∧ OwnT (V.putObj D (.deferred none)) w.heap.size (.slice none 0 0) [] ∧ Below w.heap.size w (V.putObj D (.deferred none))) :=
      ⟨hf.blk h5, hf.blk h6, World.ownsRow_nil _ _ _ _, below_free h7 (Nat.le_refl _) (grownBy_putObj' V D _) (fun r e => by injection e with e; omega)⟩
    clear h5 h6 h7 hle hf hr
    gi_wp2
    refine ⟨by simp, .inl ⟨_, _, rfl, run_takeDeferred hK, ?_⟩⟩
    exact ⟨_, results_batch _ w.heap.size _ _ _ HFIN.out.1 HFIN.out.2.1 rfl rfl, none, 0, 0, rfl, HFIN.out.2.2⟩
end Dp
end Go.Proofs.YtefnpfhhomkiaaaDoor
