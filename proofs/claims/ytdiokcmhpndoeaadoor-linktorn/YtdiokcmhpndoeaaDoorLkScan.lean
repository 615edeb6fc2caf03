
/- link.Scan: it answers Lk.scan. -/
import Derived.Test.YtdiokcmhpndoeaaDoorLkWhole
import Derived.BigQuiet
import Derived.Deep.QuietTactic
namespace Go.Proofs.YtdiokcmhpndoeaaDoor
open Go.RowKit Go.Shelf
attribute [local go_sem] Oper.semAt_some
attribute [local go_sem ↓] app_eq
/-- v is a slice of slices of bytes of one's own, of just these -/
abbrev PRow (W : World) (B : Nat) (v : Value) (vs : List Value) : Prop := W.ownsRow B 22 1 v vs.length vs
theorem PRow.slice {W : World} {B : Nat} {v : Value} {vs : List Value} (h : PRow W B v vs) : ∃ a c, v = .slice a vs.length c := by
  rcases h.2 with ⟨rfl, h0⟩ | ⟨g', cap, cur, rfl, _⟩
  · exact ⟨_, _, by rw [h0]⟩
  · exact ⟨_, _, rfl⟩
theorem PRow.cells {W : World} {B : Nat} {v : Value} {vs : List Value} (h : PRow W B v vs) {g : Nat} (e : v.ownBlock = some g) : ∃ cur, Blk W g 22 cur := by
  rcases h.2 with ⟨rfl, _⟩ | ⟨g', cap, cur, rfl, hb, hh, r⟩
  · cases e
  · cases e; exact ⟨cur, hh⟩
theorem PRow.ge {W : World} {B : Nat} {v : Value} {vs : List Value} (h : PRow W B v vs) {g : Nat} (e : v.ownBlock = some g) : B ≤ g ∧ g < W.heap.size := World.ownsRow.lt h g e
theorem PRow.grown {W W' : World} {B : Nat} {v : Value} {vs : List Value} {row : Option Nat} (h : PRow W B v vs) (hg : W.grownBy W' row) (hr : ∀ g, v.ownBlock = some g → some g ≠ row) : PRow W' B v vs := by
  rcases h.2 with h0 | ⟨g, cap, cur, e, hb, hh, r⟩
  · exact ⟨h.1, .inl h0⟩
  · exact ⟨h.1, .inr ⟨g, cap, cur, e, hb, (hg.block g (Array.getElem?_eq_some_iff.1 hh).1 (hr g (by rw [e]; rfl))).trans hh, r⟩⟩
theorem PRow.ne {W : World} {B : Nat} {v : Value} {vs : List Value} {row : Option Nat} (h : PRow W B v vs) (hr : ∀ r, row = some r → ∃ o : Obj, W.heap[r]? = some o ∧ o.isCells = false) : ∀ g, v.ownBlock = some g → some g ≠ row := fun g hg e => by
  obtain ⟨cur, hh⟩ := h.cells hg
  exact hh.ne hr e
theorem PRow.base {W : World} {B B' : Nat} {v : Value} {vs : List Value} (h : PRow W B v vs) (hB : B' ≤ B) : PRow W B' v vs := ⟨h.1, h.2.elim .inl (fun ⟨g, c, cur, e, hg, r⟩ => .inr ⟨g, c, cur, e, Nat.le_trans hB hg, r⟩)⟩
theorem Lk.info_row : (Tryd.prog.info? 22).map (fun i => (i.zero, i.size, i.bytes)) = some (some (.slice none 0 0), 1, 24) := by kernel_rfl
theorem run_appP_one (w : World) (base : Nat) (v : Value) (vs : List Value) (a : Option Addr) (n c : Nat) (hown : PRow w base v vs) (hz : vs.length ≤ 1000000000) (hbase : base ≤ w.heap.size) :
    ∃ v' w', Sem.run Tryd.prog (App #[32, 32] 32 #[v, .slice (some ⟨w.heap.size, 0, none⟩) 1 1]) (w.alloc (.cells #[.slice a n c] 22)) = .ok v' w' ∧ PRow w' base v' (vs ++ [.slice a n c]) ∧ w.grownBy w' v.ownBlock := by
  obtain ⟨i0, hi, hz0, hz1, hz2⟩ := info_parts Lk.info_row
  have hown' : PRow (w.alloc (.cells #[.slice a n c] 22)) base v vs := hown.grown (World.grownBy_alloc w _ none) (fun _ _ => by simp)
  obtain ⟨v', w', hr, h2, h3, _, _⟩ := run_append_own_at (P := Tryd.prog) _ base 32 32 22 i0 (.slice none 0 0) 1 24 Tryd.underlying32 hi hz0 hz1 hz2 rfl (by decide) v vs.length vs hown' ⟨w.heap.size, 0, none⟩ 1 1 [.slice a n c] rfl
    (fun j u hu => by
      have hb := Blk.new w 22 #[.slice a n c]
      match j, hu with
      | 0, hu => simp at hu; subst hu; exact (hb.cl 0 _ rfl).1
      | j + 1, hu => simp at hu) (fun u hu => by rw [List.mem_singleton] at hu; subst hu; rfl) (by unfold maxLen; omega) (by omega) (by simp; omega)
  refine ⟨v', w', hr, ?_, ?_⟩
  · show World.ownsRow _ _ _ _ _ _ _
    rw [List.length_append]
    exact h2
  · exact ⟨h3.os, h3.tape, h3.output, Nat.le_trans (by simp) h3.size, fun k hk hr => (h3.block k (by simp; omega) hr).trans (Below.heap_alloc w _ k hk)⟩
/-- the place behind the last one -/
def Lk.lastAt (xs : List Lk.Giv) : Nat := xs.foldl (fun _ x => x.at') 0
theorem Lk.lastAt_snoc (xs : List Lk.Giv) (x : Lk.Giv) : Lk.lastAt (xs ++ [x]) = x.at' := by simp [Lk.lastAt]
theorem Lk.scanN_last (s : ByteArray) : ∀ (k : Nat) (xs : List Lk.Giv), (Lk.scanN s k).1 = xs.map Lk.Giv.it → (Lk.scanN s k).2 = Lk.lastAt xs
  | 0, xs, h => by
    have : xs = [] := List.map_eq_nil_iff.1 h.symm
    rw [this]; rfl
  | k + 1, xs, h => by
    rw [Lk.scanN] at h ⊢
    split at h
    · rename_i h0
      rw [if_pos h0]
      rcases List.eq_nil_or_concat xs with rfl | ⟨ys, y, rfl⟩
      · simp at h
      · rw [List.concat_eq_append, List.map_append] at h
        have := List.append_inj' h rfl
        rw [List.concat_eq_append, Lk.lastAt_snoc]
        simp [Lk.Giv.it] at this
        exact this.2.1
    · rename_i h0
      rw [if_neg h0]
      exact Lk.scanN_last s k xs h
/-- the payloads ps, as a slice -/
def PList (W : World) (v : Value) (ps : List ByteArray) : Prop := ∃ xs : List Lk.Giv, xs.map (·.p) = ps ∧ PRow W 0 v (xs.map (·.v)) ∧ ∀ x ∈ xs, x.M W
/-- what holds behind each payload -/
def ScanI (a : Option Addr) (n cap N : Nat) (w : World) (pre : List Lk.Giv) (W : World) : Prop :=
  (∃ v, Blk W w.heap.size 32 #[v] ∧ PRow W (w.heap.size + 3) v (pre.map (·.v))) ∧ Blk W (w.heap.size + 1) 3 #[.int .i64 (Lk.lastAt pre : Nat)] ∧ Blk W (w.heap.size + 1 + 1) 22 #[.slice a n cap] ∧ (∀ x ∈ pre, x.M W) ∧ Below w.heap.size w W ∧ w.heap.size + 3 ≤ W.heap.size ∧ pre.length ≤ N
theorem scanI_own (a : Option Addr) (n cap N : Nat) (w X : World) (hX : X.heap.size = w.heap.size + 3) : OwnFrom X.heap.size (ScanI a n cap N w) := by
  rintro pre W W' row ⟨⟨v, hv, hr⟩, h1, h2, hm, hb, hsz, hpl⟩ hg hrow
  have hnc : ∀ r, row = some r → ∃ o : Obj, W.heap[r]? = some o ∧ o.isCells = false := fun r e => (hrow r e).2
  exact ⟨⟨v, hv.grown hg (hv.ne hnc), hr.grown hg (hr.ne hnc)⟩, h1.grown hg (h1.ne hnc), h2.grown hg (h2.ne hnc), fun x hx => BRow.grown (hm x hx) hg (BRow.ne (hm x hx) hnc), hb.grown hg (by omega) (fun g e => by have := (hrow g e).1; omega), Nat.le_trans hsz hg.size, hpl⟩
theorem scan_fin {a : Option Addr} {n cap N : Nat} {s : ByteArray} {w W w3 : World} {pre : List Lk.Giv} {x : Lk.Giv} {v v' : Value} (hBS : BytesS w a s) (hE : LkEnv w) (hv : Blk W w.heap.size 32 #[v]) (hr : PRow W (w.heap.size + 3) v (pre.map (·.v)))
    (h1 : Blk W (w.heap.size + 1) 3 #[.int .i64 (Lk.lastAt pre : Nat)]) (h2 : Blk W (w.heap.size + 1 + 1) 22 #[.slice a n cap]) (hm : ∀ x ∈ pre, x.M W) (hb : Below w.heap.size w W) (hsz : w.heap.size + 3 ≤ W.heap.size) (hpl : pre.length < N) (hx : x.M W)
    (hrow : PRow w3 (w.heap.size + 3) v' (pre.map (·.v) ++ [x.v])) (hg : W.grownBy w3 v.ownBlock) :
    ∀ act, goesOn (lkKeeps (w.heap.size + 1 + 1) a s.size) (ScanI a n cap N w) (pre ++ [x]) W .normal act ((w3.setCell ⟨w.heap.size, 0, none⟩ v').setCell ⟨w.heap.size + 1, 0, none⟩ (.int .i64 (x.at' : Nat))) := by
  have hgv : ∀ g, v.ownBlock = some g → w.heap.size + 3 ≤ g := fun g e => (hr.ge e).1
  have g1 := grown_set w3 w.heap.size 0 v'
  have g2 := grown_set (w3.setCell ⟨w.heap.size, 0, none⟩ v') (w.heap.size + 1) 0 (.int .i64 (x.at' : Nat))
  have hne : ∀ k, k < w.heap.size + 3 → some k ≠ v.ownBlock := fun k hk e => by have := hgv k e.symm; omega
  have hlow : ∀ k, k < W.heap.size → k < w.heap.size + 3 → k ≠ w.heap.size → k ≠ w.heap.size + 1 → ((w3.setCell ⟨w.heap.size, 0, none⟩ v').setCell ⟨w.heap.size + 1, 0, none⟩ (.int .i64 (x.at' : Nat))).heap[k]? = W.heap[k]? := fun k hk hk3 hk0 hk1 =>
    (heap_set (p := ⟨w.heap.size + 1, 0, none⟩) (Ne.symm hk1)).trans ((heap_set (p := ⟨w.heap.size, 0, none⟩) (Ne.symm hk0)).trans (hg.block k hk (hne k hk3)))
  have hv3 : Blk w3 w.heap.size 32 #[v] := hv.grown hg (hne _ (by omega))
  have h13 : Blk w3 (w.heap.size + 1) 3 #[.int .i64 (Lk.lastAt pre : Nat)] := h1.grown hg (hne _ (by omega))
  have hsz3 := hg.size
  have hko : KeepsOthers W w3 := KeepsOthers.of_grownBy hg (fun j o ej hj => by
    obtain ⟨cur, hh⟩ := hr.cells ej
    rw [show W.heap[j]? = _ from hh] at hj
    cases hj
    rfl)
  have hmx : ∀ y : Lk.Giv, y.M W → y.M ((w3.setCell ⟨w.heap.size, 0, none⟩ v').setCell ⟨w.heap.size + 1, 0, none⟩ (.int .i64 (x.at' : Nat))) := fun y hy => by
    have y3 : BRow w3 0 y.v (Cl.bl y.p) := BRow.grown hy hg (fun g e e' => by
      obtain ⟨cur, hh⟩ := hr.cells e'.symm
      exact BRow.other hy hh (by decide) e)
    have y4 := y3.grown g1 (fun g e e' => y3.other hv3 (by decide) (by rw [e, e']))
    exact y4.grown g2 (fun g e e' => y4.other (h13.other (p := ⟨w.heap.size, 0, none⟩) (show w.heap.size ≠ w.heap.size + 1 by omega) v') (by decide) (by rw [e, e']))
  have hBf : Below w.heap.size w ((w3.setCell ⟨w.heap.size, 0, none⟩ v').setCell ⟨w.heap.size + 1, 0, none⟩ (.int .i64 (x.at' : Nat))) := (((hb.grown hg (by omega) (fun g e => by have := hgv g e; omega)).grown g1 (by omega) (fun g e => by injection e with e; omega)).grown g2 (by have := g1.size; omega) (fun g e => by injection e with e; omega))
  intro act
  refine ⟨rfl, (hko.trans (KeepsOthers.setCell _ _ _)).trans (KeepsOthers.setCell _ _ _), ⟨hlow _ (by omega) (by omega) (by omega) (by omega), fun b o e h0 => ?_, ?_, by have := g1.size; have := g2.size; omega⟩, ⟨v', ?_, ?_⟩, ?_, ?_, ?_, hBf, by have := g1.size; have := g2.size; omega, by rw [List.length_append, List.length_singleton]; omega⟩
  · rcases hBS with h | ⟨b', o', e', hlt, _⟩
    · omega
    · rw [e] at e'; cases e'
      exact hlow b (by omega) (by omega) (by omega) (by omega)
  · have := hE.1
    exact hlow _ (by omega) (by omega) (by omega) (by omega)
  · exact (hv3.set 0 v').other (p := ⟨w.heap.size + 1, 0, none⟩) (show w.heap.size + 1 ≠ w.heap.size by omega) _
  · rw [List.map_append]
    have hrow' := hrow.grown g1 (fun g e e' => by have := (hrow.ge e).1; injection e' with e'; omega)
    exact hrow'.grown g2 (fun g e e' => by have := (hrow'.ge e).1; injection e' with e'; omega)
  · rw [Lk.lastAt_snoc]
    exact (h13.other (p := ⟨w.heap.size, 0, none⟩) (show w.heap.size ≠ w.heap.size + 1 by omega) v').set 0 _
  · exact (hlow _ (by omega) (by omega) (by omega) (by omega)).trans h2
  · intro y hy
    rcases List.mem_append.1 hy with hy | hy
    · exact hmx y (hm y hy)
    · rw [List.mem_singleton] at hy
      subst hy
      exact hmx y hx
set_option maxRecDepth 100000 in
set_option maxHeartbeats 4000000 in
theorem scan_any (a : Option Addr) (n cap : Nat) (s : ByteArray) (hn : n = s.size) (hc : n ≤ cap) (hs : s.size ≤ 1000000) (w : World) (hE : LkEnv w) (hB : BytesS w a s) :
    Calls Tryd.prog 11 #[.slice a n cap] w fun e w' => ∃ v, e = .returned (.tuple #[v, .int .i64 ((Lk.scan s).2.1 : Nat), .int .i64 ((Lk.scan s).2.2 : Nat)]) ∧ PList w' v (Lk.scan s).1 ∧ Below w.heap.size w w' := by
  refine (callsIn_wide (n := 3)).1 ?_
  refine callsIn_of_wp_marks Tryd.func11 rfl trivial ?_ rfl
  simp only [Tryd.ntmps11, List.size_toArray, List.length_cons, List.length_nil, Nat.reduceAdd, Nat.reduceSub, Array.replicate_succ, Array.replicate_zero, List.push_toArray, List.append_toArray, List.nil_append, List.cons_append]
  have HWH := Lib.hid (whole_any a n cap ((w.alloc (.cells #[.slice none 0 0] 32)).alloc (.cells #[.int .i64 0] 3)))
  have hX : Below w.heap.size w (((w.alloc (.cells #[.slice none 0 0] 32)).alloc (.cells #[.int .i64 0] 3)).alloc (.cells #[.slice a n cap] 22)) := (((Below.refl _ w).alloc (Nat.le_refl _) _).alloc (by simp) _).alloc (by simp; omega) _
  have b0 : Blk (((w.alloc (.cells #[.slice none 0 0] 32)).alloc (.cells #[.int .i64 0] 3)).alloc (.cells #[.slice a n cap] 22)) w.heap.size 32 #[.slice none 0 0] := ((Blk.new w _ _).alloc _).alloc _
  have b1 : Blk (((w.alloc (.cells #[.slice none 0 0] 32)).alloc (.cells #[.int .i64 0] 3)).alloc (.cells #[.slice a n cap] 22)) (w.heap.size + 1) 3 #[.int .i64 0] := by
    have := (Blk.new (w.alloc (.cells #[.slice none 0 0] 32)) 3 #[.int .i64 0]).alloc (.cells #[.slice a n cap] 22)
    rwa [World.size_alloc] at this
  have b2 : Blk (((w.alloc (.cells #[.slice none 0 0] 32)).alloc (.cells #[.int .i64 0] 3)).alloc (.cells #[.slice a n cap] 22)) (w.heap.size + 1 + 1) 22 #[.slice a n cap] := by
    have := Blk.new ((w.alloc (.cells #[.slice none 0 0] 32)).alloc (.cells #[.int .i64 0] 3)) 22 #[.slice a n cap]
    rwa [World.size_alloc, World.size_alloc] at this
  have hXs : (((w.alloc (.cells #[.slice none 0 0] 32)).alloc (.cells #[.int .i64 0] 3)).alloc (.cells #[.slice a n cap] 22)).heap.size = w.heap.size + 3 := by simp
  rw [World.size_alloc, World.size_alloc] at HWH
  obtain ⟨X, hXe⟩ : ∃ X, (((w.alloc (.cells #[.slice none 0 0] 32)).alloc (.cells #[.int .i64 0] 3)).alloc (.cells #[.slice a n cap] 22)) = X := ⟨_, rfl⟩
  rw [hXe] at HWH hX b0 b1 b2 hXs
  have HB := Lib.hid hB
  have HE := Lib.hid hE
  have HN := Lib.hid hn
  have HS := Lib.hid hs
  have hnb : n ≤ 1000000 := by omega
  clear hB hE hn hs hXe
  gi_wp2_with (first | (refine ⟨trivial, ?_⟩; gi_at_call 22; refine (callsIn_wide.2 HWH.out).mono ?_; rintro e wX ⟨rfl, rfl⟩))
  have hS0 := whole_seq (w.heap.size + 1 + 1) a n cap s HN.out hc HS.out X b2 (HB.out.below hX) (HE.out.below hX HE.out.1)
  refine wpIn_rangeM rfl (by decide) (gf := 29) (lb := #[.pointer (some ⟨w.heap.size + 1 + 1, 0, none⟩)]) rfl trivial whole1_enters (encs := fun x : Lk.Giv => #[.int .i64 (x.at' : Int), x.v]) hS0 (fun h k => h.trans k) ?hKb ?hMb (Below.refl _ _) (fun _ => rfl)
    (fun pre W => ScanI a n cap (s.size + 1) w pre W) (scanI_own a n cap _ w X hXs)
    ⟨⟨_, b0, World.ownsRow_nil _ _ _ _⟩, b1, b2, (fun x hx => by cases hx), hX, by omega, Nat.zero_le _⟩
    ?a1 ?assign ?body ?done
  case assign =>
    intro l x W K hK
    gi_wp2
    exact hK
  case hKb =>
    intro W l o o' hl ho hoc _
    have hwl : w.heap.size + 3 ≤ l := by omega
    have hll := (Array.getElem?_eq_some_iff.1 ho).1
    refine ⟨World.putObj_heap_other (by omega), fun b o e h0 => ?_, World.putObj_heap_other (by have := HE.out.1; omega), ?_⟩
    · rcases HB.out with h | ⟨b', o', e', hlt, _⟩
      · omega
      · rw [e] at e'; cases e'
        exact World.putObj_heap_other (by omega)
    · exact (grownBy_putObj' W l o').size
  case hMb =>
    intro x W l o o' hl ho hoc hx
    exact BRow.grown hx (grownBy_putObj' W l o') (BRow.ne hx (fun r e => by cases e; exact ⟨o, ho, hoc⟩))
  case body =>
    rintro lp pre x W ⟨⟨v, hv, hr⟩, h1, h2, hm, hb, hsz, hpl⟩ hx hlen
    obtain ⟨xat, xv, xp⟩ := x
    obtain ⟨ax, nx, cx, hxv⟩ := BRow.slice hx
    dsimp only at hxv
    subst hxv
    obtain ⟨v', w3, hap, hrow, hg3⟩ := run_appP_one W (w.heap.size + 3) v (pre.map (·.v)) ax nx cx hr (by rw [List.length_map]; have := HS.out; omega) hsz
    have hgv : ∀ g, v.ownBlock = some g → w.heap.size + 3 ≤ g := fun g e => (hr.ge e).1
    have HFIN := Lib.hid (scan_fin (N := s.size + 1) HB.out HE.out hv hr h1 h2 hm hb hsz hlen hx hrow hg3)
    have hv3 : Blk w3 w.heap.size 32 #[v] := hv.grown hg3 (fun e => by have := hgv _ e.symm; omega)
    have h13 : Blk w3 (w.heap.size + 1) 3 #[.int .i64 (Lk.lastAt pre : Nat)] := h1.grown hg3 (fun e => by have := hgv _ e.symm; omega)
    have h14 := h13.other (p := ⟨w.heap.size, 0, none⟩) (show w.heap.size ≠ w.heap.size + 1 by omega) v'
    obtain ⟨a1, c1, rfl⟩ := hr.slice
    obtain ⟨a2, c2, rfl⟩ := hrow.slice
    have hcv : W.cell? ⟨w.heap.size, 0, none⟩ = some (.slice a1 (pre.map (·.v)).length c1) := (hv.cl 0 _ rfl).1
    have hcv3 : w3.cell? ⟨w.heap.size, 0, none⟩ = some (.slice a1 (pre.map (·.v)).length c1) := (hv3.cl 0 _ rfl).1
    have hfv3 := (hv3.cl 0 _ rfl).2
    have hc14 := (h14.cl 0 _ rfl).1
    have hf14 := (h14.cl 0 _ rfl).2
    generalize (pre.map (·.v)).length = m1 at hcv hcv3 hap hc14 hf14 HFIN
    generalize (pre.map (·.v) ++ [Value.slice ax nx cx]).length = m2 at hap hc14 hf14 HFIN
    clear hr hrow hv hv3 h1 h13 h14 h2 hg3 hb hS0 b0 b1 b2 hX hsz hpl hlen hm hx hgv
    gi_wp2
    exact HFIN.out _
  case done =>
    rintro D xs W hD hS ⟨⟨v, hv, hr⟩, h1, h2, hm, hb, hsz, hpl⟩ hK
    rename_i hrest
    refine hrest _ _ (wpIn_wide.2 ?_)
    clear hrest
    have hla : Lk.lastAt xs = Lk.endAt s := (Lk.scanN_last s s.size xs hS.symm).symm
    rw [hla] at h1
    have hEb : Lk.endAt s ≤ n := by rw [HN.out]; exact (Lk.scanN_bd s s.size).1
    have hcd : (Lk.one (Cl.behind s (Lk.endAt s))).2.2 = Lk.endCode s := rfl
    have hmp : xs.map (·.p) = (Lk.items s).map (·.2) := by rw [← hS, List.map_map]; rfl
    have HSC : Hid (Lk.scan s = if Lk.endCode s = 17 then (xs.map (·.p), Lk.endAt s, 0) else ([], 0, Lk.endCode s)) := Lib.hid (by rw [hmp]; rfl)
    obtain ⟨E, hE⟩ : ∃ E, Lk.endAt s = E := ⟨_, rfl⟩
    rw [hE] at h1 hEb hcd HSC
    obtain ⟨code, hco⟩ : ∃ c, Lk.endCode s = c := ⟨_, rfl⟩
    rw [hco] at hcd HSC
    have hbW := HB.out.below hb
    have hEW := HE.out.below hb HE.out.1
    have hcut := cut_l a n cap E hEb
    have hB1 : BytesS W (cutAddr a E cap) (Cl.behind s E) := hbW.cut cap E s.size (by have := HN.out; omega) (by have := HN.out; omega) (Nat.le_refl _)
    have hz1 : n - E = (Cl.behind s E).size := by rw [Cl.behind_size, HN.out]
    have HFI := Lib.hid (first_any (cutAddr a E cap) (n - E) (cap - E) (Cl.behind s E) hz1 (by omega) (by rw [← hz1]; omega) W hEW hB1)
    rw [hcd] at HFI
    have hDl := (Array.getElem?_eq_some_iff.1 hK).1
    -- what lies in any later world
    have HLT : Hid (∀ W', Below W.heap.size W W' → PList (W'.putObj D (.deferred none)) v (xs.map (·.p)) ∧ Below w.heap.size w (W'.putObj D (.deferred none)) ∧ W'.heap[D]? = some (.deferred (some []))) := by
      refine Lib.hid fun W' hW' => ?_
      have hK' : W'.heap[D]? = some (.deferred (some [])) := (hW'.block D hDl).trans hK
      have hnc : ∀ r, some D = some r → ∃ o : Obj, W'.heap[r]? = some o ∧ o.isCells = false := fun r e => by cases e; exact ⟨_, hK', rfl⟩
      have hgw : W.grownBy W' none := ⟨hW'.os, hW'.tape, hW'.output, hW'.size, fun k hk _ => hW'.block k hk⟩
      refine ⟨⟨xs, rfl, ?_, fun x hx => ?_⟩, ?_, hK'⟩
      · have hr' := hr.grown hgw (fun _ _ => by simp)
        exact (hr'.grown (grownBy_putObj' W' D _) (hr'.ne hnc)).base (Nat.zero_le _)
      · have hx' : BRow W' 0 x.v (Cl.bl x.p) := BRow.grown (hm x hx) hgw (fun _ _ => by simp)
        exact hx'.grown (grownBy_putObj' W' D _) (hx'.ne hnc)
      · exact (hb.trans (hW'.mono (by omega))).grown (grownBy_putObj' W' D _) (by have := hW'.size; omega) (fun g e => by injection e with e; omega)
    have hc1 : W.cell? ⟨w.heap.size + 1, 0, none⟩ = some (.int .i64 (E : Nat)) := (h1.cl 0 _ rfl).1
    have HC : Hid (∀ W', Below W.heap.size W W' → W'.cell? ⟨w.heap.size + 1, 0, none⟩ = some (.int .i64 (E : Nat)) ∧ W'.cell? ⟨w.heap.size, 0, none⟩ = some v) := Lib.hid fun W' hW' => ⟨((h1.below hW' h1.lt).cl 0 _ rfl).1, ((hv.below hW' hv.lt).cl 0 _ rfl).1⟩
    obtain ⟨av, cv, rfl⟩ := hr.slice
    obtain ⟨kk, hkk⟩ : ∃ kk, (Lk.one (Cl.behind s E)).2.1 = kk := ⟨_, rfl⟩
    rw [hkk] at HFI
    generalize (xs.map (·.v)).length = m1 at HLT HC
    generalize cutAddr a E cap = a1 at hcut HFI
    generalize n - E = n1 at hcut HFI
    generalize cap - E = c1 at hcut HFI
    clear hv hr h1 h2 hm hb hsz hpl hS0 b0 b1 b2 hX hla hcd hmp hE hco hbW hEW hB1 hz1 hDl hK hD hS hkk
    go_wp2_with fail
    refine HFI.out.mono ?_
    rintro e w3 ⟨a3, n3, c3, rfl, _, _, _, hb3⟩
    have hC3 := HC.out w3 hb3
    have HL3 := HLT.out w3 hb3
    have hce := hC3.1
    have hcv := hC3.2
    by_cases hc17 : code = 17
    · subst hc17
      have HS2 : Hid (Lk.scan s = (xs.map (·.p), E, 0)) := Lib.hid (by rw [HSC.out, if_pos rfl])
      have HL4 : Hid (∀ q, PList ((w3.drewN q).putObj D (.deferred none)) (.slice av m1 cv) (xs.map (·.p)) ∧ Below w.heap.size w ((w3.drewN q).putObj D (.deferred none)) ∧ (w3.drewN q).heap[D]? = some (.deferred (some []))) := Lib.hid fun q => HLT.out _ (below_drewN hb3 q)
      clear hC3 HSC HL3
      go_wp2
      go_quiet (fail)
      go_wp2
      refine ⟨by simp, .inl ⟨_, _, rfl, run_takeDeferred (HL4.out _).2.2, ?_⟩⟩
      exact ⟨_, results_tmp3 rfl _ _ _, .slice av m1 cv, by rw [HS2.out]; rfl, by rw [HS2.out]; exact (HL4.out _).1, (HL4.out _).2.1⟩
    · have hc18 : (code : Int) ≠ 17 := by omega
      have HS2 : Hid (Lk.scan s = ([], 0, code)) := Lib.hid (by rw [HSC.out, if_neg hc17])
      clear hC3 hce hcv HSC
      go_wp2
      refine ⟨by simp, .inl ⟨_, _, rfl, run_takeDeferred HL3.2.2, ?_⟩⟩
      exact ⟨_, results_tmp3 rfl _ _ _, .slice none 0 0, by rw [HS2.out]; rfl, by rw [HS2.out]; exact ⟨[], rfl, World.ownsRow_nil _ _ _ _, fun x hx => by cases hx⟩, HL3.2.1⟩
end Go.Proofs.YtdiokcmhpndoeaaDoor
