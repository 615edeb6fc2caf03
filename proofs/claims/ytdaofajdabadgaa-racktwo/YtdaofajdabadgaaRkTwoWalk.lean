
/- RackTwo answers true, whatever the input. -/
import Derived.Test.YtdaofajdabadgaaRkOrdersWalk
namespace Go.Proofs.Ytdaofajdabadgaa
open Go.RowKit
namespace Rk
def encS (k : ByteArray) : List Value := [.string k]
theorem infoS : (Try.prog.info? 9).map (fun i => (i.zero, i.size, i.bytes)) = some (some (.string ⟨#[]⟩), 1, 16) := by kernel_rfl
set_option maxRecDepth 100000 in
theorem layS : Vec.Lay Try.prog 53 9 1 encS where
  und := Try.underlying53
  len _ := rfl
  one x u hu := by simp [encS] at hu; rw [hu]; rfl
  pos := by decide
  info := by
    obtain ⟨i0, hi, hz0, hz1, hz2⟩ := info_parts infoS
    exact ⟨i0, _, hi, hz0, hz1, by omega, rfl⟩
  size w := by
    have z1 := Try.sizeOf9
    rw [Vec.elem_of Try.underlying53, z1]
  none' w ty b n cap a c h := by
    have z1 := Try.sizeOf9
    unfold Builtin.append_
    cases a <;> cases b <;> simp [go_sem, z1, Builtin.lenOf, Builtin.firstCells, h]
abbrev EsK (W : World) (x : Value) (l : List ByteArray) : Prop := Vec.Es 9 encS W x l
theorem cellsK (l : List ByteArray) : Vec.cells encS l = l.map Value.string := by
  induction l with
  | nil => rfl
  | cons x l ih => simp [Vec.cells, encS] at *; exact ih
theorem srcK {W : World} {a : Option Addr} {len cap : Nat} {f : Nat → ByteArray} (h : Holds Value.string W a len f) : Vec.Src encS W (.slice a len cap) (upK f len) := by
  have hl : (upK f len).length = len := by simp [upK]
  refine ⟨a, cap, by rw [hl], fun h0 => ?_⟩
  rw [hl] at h0
  rcases h with h | ⟨b, o, e, _, hc⟩
  · omega
  · refine ⟨b, o, e, fun j u hu => ?_⟩
    rw [cellsK, upK, List.map_map] at hu
    have hj : j < len := by
      have := (List.getElem?_eq_some_iff.1 hu).1
      simpa using this
    rw [hc j hj]
    simp [hj] at hu
    rw [← hu]
theorem appK_step {w W : World} {v x : Value} {l1 l2 : List ByteArray} (hB : Below w.heap.size w W) (ho : Vec.Own 9 1 encS W w.heap.size v l1) (hs : Vec.Src encS W x l2) (hz : l1.length + l2.length ≤ 100000) :
    ∃ v' W', (∀ ty, (AppE #[53, 53] ty #[v, x]).run Try.prog W = .ok v' W') ∧ Vec.Own 9 1 encS W' w.heap.size v' (l1 ++ l2) ∧ Below w.heap.size w W' := by
  obtain ⟨v', W', h1, h2, h3, _⟩ := Vec.run_app layS W 53 w.heap.size ho hs hz hB.size
  exact ⟨v', W', fun ty => h1, h2, hB.grown h3 hB.size fun g hg => ho.geB g hg⟩
attribute [local go_sem ↓] appE_eq
/-- three racks, the list of the third one, and all keys, in memory -/
structure Thr (w W : World) (R1 R2 R3 : Nat) (T1 T2 T3 : Tr ByteArray Int) (l : List Ent) (sl : Value) (ks : List ByteArray) (sv : Value) : Prop where
  r1 : RakS W R1 T1
  r2 : RakS W R2 T2
  r3 : RakS W R3 T3
  es : EsE W sl l
  ks : EsK W sv ks
  n12 : R1 ≠ R2
  n13 : R1 ≠ R3
  n23 : R2 ≠ R3
  l1 : w.heap.size ≤ R1
  l2 : w.heap.size ≤ R2
  l3 : w.heap.size ≤ R3
  b : Below w.heap.size w W
section
variable {w W W' : World} {R1 R2 R3 : Nat} {T1 T2 T3 T : Tr ByteArray Int} {l l' : List Ent} {sl sl' : Value} {ks : List ByteArray} {sv : Value}
theorem Thr.below (h : Thr w W R1 R2 R3 T1 T2 T3 l sl ks sv) (hb : Below W.heap.size W W') : Thr w W' R1 R2 R3 T1 T2 T3 l sl ks sv :=
  ⟨h.r1.below hb, h.r2.below hb, h.r3.below hb, h.es.below hb, h.ks.below hb, h.n12, h.n13, h.n23, h.l1, h.l2, h.l3, below_step h.b (Nat.le_refl _) hb⟩
theorem Thr.put1 (h : Thr w W R1 R2 R3 T1 T2 T3 l sl ks sv) (hg : W.grownBy W' (some R1)) (hr : RakS W' R1 T) : Thr w W' R1 R2 R3 T T2 T3 l sl ks sv := by
  obtain ⟨p, hb, _⟩ := h.r1
  exact ⟨hr, h.r2.grown hg hb (by decide) (Ne.symm h.n12), h.r3.grown hg hb (by decide) (Ne.symm h.n13), h.es.keep (Keeps.grown hg hb (by decide)), h.ks.keep (Keeps.grown hg hb (by decide)), h.n12, h.n13, h.n23, h.l1, h.l2, h.l3, grown_out h.b h.l1 hg⟩
theorem Thr.put2 (h : Thr w W R1 R2 R3 T1 T2 T3 l sl ks sv) (hg : W.grownBy W' (some R2)) (hr : RakS W' R2 T) : Thr w W' R1 R2 R3 T1 T T3 l sl ks sv := by
  obtain ⟨p, hb, _⟩ := h.r2
  exact ⟨h.r1.grown hg hb (by decide) h.n12, hr, h.r3.grown hg hb (by decide) (Ne.symm h.n23), h.es.keep (Keeps.grown hg hb (by decide)), h.ks.keep (Keeps.grown hg hb (by decide)), h.n12, h.n13, h.n23, h.l1, h.l2, h.l3, grown_out h.b h.l2 hg⟩
theorem Thr.put3 (h : Thr w W R1 R2 R3 T1 T2 T3 l sl ks sv) (hg : W.grownBy W' (some R3)) (hr : RakS W' R3 T) : Thr w W' R1 R2 R3 T1 T2 T l sl ks sv := by
  obtain ⟨p, hb, _⟩ := h.r3
  exact ⟨h.r1.grown hg hb (by decide) h.n13, h.r2.grown hg hb (by decide) h.n23, hr, h.es.keep (Keeps.grown hg hb (by decide)), h.ks.keep (Keeps.grown hg hb (by decide)), h.n12, h.n13, h.n23, h.l1, h.l2, h.l3, grown_out h.b h.l3 hg⟩
theorem Thr.list (h : Thr w W R1 R2 R3 T1 T2 T3 l sl ks sv) (hb : Below W.heap.size W W') (he : EsE W' sl' l') : Thr w W' R1 R2 R3 T1 T2 T3 l' sl' ks sv := by
  have h' := h.below hb
  exact ⟨h'.r1, h'.r2, h'.r3, he, h'.ks, h.n12, h.n13, h.n23, h.l1, h.l2, h.l3, h'.b⟩
end
def g1 (_ : ByteArray) : Int := 1
/-- behind the first keys -/
structure TwJ (w W : World) (R1 R2 R3 : Nat) (T1 T2 T3 : Tr ByteArray Int) (sl : Value) (ka kb : List ByteArray) (sv : Value) (i : Nat) : Prop where
  s : Thr w W R1 R2 R3 T1 T2 T3 T3.inl sl (ka ++ kb) sv
  o2 : Ok cS T2
  o3 : Ok cS T3
  h2 : Hs T2 (kb.take (i - ka.length)) g1
  h3 : Hs T3 ((ka ++ kb).take i) g1
  fit : Fit T3.inl
  c1 : T1.cnt ≤ i
  c2 : T2.cnt ≤ i
  c3 : T3.cnt ≤ i
/-- behind the first drops -/
structure TwD (w W : World) (R1 R2 R3 : Nat) (T1 T2 T3 : Tr ByteArray Int) (l : List Ent) (sl : Value) (ka kb : List ByteArray) (sv : Value) (i : Nat) : Prop where
  s : Thr w W R1 R2 R3 T1 T2 T3 l sl (ka ++ kb) sv
  o2 : Ok cS T2
  o3 : Ok cS T3
  h2 : Hs T2 kb g1
  hin : ∀ k, k ∈ kb → getL cS k T3.inl = some 1
  hno : ∀ k, k ∉ kb → k ∉ ka.drop i → getL cS k T3.inl = none
  c2 : T2.cnt ≤ 120
  c3 : T3.cnt ≤ 120
theorem TwD.same {w W : World} {R1 R2 R3 : Nat} {T1 T2 T3 : Tr ByteArray Int} {l : List Ent} {sl : Value} {ka kb : List ByteArray} {sv : Value} {i : Nat} (h : TwD w W R1 R2 R3 T1 T2 T3 l sl ka kb sv i) (hi : ka.length ≤ i) : T3.inl = T2.inl :=
  srt_ext _ _ h.o3.srt h.o2.srt fun k => by
    by_cases e : k ∈ kb
    · rw [h.hin k e, (h.h2 k).1 e]; rfl
    · rw [h.hno k e (by rw [List.drop_eq_nil_of_le hi]; simp), (h.h2 k).2 e]
theorem drop_mem {ka : List ByteArray} {i : Nat} (hi : i < ka.length) {k : ByteArray} (h : k ∉ ka.drop (i + 1)) (hne : k ≠ ka[i]) : k ∉ ka.drop i := by
  rw [List.drop_eq_getElem_cons hi]
  intro hm
  rcases List.mem_cons.1 hm with e | e
  · exact hne e
  · exact h e
set_option maxRecDepth 2000000 in
set_option maxHeartbeats 16000000 in
theorem rackTwo_walk (a0 : Option Addr) (la ca : Nat) (fa : Nat → ByteArray) (b0 : Option Addr) (lb cb : Nat) (fb : Nat → ByteArray) (w : World) (hla : la ≤ maxLen) (hsa : ∀ i, i < la → (fa i).size ≤ maxLen) (hA : Holds Value.string w a0 la fa) (hlb : lb ≤ maxLen) (hsb : ∀ i, i < lb → (fb i).size ≤ maxLen) (hB : Holds Value.string w b0 lb fb) :
    Calls Try.prog 7 #[.slice a0 la ca, .slice b0 lb cb] w fun e w' => e = .returned (.bool true) ∧ Below w.heap.size w w' := by
  have HN := Lib.hid (lawNew_any w)
  have HSA := Lib.hid hsa
  have HSB := Lib.hid hsb
  have HA := Lib.hid hA
  have HB := Lib.hid hB
  unfold maxLen at hla hlb
  clear hA hB hsa hsb
  go_enter Try.func7, Try.ntmps7
  go_wp2_with fail
  refine HN.out.mono ?_
  rintro e w1 ⟨rfl, hR1, hb1⟩
  have HN2 := Lib.hid (lawNew_any w1)
  obtain ⟨R1, hR⟩ : ∃ R, w.heap.size = R := ⟨_, rfl⟩
  have HRE : Hid (w.heap.size ≤ R1) := by unfold Hid; omega
  have HB1 : Hid (Below w.heap.size w w1) := hb1
  have HR1 : Hid (RakS w1 R1 .nil) := by rw [← hR]; exact hR1
  rw [hR]
  clear hR1 hb1 hR HN
  go_wp2_with fail
  refine HN2.out.mono ?_
  rintro e w2 ⟨rfl, hR2, hb2⟩
  have HN3 := Lib.hid (lawNew_any w2)
  obtain ⟨R2, hR⟩ : ∃ R, w1.heap.size = R := ⟨_, rfl⟩
  have HT2 : Hid (Two w w2 R1 R2 .nil .nil) := ⟨HR1.out.below hb2, by rw [← hR]; exact hR2, by have := HR1.out.lt; omega, HRE.out, by have := HB1.out.size; omega, below_step HB1.out (Nat.le_refl _) hb2⟩
  rw [hR]
  clear hR2 hb2 hR HN2 HR1 HB1
  go_wp2_with fail
  refine HN3.out.mono ?_
  rintro e w3 ⟨rfl, hR3, hb3⟩
  have HAW := Lib.hid (awake_any w3)
  obtain ⟨R3, hR⟩ : ∃ R, w2.heap.size = R := ⟨_, rfl⟩
  have HT3 := Lib.hid (HT2.out.below hb3)
  have HR3 : Hid (RakS w3 R3 .nil ∧ R1 ≠ R3 ∧ R2 ≠ R3 ∧ w.heap.size ≤ R3) := ⟨by rw [← hR]; exact hR3, by have := HT2.out.r1.lt; omega, by have := HT2.out.r2.lt; omega, by have := HT2.out.b.size; omega⟩
  rw [hR]
  clear hR3 hb3 hR HN3 HT2
  go_wp2_with fail
  refine HAW.out.mono ?_
  rintro e w4 ⟨rfl, hb4⟩
  have HT4 := Lib.hid (HT3.out.below hb4)
  have HR4 : Hid (RakS w4 R3 .nil) := HR3.out.1.below hb4
  have HRN := Lib.hid HR3.out.2
  clear hb4 HAW HT3 HR3
  have hEND : ∀ W, Hid (Below w.heap.size w W) → Calls Try.prog 9 #[] W fun e w' => e = .returned (.bool true) ∧ Below w.heap.size w w' := fun W hW => (awake_any W).mono fun e w' ⟨h1, h2⟩ => ⟨h1, below_step hW.out (Nat.le_refl _) h2⟩
  by_cases ha60 : (60 : Int) < (la : Int)
  · have HAW := Lib.hid (hEND w4 HT4.out.b)
    clear hEND
    go_wp2_with fail
    refine HAW.out.mono ?_
    rintro e w5 ⟨rfl, hb5⟩
    go_wp2
    go_ret
    exact ⟨rfl, hb5⟩
  · by_cases hb60 : (60 : Int) < (lb : Int)
    · have HAW := Lib.hid (hEND w4 HT4.out.b)
      clear hEND
      go_wp2_with fail
      refine HAW.out.mono ?_
      rintro e w5 ⟨rfl, hb5⟩
      go_wp2
      go_ret
      exact ⟨rfl, hb5⟩
    · clear hEND
      obtain ⟨ka, hka⟩ : ∃ k, upK fa la = k := ⟨_, rfl⟩
      obtain ⟨kb, hkb⟩ : ∃ k, upK fb lb = k := ⟨_, rfl⟩
      have hkal : ka.length = la := by rw [← hka]; simp [upK]
      have hkbl : kb.length = lb := by rw [← hkb]; simp [upK]
      have HKA := Lib.hid hka
      have HKL := Lib.hid (And.intro hkal hkbl)
      have HKS : Hid (∀ k ∈ ka ++ kb, k.size ≤ maxLen) := fun k hk => by
        rcases List.mem_append.1 hk with h | h
        · rw [← hka] at h; simp only [upK, List.mem_map, List.mem_range] at h; obtain ⟨i, hi, rfl⟩ := h; exact HSA.out i hi
        · rw [← hkb] at h; simp only [upK, List.mem_map, List.mem_range] at h; obtain ⟨i, hi, rfl⟩ := h; exact HSB.out i hi
      have bA : Below w4.heap.size w4 (w4.alloc (.cells #[] 9)) := (Below.refl _ _).alloc (Nat.le_refl _) _
      obtain ⟨v1, W1, r1, o1, b1⟩ := appK_step bA (Vec.Own.new encS 1 w4 w4.heap.size (Nat.le_refl _)) (srcK (cap := ca) (holds_below HA.out (below_step HT4.out.b (Nat.le_refl _) bA))) (by simp [upK]; omega)
      rw [List.nil_append, hka] at o1
      obtain ⟨v2, W2, r2, o2, b2⟩ := appK_step b1 o1 (srcK (cap := cb) (holds_below HB.out (below_step HT4.out.b (Nat.le_refl _) b1))) (by rw [hkal]; simp [upK]; omega)
      rw [hkb] at o2
      obtain ⟨av, nv, cv, hv2, HNV⟩ : ∃ a n c, v2 = .slice a n c ∧ Hid (n = la + lb) := by
        obtain ⟨a, c, e, _⟩ := o2.es
        exact ⟨a, _, c, e, by unfold Hid; rw [List.length_append]; omega⟩
      subst hv2
      have hnv := HNV.out
      subst hnv
      have HTW : Hid (TwJ w W2 R1 R2 R3 .nil .nil .nil (.slice none 0 0) ka kb (.slice av (la + lb) cv) 0) :=
        ⟨⟨HT4.out.r1.below b2, HT4.out.r2.below b2, HR4.out.below b2, Vec.Es.nil _ _ _, o2.es, HT4.out.ne, HRN.out.1, HRN.out.2.1, HT4.out.l1, HT4.out.l2, HRN.out.2.2, below_step HT4.out.b (Nat.le_refl _) b2⟩, Ok.nil, Ok.nil, by simpa using Hs.nil g1, by simpa using Hs.nil g1, ⟨Nat.zero_le _, fun x hx => by cases hx⟩, Nat.le_refl _, Nat.le_refl _, Nat.le_refl _⟩
      have hlab : la ≤ 60 ∧ lb ≤ 60 := by omega
      clear bA o1 b1 o2 b2 HT4 HR4 HRN hka hkb hkal hkbl HB HSB HSA HNV
      go_wp2_with fail
      go_loopw [8, 50] (fun lv iv wr => ∃ (i : Nat) (T1 T2 T3 : Tr ByteArray Int) (a : Option Addr) (n c : Nat), i ≤ la + lb ∧ n ≤ i ∧ lv = .slice a n c ∧ iv = .int .i64 (i : Int) ∧ Hid (TwJ w wr R1 R2 R3 T1 T2 T3 (.slice a n c) ka kb (.slice av (la + lb) cv) i ∧ n = T3.inl.length)) (fun _ iv _ => la + lb - (intOf iv).toNat)
      case atStart => exact ⟨0, .nil, .nil, .nil, none, 0, 0, Nat.zero_le _, Nat.le_refl _, rfl, rfl, HTW.out, rfl⟩
      case round =>
        obtain ⟨i, T1, T2, T3, a, n, c, hi, hni, rfl, rfl, HREL⟩ := hrel
        clear HTW
        by_cases hlt : i < la + lb
        · have hT := HREL.out.1
          have hil : i < (ka ++ kb).length := by rw [List.length_append, HKL.out.1, HKL.out.2]; exact hlt
          obtain ⟨a9, c9, he9, _, hg9⟩ := hT.s.ks.get layS.len
          injection he9 with e1 e2 e3
          obtain ⟨b9, o9, e9, hcell⟩ := hg9 (by omega)
          rw [e9] at e1
          have c0 : wr.cell? ⟨b9, o9 + i, none⟩ = some (.string (ka ++ kb)[i]) := by
            have := hcell i hil 0 _ (by decide) rfl
            rw [Nat.mul_one, Nat.add_zero] at this
            exact this
          have hks : (ka ++ kb)[i].size ≤ maxLen := HKS.out _ (List.getElem_mem hil)
          have HKK := Lib.hid hks
          unfold maxLen at hks
          have htk3 : (ka ++ kb).take (i + 1) = (ka ++ kb).take i ++ [(ka ++ kb)[i]] := by rw [List.take_succ_eq_append_getElem hil]
          have htk2a : i < la → kb.take (i + 1 - ka.length) = kb.take (i - ka.length) := fun h => by rw [HKL.out.1]; congr 1; omega
          have htk2b : ¬ i < la → kb.take (i + 1 - ka.length) = kb.take (i - ka.length) ++ [(ka ++ kb)[i]] := fun h => by
            have h1 : i - ka.length < kb.length := by rw [HKL.out.1, HKL.out.2]; omega
            rw [show i + 1 - ka.length = i - ka.length + 1 by rw [HKL.out.1]; omega, List.take_succ_eq_append_getElem h1, List.getElem_append_right (by rw [HKL.out.1]; omega)]
          generalize (ka ++ kb)[i] = k at c0 hks HKK htk3 htk2b
          have HTK := Lib.hid (And.intro htk3 (And.intro htk2a htk2b))
          have HT := Lib.hid hT
          have hAV : av = some ⟨b9, o9, none⟩ := e1
          clear hT hg9 hcell e1 e2 e3 e9 HREL htk3 htk2a htk2b hil
          subst hAV
          by_cases h100 : (100 : Int) < (k.size : Int)
          · have HBB := Lib.hid HT.out.s.b
            clear HT
            go_wp2
            go_ret
            exact ⟨rfl, HBB.out⟩
          · by_cases hia : i < la
            · have HP1 := Lib.hid (put_S R1 T1 k 1 wr (by have := HT.out.c1; omega) HT.out.s.r1)
              generalize decide ((T1.ins cS k 1).cnt = T1.cnt) = db1 at HP1
              go_wp2_with fail
              refine HP1.out.mono ?_
              rintro e W3 ⟨rfl, hr3, hg3⟩
              have HS3 := Lib.hid (HT.out.s.put1 hg3 hr3)
              have HP3 := Lib.hid (put_S R3 T3 k 1 W3 (by have := HT.out.c3; omega) HS3.out.r3)
              generalize decide ((T3.ins cS k 1).cnt = T3.cnt) = db3 at HP3
              clear hr3 hg3 HP1
              go_wp2_with fail
              refine HP3.out.mono ?_
              rintro e W4 ⟨rfl, hr4, hg4⟩
              have HS4 := Lib.hid (HS3.out.put3 hg4 hr4)
              have HRP := Lib.hid (refPut_any a n c T3.inl k 1 W4 HT.out.fit HKK.out HS4.out.es)
              clear hr4 hg4 HP3 HS3
              go_wp2_with fail
              refine HRP.out.mono ?_
              rintro e W5 ⟨sl5, rfl, hes5, hb5⟩
              obtain ⟨a5, n5, c5, rfl, HN5⟩ := slice_of hes5
              have hinl := ins_inl odS k 1 T3 HT.out.o3.srt
              have hc3 := ins_len HT.out.c3 k 1
              have HNX : Hid (TwJ w W5 R1 R2 R3 (T1.ins cS k 1) T2 (T3.ins cS k 1) (.slice a5 n5 c5) ka kb (.slice (some ⟨b9, o9, none⟩) (la + lb) cv) (i + 1)) := by
                refine ⟨by rw [hinl]; exact HS4.out.list hb5 hes5, HT.out.o2, HT.out.o3.ins odS _ _, ?_, ?_, ?_, ins_len HT.out.c1 k 1, Nat.le_succ_of_le HT.out.c2, hc3⟩
                · rw [HTK.out.2.1 hia]; exact HT.out.h2
                · rw [HTK.out.1]; exact HT.out.h3.ins HT.out.o3 k
                · rw [hinl]; exact fit_ins HT.out.fit HKK.out (by have := HT.out.c3; rw [Tr.cnt_inl] at this; omega)
              have hn5 : n5 ≤ i + 1 := by rw [HN5.out, ← hinl, ← Tr.cnt_inl]; exact hc3
              rw [← hinl] at HN5
              clear hes5 hb5 HRP HS4 hinl hc3 HT
              go_wp2
              go_roundw
              case rel => exact ⟨i + 1, T1.ins cS k 1, T2, T3.ins cS k 1, a5, n5, c5, by omega, hn5, rfl, by go_num, HNX.out, HN5.out⟩
              case measure => simp [intOf]; omega
            · have HP1 := Lib.hid (put_S R2 T2 k 1 wr (by have := HT.out.c2; omega) HT.out.s.r2)
              generalize decide ((T2.ins cS k 1).cnt = T2.cnt) = db1 at HP1
              go_wp2_with fail
              refine HP1.out.mono ?_
              rintro e W3 ⟨rfl, hr3, hg3⟩
              have HS3 := Lib.hid (HT.out.s.put2 hg3 hr3)
              have HP3 := Lib.hid (put_S R3 T3 k 1 W3 (by have := HT.out.c3; omega) HS3.out.r3)
              generalize decide ((T3.ins cS k 1).cnt = T3.cnt) = db3 at HP3
              clear hr3 hg3 HP1
              go_wp2_with fail
              refine HP3.out.mono ?_
              rintro e W4 ⟨rfl, hr4, hg4⟩
              have HS4 := Lib.hid (HS3.out.put3 hg4 hr4)
              have HRP := Lib.hid (refPut_any a n c T3.inl k 1 W4 HT.out.fit HKK.out HS4.out.es)
              clear hr4 hg4 HP3 HS3
              go_wp2_with fail
              refine HRP.out.mono ?_
              rintro e W5 ⟨sl5, rfl, hes5, hb5⟩
              obtain ⟨a5, n5, c5, rfl, HN5⟩ := slice_of hes5
              have hinl := ins_inl odS k 1 T3 HT.out.o3.srt
              have hc3 := ins_len HT.out.c3 k 1
              have HNX : Hid (TwJ w W5 R1 R2 R3 T1 (T2.ins cS k 1) (T3.ins cS k 1) (.slice a5 n5 c5) ka kb (.slice (some ⟨b9, o9, none⟩) (la + lb) cv) (i + 1)) := by
                refine ⟨by rw [hinl]; exact HS4.out.list hb5 hes5, HT.out.o2.ins odS _ _, HT.out.o3.ins odS _ _, ?_, ?_, ?_, Nat.le_succ_of_le HT.out.c1, ins_len HT.out.c2 k 1, hc3⟩
                · rw [HTK.out.2.2 hia]; exact HT.out.h2.ins HT.out.o2 k
                · rw [HTK.out.1]; exact HT.out.h3.ins HT.out.o3 k
                · rw [hinl]; exact fit_ins HT.out.fit HKK.out (by have := HT.out.c3; rw [Tr.cnt_inl] at this; omega)
              have hn5 : n5 ≤ i + 1 := by rw [HN5.out, ← hinl, ← Tr.cnt_inl]; exact hc3
              rw [← hinl] at HN5
              clear hes5 hb5 HRP HS4 hinl hc3 HT
              go_wp2
              go_roundw
              case rel => exact ⟨i + 1, T1, T2.ins cS k 1, T3.ins cS k 1, a5, n5, c5, by omega, hn5, rfl, by go_num, HNX.out, HN5.out⟩
              case measure => simp [intOf]; omega
        · obtain rfl : i = la + lb := by omega
          have hT := HREL.out.1
          have HNN := Lib.hid HREL.out.2
          have h2 := hT.h2
          rw [HKL.out.1, show la + lb - la = lb by omega, List.take_of_length_le (by rw [HKL.out.2]; exact Nat.le_refl _)] at h2
          have h3 := hT.h3
          rw [List.take_of_length_le (by rw [List.length_append, HKL.out.1, HKL.out.2]; exact Nat.le_refl _)] at h3
          have HTD : Hid (TwD w wr R1 R2 R3 T1 T2 T3 T3.inl (.slice a n c) ka kb (.slice av (la + lb) cv) 0) :=
            ⟨hT.s, hT.o2, hT.o3, h2, fun k hk => (h3 k).1 (by simp [hk]), fun k h1 h2 => (h3 k).2 (by simp only [List.drop_zero] at h2; simp [h1, h2]), by have := hT.c2; omega, by have := hT.c3; omega⟩
          have HAL := Lib.hid (all_S R3 T3 wr (by have := hT.c3; omega) hT.s.r3)
          have HLL : Hid (T3.inl.length ≤ 1000) := by unfold Hid; rw [← Tr.cnt_inl]; have := hT.c3; omega
          clear hT h2 h3 HREL
          go_wp2_with fail
          refine HAL.out.mono ?_
          rintro e W3 ⟨f3, rfl, hs3, hb3⟩
          have HT3 := Lib.hid (HTD.out.s.below hb3)
          have HG := Lib.hid (goes_any f3 a n c T3.inl 200 W3 HLL.out HT3.out.es hs3 (by omega))
          clear hs3 hb3 HAL
          go_wp2_with fail
          refine HG.out.mono ?_
          rintro e W4 ⟨rfl, hb4⟩
          have HT4 : Hid (TwD w W4 R1 R2 R3 T1 T2 T3 T3.inl (.slice a n c) ka kb (.slice av (la + lb) cv) 0) := ⟨HT3.out.below hb4, HTD.out.o2, HTD.out.o3, HTD.out.h2, HTD.out.hin, HTD.out.hno, HTD.out.c2, HTD.out.c3⟩
          obtain ⟨L3, hL3⟩ : ∃ L, T3.inl = L := ⟨_, rfl⟩
          have HT4' : Hid (TwD w W4 R1 R2 R3 T1 T2 T3 L3 (.slice a n c) ka kb (.slice av (la + lb) cv) 0) := by rw [← hL3]; exact HT4.out
          clear hb4 HG HT3 HTD HT4 HLL HNN hL3
          go_wp2_with fail
          go_loopw [82] (fun iv wr => ∃ (i : Nat) (T3 : Tr ByteArray Int), i ≤ la ∧ iv = .int .i64 (i : Int) ∧ Hid (TwD w wr R1 R2 R3 T1 T2 T3 L3 (.slice a n c) ka kb (.slice av (la + lb) cv) i)) (fun iv _ => la - (intOf iv).toNat)
          case atStart => exact ⟨0, T3, Nat.zero_le _, rfl, HT4'.out⟩
          case round =>
            obtain ⟨i, T3, hi, rfl, HREL⟩ := hrel
            clear HT4'
            by_cases hlt : i < la
            · have hT := HREL.out
              rcases holds_below HA.out hT.s.b with h0 | ⟨bA, oA, hAa, hbl, hcA⟩
              · omega
              · subst hAa
                have c0 := hcA i hlt
                have hil : i < ka.length := by rw [HKL.out.1]; exact hlt
                have hki : ka[i] = fa i := by simp [← HKA.out, upK]
                have HGE := Lib.hid (get_S R2 T2 (fa i) wr hT.s.r2)
                rw [get_inl odS (fa i) T2 hT.o2.srt] at HGE
                have HKI := Lib.hid hki
                by_cases hm : fa i ∈ kb
                · rw [(hT.h2 _).1 hm] at HGE
                  simp only [Option.getD_some, Option.isSome_some] at HGE
                  have HNX : Hid (∀ W, Below wr.heap.size wr W → TwD w W R1 R2 R3 T1 T2 T3 L3 (.slice a n c) ka kb (.slice av (la + lb) cv) (i + 1)) := fun W hW =>
                    ⟨hT.s.below hW, hT.o2, hT.o3, hT.h2, hT.hin, fun k h1 h2 => hT.hno k h1 (drop_mem hil h2 (fun e => h1 (by rw [e, hki]; exact hm))), hT.c2, hT.c3⟩
                  generalize fa i = k at c0 HGE
                  clear hT hcA hil hki HREL hm HKI
                  go_wp2_with fail
                  refine HGE.out.mono ?_
                  rintro e W5 ⟨rfl, hb5⟩
                  have HN5 := Lib.hid (HNX.out W5 hb5)
                  clear hb5 HGE HNX
                  go_wp2
                  go_roundw
                  case rel => exact ⟨i + 1, T3, by omega, by go_num, HN5.out⟩
                  case measure => simp [intOf]; omega
                · rw [(hT.h2 _).2 hm] at HGE
                  simp only [Option.getD_none, Option.isSome_none] at HGE
                  have HNX : Hid (∀ W W', Below wr.heap.size wr W → W.grownBy W' (some R3) → RakS W' R3 (T3.del cS (fa i)) → TwD w W' R1 R2 R3 T1 T2 (T3.del cS (fa i)) L3 (.slice a n c) ka kb (.slice av (la + lb) cv) (i + 1)) := fun W W' hW hg hr => by
                    refine ⟨(hT.s.below hW).put3 hg hr, hT.o2, hT.o3.del odS _, hT.h2, fun k hk => ?_, fun k h1 h2 => ?_, hT.c2, ?_⟩
                    · rw [del_inl odS _ T3 hT.o3.srt, getL_delL odS _ _ _ hT.o3.srt, if_neg (fun e => hm (by rw [← odS.eq _ _ e]; exact hk)), hT.hin k hk]
                    · rw [del_inl odS _ T3 hT.o3.srt, getL_delL odS _ _ _ hT.o3.srt]
                      by_cases e : cS k (fa i) = 0
                      · rw [if_pos e]
                      · rw [if_neg e]
                        exact hT.hno k h1 (drop_mem hil h2 (fun e2 => e (by rw [e2, hki]; exact odS.self _)))
                    · rcases del_cnt (c := cS) (fa i) T3 with e | e <;> have := hT.c3 <;> omega
                  have HDR : Hid (∀ W, RakS W R3 T3 → Calls Try.prog 14 #[.pointer (some ⟨R3, 0, none⟩), .string (fa i)] W fun e w' => (∃ b : Bool, e = .returned (.bool b)) ∧ RakS w' R3 (T3.del cS (fa i)) ∧ W.grownBy w' (some R3)) := fun W hW =>
                    (drop_S R3 T3 (fa i) W (by have := hT.c3; omega) hW).mono fun e w' ⟨h1, h2, h3⟩ => ⟨⟨_, h1⟩, h2, h3⟩
                  have HR3 := Lib.hid hT.s.r3
                  generalize fa i = k at c0 HGE HNX HDR
                  clear hT hcA hil hki HREL hm HKI
                  go_wp2_with fail
                  refine HGE.out.mono ?_
                  rintro e W5 ⟨rfl, hb5⟩
                  have HB5 := Lib.hid hb5
                  have HD5 := Lib.hid (HDR.out W5 (HR3.out.below hb5))
                  clear hb5 HGE HDR
                  go_wp2_with fail
                  refine HD5.out.mono ?_
                  rintro e W6 ⟨⟨b6, rfl⟩, hr6, hg6⟩
                  have HN6 := Lib.hid (HNX.out W5 W6 HB5.out hg6 hr6)
                  clear hr6 hg6 HD5 HNX HB5
                  go_wp2
                  go_roundw
                  case rel => exact ⟨i + 1, _, by omega, by go_num, HN6.out⟩
                  case measure => simp [intOf]; omega
            · obtain rfl : i = la := by omega
              have hT := HREL.out
              have hinl := hT.same (by rw [HKL.out.1]; exact Nat.le_refl _)
              have hcc : T3.cnt = T2.cnt := by rw [Tr.cnt_inl, Tr.cnt_inl, hinl]
              have hal : Below wr.heap.size wr (wr.alloc (.cells #[.slice none 0 0] 27)) := (Below.refl _ _).alloc (Nat.le_refl _) _
              have HT1 := Lib.hid (hT.s.below hal)
              have HAL := Lib.hid (all_S R2 T2 (wr.alloc (.cells #[.slice none 0 0] 27)) (by have := hT.c2; omega) HT1.out.r2)
              have HQ := Lib.hid (Blk.new wr 27 #[.slice none 0 0])
              obtain ⟨q, hq⟩ : ∃ q, wr.heap.size = q := ⟨_, rfl⟩
              have HQL : Hid (w.heap.size ≤ q) := by rw [← hq]; exact hT.s.b.size
              rw [hq] at HQ
              have HI := Lib.hid hinl
              have HCC := Lib.hid hcc
              have HN1 := Lib.hid hT.c2
              clear hT HREL hal hinl hcc HA
              go_wp2_with fail
              refine HAL.out.mono ?_
              rintro e W3 ⟨f3, rfl, hs3, hb3⟩
              obtain ⟨gf, lbf, rfl, eg, hseq⟩ := hs3
              have HT3 := Lib.hid (HT1.out.below hb3)
              have hJ0 : AddJ w q (fun W => RakS W R2 T2 ∧ RakS W R3 T3) T2.inl T2.inl W3 := ⟨[], .slice none 0 0, rfl, HQ.out.below hb3 HQ.out.lt, World.ownsRow_nil _ _ _ _, HQL.out, HT3.out.b, HT3.out.r2, HT3.out.r3⟩
              have hll : T2.inl.length ≤ 1000 := by have := HN1.out; rw [← Tr.cnt_inl]; omega
              have HCL := Lib.hid (hseq 35 #[.pointer (some ⟨q, 0, none⟩)] (fun args w => by kernel_rfl) (fun _ => true) (AddJ w q (fun W => RakS W R2 T2 ∧ RakS W R3 T3) T2.inl) (fun _ => False)
                (fun l A h => by obtain ⟨pre, v, h1, h2, h3, h4, h5, h6, h7⟩ := h; exact ⟨pre, v, h1, h2, h3, h4, below_dr h5, h6.below (below_dr0 A), h7.below (below_dr0 A)⟩)
                (fun x rest W h => addTwo_any w q (fun W => RakS W R2 T2 ∧ RakS W R3 T3) (fun A C h hk => ⟨h.1.stays hk, h.2.stays hk⟩) T2.inl hll x rest W h) W3 (Below.refl _ _) hJ0)
              have HLL := Lib.hid hll
              clear hseq hJ0 hb3 HAL HT1 HQ hll HT3
              go_wp2_with fail
              refine HCL.out.mono ?_
              rintro e W5 ⟨⟨v5, rfl⟩, R5, -⟩
              obtain ⟨pre, v, hpre, hq5, ho5, -, hb5, hr25, hr35⟩ := R5.1 (by
                have : ∀ l r : List Ent, run (fun _ => true) l r = true := fun l => by
                  induction l with
                  | nil => intro r; rfl
                  | cons x l ih => intro r; simp [run, ih]
                exact this _ _)
              rw [List.append_nil] at hpre
              subst hpre
              have hes := ho5.es
              obtain ⟨a5, n5, c5, rfl, HNE⟩ := slice_of hes
              have HB5 := Lib.hid hb5
              have HA2 := Lib.hid (all_S R3 T3 W5.drew (by have := HCC.out; have := HN1.out; omega) (hr35.below (below_dr0 _)))
              rw [HI.out] at HA2
              have HGO : Hid (∀ W' fv, Below W5.heap.size W5 W' → SeqS W' fv T2.inl → Calls Try.prog 19 #[fv, .slice a5 n5 c5, .int .i64 200] W' fun e w' => e = .returned (.bool true) ∧ Below W'.heap.size W' w') := fun W' fv hb' hs' =>
                goes_any fv a5 n5 c5 T2.inl 200 W' HLL.out (hes.below hb') hs' (by omega)
              have HL3 : Hid (∀ W', Below W5.heap.size W5 W' → Calls Try.prog 17 #[.pointer (some ⟨R3, 0, none⟩)] W' fun e w' => e = .returned (.int .i64 (T2.cnt : Nat)) ∧ W' = w') := fun W' hb' => by
                have := len_S R3 T3 W' (hr35.below hb')
                rw [HCC.out] at this
                exact this
              have HL2 : Hid (∀ W', Below W5.heap.size W5 W' → Calls Try.prog 17 #[.pointer (some ⟨R2, 0, none⟩)] W' fun e w' => e = .returned (.int .i64 (T2.cnt : Nat)) ∧ W' = w') := fun W' hb' => len_S R2 T2 W' (hr25.below hb')
              have HC : Hid (∀ W', Below W5.heap.size W5 W' → W'.cell? ⟨q, 0, none⟩ = some (.slice a5 n5 c5)) := fun W' hb' => ((hq5.below hb' hq5.lt).cl 0 _ rfl).1
              have cq := HC.out W5 (Below.refl _ _)
              generalize T2.cnt = cc at HL2 HL3
              have hcce : ((cc : Int) == (cc : Int)) = true := by simp
              clear hq5 ho5 hes hb5 hr25 hr35 R5 HCL HNE HLL HN1 HI HCC
              go_wp2_with fail
              go_region_held3 (fun w' => w'.cell? ⟨q, 0, none⟩ = some (.slice a5 n5 c5)) (first | go_keep | exact HC.out _ B2 | exact HC.out _ B1)
                (first
                  | (go_at_call_of 17 (Value.pointer (some (⟨R2, 0, none⟩ : Addr))); refine (HL2.out _ B2).mono ?_; rintro e wE ⟨rfl, rfl⟩)
                  | (go_at_call_of 17 (Value.pointer (some (⟨R3, 0, none⟩ : Addr))); refine (HL3.out _ B2).mono ?_; rintro e wD ⟨rfl, rfl⟩)
                  | (go_at_call 19; refine (HGO.out _ f2 B1 hs2).mono ?_; rintro e wC ⟨rfl, B2'⟩; have B2 := below_step B1 (Nat.le_refl _) B2')
                  | (go_at_call 20; refine HA2.out.mono ?_; rintro e wB ⟨f2, rfl, hs2, B1'⟩; have B1 := below_step (below_dr0 W5) (Nat.le_refl _) B1'))
              all_goals
                go_wp2
                go_ret
                exact ⟨by simp, below_step HB5.out (Nat.le_refl _) B2⟩
end Rk
end Go.Proofs.Ytdaofajdabadgaa
