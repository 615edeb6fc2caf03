
/- slices.Values over numbers gives just its elements, in order. -/
import Derived.Test.YtdiokcmhpndoeaaClDigits
import Derived.Test.YtdiokcmhpndoeaaClTextsMath
namespace Go.Proofs.Ytdiokcmhpndoeaa
open Go.RowKit Go.Shelf
attribute [local go_sem] Oper.semAt_some
/-- the box and what it holds stay -/
def intKeeps (Bs : Nat) (a : Option Addr) (len : Nat) (A B : World) : Prop := B.heap[Bs]? = A.heap[Bs]? ∧ ∀ b o, a = some ⟨b, o, none⟩ → 0 < len → B.heap[b]? = A.heap[b]?
set_option maxRecDepth 100000 in
set_option maxHeartbeats 2000000 in
theorem intVal1_in {α : Type} (c : α → Value) (l Bs : Nat) (a : Option Addr) (len cap : Nat) (f : Nat → α) (hlen : len ≤ 1000000) (J Jx : List α → World → Prop)
    (hY : ∀ pre x W, J pre W → pre.length < len → YieldAt Fence.wide (2 - 1) Try.prog l #[c x] W fun e W' =>
      (e = .returned (.bool true) ∧ J (pre ++ [x]) W' ∧ intKeeps Bs a len W W') ∨ (e = .returned (.bool false) ∧ Jx (pre ++ [x]) W'))
    (W : World) (hBs : Blk W Bs 22 #[.slice a len cap]) (hF : Holds c W a len f) (h0 : J [] W) :
    CallsIn Fence.wide 2 Try.prog 30 #[.func (.yield l) #[] #[], .pointer (some ⟨Bs, 0, none⟩)] W fun e W' => (∃ v, e = .returned v) ∧
      ((∃ ys, ys = Cl.upto f len ∧ J ys W') ∨ (∃ pre, True ∧ Jx pre W')) := by
  have HF := Lib.hid hF
  have HB := Lib.hid hBs
  have hc0 : W.cell? ⟨Bs, 0, none⟩ = some (.slice a len cap) := (hBs.cl 0 _ rfl).1
  clear hF hBs
  refine callsIn_of_wp Try.func30 rfl trivial ?_ rfl
  simp only [Try.ntmps30, List.size_toArray, List.length_cons, List.length_nil, Nat.reduceAdd, Nat.reduceSub, Array.replicate_succ, Array.replicate_zero, List.push_toArray, List.append_toArray, List.nil_append, List.cons_append]
  gi_wp2
  gi_loopw [7] (fun i wr => ∃ k : Nat, k ≤ len ∧ i = .int .i64 k ∧ J (Cl.upto f k) wr ∧ Hid (intKeeps Bs a len W wr)) (fun i _ => len - (intOf i).toNat)
  case atStart => exact ⟨0, Nat.zero_le _, rfl, h0, Lib.hid ⟨rfl, fun _ _ _ _ => rfl⟩⟩
  case round =>
    obtain ⟨k, hk, rfl, hJs, HK⟩ := hrel
    by_cases hlt : k < len
    · obtain ⟨b, o, rfl, hblt, hc⟩ := HF.out.resolve_left (by omega)
      obtain ⟨fn, tmps, assign, body, hy, hR⟩ := hY _ (f k) wr hJs (by rw [Cl.upto_len]; exact hlt)
      have hcx : wr.cell? ⟨b, o + k, none⟩ = some (c (f k)) := (World.cell?_of_block (w := W) (a := ⟨b, o + k, none⟩) (HK.out.2 b o rfl (by omega))).trans (hc k hlt)
      clear hc hblt
      gi_wp2
      refine hR.mono ?_
      rintro e W3 (⟨rfl, hJ3, hk3⟩ | ⟨rfl, hJx3⟩)
      · gi_wp2
        go_roundw
        case rel => exact ⟨k + 1, by omega, by simp, by rw [Cl.upto_succ]; exact hJ3, Lib.hid ⟨hk3.1.trans HK.out.1, fun b' o' e h' => (hk3.2 b' o' e h').trans (HK.out.2 b' o' e h')⟩⟩
        case measure => simp [intOf]; omega
      · gi_wp2
        refine bodyPost_ret (results_none rfl _ _ _) rfl ?_
        exact ⟨⟨_, rfl⟩, .inr ⟨_, trivial, hJx3⟩⟩
    · obtain rfl : len = k := by omega
      gi_wp2
      go_end0
      exact ⟨⟨_, rfl⟩, .inl ⟨_, rfl, hJs⟩⟩
theorem intVal_stops {α : Type} (c : α → Value) (Bs : Nat) (a : Option Addr) (len cap : Nat) (f : Nat → α) (hlen : len ≤ 1000000) (w : World) (hB : Blk w Bs 22 #[.slice a len cap]) (hF : Holds c w a len f) :
    SeqStopsK Fence.wide 2 Try.prog 30 #[.pointer (some ⟨Bs, 0, none⟩)] (fun x : α => #[c x]) (intKeeps Bs a len) (fun ys => ys = Cl.upto f len) (fun _ => True) len w := fun l J Jx W hW _ _ hY h0 =>
  intVal1_in c l Bs a len cap f hlen J Jx hY W (hB.below hW hB.lt) (hF.below hW (Nat.le_refl _)) h0
theorem intVal_any (a : Option Addr) (len cap : Nat) (w : World) :
    Calls Try.prog 9 #[.slice a len cap] w fun e w' => e = .returned (.func (.func 30) #[] #[.pointer (some ⟨w.heap.size, 0, none⟩)]) ∧ w.alloc (.cells #[.slice a len cap] 22) = w' := by
  go_enter Try.func9, Try.ntmps9
  go_wp2
  go_ret
  exact ⟨rfl, rfl⟩
theorem intVal1_enters : ∀ args w, (callFunc 30 args).run Try.prog w = .ok (.enter 30 args) w := enters_of Try.func30 (by kernel_rfl) rfl
end Go.Proofs.Ytdiokcmhpndoeaa
