
/- A frame is scanned as its payload: pure. -/
import Derived.Test.YtdiokcmhpndoeaaDoorLkScanMath
namespace Go.Proofs.YtdiokcmhpndoeaaDoor
namespace Lk
theorem frame_len (p : List UInt8) : (frame p).length = 4 + (Cl.upL p.length).length + p.length := by
  rw [frame, body, List.length_append, List.length_append, hf_len]; omega
theorem one_frame (p : ByteArray) (r : List UInt8) (hp : p.size ≤ 200000) : one (Cl.tx (frame (Cl.bl p) ++ r)) = (p, (frame (Cl.bl p)).length, 0) := by
  have hfl := frame_len (Cl.bl p)
  rw [Cl.bl_len] at hfl
  have hz : (Cl.tx (frame (Cl.bl p) ++ r)).size = (frame (Cl.bl p)).length + r.length := by rw [Cl.tx_size, List.length_append]
  have hb : Cl.behind (Cl.tx (frame (Cl.bl p) ++ r)) 4 = Cl.tx (Cl.upL p.size ++ (Cl.bl p ++ r)) := by
    refine Cl.bl_inj ?_
    rw [Cl.bl_behind, Cl.bl_tx, Cl.bl_tx, frame, body, Cl.bl_len, List.append_assoc, List.append_assoc]
    exact List.drop_left' (hf_len _)
  have ht : Cl.takeText (Cl.behind (Cl.tx (frame (Cl.bl p) ++ r)) 4) 200000 = (p, (Cl.upL p.size).length + p.size, 0) := by
    rw [hb]; exact Cl.take_text p r 200000 (by omega) (by omega)
  have e : 4 + ((Cl.upL p.size).length + p.size) = (frame (Cl.bl p)).length := by rw [hfl]; omega
  have := one_yes (s := Cl.tx (frame (Cl.bl p) ++ r)) (by rw [hz]; omega) ht (by rw [e, Cl.bl_tx, List.take_left])
  rw [this, e]
theorem behind_frame (p r : List UInt8) : Cl.behind (Cl.tx (p ++ r)) p.length = Cl.tx r := Cl.bl_inj (by rw [Cl.bl_behind, Cl.bl_tx, Cl.bl_tx, List.drop_left])
theorem scan_frame (p : ByteArray) (hp : p.size ≤ 200000) : scan (Cl.tx (frame (Cl.bl p))) = ([p], (frame (Cl.bl p)).length, 0) := by
  have h1 : one (Cl.behind (Cl.tx (frame (Cl.bl p))) 0) = (p, (frame (Cl.bl p)).length, 0) := by
    rw [Cl.behind_zero]
    have := one_frame p [] hp
    rwa [List.append_nil] at this
  have h2 : scanN (Cl.tx (frame (Cl.bl p))) 1 = ([(0 + (frame (Cl.bl p)).length, p)], 0 + (frame (Cl.bl p)).length) := scanN_step (l := []) rfl h1
  have h3 : one (Cl.behind (Cl.tx (frame (Cl.bl p))) (0 + (frame (Cl.bl p)).length)) = (⟨#[]⟩, 0, 17) := by
    refine one_short ?_
    rw [Cl.behind_size, Cl.tx_size]; omega
  obtain ⟨e1, e2, e3⟩ := done h2 rfl (by rw [h3]; decide)
  rw [h3] at e3
  unfold scan
  rw [e3, if_pos rfl, e1, e2]
  simp
end Lk
end Go.Proofs.YtdiokcmhpndoeaaDoor
