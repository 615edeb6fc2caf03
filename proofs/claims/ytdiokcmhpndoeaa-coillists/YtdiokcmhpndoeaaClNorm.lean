
/- A region that can't end but normally: what is asked of its other ends may be forgotten. -/
import Derived.Test.YtdiokcmhpndoeaaClPlain
import Derived.Tactics
namespace Go.Proofs.Ytdiokcmhpndoeaa
/-- Q where the end is normal; nothing else -/
def NormQ (Q : Exit → Act → World → Prop) : Exit → Act → World → Prop
  | .normal, a, w => Q .normal a w
  | _, _, _ => False
theorem wp_norm {P : Program} {c : Code} {Q : Exit → Act → World → Prop} {a : Act} {w : World} (h : c.wp P (NormQ Q) a w) : c.wp P Q a w :=
  Code.wp_mono (fun e _ _ h => by cases e <;> first | exact h | exact h.elim) h
end Go.Proofs.Ytdiokcmhpndoeaa
