/-
  Sizes of drafts and operations that the laws let through.
-/
import Derived.Test.YthgfpojfnhkckaaDoorOpM
namespace Go.Proofs.YthgfpojfnhkckaaDoor

def draftT (d : DraftN) : ByteArray := ⟨(draftB d).toArray⟩
/-- Sizes that the laws let through. -/
structure DraftN.Fit (d : DraftN) : Prop where
  ref : IdOk d.ref
  low : -9223372036854775808 ≤ d.kind
  high : d.kind ≤ 9223372036854775807
  key : d.key.length ≤ 512
  val : d.val.length ≤ 512
structure OpN.Fit (o : OpN) : Prop where
  d : o.d.Fit
  alow : -9223372036854775808 ≤ o.author
  ahigh : o.author ≤ 9223372036854775807
  dlow : -9223372036854775808 ≤ o.depth
  dhigh : o.depth ≤ 9223372036854775807
  preds : ∀ p ∈ o.preds, IdOk p
  many : o.preds.length ≤ 70
theorem OpN.Fit.ok {o : OpN} (h : o.Fit) : o.Ok := ⟨h.d.ref, h.preds⟩
end Go.Proofs.YthgfpojfnhkckaaDoor
