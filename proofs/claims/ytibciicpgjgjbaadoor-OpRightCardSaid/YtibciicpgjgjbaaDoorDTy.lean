/- What Right and Type answer. -/
import Derived.Test.YtibciicpgjgjbaaDoorDName
import Derived.Below
namespace Go.Proofs.YtibciicpgjgjbaaDoor
open Go.RowKit

def rightB (k : Int) (c : ByteArray) : Bool := if k = 4 then nameB c else decide (1 ≤ k ∧ k ≤ 5) && decide (c.size = 0)

/-- the text of a type -/
def typeT (k : Int) (c : ByteArray) : ByteArray :=
  if k = 1 then ⟨#[73]⟩ else if k = 2 then ⟨#[83]⟩ else if k = 3 then ⟨#[65]⟩ else if k = 5 then ⟨#[86]⟩ else if k = 4 then (⟨#[76]⟩ ++ c) ++ ⟨#[59]⟩ else ⟨#[]⟩

end Go.Proofs.YtibciicpgjgjbaaDoor
