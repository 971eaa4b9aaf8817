/-
  The document's own reader: what each of its calls answers and leaves.
-/
import Derived.Test.YtglhjgfaelfleabLent
namespace Go.Proofs.Ytglhjgfaelfleab
open Go.RowKit Go.Shelf

end Go.Proofs.Ytglhjgfaelfleab
