/- The document's own: a set without another one's nodes. -/
import Derived.Test.YtlbibgofhhdgoaaGreatNodP
namespace Go.Proofs.YtlbibgofhhdgoaaGreat
open Go.RowKit
set_option maxRecDepth 100000

end Go.Proofs.YtlbibgofhhdgoaaGreat
