/- What strings.Join puts together. -/
import Derived.Test.YtlbibgofhhdgoaaGreatOctP
import Derived.Test.YtlbibgofhhdgoaaGreatOctS
namespace Go.Proofs.YtlbibgofhhdgoaaGreat
open Go.RowKit
set_option maxRecDepth 100000

end Go.Proofs.YtlbibgofhhdgoaaGreat
