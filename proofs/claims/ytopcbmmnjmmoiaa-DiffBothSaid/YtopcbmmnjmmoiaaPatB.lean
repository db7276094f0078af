/- The document's element; slices.Equal at texts; a path's elements, whether a text is a path, and what elements are put together. -/
import Derived.Test.YtopcbmmnjmmoiaaPatA
import Derived.Test.YtopcbmmnjmmoiaaOctJ
import Derived.Deep.QuietTactic
import Derived.BigQuiet
namespace Go.Proofs.Ytopcbmmnjmmoiaa
open Go.RowKit
set_option maxRecDepth 100000

end Go.Proofs.Ytopcbmmnjmmoiaa
