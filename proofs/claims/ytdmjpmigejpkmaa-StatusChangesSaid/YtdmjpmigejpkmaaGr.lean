import Derived.Shelf.LaySoft
import Derived.Shelf.Spec.SlicesGrow
import Derived.Ground.Names8Prog
import Derived.Test.YtdmjpmigejpkmaaProg
namespace Go.Proofs
open Go.Shelf
end Go.Proofs
