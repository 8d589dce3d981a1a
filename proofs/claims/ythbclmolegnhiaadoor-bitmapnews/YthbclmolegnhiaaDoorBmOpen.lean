/- How the laws' arguments are opened: slices of acts, arrays of ints. -/
import Derived.Test.YthbclmolegnhiaaDoorBmLaid
import Derived.Deep.Slices
import Derived.Deep.Fields
import Derived.ChangeSame
namespace Go.Proofs.YthbclmolegnhiaaDoor
open Go.ChangeShapes Go.WideShapes Go.ChangeAt Go.RowKit Go.Joins Go.Deep
end Go.Proofs.YthbclmolegnhiaaDoor
