/-
  TableFields (P7.2): the program's Field, Named and Takes answer what the document's do, whatever the table, the index, the number, the name and the kind, where what comes in is of bulk at most 1048576.
-/
import Derived.Test.YtbiohlfcikdldaaDoorCTP
import Derived.Test.YtbiohlfcikdldaaDoorCards
import Derived.Test.YtbiohlfcikdldaaDoorTie
import Derived.WalkKit
import Derived.ProofKit
import Derived.OpenShut
import Derived.ShutString
import Derived.ChangeOld
import Derived.Below
import Derived.Deep.DeepHandedRow
import Derived.Deep.DeepWitnessRowRef
namespace Go.Proofs.YtbiohlfcikdldaaDoor.tableFields
open Go.ChangeShapes Go.WideShapes Go.ChangeAt Go.RowKit
set_option maxRecDepth 1000000
set_option linter.unusedVariables false
end Go.Proofs.YtbiohlfcikdldaaDoor.tableFields
namespace Go.Proofs.YtbiohlfcikdldaaDoor
theorem tableFieldsUptoCard_holds : Rows.TableFieldsUptoCardSaid := tableFields.proved
#print axioms tableFieldsUptoCard_holds
end Go.Proofs.YtbiohlfcikdldaaDoor
