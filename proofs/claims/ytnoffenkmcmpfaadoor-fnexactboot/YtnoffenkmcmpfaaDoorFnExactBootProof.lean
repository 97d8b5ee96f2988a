/- FnExactBoot: impl.Boot answers the classes that spec.Boot answers, all that they hold, in memory of its own, behind another call too; no condition but the table of the program's own that the row lists. -/
import Derived.Test.YtnoffenkmcmpfaaDoorBtO
import Derived.Test.YtnoffenkmcmpfaaDoorBtQ
namespace Go.Proofs.YtnoffenkmcmpfaaDoor
theorem fnExactBoot_holds : Rows.FnExactBootCardSaid := fnExactBoot.card_of specBoot_calls
#print axioms fnExactBoot_holds
end Go.Proofs.YtnoffenkmcmpfaaDoor
