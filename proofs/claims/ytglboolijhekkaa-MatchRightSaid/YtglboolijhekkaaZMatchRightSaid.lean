/- The statement MatchRight: the program's functions meet the list of contracts, so it holds. -/
import Derived.Test.YtglboolijhekkaaZMatchRightCard
import Derived.Test.YtglboolijhekkaaMg11
import Derived.Test.YtglboolijhekkaaMg09
namespace Go.Proofs.Ytglboolijhekkaa

theorem matchRight_said : Rows.MatchRightSaid := matchRight_holds matchOk_is graphOk_is

end Go.Proofs.Ytglboolijhekkaa
