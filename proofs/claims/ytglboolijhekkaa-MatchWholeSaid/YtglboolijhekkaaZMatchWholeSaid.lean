/- The statement MatchWhole: the program's functions meet the list of contracts, so it holds. -/
import Derived.Test.YtglboolijhekkaaZMatchWholeCard
import Derived.Test.YtglboolijhekkaaMg11
import Derived.Test.YtglboolijhekkaaMg09
namespace Go.Proofs.Ytglboolijhekkaa

theorem matchWhole_said : Rows.MatchWholeSaid := matchWhole_holds matchOk_is graphOk_is

end Go.Proofs.Ytglboolijhekkaa
