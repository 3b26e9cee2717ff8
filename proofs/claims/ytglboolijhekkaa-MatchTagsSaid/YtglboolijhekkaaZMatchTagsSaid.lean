/- The statement MatchTags: the program's functions meet the list of contracts, so it holds. -/
import Derived.Test.YtglboolijhekkaaZMatchTagsCard
import Derived.Test.YtglboolijhekkaaMg11
import Derived.Test.YtglboolijhekkaaMg09
namespace Go.Proofs.Ytglboolijhekkaa

theorem matchTags_said : Rows.MatchTagsSaid := matchTags_holds matchOk_is graphOk_is specOk_match

end Go.Proofs.Ytglboolijhekkaa
