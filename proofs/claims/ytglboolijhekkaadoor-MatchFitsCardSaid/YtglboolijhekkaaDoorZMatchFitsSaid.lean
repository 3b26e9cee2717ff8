/- The statement MatchFits: the program's functions meet the list of contracts, so its card holds. -/
import Derived.Test.YtglboolijhekkaaDoorZMatchFitsCard
import Derived.Test.YtglboolijhekkaaDoorMg11
import Derived.Test.YtglboolijhekkaaDoorMg09
namespace Go.Proofs.YtglboolijhekkaaDoor

theorem matchFits_said : Rows.MatchFitsCardSaid := matchFits_card matchOk_is graphOk_is specOk_match

end Go.Proofs.YtglboolijhekkaaDoor
