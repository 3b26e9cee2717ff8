/- The statement MatchMore: the program's functions meet the list of contracts, so its card holds. -/
import Derived.Test.YtglboolijhekkaaDoorZMatchMoreCard
import Derived.Test.YtglboolijhekkaaDoorMg11
import Derived.Test.YtglboolijhekkaaDoorMg09
namespace Go.Proofs.YtglboolijhekkaaDoor

theorem matchMore_said : Rows.MatchMoreCardSaid := matchMore_card matchOk_is graphOk_is

end Go.Proofs.YtglboolijhekkaaDoor
