/- ShareFades holds of the program: what is cleaned is clean, and cleaned again the same; fading never makes more, and by none changes nothing; one half twice is two halves; a sum is no less than any of its parts. No condition: every input. -/
import Derived.Test.YtaehhafdodoljaaSharePOk
import Derived.Test.YtaehhafdodoljaaShareFadesCard
namespace Go.Proofs.Ytaehhafdodoljaa

theorem shareFades_said : Rows.ShareFadesSaid := shareFades_holds shareOk_is

end Go.Proofs.Ytaehhafdodoljaa
