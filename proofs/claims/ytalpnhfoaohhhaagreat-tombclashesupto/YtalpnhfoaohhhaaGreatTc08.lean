/- QFo -/
import Derived.Test.YtalpnhfoaohhhaaGreatTc07
import Derived.Deep.RegionHeldLaw
namespace Go.Proofs.YtalpnhfoaohhhaaGreat
open Go.RowKit
attribute [local go_sem ↓] ldS_eq stS_eq ldJ_eq stJ_eq ldP_eq stP_eq V.mk22_eq
attribute [local go_sem] zeros_JA cells_JAv zero_SC cells_SV fold_SC SC_size build_SC zero_PC cells_PV fold_PC PC_size
theorem sc_ne (s : Sn) : (SC s = #[]) = False := by simp [SC]
theorem lit_SC (e : Sn) : Array.foldl (fun cs x => cs.setIfInBounds x.snd x.fst) #[(SC sn0)[0]!, (SC sn0)[1]!, (SC sn0)[2]!] (SC e).zipIdx 0 3 = SC e := rfl
attribute [local go_sem] sc_ne lit_SC
end Go.Proofs.YtalpnhfoaohhhaaGreat
