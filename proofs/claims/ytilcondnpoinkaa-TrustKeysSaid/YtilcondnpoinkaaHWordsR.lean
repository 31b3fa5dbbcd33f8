/- The reference's words, of any block. -/
import Derived.Test.YtilcondnpoinkaaHWords
import Derived.Test.YtilcondnpoinkaaHSumR
import Derived.Test.YtilcondnpoinkaaHKeys
import Derived.Test.YtilcondnpoinkaaHArr
namespace Go.Proofs.Ytilcondnpoinkaa

theorem rwords_holds : RWords := fun b w hb => (words_any b hb w).mono fun _ _ ⟨g, c, he, ho, hbl⟩ => ⟨g, c, he, fun _ hj => own_wn ho (sched_len b 64) hj, hbl⟩

end Go.Proofs.Ytilcondnpoinkaa
