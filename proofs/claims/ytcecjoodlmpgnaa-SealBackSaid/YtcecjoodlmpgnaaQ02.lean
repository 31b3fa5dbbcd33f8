/- Texts of this seat, one behind the other: AMem0, GTab, GMath, GField. -/
import Derived.Deep.MidRow
import Derived.Deep.AppendLies
import Derived.Deep.CutRange
import Derived.Laws.MakeOwn
import Derived.Test.YtcecjoodlmpgnaaQ01
/- Arrays in memory, a block known whole, texts and bytes: words for what stage 6's functions do. Nothing of any function. -/
namespace Go.Proofs.Ytcecjoodlmpgnaa
open Go.RowKit

theorem size_of (s : List UInt8) : (⟨s.toArray⟩ : ByteArray).size = s.length := by simp [ByteArray.size]
theorem one_byte (b : UInt8) (W : World) : (convert 59 9 (.slice (some ⟨W.heap.size, 0, none⟩) 1 1)).run Try.prog (W.alloc (.cells #[.int .u8 (b.toNat : Int)] 5)) = .ok (.string ⟨[b].toArray⟩) (W.alloc (.cells #[.int .u8 (b.toNat : Int)] 5)) :=
  run_convert_bytes_back (P := Try.prog) (W.alloc (.cells #[.int .u8 (b.toNat : Int)] 5)) 59 9 5 ⟨W.heap.size, 0, none⟩ 1 [b] Try.underlying59 Try.underlying5 Try.underlying9 (fun j hj => by
    obtain rfl : j = 0 := by simpa using hj
    simp [Addr.add])

theorem byte_at (l : List UInt8) (k : Nat) (h : k < l.length) : (⟨l.toArray⟩ : ByteArray)[k]'(by simpa [ByteArray.size] using h) = l.getD k 0 := by
  have : (⟨l.toArray⟩ : ByteArray)[k]'(by simpa [ByteArray.size] using h) = l[k] := rfl
  rw [this]; simp [List.getD, h]

theorem index_is (S : ByteArray) (i : Nat) (k : Int) (b : UInt8) (hk : (i : Int) = k) (h : S[i]? = some b) (W : World) : (Instr.index 9 (.string S) (.int .i64 k)).run Try.prog W = .ok (.int .u8 (b.toNat : Int)) W := by
  subst hk
  have hlt : i < S.size := by
    rcases Nat.lt_or_ge i S.size with h' | h'
    · exact h'
    · rw [getElem?_neg _ _ (by omega)] at h; cases h
  have hb : S[i] = b := by rw [getElem?_pos S i hlt] at h; exact Option.some.inj h
  rw [run_index_string (h := Try.underlying9), dif_pos ⟨by omega, by omega⟩]
  simp [hb]

theorem xor_byte (a c : UInt8) : bits .xor .u8 (a.toNat : Int) (c.toNat : Int) = ((a ^^^ c).toNat : Int) := by
  have ha := a.toNat_lt
  have hc := c.toNat_lt
  rw [u8_xor_nat _ _ (by omega) (by omega), UInt8.toNat_xor]

theorem at_get (l : List UInt8) (k : Nat) (h : k < l.length) : (⟨l.toArray⟩ : ByteArray)[k]? = some (l.getD k 0) := by
  have hs : k < (⟨l.toArray⟩ : ByteArray).size := by simpa [ByteArray.size] using h
  rw [getElem?_pos (⟨l.toArray⟩ : ByteArray) k hs, byte_at l k h]
theorem setCells_blk {w : World} {g : Nat} {t : TypeId} (l : List Value) : ∀ (o : Nat) (cs : Array Value), Blk w g t cs → ∀ A : List Value, A.length = o → ∀ C : List Value, C.length = l.length → cs = (A ++ C).toArray → Blk (w.setCells g o l) g t (A ++ l).toArray := by
  induction l generalizing w with
  | nil =>
    intro o cs h A hA C hC e
    have : C = [] := List.eq_nil_of_length_eq_zero hC
    subst this
    subst e
    exact h
  | cons v l ih =>
    intro o cs h A hA C hC e
    obtain ⟨c, C', rfl⟩ : ∃ c C', C = c :: C' := by
      cases C with
      | nil => simp at hC
      | cons c C' => exact ⟨c, C', rfl⟩
    have h2 := h.set_ o v
    have e2 : cs.setIfInBounds o v = (A ++ [v] ++ C').toArray := by
      subst e hA
      simp
    have := ih (o + 1) _ h2 (A ++ [v]) (by simp [hA]) C' (by simpa using hC) e2
    simpa [World.setCells] using this
theorem Blk.whole {w : World} {g : Nat} {t : TypeId} {cs : Array Value} (h : Blk w g t cs) (l : List Value) (hl : l.length = cs.size) : Blk (w.setCells g 0 l) g t l.toArray := by
  have := setCells_blk l 0 cs h [] rfl cs.toList (by simp [hl]) (by simp)
  simpa using this
theorem setCells_heap (l : List Value) : ∀ (w : World) (g o k : Nat), k ≠ g → (w.setCells g o l).heap[k]? = w.heap[k]? := by
  induction l with
  | nil => intro w g o k _; rfl
  | cons v l ih => intro w g o k hk; rw [World.setCells, ih _ _ _ _ hk]; exact Below.heap_setCell w ⟨g, o, none⟩ v k hk
theorem Blk.far_ {w : World} {g k : Nat} {t : TypeId} {cs : Array Value} (h : Blk w k t cs) (hk : k ≠ g) (o : Nat) (l : List Value) : Blk (w.setCells g o l) k t cs := (setCells_heap l w g o k hk).trans h
theorem below_setCells {B g : Nat} (hg : B ≤ g) (l : List Value) : ∀ (o : Nat) (w w1 : World), Below B w w1 → Below B w (w1.setCells g o l) := by
  induction l with
  | nil => intro o w w1 h; exact h
  | cons v l ih => intro o w w1 h; exact ih (o + 1) w _ (h.setCell (p := ⟨g, o, none⟩) hg v)
theorem bw {w w1 : World} (h : Below w.heap.size w w1) {g : Nat} (hg : w.heap.size ≤ g) (o : Nat) (l : List Value) : Below w.heap.size w (w1.setCells g o l) := below_setCells hg l o w w1 h
theorem Blk.there {w : World} {g : Nat} {t : TypeId} {cs : Array Value} (h : Blk w g t cs) {n : Nat} (hn : n ≤ cs.size) : w.there g 0 n := fun j hj => by
  rw [Nat.zero_add]
  refine ⟨?_, h.frozen j⟩
  rw [h.cell j]
  have : j < cs.size := by omega
  simp [this]
@[simp] theorem size_setCells (l : List Value) : ∀ (w : World) (g o : Nat), (w.setCells g o l).heap.size = w.heap.size := by
  induction l with
  | nil => intro w g o; rfl
  | cons v l ih => intro w g o; rw [World.setCells, ih]; simp [World.setCell]
theorem heap_alloc_new' (W : World) (o : Obj) {n : Nat} (h : W.heap.size = n) : (W.alloc o).heap[n]? = some o := by subst h; exact heap_alloc_new W o
theorem news_new (W : World) (l : List Value) (t : TypeId) (j : Nat) (u : Value) (hj : l[j]? = some u) : (W.alloc (.cells l.toArray t)).cell? ((⟨W.heap.size, 0, none⟩ : Addr).add j) = some u := by
  rw [Addr.add_mid, Nat.zero_add, cell_of_row _ _ _ _ _ _ (heap_alloc_new W _)]
  simpa using hj
theorem own_alloc {W : World} {base : Nat} {e : TypeId} {size : Nat} {v : Value} {n : Nat} {xs : List Value} (h : W.ownsRow base e size v n xs) (o : Obj) : (W.alloc o).ownsRow base e size v n xs := by
  obtain ⟨h1, h2⟩ := h
  refine ⟨h1, ?_⟩
  rcases h2 with h2 | ⟨g, cap, cur, hv, hg, hh, r⟩
  · exact Or.inl h2
  · exact Or.inr ⟨g, cap, cur, hv, hg, (Below.heap_alloc W o g (Array.getElem?_eq_some_iff.1 hh).1).trans hh, r⟩
theorem own_text {W : World} {base g c n : Nat} {l : List UInt8} (h : W.ownsRow base 5 1 (.slice (some ⟨g, 0, none⟩) n c) n (Lib.byteCells l)) (hn : l.length = n) : (convert 59 9 (.slice (some ⟨g, 0, none⟩) n c)).run Try.prog W = .ok (.string ⟨l.toArray⟩) W := by
  subst hn
  refine run_convert_bytes_back (P := Try.prog) W 59 9 5 ⟨g, 0, none⟩ c l Try.underlying59 Try.underlying5 Try.underlying9 (fun j hj => ?_)
  rw [Addr.add_mid, Nat.zero_add, h.cellAt j (by simpa using hj)]
  simp [Lib.byteCells, hj]
theorem bdn' {B : Nat} {a w : World} (h : Below B a w) (n : Nat) : Below B a (w.drewN n) := ⟨h.os, h.tape, h.output, h.size, h.block⟩
theorem drewN_name (w : World) (n : Nat) : ∃ w1, w.drewN n = w1 := ⟨_, rfl⟩

/-- A byte's cell. -/
abbrev uv (b : UInt8) : Value := .int .u8 (b.toNat : Int)
def ub (L : List UInt8) (i : Nat) : UInt8 := L.getD i 0
theorem ub_at {L : List UInt8} {i : Nat} (h : i < L.length) : ub L i = L[i] := by simp [ub, List.getD, h]
theorem row_at {L : List UInt8} {i : Nat} (h : i < L.length) : ((L.map uv).toArray)[i]? = some (uv (ub L i)) := by
  rw [ub_at h]; simp [h]
theorem uvs_one (L : List UInt8) : ∀ v ∈ L.map uv, v.oneCell' = true := by
  intro v hv
  obtain ⟨x, _, rfl⟩ := List.mem_map.1 hv
  rfl
theorem byteCells_uv (L : List UInt8) : Lib.byteCells L = L.map uv := rfl
theorem list_ext {A B : List UInt8} {n : Nat} (ha : A.length = n) (hb : B.length = n) (h : ∀ i, i < n → ub A i = ub B i) : A = B := by
  apply List.ext_getElem
  · rw [ha, hb]
  · intro i h1 h2
    rw [← ub_at h1, ← ub_at h2]
    exact h i (by omega)
/-- So many bytes, by their places. -/
def tab (n : Nat) (f : Nat → UInt8) : List UInt8 := (List.range n).map f
theorem tab_len (n : Nat) (f : Nat → UInt8) : (tab n f).length = n := by simp [tab]
theorem ub_tab {n : Nat} (f : Nat → UInt8) {i : Nat} (h : i < n) : ub (tab n f) i = f i := by
  rw [ub_at (by rw [tab_len]; exact h)]
  simp [tab]
theorem tab_ub {L : List UInt8} {n : Nat} (h : L.length = n) : tab n (ub L) = L := list_ext (tab_len _ _) h fun _ hi => ub_tab _ hi
theorem tab_ext {n : Nat} {f g : Nat → UInt8} (h : ∀ i, i < n → f i = g i) : tab n f = tab n g := list_ext (tab_len _ _) (tab_len _ _) fun i hi => by rw [ub_tab _ hi, ub_tab _ hi, h i hi]
/-- So many bytes of one list, and the others of another one. -/
def cutL (k : Nat) (N M : List UInt8) : List UInt8 := N.take k ++ M.drop k
theorem cutL_zero (N M : List UInt8) : cutL 0 N M = M := by simp [cutL]
theorem cutL_all {N M : List UInt8} {n : Nat} (hn : N.length = n) (hm : M.length = n) : cutL n N M = N := by
  subst hn
  simp [cutL, List.drop_of_length_le (Nat.le_of_eq hm)]
theorem cutL_len {N M : List UInt8} {n k : Nat} (hn : N.length = n) (hm : M.length = n) (h : k ≤ n) : (cutL k N M).length = n := by
  simp [cutL, hn, hm]; omega
theorem ub_cutL {N M : List UInt8} {n k i : Nat} (hn : N.length = n) (hm : M.length = n) (h : k ≤ n) (hi : i < n) : ub (cutL k N M) i = if i < k then ub N i else ub M i := by
  rw [ub_at (by rw [cutL_len hn hm h]; exact hi)]
  unfold cutL
  by_cases hik : i < k
  · rw [if_pos hik, List.getElem_append_left (by rw [List.length_take]; omega), List.getElem_take, ub_at (by omega)]
  · rw [if_neg hik, List.getElem_append_right (by rw [List.length_take]; omega), List.getElem_drop, ub_at (by omega)]
    congr 1
    rw [List.length_take]; omega
theorem cutL_set {N M : List UInt8} {n k : Nat} (hn : N.length = n) (hm : M.length = n) (h : k < n) : ((cutL k N M).map uv).toArray.setIfInBounds k (uv (ub N k)) = ((cutL (k + 1) N M).map uv).toArray := by
  have l1 := cutL_len (k := k) hn hm (by omega)
  have l2 := cutL_len (k := k + 1) hn hm (by omega)
  apply Array.ext
  · simp [l1, l2]
  · intro i h1 h2
    have hi : i < n := by simpa [l2] using h2
    have e2 := row_at (L := cutL (k + 1) N M) (i := i) (by omega)
    rw [Array.getElem?_eq_getElem h2] at e2
    rw [Option.some.inj e2, Array.getElem_setIfInBounds (by simpa [l1] using hi), ub_cutL hn hm (by omega) hi]
    by_cases hik : k = i
    · subst hik
      rw [if_pos rfl, if_pos (by omega)]
    · have e1 := row_at (L := cutL k N M) (i := i) (by omega)
      rw [Array.getElem?_eq_getElem (by simpa [l1] using hi)] at e1
      rw [if_neg hik, Option.some.inj e1, ub_cutL hn hm (by omega) hi]
      by_cases hl : i < k
      · rw [if_pos hl, if_pos (by omega)]
      · rw [if_neg hl, if_neg (by omega)]
theorem cutL_set4 {N M : List UInt8} {n k : Nat} (hn : N.length = n) (hm : M.length = n) (h : k + 4 ≤ n) :
    ((((((cutL k N M).map uv).toArray.setIfInBounds k (uv (ub N k))).setIfInBounds (k + 1) (uv (ub N (k + 1)))).setIfInBounds (k + 2) (uv (ub N (k + 2)))).setIfInBounds (k + 3) (uv (ub N (k + 3)))) = ((cutL (k + 4) N M).map uv).toArray := by
  rw [cutL_set hn hm (by omega), cutL_set hn hm (by omega), cutL_set hn hm (by omega), cutL_set hn hm (by omega)]
theorem four_list {L : List UInt8} (h : L.length = 4) : ∃ a b c d, L = [a, b, c, d] := by
  match L, h with
  | [a, b, c, d], _ => exact ⟨a, b, c, d, rfl⟩
theorem tab4 (f : Nat → UInt8) : tab 4 f = [f 0, f 1, f 2, f 3] := rfl
end Go.Proofs.Ytcecjoodlmpgnaa
/- Tables: x to the powers 2^k, and what a block's square and itself together tell of it. Nothing of any function. -/
namespace Go.Proofs.Ytcecjoodlmpgnaa
def sqT : List Nat := [2, 4, 16, 256, 65536, 4294967296, 18446744073709551616, 135, 16405, 268435729, 72057594037993729, 5192296858534827628530500624252929, 10695801939444132319206437814273, 40852786614935679133548678, 594486085799880, 317319171807580447641733255232, 21272841581577792734377501409119104880, 178123058470187579300754373079857658247, 185309517472602589216710143146226674206, 243359572833697916948025442825716044212, 2242402909557391341593841539292758713, 23534795660742517158384838884479883757, 174985988737277424980776175160916846157, 175030095290142335996286672108454299053, 265807388946362947165055761130818848797, 249252559114209554249604311851685858361, 58796763164556581763983006251523293764, 49134626841591323031921206452464859177, 27987540068191889485421864406071811155, 271029757364165806137532465049589437209, 280724925951004403811542151209009346242, 128752713728467045721822022561693573808, 159741227827866894033846763158209103146, 274834116766907886484561602157405644722, 269592872973127703478481607229849893488, 281740353144251213267627901976484830580, 43449847600466687806806694967245739940, 37727843099595198433684011782007776478, 311928417185453978908537250809886516984, 297740222968517774644413722072226000397, 32339339626698503367513300576590613010, 223132434853550809815195064548738067112, 265523960741914972480486897956328640665, 317476001073086156486538380654899563653, 281134273668648985900959546328737677036, 134228771238834113055021444037992255816, 150254873993691350120483903676558564010, 233624311168361768088952357930788403998, 301852678830317075984151617556076790269, 334713874327018819147718792733305726656, 102613057823079007323731014766805608102, 102960897267461938273022342347012760795, 12615472659389050585944223579430941846, 127982396443970808193093289421192168483, 80211020574021611523259929375765860447, 328306714951167239883061265636229931255, 154202500596702199027624208412024772979, 243851091912831247504069218024646202792, 27440791048182847192756476088690644789, 211387903213242387898935001709526309270, 159829576190644668190096436593299055684, 211134062703199012190249497033863383866, 82185866721533220436512213066902333519, 327395961906668187682165754937045283500, 129460184901158119860735353079755610614, 165640453935684170557382138895643060837, 258895673196720778598706762360552858556, 301930392259976828106625834641931740308, 254590090333913220966971847449742103658, 154605543219637426435106976091970670442, 328554470600989978311552677909447941173, 66427334083092228965437207507360258028, 269818012861271281423176274446422361113, 264132206416858785477441377236972222062, 334025740161143946608295602721698306491, 122383803109284106894334171034010591779, 296025850348968698648586558724418263869, 37960944824515205685591230648204258402, 226742293150914418175831072849372273624, 248467511393027050396179622604745119342, 161687256048543766767383987762312963194, 269110802679140966820977389101215773081, 195167772352272279581770856328715365701, 6839019468748781921035578916625770989, 119133456490525504919656485393064943290, 284976786280009736580048287615377352507, 53368461820224018424322992725600146993, 165521487478005576843608560748526611000, 195068410978310211650239904624548258566, 113589941149803520359128394698002916676, 249467295398400182484435455780551427523, 75006380269635190750556711265086168923, 318824008587287836741888684444380361623, 178459331004814995506250383468567150771, 211872363948266361377324272839095225429, 143811789042420870636385239690585466781, 86248589110002907259851524152594849147, 44507931730853748353717482469352571553, 32963873827986936976259691565938463060, 216630587467047648990556766097492264828, 185272067944601170075289186680278366549, 220985417642294560069226125886699449841, 264688778274977021302766754871988896216, 333264177890741770072193430405525003928, 33205950964766484238866480871644341798, 301310530123703810140221288298382736979, 254546671986439821273357947065150691235, 154463474563896264286711223429656871936, 238553731111275542579218303752720181533, 18384089493480778990035902178609102351, 75820400037257621222803633372476097890, 317696663419018730218660346852253168842, 265151192445743918497476159262292403413, 227243742383211985895879960446026839890, 253422517028958359388508295558326299841, 150927228725920353331738429768615062888, 313214421372485833387472208663997282205, 205270197963465857064863719867483624364, 64566217092196733533220887167246694252, 296938408697389789750215214903058009285, 10807226621238021931262095742919972793, 129631382596958590886433730895748353798, 59414367279926819390058891142076462501, 70216996008105906389747657374764050840, 264664062837534286517811593844813647762, 313275912279873968957145467509231826604, 205249681632336591850764335734481569114, 48611766702991209068831621643639680420, 2]
def unT : List Nat := [54969562866131847669016652494142573320, 305526867633558886955404559995676324868, 305526867633558886955404559995676324870, 104469799312523126935073530960423461388, 305526867633558886955404559995676324866, 56734434906695435454005472259553578602, 104469799312523126935073530960423461380, 271830150077582418345900040240152313368, 305526867633558886955404559995676324882, 104470118804432205535668098632526617412, 56734434906695435454005472259553578570, 227145695117876428321601179286510436182, 104469799312523126935073530960423461444, 305967500991204419130524647600360013666, 271830150077582418345900040240152313496, 227728627380917811012951187023350445606, 305526867633558886955404559995676325138, 56815181714465587187729576693626853178, 104470118804432205535668098632526616900, 2537993204061707162883588357039153916, 56734434906695435454005472259553577546, 3012428575888700110705650160495551628, 227145695117876428321601179286510434134, 275671395948664093117384310641479295528, 104469799312523126935073530960423465540, 271915852323952067842399232303023203416, 305967500991204419130524647600360005474, 102998777379450204286412735627287799860, 271830150077582418345900040240152297112, 272209106874770544727132909282711537316, 227728627380917811012951187023350412838, 135325830696997074197434372310186257282, 305526867633558886955404559995676390674, 57232084741685004684866676497372669754, 56815181714465587187729576693626984250, 135411474552265958872087683058005180738, 104470118804432205535668098632526879044, 275757512462385460142162890854388625828, 2537993204061707162883588357039678204, 274842411402277094064293402576501149528, 56734434906695435454005472259554626122, 175382474467339210118195525752143821788, 3012428575888700110705650160497648780, 5261797816253387317062014170447638976, 227145695117876428321601179286514628438, 272210066766835802062006483639670336468, 275671395948664093117384310641470906920, 225136856268418471551472419225175749014, 104469799312523126935073530960440242756, 102164174349821125137969924442995585924, 271915852323952067842399232302989648984, 226936647763116174786496543602468507498, 305967500991204419130524647600427114338, 305532029585887981283514747020026657774, 102998777379450204286412735627422017588, 133211003395652039953403666705387164366, 271830150077582418345900040239883861656, 102148097239065330920971689869502701364, 272209106874770544727132909283248408228, 173139448164521758332819425568250980204, 227728627380917811012951187022276671014, 305961988162602755697098987302884752222, 135325830696997074197434372312333740930, 175397880387343143921058595535091746080, 305526867633558886955404559991381423378, 329634352286836299080082914081100, 57232084741685004684866676505962604346, 172705286512742171128536335012890908524, 56815181714465587187729576710806853434, 303614986222712004812458293485509624930, 135411474552265958872087683023645442370, 170536380025231687221712635462198253856, 104470118804432205535668098701246355780, 225051247907070202050589524227723711914, 275757512462385460142162890991827579300, 308170559265311564786252692292247708062, 2537993204061707162883588082161771260, 102169133813289299704984590013427707636, 274842411402277094064293402026745335640, 303326766809063102477989677003176958226, 56734434906695435454005473359066253898, 172841837191359616877872241477191677152, 175382474467339210118195523553120566236, 54888141419452711199816878900948880442, 3012428575888700110705654558544159884, 307799342647640341558117533281787318686, 5261797816253387317062022966540661184, 273119276677551945356669168913118222868, 227145695117876428321601196878700672854, 272311600527812781647585363233504111460, 272210066766835802062006518824042425300, 5181299727675599870287693023180209980, 275671395948664093117384240272726729256, 305525142620375929691910208574098026146, 225136856268418471551472278487687393686, 307772801086609188417528170053220769746, 104469799312523126935073249485463532100, 54596111748351997025280216654447342278, 102164174349821125137970487392949007236, 308164931596625094656266467235253809106, 271915852323952067842398106403082806360, 227647953955287367714133036452945544742, 226936647763116174786494291802654822250, 308170555145571807541189819739699809694, 305967500991204419130520144000799743842, 133105130754254600986622393405343152142, 305532029585887981283523754219281398766, 172410759080424577518324870893406614048, 102998777379450204286394721228912535604, 54969320214588899006126198736319185926, 133211003395652039953439695502406128334, 227375442280390979429973553919662004774, 271830150077582418345827982645845933720, 4955917326648230773508684280683823104, 102148097239065330921115805057578557236, 172885700256406002458384310923462859152, 272209106874770544726844678907096696484, 56538291399058816093646072645906817530, 173139448164521758332242964815947556716, 55418003596362017635628740176384579466, 227728627380917811014104108526883517990, 0, 305961988162602755699404830312098446174, 178356100567250831900639352525185366892, 135325830696997074202046058330761128834, 189481146061086134017106552491789565356, 175397880387343143911835223498236970272, 75361565302940573017734093940626417402]
end Go.Proofs.Ytcecjoodlmpgnaa
/- Blocks as polynomials over 0 and 1, divided by x^128 + x^7 + x^2 + x + 1, in plain numbers (bit i is that of x^i): a field. Nothing of the program. -/
namespace Go.Proofs.Ytcecjoodlmpgnaa

abbrev B128 : Nat := 340282366920938463463374607431768211456
theorem b128 : B128 = 2 ^ 128 := by decide
/-- A block times x. -/
def gd (a : Nat) : Nat := (a % 170141183460469231731687303715884105728 * 2) ^^^ sel (a.testBit 127) 135
theorem lin_gd : Lin gd := Lin.add (f := fun a => a % 2 ^ 127 * 2 ^ 1) (Lin.comp (f := fun x => x * 2 ^ 1) (lin_mul 1) (lin_mod 127)) (Lin.bit 127 135)
theorem gxor_lt {a b : Nat} (h : a < B128) (k : b < B128) : a ^^^ b < B128 := Nat.xor_lt_two_pow (n := 128) h k
theorem gd_lt (a : Nat) : gd a < B128 := gxor_lt (by have := Nat.mod_lt a (show 0 < 170141183460469231731687303715884105728 by decide); show _ < 340282366920938463463374607431768211456; omega) (sel_lt (by decide) (by decide))
def gA : Nat → Nat → Nat → Nat
  | 0, _, _ => 0
  | k + 1, a, b => sel (b.testBit 0) a ^^^ gA k (gd a) (b / 2)
theorem glin_left (k : Nat) : ∀ b, Lin fun a => gA k a b := by
  induction k with
  | zero => intro b; exact Lin.none
  | succ k ih => intro b; exact Lin.add (f := fun a => sel (b.testBit 0) a) (Lin.sel Lin.self _) (Lin.comp (f := fun a => gA k a (b / 2)) (ih _) lin_gd)
theorem glin_right (k : Nat) : ∀ a, Lin fun b => gA k a b := by
  induction k with
  | zero => intro b; exact Lin.none
  | succ k ih => intro a; exact Lin.add (f := fun b => sel (b.testBit 0) a) (Lin.bit 0 a) (Lin.comp (f := fun b => gA k (gd a) b) (ih _) lin_half)
theorem gA_lt (k : Nat) : ∀ a b, a < B128 → gA k a b < B128 := by
  induction k with
  | zero => intro a b _; exact (by decide : (0 : Nat) < B128)
  | succ k ih => intro a b h; exact gxor_lt (sel_lt (by decide) h) (ih _ _ (gd_lt a))
/-- Two blocks' product. -/
def gm (a b : Nat) : Nat := gA 128 a b
theorem gm_left (b : Nat) : Lin fun a => gm a b := glin_left 128 b
theorem gm_right (a : Nat) : Lin fun b => gm a b := glin_right 128 a
theorem gm_lt {a : Nat} (b : Nat) (h : a < B128) : gm a b < B128 := gA_lt 128 a b h
theorem gm_zero (a : Nat) : gm a 0 = 0 := (gm_right a).zero
theorem zero_gm (a : Nat) : gm 0 a = 0 := (gm_left a).zero
theorem gm_spread (a b c : Nat) : gm a (b ^^^ c) = gm a b ^^^ gm a c := gm_right a b c
/-- As a reckoner goes. -/
def gS : Nat → Nat → Nat → Nat → Nat
  | 0, p, _, _ => p
  | k + 1, p, a, b => strict (p ^^^ sel (b.testBit 0) a) fun p' => strict (gd a) fun a' => strict (b / 2) fun b' => gS k p' a' b'
theorem gS_is (k : Nat) : ∀ p a b, gS k p a b = p ^^^ gA k a b := by
  induction k with
  | zero => intro p a b; exact (Nat.xor_zero p).symm
  | succ k ih => intro p a b; rw [gS, strict_is, strict_is, strict_is, ih, gA, Nat.xor_assoc]
theorem gm_is (a b : Nat) : gm a b = gS 128 0 a b := by rw [gS_is, Nat.zero_xor]; rfl

/-- So many times x. -/
def gX : Nat → Nat → Nat
  | 0, a => a
  | k + 1, a => gd (gX k a)
theorem gX_in (k : Nat) : ∀ a, gX k (gd a) = gd (gX k a) := by
  induction k with
  | zero => intro a; rfl
  | succ k ih => intro a; rw [gX, ih]; rfl
theorem lin_gX (k : Nat) : Lin (gX k) := by
  induction k with
  | zero => exact Lin.self
  | succ k ih => exact Lin.comp (f := gd) lin_gd ih
theorem gX_lt (k : Nat) {a : Nat} (h : a < B128) : gX k a < B128 := by
  cases k with
  | zero => exact h
  | succ k => exact gd_lt _
theorem gX_add (j k a : Nat) : gX (j + k) a = gX j (gX k a) := by
  induction j with
  | zero => rw [Nat.zero_add]; rfl
  | succ j ih => rw [show j + 1 + k = j + k + 1 by omega, gX, ih]; rfl
theorem gX_comm (j k a : Nat) : gX j (gX k a) = gX k (gX j a) := by rw [← gX_add, ← gX_add, Nat.add_comm]
theorem gA_gd (k : Nat) : ∀ a b, gA k (gd a) b = gd (gA k a b) := by
  induction k with
  | zero => intro a b; exact lin_gd.zero.symm
  | succ k ih =>
    intro a b
    rw [gA, gA, lin_gd, ih]
    congr 1
    cases b.testBit 0
    · exact lin_gd.zero.symm
    · rfl
theorem gA_pow (k : Nat) : ∀ i a, i < k → gA k a (2 ^ i) = gX i a := by
  induction k with
  | zero => intro i a h; omega
  | succ k ih =>
    intro i a h
    cases i with
    | zero =>
      rw [gA]
      have e : gA k (gd a) (2 ^ 0 / 2) = 0 := (glin_right k (gd a)).zero
      rw [e]
      simp [sel, gX]
    | succ i =>
      have e0 : (2 ^ (i + 1)).testBit 0 = false := by simp
      have e1 : 2 ^ (i + 1) / 2 = 2 ^ i := by rw [Nat.pow_succ]; omega
      rw [gA, e0, e1, ih i (gd a) (by omega), gX_in]
      simp [sel, gX]
theorem gm_pow {i : Nat} (a : Nat) (h : i < 128) : gm a (2 ^ i) = gX i a := gA_pow 128 i a h
theorem gm_gX (k a b : Nat) : gm (gX k a) b = gX k (gm a b) := by
  induction k with
  | zero => rfl
  | succ k ih => rw [gX]; show gA 128 (gd (gX k a)) b = _; rw [gA_gd]; show gd (gm (gX k a) b) = _; rw [ih]; rfl
theorem gd_pow {i : Nat} (h : i < 127) : gd (2 ^ i) = 2 ^ (i + 1) := by
  have key : ∀ i, i < 127 → gd (2 ^ i) = 2 ^ (i + 1) := by decide +kernel
  exact key i h
theorem gX_one {i : Nat} (h : i < 128) : gX i 1 = 2 ^ i := by
  induction i with
  | zero => rfl
  | succ i ih => rw [gX, ih (by omega), gd_pow (by omega)]
theorem block_ext {f g : Nat → Nat} (hf : Lin f) (hg : Lin g) (h : ∀ i, i < 128 → f (2 ^ i) = g (2 ^ i)) (x : Nat) (hx : x < B128) : f x = g x := lin_ext hf hg 128 h x hx
theorem one_gm {b : Nat} (h : b < B128) : gm 1 b = b :=
  block_ext (f := fun b => gm 1 b) (g := fun b => b) (gm_right 1) Lin.self (fun i hi => by show gm 1 (2 ^ i) = 2 ^ i; rw [gm_pow 1 hi, gX_one hi]) b h
theorem gm_one (a : Nat) : gm a 1 = a := gm_pow (i := 0) a (by omega)
theorem gm_comm {a b : Nat} (ha : a < B128) (hb : b < B128) : gm a b = gm b a :=
  block_ext (f := fun b => gm a b) (g := fun b => gm b a) (gm_right a) (gm_left a) (fun i hi => by
    show gm a (2 ^ i) = gm (2 ^ i) a
    rw [gm_pow a hi, ← gX_one hi, gm_gX, one_gm ha]) b hb
theorem gm_gXr {b : Nat} (k : Nat) {a : Nat} (ha : a < B128) (hb : b < B128) : gm a (gX k b) = gX k (gm a b) := by
  rw [gm_comm ha (gX_lt k hb), gm_gX, gm_comm hb ha]
theorem gm_assoc {a b c : Nat} (ha : a < B128) (hb : b < B128) (hc : c < B128) : gm (gm a b) c = gm a (gm b c) :=
  block_ext (f := fun b => gm (gm a b) c) (g := fun b => gm a (gm b c)) ((gm_left c).comp (gm_right a)) ((gm_right a).comp (gm_left c)) (fun i hi => by
    show gm (gm a (2 ^ i)) c = gm a (gm (2 ^ i) c)
    rw [gm_pow a hi, gm_gX, ← gX_one hi, gm_gX, one_gm hc, gm_gXr i ha hc]) b hb

/-- A block's square. -/
def gF (a : Nat) : Nat := gm a a
theorem gF_lt {a : Nat} (h : a < B128) : gF a < B128 := gm_lt a h
theorem gF_add {a b : Nat} (ha : a < B128) (hb : b < B128) : gF (a ^^^ b) = gF a ^^^ gF b := by
  unfold gF
  have e1 : gm (a ^^^ b) a = gm a a ^^^ gm b a := gm_left a a b
  have e2 : gm (a ^^^ b) b = gm a b ^^^ gm b b := gm_left b a b
  rw [gm_spread, e1, e2, gm_comm hb ha, Nat.xor_assoc, ← Nat.xor_assoc (gm a b) (gm a b), Nat.xor_self, Nat.zero_xor]
theorem gF_mul {a b : Nat} (ha : a < B128) (hb : b < B128) : gF (gm a b) = gm (gF a) (gF b) := by
  unfold gF
  rw [gm_assoc ha hb (gm_lt b ha), ← gm_assoc hb ha hb, gm_comm hb ha, gm_assoc ha hb hb, ← gm_assoc ha ha (gm_lt b hb)]
end Go.Proofs.Ytcecjoodlmpgnaa
/- A product of two blocks is 0 just if one of both is: what is squared 128 times is as it was; what is its own square is 0 or 1. Nothing of the program. -/
namespace Go.Proofs.Ytcecjoodlmpgnaa

/-- So many times squared. -/
def gFk : Nat → Nat → Nat
  | 0, a => a
  | k + 1, a => gF (gFk k a)
theorem gFk_lt (k : Nat) {a : Nat} (h : a < B128) : gFk k a < B128 := by
  cases k with
  | zero => exact h
  | succ k =>
    have : ∀ k, gFk k a < B128 := by
      intro k
      induction k with
      | zero => exact h
      | succ k ih => exact gF_lt ih
    exact this _
theorem gFk_mul (k : Nat) {a b : Nat} (ha : a < B128) (hb : b < B128) : gFk k (gm a b) = gm (gFk k a) (gFk k b) := by
  induction k with
  | zero => rfl
  | succ k ih => rw [gFk, ih, gF_mul (gFk_lt k ha) (gFk_lt k hb)]; rfl
theorem gFk_add (k : Nat) {a b : Nat} (ha : a < B128) (hb : b < B128) : gFk k (a ^^^ b) = gFk k a ^^^ gFk k b := by
  induction k with
  | zero => rfl
  | succ k ih => rw [gFk, ih, gF_add (gFk_lt k ha) (gFk_lt k hb)]; rfl
theorem sq_table : sqT.getD 0 0 = 2 ∧ sqT.getD 128 0 = 2 ∧ ∀ k, k < 128 → gS 128 0 (sqT.getD k 0) (sqT.getD k 0) = sqT.getD (k + 1) 0 := by decide +kernel
theorem gFk_two (k : Nat) (h : k ≤ 128) : gFk k 2 = sqT.getD k 0 := by
  induction k with
  | zero => exact sq_table.1.symm
  | succ k ih => rw [gFk, ih (by omega), gF, gm_is, sq_table.2.2 k (by omega)]
/-- Additive below 2^128 is enough. -/
theorem below_ext {f g : Nat → Nat} (hf : ∀ a b, a < B128 → b < B128 → f (a ^^^ b) = f a ^^^ f b) (hg : ∀ a b, a < B128 → b < B128 → g (a ^^^ b) = g a ^^^ g b) (h : ∀ i, i < 128 → f (2 ^ i) = g (2 ^ i)) {x : Nat} (hx : x < B128) : f x = g x := by
  have key : ∀ k, k ≤ 128 → ∀ x, x < 2 ^ k → f x = g x := by
    intro k
    induction k with
    | zero =>
      intro _ x hx
      obtain rfl : x = 0 := by omega
      have z : ∀ {f : Nat → Nat}, (∀ a b, a < B128 → b < B128 → f (a ^^^ b) = f a ^^^ f b) → f 0 = 0 := by
        intro f hf
        have := hf 0 0 (by decide) (by decide)
        rw [Nat.xor_self] at this
        rw [this, Nat.xor_self]
      rw [z hf, z hg]
    | succ k ih =>
      intro hk x hx
      have hp : 2 ^ k < B128 := by rw [b128]; exact Nat.pow_lt_pow_right (by omega) (by omega)
      by_cases hlt : x < 2 ^ k
      · exact ih (by omega) x hlt
      · have hb : x ^^^ 2 ^ k < 2 ^ k := by
          apply Nat.lt_pow_two_of_testBit
          intro i hi
          rw [Nat.testBit_xor]
          by_cases e : i = k
          · subst e
            have : x.testBit i = true := by
              rw [Nat.testBit_eq_decide_div_mod_eq]
              have h1 : x / 2 ^ i = 1 := by
                apply Nat.div_eq_of_lt_le
                · omega
                · rw [Nat.pow_succ] at hx; omega
              rw [h1]; rfl
            rw [this, Nat.testBit_two_pow_self]
            rfl
          · rw [Nat.testBit_lt_two_pow (Nat.lt_of_lt_of_le hx (Nat.pow_le_pow_right (by omega) (by omega))), Nat.testBit_two_pow_of_ne (by omega)]
            rfl
        have e : x = (x ^^^ 2 ^ k) ^^^ 2 ^ k := by rw [Nat.xor_assoc, Nat.xor_self, Nat.xor_zero]
        rw [e, hf _ _ (Nat.lt_trans hb hp) hp, hg _ _ (Nat.lt_trans hb hp) hp, ih (by omega) _ hb, h k (by omega)]
  exact key 128 (Nat.le_refl _) x (by rw [← b128]; exact hx)
theorem two_gm {i : Nat} (h : i < 127) : gm (2 ^ i) 2 = 2 ^ (i + 1) := by
  have := gm_pow (i := 1) (2 ^ i) (by omega)
  rw [show (2 : Nat) ^ 1 = 2 from rfl] at this
  rw [this]
  exact gd_pow h
/-- What is squared 128 times is as it was. -/
theorem gFk_all {a : Nat} (h : a < B128) : gFk 128 a = a := by
  refine below_ext (f := gFk 128) (g := fun a => a) (fun a b ha hb => gFk_add 128 ha hb) (fun _ _ _ _ => rfl) (fun i hi => ?_) h
  have h2 : gFk 128 2 = 2 := by rw [gFk_two 128 (Nat.le_refl _)]; exact sq_table.2.1
  have h1 : ∀ k, gFk k 1 = 1 := by
    intro k
    induction k with
    | zero => rfl
    | succ k ih => rw [gFk, ih]; exact gm_one 1
  show gFk 128 (2 ^ i) = 2 ^ i
  induction i with
  | zero => exact h1 128
  | succ i ih =>
    have hp : 2 ^ i < B128 := by rw [b128]; exact Nat.pow_lt_pow_right (by omega) (by omega)
    rw [← two_gm (by omega), gFk_mul 128 hp (by decide), ih (by omega), h2]
/-- A block by a table's rows. -/
def rowsL : List Nat → Nat → Nat
  | [], _ => 0
  | t :: l, a => sel (a.testBit 0) t ^^^ rowsL l (a / 2)
theorem lin_rows (l : List Nat) : Lin (rowsL l) := by
  induction l with
  | nil => exact Lin.none
  | cons t l ih => exact Lin.add (f := fun a => sel (a.testBit 0) t) (Lin.bit 0 t) (Lin.comp (f := rowsL l) ih lin_half)
def rowsS : List Nat → Nat → Nat → Nat
  | [], p, _ => p
  | t :: l, p, a => strict (p ^^^ sel (a.testBit 0) t) fun p' => strict (a / 2) fun a' => rowsS l p' a'
theorem rowsS_is (l : List Nat) : ∀ p a, rowsS l p a = p ^^^ rowsL l a := by
  induction l with
  | nil => intro p a; exact (Nat.xor_zero p).symm
  | cons t l ih => intro p a; rw [rowsS, strict_is, strict_is, ih, rowsL, Nat.xor_assoc]
theorem un_table : ∀ i, i < 128 → strict (gS 128 0 (2 ^ i) (2 ^ i)) (fun s => rowsS unT 0 (s ^^^ 2 ^ i)) = 2 ^ i ^^^ (2 ^ i % 2) := by decide +kernel
/-- What is its own square is 0 or 1. -/
theorem gF_own {e : Nat} (he : e < B128) (h : gF e = e) : e = 0 ∨ e = 1 := by
  have key : rowsL unT (gF e ^^^ e) = e ^^^ (e % 2) := by
    refine below_ext (f := fun e => rowsL unT (gF e ^^^ e)) (g := fun e => e ^^^ (e % 2)) (fun a b ha hb => ?_) (fun a b _ _ => ?_) (fun i hi => ?_) he
    · show rowsL unT (gF (a ^^^ b) ^^^ (a ^^^ b)) = rowsL unT (gF a ^^^ a) ^^^ rowsL unT (gF b ^^^ b)
      rw [gF_add ha hb, xor4, lin_rows]
    · show (a ^^^ b) ^^^ ((a ^^^ b) % 2) = (a ^^^ (a % 2)) ^^^ (b ^^^ (b % 2))
      have : (a ^^^ b) % 2 = (a % 2) ^^^ (b % 2) := lin_mod 1 a b
      rw [this, xor4]
    · have := un_table i hi
      rw [strict_is, rowsS_is, Nat.zero_xor, ← gm_is] at this
      exact this
  rw [h, Nat.xor_self, (lin_rows unT).zero] at key
  have h2 : e = e % 2 := by
    have : e ^^^ (e ^^^ (e % 2)) = e ^^^ 0 := by rw [← key]
    rw [← Nat.xor_assoc, Nat.xor_self, Nat.zero_xor, Nat.xor_zero] at this
    exact this.symm
  omega
/-- A block to the power 2^k - 1. -/
def gE (a : Nat) : Nat → Nat
  | 0 => 1
  | k + 1 => gm (gF (gE a k)) a
theorem gE_lt {a : Nat} (k : Nat) : gE a k < B128 := by
  induction k with
  | zero => exact (by decide : (1 : Nat) < B128)
  | succ k ih => exact gm_lt a (gF_lt ih)
theorem gE_up {a : Nat} (h : a < B128) (k : Nat) : gm a (gE a k) = gFk k a := by
  induction k with
  | zero => exact gm_one a
  | succ k ih =>
    have hF := gF_lt (gE_lt (a := a) k)
    rw [gE, gm_comm h (gm_lt a hF), gm_assoc hF h h]
    show gm (gF (gE a k)) (gF a) = _
    rw [← gF_mul (gE_lt k) h, gm_comm (gE_lt k) h, ih]
    rfl
/-- A product is 0 just if one of both is. -/
theorem gm_none {a b : Nat} (ha : a < B128) (hb : b < B128) (h : gm a b = 0) : a = 0 ∨ b = 0 := by
  have hF := gF_lt (gE_lt (a := a) 127)
  have he := gE_lt (a := a) 128
  have h1 : gm a (gE a 128) = a := by rw [gE_up ha, gFk_all ha]
  have hq : gE a 128 = gm (gF (gE a 127)) a := rfl
  have h2 : gF (gE a 128) = gE a 128 := by
    show gm (gE a 128) (gE a 128) = gE a 128
    have : gm (gm (gF (gE a 127)) a) (gE a 128) = gm (gF (gE a 127)) a := by rw [gm_assoc hF ha he, h1]
    rw [← hq] at this
    exact this
  have h3 : gm (gE a 128) b = 0 := by rw [hq, gm_assoc hF ha hb, h, gm_zero]
  rcases gF_own he h2 with e | e
  · left
    rw [e, gm_zero] at h1
    exact h1.symm
  · right
    rw [e, one_gm hb] at h3
    exact h3
end Go.Proofs.Ytcecjoodlmpgnaa
