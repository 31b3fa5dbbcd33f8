/- Texts of this seat, one behind the other: GTab, GMath, GField, GBits. -/
import Derived.Test.YtcecjoodlmpgnaaGreatQ04
/- Tables: x to the powers 2^k, and what a block's square and itself together tell of it. Nothing of any function. -/
namespace Go.Proofs.YtcecjoodlmpgnaaGreat
def sqT : List Nat := [2, 4, 16, 256, 65536, 4294967296, 18446744073709551616, 135, 16405, 268435729, 72057594037993729, 5192296858534827628530500624252929, 10695801939444132319206437814273, 40852786614935679133548678, 594486085799880, 317319171807580447641733255232, 21272841581577792734377501409119104880, 178123058470187579300754373079857658247, 185309517472602589216710143146226674206, 243359572833697916948025442825716044212, 2242402909557391341593841539292758713, 23534795660742517158384838884479883757, 174985988737277424980776175160916846157, 175030095290142335996286672108454299053, 265807388946362947165055761130818848797, 249252559114209554249604311851685858361, 58796763164556581763983006251523293764, 49134626841591323031921206452464859177, 27987540068191889485421864406071811155, 271029757364165806137532465049589437209, 280724925951004403811542151209009346242, 128752713728467045721822022561693573808, 159741227827866894033846763158209103146, 274834116766907886484561602157405644722, 269592872973127703478481607229849893488, 281740353144251213267627901976484830580, 43449847600466687806806694967245739940, 37727843099595198433684011782007776478, 311928417185453978908537250809886516984, 297740222968517774644413722072226000397, 32339339626698503367513300576590613010, 223132434853550809815195064548738067112, 265523960741914972480486897956328640665, 317476001073086156486538380654899563653, 281134273668648985900959546328737677036, 134228771238834113055021444037992255816, 150254873993691350120483903676558564010, 233624311168361768088952357930788403998, 301852678830317075984151617556076790269, 334713874327018819147718792733305726656, 102613057823079007323731014766805608102, 102960897267461938273022342347012760795, 12615472659389050585944223579430941846, 127982396443970808193093289421192168483, 80211020574021611523259929375765860447, 328306714951167239883061265636229931255, 154202500596702199027624208412024772979, 243851091912831247504069218024646202792, 27440791048182847192756476088690644789, 211387903213242387898935001709526309270, 159829576190644668190096436593299055684, 211134062703199012190249497033863383866, 82185866721533220436512213066902333519, 327395961906668187682165754937045283500, 129460184901158119860735353079755610614, 165640453935684170557382138895643060837, 258895673196720778598706762360552858556, 301930392259976828106625834641931740308, 254590090333913220966971847449742103658, 154605543219637426435106976091970670442, 328554470600989978311552677909447941173, 66427334083092228965437207507360258028, 269818012861271281423176274446422361113, 264132206416858785477441377236972222062, 334025740161143946608295602721698306491, 122383803109284106894334171034010591779, 296025850348968698648586558724418263869, 37960944824515205685591230648204258402, 226742293150914418175831072849372273624, 248467511393027050396179622604745119342, 161687256048543766767383987762312963194, 269110802679140966820977389101215773081, 195167772352272279581770856328715365701, 6839019468748781921035578916625770989, 119133456490525504919656485393064943290, 284976786280009736580048287615377352507, 53368461820224018424322992725600146993, 165521487478005576843608560748526611000, 195068410978310211650239904624548258566, 113589941149803520359128394698002916676, 249467295398400182484435455780551427523, 75006380269635190750556711265086168923, 318824008587287836741888684444380361623, 178459331004814995506250383468567150771, 211872363948266361377324272839095225429, 143811789042420870636385239690585466781, 86248589110002907259851524152594849147, 44507931730853748353717482469352571553, 32963873827986936976259691565938463060, 216630587467047648990556766097492264828, 185272067944601170075289186680278366549, 220985417642294560069226125886699449841, 264688778274977021302766754871988896216, 333264177890741770072193430405525003928, 33205950964766484238866480871644341798, 301310530123703810140221288298382736979, 254546671986439821273357947065150691235, 154463474563896264286711223429656871936, 238553731111275542579218303752720181533, 18384089493480778990035902178609102351, 75820400037257621222803633372476097890, 317696663419018730218660346852253168842, 265151192445743918497476159262292403413, 227243742383211985895879960446026839890, 253422517028958359388508295558326299841, 150927228725920353331738429768615062888, 313214421372485833387472208663997282205, 205270197963465857064863719867483624364, 64566217092196733533220887167246694252, 296938408697389789750215214903058009285, 10807226621238021931262095742919972793, 129631382596958590886433730895748353798, 59414367279926819390058891142076462501, 70216996008105906389747657374764050840, 264664062837534286517811593844813647762, 313275912279873968957145467509231826604, 205249681632336591850764335734481569114, 48611766702991209068831621643639680420, 2]
def unT : List Nat := [54969562866131847669016652494142573320, 305526867633558886955404559995676324868, 305526867633558886955404559995676324870, 104469799312523126935073530960423461388, 305526867633558886955404559995676324866, 56734434906695435454005472259553578602, 104469799312523126935073530960423461380, 271830150077582418345900040240152313368, 305526867633558886955404559995676324882, 104470118804432205535668098632526617412, 56734434906695435454005472259553578570, 227145695117876428321601179286510436182, 104469799312523126935073530960423461444, 305967500991204419130524647600360013666, 271830150077582418345900040240152313496, 227728627380917811012951187023350445606, 305526867633558886955404559995676325138, 56815181714465587187729576693626853178, 104470118804432205535668098632526616900, 2537993204061707162883588357039153916, 56734434906695435454005472259553577546, 3012428575888700110705650160495551628, 227145695117876428321601179286510434134, 275671395948664093117384310641479295528, 104469799312523126935073530960423465540, 271915852323952067842399232303023203416, 305967500991204419130524647600360005474, 102998777379450204286412735627287799860, 271830150077582418345900040240152297112, 272209106874770544727132909282711537316, 227728627380917811012951187023350412838, 135325830696997074197434372310186257282, 305526867633558886955404559995676390674, 57232084741685004684866676497372669754, 56815181714465587187729576693626984250, 135411474552265958872087683058005180738, 104470118804432205535668098632526879044, 275757512462385460142162890854388625828, 2537993204061707162883588357039678204, 274842411402277094064293402576501149528, 56734434906695435454005472259554626122, 175382474467339210118195525752143821788, 3012428575888700110705650160497648780, 5261797816253387317062014170447638976, 227145695117876428321601179286514628438, 272210066766835802062006483639670336468, 275671395948664093117384310641470906920, 225136856268418471551472419225175749014, 104469799312523126935073530960440242756, 102164174349821125137969924442995585924, 271915852323952067842399232302989648984, 226936647763116174786496543602468507498, 305967500991204419130524647600427114338, 305532029585887981283514747020026657774, 102998777379450204286412735627422017588, 133211003395652039953403666705387164366, 271830150077582418345900040239883861656, 102148097239065330920971689869502701364, 272209106874770544727132909283248408228, 173139448164521758332819425568250980204, 227728627380917811012951187022276671014, 305961988162602755697098987302884752222, 135325830696997074197434372312333740930, 175397880387343143921058595535091746080, 305526867633558886955404559991381423378, 329634352286836299080082914081100, 57232084741685004684866676505962604346, 172705286512742171128536335012890908524, 56815181714465587187729576710806853434, 303614986222712004812458293485509624930, 135411474552265958872087683023645442370, 170536380025231687221712635462198253856, 104470118804432205535668098701246355780, 225051247907070202050589524227723711914, 275757512462385460142162890991827579300, 308170559265311564786252692292247708062, 2537993204061707162883588082161771260, 102169133813289299704984590013427707636, 274842411402277094064293402026745335640, 303326766809063102477989677003176958226, 56734434906695435454005473359066253898, 172841837191359616877872241477191677152, 175382474467339210118195523553120566236, 54888141419452711199816878900948880442, 3012428575888700110705654558544159884, 307799342647640341558117533281787318686, 5261797816253387317062022966540661184, 273119276677551945356669168913118222868, 227145695117876428321601196878700672854, 272311600527812781647585363233504111460, 272210066766835802062006518824042425300, 5181299727675599870287693023180209980, 275671395948664093117384240272726729256, 305525142620375929691910208574098026146, 225136856268418471551472278487687393686, 307772801086609188417528170053220769746, 104469799312523126935073249485463532100, 54596111748351997025280216654447342278, 102164174349821125137970487392949007236, 308164931596625094656266467235253809106, 271915852323952067842398106403082806360, 227647953955287367714133036452945544742, 226936647763116174786494291802654822250, 308170555145571807541189819739699809694, 305967500991204419130520144000799743842, 133105130754254600986622393405343152142, 305532029585887981283523754219281398766, 172410759080424577518324870893406614048, 102998777379450204286394721228912535604, 54969320214588899006126198736319185926, 133211003395652039953439695502406128334, 227375442280390979429973553919662004774, 271830150077582418345827982645845933720, 4955917326648230773508684280683823104, 102148097239065330921115805057578557236, 172885700256406002458384310923462859152, 272209106874770544726844678907096696484, 56538291399058816093646072645906817530, 173139448164521758332242964815947556716, 55418003596362017635628740176384579466, 227728627380917811014104108526883517990, 0, 305961988162602755699404830312098446174, 178356100567250831900639352525185366892, 135325830696997074202046058330761128834, 189481146061086134017106552491789565356, 175397880387343143911835223498236970272, 75361565302940573017734093940626417402]
end Go.Proofs.YtcecjoodlmpgnaaGreat
/- Blocks as polynomials over 0 and 1, divided by x^128 + x^7 + x^2 + x + 1, in plain numbers (bit i is that of x^i): a field. Nothing of the program. -/
namespace Go.Proofs.YtcecjoodlmpgnaaGreat

abbrev B128 : Nat := 340282366920938463463374607431768211456
theorem b128 : B128 = 2 ^ 128 := by decide
/-- A block times x. -/
def gd (a : Nat) : Nat := (a % 170141183460469231731687303715884105728 * 2) ^^^ sel (a.testBit 127) 135
theorem lin_gd : Lin gd := Lin.add (f := fun a => a % 2 ^ 127 * 2 ^ 1) (Lin.comp (f := fun x => x * 2 ^ 1) (lin_mul 1) (lin_mod 127)) (Lin.bit 127 135)
theorem gxor_lt {a b : Nat} (h : a < B128) (k : b < B128) : a ^^^ b < B128 := Nat.xor_lt_two_pow (n := 128) h k
theorem gd_lt (a : Nat) : gd a < B128 := gxor_lt (by have := Nat.mod_lt a (show 0 < 170141183460469231731687303715884105728 by decide); show _ < 340282366920938463463374607431768211456; omega) (sel_lt (by decide) (by decide))
def gA : Nat → Nat → Nat → Nat
  | 0, _, _ => 0
  | k + 1, a, b => sel (b.testBit 0) a ^^^ gA k (gd a) (b / 2)
theorem glin_left (k : Nat) : ∀ b, Lin fun a => gA k a b := by
  induction k with
  | zero => intro b; exact Lin.none
  | succ k ih => intro b; exact Lin.add (f := fun a => sel (b.testBit 0) a) (Lin.sel Lin.self _) (Lin.comp (f := fun a => gA k a (b / 2)) (ih _) lin_gd)
theorem glin_right (k : Nat) : ∀ a, Lin fun b => gA k a b := by
  induction k with
  | zero => intro b; exact Lin.none
  | succ k ih => intro a; exact Lin.add (f := fun b => sel (b.testBit 0) a) (Lin.bit 0 a) (Lin.comp (f := fun b => gA k (gd a) b) (ih _) lin_half)
theorem gA_lt (k : Nat) : ∀ a b, a < B128 → gA k a b < B128 := by
  induction k with
  | zero => intro a b _; exact (by decide : (0 : Nat) < B128)
  | succ k ih => intro a b h; exact gxor_lt (sel_lt (by decide) h) (ih _ _ (gd_lt a))
/-- Two blocks' product. -/
def gm (a b : Nat) : Nat := gA 128 a b
theorem gm_left (b : Nat) : Lin fun a => gm a b := glin_left 128 b
theorem gm_right (a : Nat) : Lin fun b => gm a b := glin_right 128 a
theorem gm_lt {a : Nat} (b : Nat) (h : a < B128) : gm a b < B128 := gA_lt 128 a b h
theorem gm_zero (a : Nat) : gm a 0 = 0 := (gm_right a).zero
theorem zero_gm (a : Nat) : gm 0 a = 0 := (gm_left a).zero
theorem gm_spread (a b c : Nat) : gm a (b ^^^ c) = gm a b ^^^ gm a c := gm_right a b c
/-- As a reckoner goes. -/
def gS : Nat → Nat → Nat → Nat → Nat
  | 0, p, _, _ => p
  | k + 1, p, a, b => strict (p ^^^ sel (b.testBit 0) a) fun p' => strict (gd a) fun a' => strict (b / 2) fun b' => gS k p' a' b'
theorem gS_is (k : Nat) : ∀ p a b, gS k p a b = p ^^^ gA k a b := by
  induction k with
  | zero => intro p a b; exact (Nat.xor_zero p).symm
  | succ k ih => intro p a b; rw [gS, strict_is, strict_is, strict_is, ih, gA, Nat.xor_assoc]
theorem gm_is (a b : Nat) : gm a b = gS 128 0 a b := by rw [gS_is, Nat.zero_xor]; rfl

/-- So many times x. -/
def gX : Nat → Nat → Nat
  | 0, a => a
  | k + 1, a => gd (gX k a)
theorem gX_in (k : Nat) : ∀ a, gX k (gd a) = gd (gX k a) := by
  induction k with
  | zero => intro a; rfl
  | succ k ih => intro a; rw [gX, ih]; rfl
theorem lin_gX (k : Nat) : Lin (gX k) := by
  induction k with
  | zero => exact Lin.self
  | succ k ih => exact Lin.comp (f := gd) lin_gd ih
theorem gX_lt (k : Nat) {a : Nat} (h : a < B128) : gX k a < B128 := by
  cases k with
  | zero => exact h
  | succ k => exact gd_lt _
theorem gX_add (j k a : Nat) : gX (j + k) a = gX j (gX k a) := by
  induction j with
  | zero => rw [Nat.zero_add]; rfl
  | succ j ih => rw [show j + 1 + k = j + k + 1 by omega, gX, ih]; rfl
theorem gX_comm (j k a : Nat) : gX j (gX k a) = gX k (gX j a) := by rw [← gX_add, ← gX_add, Nat.add_comm]
theorem gA_gd (k : Nat) : ∀ a b, gA k (gd a) b = gd (gA k a b) := by
  induction k with
  | zero => intro a b; exact lin_gd.zero.symm
  | succ k ih =>
    intro a b
    rw [gA, gA, lin_gd, ih]
    congr 1
    cases b.testBit 0
    · exact lin_gd.zero.symm
    · rfl
theorem gA_pow (k : Nat) : ∀ i a, i < k → gA k a (2 ^ i) = gX i a := by
  induction k with
  | zero => intro i a h; omega
  | succ k ih =>
    intro i a h
    cases i with
    | zero =>
      rw [gA]
      have e : gA k (gd a) (2 ^ 0 / 2) = 0 := (glin_right k (gd a)).zero
      rw [e]
      simp [sel, gX]
    | succ i =>
      have e0 : (2 ^ (i + 1)).testBit 0 = false := by simp
      have e1 : 2 ^ (i + 1) / 2 = 2 ^ i := by rw [Nat.pow_succ]; omega
      rw [gA, e0, e1, ih i (gd a) (by omega), gX_in]
      simp [sel, gX]
theorem gm_pow {i : Nat} (a : Nat) (h : i < 128) : gm a (2 ^ i) = gX i a := gA_pow 128 i a h
theorem gm_gX (k a b : Nat) : gm (gX k a) b = gX k (gm a b) := by
  induction k with
  | zero => rfl
  | succ k ih => rw [gX]; show gA 128 (gd (gX k a)) b = _; rw [gA_gd]; show gd (gm (gX k a) b) = _; rw [ih]; rfl
theorem gd_pow {i : Nat} (h : i < 127) : gd (2 ^ i) = 2 ^ (i + 1) := by
  have key : ∀ i, i < 127 → gd (2 ^ i) = 2 ^ (i + 1) := by decide +kernel
  exact key i h
theorem gX_one {i : Nat} (h : i < 128) : gX i 1 = 2 ^ i := by
  induction i with
  | zero => rfl
  | succ i ih => rw [gX, ih (by omega), gd_pow (by omega)]
theorem block_ext {f g : Nat → Nat} (hf : Lin f) (hg : Lin g) (h : ∀ i, i < 128 → f (2 ^ i) = g (2 ^ i)) (x : Nat) (hx : x < B128) : f x = g x := lin_ext hf hg 128 h x hx
theorem one_gm {b : Nat} (h : b < B128) : gm 1 b = b :=
  block_ext (f := fun b => gm 1 b) (g := fun b => b) (gm_right 1) Lin.self (fun i hi => by show gm 1 (2 ^ i) = 2 ^ i; rw [gm_pow 1 hi, gX_one hi]) b h
theorem gm_one (a : Nat) : gm a 1 = a := gm_pow (i := 0) a (by omega)
theorem gm_comm {a b : Nat} (ha : a < B128) (hb : b < B128) : gm a b = gm b a :=
  block_ext (f := fun b => gm a b) (g := fun b => gm b a) (gm_right a) (gm_left a) (fun i hi => by
    show gm a (2 ^ i) = gm (2 ^ i) a
    rw [gm_pow a hi, ← gX_one hi, gm_gX, one_gm ha]) b hb
theorem gm_gXr {b : Nat} (k : Nat) {a : Nat} (ha : a < B128) (hb : b < B128) : gm a (gX k b) = gX k (gm a b) := by
  rw [gm_comm ha (gX_lt k hb), gm_gX, gm_comm hb ha]
theorem gm_assoc {a b c : Nat} (ha : a < B128) (hb : b < B128) (hc : c < B128) : gm (gm a b) c = gm a (gm b c) :=
  block_ext (f := fun b => gm (gm a b) c) (g := fun b => gm a (gm b c)) ((gm_left c).comp (gm_right a)) ((gm_right a).comp (gm_left c)) (fun i hi => by
    show gm (gm a (2 ^ i)) c = gm a (gm (2 ^ i) c)
    rw [gm_pow a hi, gm_gX, ← gX_one hi, gm_gX, one_gm hc, gm_gXr i ha hc]) b hb

/-- A block's square. -/
def gF (a : Nat) : Nat := gm a a
theorem gF_lt {a : Nat} (h : a < B128) : gF a < B128 := gm_lt a h
theorem gF_add {a b : Nat} (ha : a < B128) (hb : b < B128) : gF (a ^^^ b) = gF a ^^^ gF b := by
  unfold gF
  have e1 : gm (a ^^^ b) a = gm a a ^^^ gm b a := gm_left a a b
  have e2 : gm (a ^^^ b) b = gm a b ^^^ gm b b := gm_left b a b
  rw [gm_spread, e1, e2, gm_comm hb ha, Nat.xor_assoc, ← Nat.xor_assoc (gm a b) (gm a b), Nat.xor_self, Nat.zero_xor]
theorem gF_mul {a b : Nat} (ha : a < B128) (hb : b < B128) : gF (gm a b) = gm (gF a) (gF b) := by
  unfold gF
  rw [gm_assoc ha hb (gm_lt b ha), ← gm_assoc hb ha hb, gm_comm hb ha, gm_assoc ha hb hb, ← gm_assoc ha ha (gm_lt b hb)]
end Go.Proofs.YtcecjoodlmpgnaaGreat
/- A product of two blocks is 0 just if one of both is: what is squared 128 times is as it was; what is its own square is 0 or 1. Nothing of the program. -/
namespace Go.Proofs.YtcecjoodlmpgnaaGreat

/-- So many times squared. -/
def gFk : Nat → Nat → Nat
  | 0, a => a
  | k + 1, a => gF (gFk k a)
theorem gFk_lt (k : Nat) {a : Nat} (h : a < B128) : gFk k a < B128 := by
  cases k with
  | zero => exact h
  | succ k =>
    have : ∀ k, gFk k a < B128 := by
      intro k
      induction k with
      | zero => exact h
      | succ k ih => exact gF_lt ih
    exact this _
theorem gFk_mul (k : Nat) {a b : Nat} (ha : a < B128) (hb : b < B128) : gFk k (gm a b) = gm (gFk k a) (gFk k b) := by
  induction k with
  | zero => rfl
  | succ k ih => rw [gFk, ih, gF_mul (gFk_lt k ha) (gFk_lt k hb)]; rfl
theorem gFk_add (k : Nat) {a b : Nat} (ha : a < B128) (hb : b < B128) : gFk k (a ^^^ b) = gFk k a ^^^ gFk k b := by
  induction k with
  | zero => rfl
  | succ k ih => rw [gFk, ih, gF_add (gFk_lt k ha) (gFk_lt k hb)]; rfl
theorem sq_table : sqT.getD 0 0 = 2 ∧ sqT.getD 128 0 = 2 ∧ ∀ k, k < 128 → gS 128 0 (sqT.getD k 0) (sqT.getD k 0) = sqT.getD (k + 1) 0 := by decide +kernel
theorem gFk_two (k : Nat) (h : k ≤ 128) : gFk k 2 = sqT.getD k 0 := by
  induction k with
  | zero => exact sq_table.1.symm
  | succ k ih => rw [gFk, ih (by omega), gF, gm_is, sq_table.2.2 k (by omega)]
/-- Additive below 2^128 is enough. -/
theorem below_ext {f g : Nat → Nat} (hf : ∀ a b, a < B128 → b < B128 → f (a ^^^ b) = f a ^^^ f b) (hg : ∀ a b, a < B128 → b < B128 → g (a ^^^ b) = g a ^^^ g b) (h : ∀ i, i < 128 → f (2 ^ i) = g (2 ^ i)) {x : Nat} (hx : x < B128) : f x = g x := by
  have key : ∀ k, k ≤ 128 → ∀ x, x < 2 ^ k → f x = g x := by
    intro k
    induction k with
    | zero =>
      intro _ x hx
      obtain rfl : x = 0 := by omega
      have z : ∀ {f : Nat → Nat}, (∀ a b, a < B128 → b < B128 → f (a ^^^ b) = f a ^^^ f b) → f 0 = 0 := by
        intro f hf
        have := hf 0 0 (by decide) (by decide)
        rw [Nat.xor_self] at this
        rw [this, Nat.xor_self]
      rw [z hf, z hg]
    | succ k ih =>
      intro hk x hx
      have hp : 2 ^ k < B128 := by rw [b128]; exact Nat.pow_lt_pow_right (by omega) (by omega)
      by_cases hlt : x < 2 ^ k
      · exact ih (by omega) x hlt
      · have hb : x ^^^ 2 ^ k < 2 ^ k := by
          apply Nat.lt_pow_two_of_testBit
          intro i hi
          rw [Nat.testBit_xor]
          by_cases e : i = k
          · subst e
            have : x.testBit i = true := by
              rw [Nat.testBit_eq_decide_div_mod_eq]
              have h1 : x / 2 ^ i = 1 := by
                apply Nat.div_eq_of_lt_le
                · omega
                · rw [Nat.pow_succ] at hx; omega
              rw [h1]; rfl
            rw [this, Nat.testBit_two_pow_self]
            rfl
          · rw [Nat.testBit_lt_two_pow (Nat.lt_of_lt_of_le hx (Nat.pow_le_pow_right (by omega) (by omega))), Nat.testBit_two_pow_of_ne (by omega)]
            rfl
        have e : x = (x ^^^ 2 ^ k) ^^^ 2 ^ k := by rw [Nat.xor_assoc, Nat.xor_self, Nat.xor_zero]
        rw [e, hf _ _ (Nat.lt_trans hb hp) hp, hg _ _ (Nat.lt_trans hb hp) hp, ih (by omega) _ hb, h k (by omega)]
  exact key 128 (Nat.le_refl _) x (by rw [← b128]; exact hx)
theorem two_gm {i : Nat} (h : i < 127) : gm (2 ^ i) 2 = 2 ^ (i + 1) := by
  have := gm_pow (i := 1) (2 ^ i) (by omega)
  rw [show (2 : Nat) ^ 1 = 2 from rfl] at this
  rw [this]
  exact gd_pow h
/-- What is squared 128 times is as it was. -/
theorem gFk_all {a : Nat} (h : a < B128) : gFk 128 a = a := by
  refine below_ext (f := gFk 128) (g := fun a => a) (fun a b ha hb => gFk_add 128 ha hb) (fun _ _ _ _ => rfl) (fun i hi => ?_) h
  have h2 : gFk 128 2 = 2 := by rw [gFk_two 128 (Nat.le_refl _)]; exact sq_table.2.1
  have h1 : ∀ k, gFk k 1 = 1 := by
    intro k
    induction k with
    | zero => rfl
    | succ k ih => rw [gFk, ih]; exact gm_one 1
  show gFk 128 (2 ^ i) = 2 ^ i
  induction i with
  | zero => exact h1 128
  | succ i ih =>
    have hp : 2 ^ i < B128 := by rw [b128]; exact Nat.pow_lt_pow_right (by omega) (by omega)
    rw [← two_gm (by omega), gFk_mul 128 hp (by decide), ih (by omega), h2]
/-- A block by a table's rows. -/
def rowsL : List Nat → Nat → Nat
  | [], _ => 0
  | t :: l, a => sel (a.testBit 0) t ^^^ rowsL l (a / 2)
theorem lin_rows (l : List Nat) : Lin (rowsL l) := by
  induction l with
  | nil => exact Lin.none
  | cons t l ih => exact Lin.add (f := fun a => sel (a.testBit 0) t) (Lin.bit 0 t) (Lin.comp (f := rowsL l) ih lin_half)
def rowsS : List Nat → Nat → Nat → Nat
  | [], p, _ => p
  | t :: l, p, a => strict (p ^^^ sel (a.testBit 0) t) fun p' => strict (a / 2) fun a' => rowsS l p' a'
theorem rowsS_is (l : List Nat) : ∀ p a, rowsS l p a = p ^^^ rowsL l a := by
  induction l with
  | nil => intro p a; exact (Nat.xor_zero p).symm
  | cons t l ih => intro p a; rw [rowsS, strict_is, strict_is, ih, rowsL, Nat.xor_assoc]
theorem un_table : ∀ i, i < 128 → strict (gS 128 0 (2 ^ i) (2 ^ i)) (fun s => rowsS unT 0 (s ^^^ 2 ^ i)) = 2 ^ i ^^^ (2 ^ i % 2) := by decide +kernel
/-- What is its own square is 0 or 1. -/
theorem gF_own {e : Nat} (he : e < B128) (h : gF e = e) : e = 0 ∨ e = 1 := by
  have key : rowsL unT (gF e ^^^ e) = e ^^^ (e % 2) := by
    refine below_ext (f := fun e => rowsL unT (gF e ^^^ e)) (g := fun e => e ^^^ (e % 2)) (fun a b ha hb => ?_) (fun a b _ _ => ?_) (fun i hi => ?_) he
    · show rowsL unT (gF (a ^^^ b) ^^^ (a ^^^ b)) = rowsL unT (gF a ^^^ a) ^^^ rowsL unT (gF b ^^^ b)
      rw [gF_add ha hb, xor4, lin_rows]
    · show (a ^^^ b) ^^^ ((a ^^^ b) % 2) = (a ^^^ (a % 2)) ^^^ (b ^^^ (b % 2))
      have : (a ^^^ b) % 2 = (a % 2) ^^^ (b % 2) := lin_mod 1 a b
      rw [this, xor4]
    · have := un_table i hi
      rw [strict_is, rowsS_is, Nat.zero_xor, ← gm_is] at this
      exact this
  rw [h, Nat.xor_self, (lin_rows unT).zero] at key
  have h2 : e = e % 2 := by
    have : e ^^^ (e ^^^ (e % 2)) = e ^^^ 0 := by rw [← key]
    rw [← Nat.xor_assoc, Nat.xor_self, Nat.zero_xor, Nat.xor_zero] at this
    exact this.symm
  omega
/-- A block to the power 2^k - 1. -/
def gE (a : Nat) : Nat → Nat
  | 0 => 1
  | k + 1 => gm (gF (gE a k)) a
theorem gE_lt {a : Nat} (k : Nat) : gE a k < B128 := by
  induction k with
  | zero => exact (by decide : (1 : Nat) < B128)
  | succ k ih => exact gm_lt a (gF_lt ih)
theorem gE_up {a : Nat} (h : a < B128) (k : Nat) : gm a (gE a k) = gFk k a := by
  induction k with
  | zero => exact gm_one a
  | succ k ih =>
    have hF := gF_lt (gE_lt (a := a) k)
    rw [gE, gm_comm h (gm_lt a hF), gm_assoc hF h h]
    show gm (gF (gE a k)) (gF a) = _
    rw [← gF_mul (gE_lt k) h, gm_comm (gE_lt k) h, ih]
    rfl
/-- A product is 0 just if one of both is. -/
theorem gm_none {a b : Nat} (ha : a < B128) (hb : b < B128) (h : gm a b = 0) : a = 0 ∨ b = 0 := by
  have hF := gF_lt (gE_lt (a := a) 127)
  have he := gE_lt (a := a) 128
  have h1 : gm a (gE a 128) = a := by rw [gE_up ha, gFk_all ha]
  have hq : gE a 128 = gm (gF (gE a 127)) a := rfl
  have h2 : gF (gE a 128) = gE a 128 := by
    show gm (gE a 128) (gE a 128) = gE a 128
    have : gm (gm (gF (gE a 127)) a) (gE a 128) = gm (gF (gE a 127)) a := by rw [gm_assoc hF ha he, h1]
    rw [← hq] at this
    exact this
  have h3 : gm (gE a 128) b = 0 := by rw [hq, gm_assoc hF ha hb, h, gm_zero]
  rcases gF_own he h2 with e | e
  · left
    rw [e, gm_zero] at h1
    exact h1.symm
  · right
    rw [e, one_gm hb] at h3
    exact h3
end Go.Proofs.YtcecjoodlmpgnaaGreat
/- Sixteen bytes, two words and a block's number, bit by bit. Nothing of any function. -/
namespace Go.Proofs.YtcecjoodlmpgnaaGreat

/-- The number of so many bits. -/
def mkN : Nat → (Nat → Bool) → Nat
  | 0, _ => 0
  | n + 1, f => mkN n f ||| sel (f n) (2 ^ n)
theorem mkN_bit (n : Nat) (f : Nat → Bool) (i : Nat) : (mkN n f).testBit i = (decide (i < n) && f i) := by
  induction n with
  | zero => simp [mkN]
  | succ n ih =>
    rw [mkN, Nat.testBit_or, ih]
    by_cases h : i = n
    · subst h
      cases f i <;> simp [sel]
    · have h2 : (sel (f n) (2 ^ n)).testBit i = false := by
        cases f n
        · simp [sel]
        · simp only [sel, cond_true]; exact Nat.testBit_two_pow_of_ne (by omega)
      rw [h2, Bool.or_false]
      by_cases hl : i < n
      · have : i < n + 1 := by omega
        simp [hl, this]
      · have : ¬ i < n + 1 := by omega
        simp [hl, this]
theorem mkN_lt (n : Nat) (f : Nat → Bool) : mkN n f < 2 ^ n := by
  apply Nat.lt_pow_two_of_testBit
  intro i hi
  rw [mkN_bit]
  have : ¬ i < n := by omega
  simp [this]
theorem mkN_ext {n : Nat} {f g : Nat → Bool} (h : ∀ i, i < n → f i = g i) : mkN n f = mkN n g := by
  apply Nat.eq_of_testBit_eq
  intro i
  rw [mkN_bit, mkN_bit]
  by_cases hi : i < n
  · rw [h i hi]
  · simp [hi]
theorem bits_ext {n x y : Nat} (hx : x < 2 ^ n) (hy : y < 2 ^ n) (h : ∀ i, i < n → x.testBit i = y.testBit i) : x = y := by
  apply Nat.eq_of_testBit_eq
  intro i
  by_cases hi : i < n
  · exact h i hi
  · rw [Nat.testBit_lt_two_pow (Nat.lt_of_lt_of_le hx (Nat.pow_le_pow_right (by omega) (by omega))), Nat.testBit_lt_two_pow (Nat.lt_of_lt_of_le hy (Nat.pow_le_pow_right (by omega) (by omega)))]
theorem mkN_self {n x : Nat} (h : x < 2 ^ n) : mkN n x.testBit = x := bits_ext (mkN_lt _ _) h fun i hi => by rw [mkN_bit]; simp [hi]
theorem mkN_at {n : Nat} {f : Nat → Bool} {i : Nat} (h : i < n) : (mkN n f).testBit i = f i := by rw [mkN_bit]; simp [h]
theorem mkN_out {n : Nat} {f : Nat → Bool} {i : Nat} (h : n ≤ i) : (mkN n f).testBit i = false := by
  rw [mkN_bit]
  have : ¬ i < n := by omega
  simp [this]
theorem mkN_xor (n : Nat) (f g : Nat → Bool) : mkN n (fun i => f i ^^ g i) = mkN n f ^^^ mkN n g :=
  bits_ext (mkN_lt _ _) (Nat.xor_lt_two_pow (mkN_lt _ _) (mkN_lt _ _)) fun i hi => by rw [Nat.testBit_xor, mkN_at hi, mkN_at hi, mkN_at hi]

abbrev B64 : Nat := 18446744073709551616
theorem b64 : B64 = 2 ^ 64 := by decide
/-- Bit i of a text. -/
def co (L : List UInt8) (i : Nat) : Bool := (ub L (i / 8)).toNat.testBit (7 - i % 8)
/-- A text's number. -/
def bn (L : List UInt8) : Nat := mkN 128 (co L)
theorem bn_lt (L : List UInt8) : bn L < B128 := mkN_lt 128 _
/-- A block's two words. -/
def w0 (N : Nat) : Nat := mkN 64 fun t => N.testBit (63 - t)
def w1 (N : Nat) : Nat := mkN 64 fun t => N.testBit (127 - t)
theorem w0_lt (N : Nat) : w0 N < B64 := mkN_lt 64 _
theorem w1_lt (N : Nat) : w1 N < B64 := mkN_lt 64 _
theorem w0_xor (a b : Nat) : w0 (a ^^^ b) = w0 a ^^^ w0 b := by
  unfold w0
  rw [← mkN_xor]
  exact mkN_ext fun i _ => Nat.testBit_xor ..
theorem w1_xor (a b : Nat) : w1 (a ^^^ b) = w1 a ^^^ w1 b := by
  unfold w1
  rw [← mkN_xor]
  exact mkN_ext fun i _ => Nat.testBit_xor ..
/-- Byte i of a block. -/
def by8 (N i : Nat) : UInt8 := UInt8.ofNat (mkN 8 fun t => N.testBit (8 * i + 7 - t))
theorem by8_nat (N i : Nat) : (by8 N i).toNat = mkN 8 fun t => N.testBit (8 * i + 7 - t) := by
  unfold by8
  rw [UInt8.toNat_ofNat']
  exact Nat.mod_eq_of_lt (mkN_lt 8 _)
/-- A block's bytes. -/
def nb (N : Nat) : List UInt8 := tab 16 (by8 N)
theorem nb_len (N : Nat) : (nb N).length = 16 := tab_len _ _
theorem co_nb (N : Nat) {i : Nat} (h : i < 128) : co (nb N) i = N.testBit i := by
  unfold co nb
  rw [ub_tab _ (by omega), by8_nat, mkN_at (by omega)]
  congr 1
  omega
theorem bn_nb {N : Nat} (h : N < B128) : bn (nb N) = N := bits_ext (mkN_lt 128 _) h fun i hi => by rw [bn, mkN_at hi, co_nb N hi]
theorem bn_bit (L : List UInt8) {i : Nat} (h : i < 128) : (bn L).testBit i = co L i := mkN_at h
theorem u8_bits {a b : UInt8} (h : ∀ t, t < 8 → a.toNat.testBit t = b.toNat.testBit t) : a = b := UInt8.toNat_inj.1 (bits_ext (n := 8) a.toNat_lt b.toNat_lt h)
theorem nb_bn {L : List UInt8} (h : L.length = 16) : nb (bn L) = L := by
  refine list_ext (nb_len _) h fun i hi => ?_
  unfold nb
  rw [ub_tab _ hi]
  refine u8_bits fun t ht => ?_
  rw [by8_nat, mkN_at ht, bn_bit L (by omega)]
  unfold co
  rw [show (8 * i + 7 - t) / 8 = i by omega, show 7 - (8 * i + 7 - t) % 8 = t by omega]
theorem nb_inj {a b : Nat} (ha : a < B128) (hb : b < B128) (h : nb a = nb b) : a = b := by rw [← bn_nb ha, h, bn_nb hb]
theorem bn_inj {a b : List UInt8} (ha : a.length = 16) (hb : b.length = 16) (h : bn a = bn b) : a = b := by rw [← nb_bn ha, h, nb_bn hb]
/-- Two texts' sum. -/
def xorL (a b : List UInt8) : List UInt8 := tab a.length fun i => ub a i ^^^ ub b i
theorem bn_xorL {a b : List UInt8} (ha : a.length = 16) : bn (xorL a b) = bn a ^^^ bn b := by
  unfold bn
  rw [← mkN_xor]
  refine mkN_ext fun i hi => ?_
  unfold co xorL
  rw [ub_tab _ (by omega), UInt8.toNat_xor, Nat.testBit_xor]
theorem xorL_len (a b : List UInt8) : (xorL a b).length = a.length := tab_len _ _
theorem gub_take {L : List UInt8} {k i : Nat} : ub (L.take k) i = if i < k then ub L i else 0 := by
  unfold ub
  by_cases h : i < k
  · rw [if_pos h]; simp [List.getD, h]
  · rw [if_neg h, List.getD, List.getElem?_eq_none (by rw [List.length_take]; omega)]
    rfl
theorem shl_bit (b s t : Nat) : (b * 2 ^ s).testBit t = (decide (s ≤ t) && b.testBit (t - s)) := by rw [Nat.testBit_mul_two_pow]
theorem u8_bit_out (b : UInt8) {t : Nat} (h : 8 ≤ t) : b.toNat.testBit t = false := Nat.testBit_lt_two_pow (Nat.lt_of_lt_of_le b.toNat_lt (Nat.pow_le_pow_right (n := 2) (i := 8) (by omega) h))
/-- A byte's place in its word. -/
theorem byte_lt (b : UInt8) {s : Nat} (hs : s ≤ 56) : b.toNat * 2 ^ s < B64 := by
  have h1 := b.toNat_lt
  have h2 : 2 ^ s ≤ 2 ^ 56 := Nat.pow_le_pow_right (by omega) hs
  calc b.toNat * 2 ^ s ≤ 255 * 2 ^ 56 := Nat.mul_le_mul (by omega) h2
    _ < B64 := by decide
theorem w0_more (L : List UInt8) {k : Nat} (h : k < 8) : w0 (bn (L.take (k + 1))) = w0 (bn (L.take k)) ||| (ub L k).toNat * 2 ^ (56 - k % 8 * 8) := by
  refine bits_ext (n := 64) (mkN_lt _ _) (Nat.or_lt_two_pow (mkN_lt _ _) (byte_lt _ (by omega))) fun t ht => ?_
  rw [Nat.testBit_or, shl_bit]
  unfold w0
  rw [mkN_at ht, mkN_at ht, bn_bit _ (by omega), bn_bit _ (by omega)]
  unfold co
  rw [gub_take, gub_take]
  by_cases h1 : (63 - t) / 8 < k
  · have h2 : 8 ≤ t - (56 - k % 8 * 8) := by omega
    rw [if_pos h1, if_pos (by omega), u8_bit_out _ h2]
    simp
  · rw [if_neg h1]
    by_cases h2 : (63 - t) / 8 = k
    · subst h2
      have h3 : 56 - (63 - t) / 8 % 8 * 8 ≤ t := by omega
      rw [if_pos (by omega), show 7 - (63 - t) % 8 = t - (56 - (63 - t) / 8 % 8 * 8) by omega]
      simp [h3]
    · have h3 : ¬ (56 - k % 8 * 8 ≤ t) := by omega
      rw [if_neg (by omega)]
      simp [h3]
theorem w1_more (L : List UInt8) {k : Nat} (h : 8 ≤ k) (hk : k < 16) : w1 (bn (L.take (k + 1))) = w1 (bn (L.take k)) ||| (ub L k).toNat * 2 ^ (56 - k % 8 * 8) := by
  refine bits_ext (n := 64) (mkN_lt _ _) (Nat.or_lt_two_pow (mkN_lt _ _) (byte_lt _ (by omega))) fun t ht => ?_
  rw [Nat.testBit_or, shl_bit]
  unfold w1
  rw [mkN_at ht, mkN_at ht, bn_bit _ (by omega), bn_bit _ (by omega)]
  unfold co
  rw [gub_take, gub_take]
  by_cases h1 : (127 - t) / 8 < k
  · have h2 : 8 ≤ t - (56 - k % 8 * 8) := by omega
    rw [if_pos h1, if_pos (by omega), u8_bit_out _ h2]
    simp
  · rw [if_neg h1]
    by_cases h2 : (127 - t) / 8 = k
    · subst h2
      have h3 : 56 - (127 - t) / 8 % 8 * 8 ≤ t := by omega
      rw [if_pos (by omega), show 7 - (127 - t) % 8 = t - (56 - (127 - t) / 8 % 8 * 8) by omega]
      simp [h3]
    · have h3 : ¬ (56 - k % 8 * 8 ≤ t) := by omega
      rw [if_neg (by omega)]
      simp [h3]
theorem w0_same (L : List UInt8) {k : Nat} (h : 8 ≤ k) : w0 (bn (L.take (k + 1))) = w0 (bn (L.take k)) := by
  refine bits_ext (n := 64) (mkN_lt _ _) (mkN_lt _ _) fun t ht => ?_
  unfold w0
  rw [mkN_at ht, mkN_at ht, bn_bit _ (by omega), bn_bit _ (by omega)]
  unfold co
  rw [gub_take, gub_take, if_pos (by omega), if_pos (by omega)]
theorem w1_same (L : List UInt8) {k : Nat} (h : k < 8) : w1 (bn (L.take (k + 1))) = w1 (bn (L.take k)) := by
  refine bits_ext (n := 64) (mkN_lt _ _) (mkN_lt _ _) fun t ht => ?_
  unfold w1
  rw [mkN_at ht, mkN_at ht, bn_bit _ (by omega), bn_bit _ (by omega)]
  unfold co
  rw [gub_take, gub_take, if_neg (by omega), if_neg (by omega)]
/-- One of both words. -/
def wi (N j : Nat) : Nat := if j = 0 then w0 N else w1 N
theorem wi_lt (N j : Nat) : wi N j < B64 := by unfold wi; split; exact w0_lt N; exact w1_lt N
theorem wi_byte (N : Nat) {i : Nat} (h : i < 16) : wi N (i / 8) / 2 ^ (56 - i % 8 * 8) % 256 = (by8 N i).toNat := by
  rw [by8_nat]
  refine bits_ext (n := 8) (Nat.mod_lt _ (by decide)) (mkN_lt _ _) fun t ht => ?_
  rw [show (256 : Nat) = 2 ^ 8 from rfl, Nat.testBit_mod_two_pow, Nat.testBit_div_two_pow, mkN_at ht]
  unfold wi w0 w1
  by_cases h8 : i / 8 = 0
  · rw [if_pos h8, mkN_at (by omega), show 63 - (t + (56 - i % 8 * 8)) = 8 * i + 7 - t by omega]
    simp [ht]
  · rw [if_neg h8, mkN_at (by omega), show 127 - (t + (56 - i % 8 * 8)) = 8 * i + 7 - t by omega]
    simp [ht]
/-- The block of two words. -/
def ofW (a b : Nat) : Nat := mkN 128 fun i => if i < 64 then a.testBit (63 - i) else b.testBit (127 - i)
theorem ofW_lt (a b : Nat) : ofW a b < B128 := mkN_lt 128 _
theorem w0_of {a : Nat} (b : Nat) (h : a < B64) : w0 (ofW a b) = a := bits_ext (n := 64) (mkN_lt _ _) h fun t ht => by
  unfold w0 ofW
  rw [mkN_at ht, mkN_at (by omega), if_pos (by omega), show 63 - (63 - t) = t by omega]
theorem w1_of (a : Nat) {b : Nat} (h : b < B64) : w1 (ofW a b) = b := bits_ext (n := 64) (mkN_lt _ _) h fun t ht => by
  unfold w1 ofW
  rw [mkN_at ht, mkN_at (by omega), if_neg (by omega), show 127 - (127 - t) = t by omega]
theorem ofW_w {N : Nat} (h : N < B128) : ofW (w0 N) (w1 N) = N := bits_ext (n := 128) (mkN_lt _ _) h fun i hi => by
  unfold ofW w0 w1
  rw [mkN_at hi]
  by_cases h1 : i < 64
  · rw [if_pos h1, mkN_at (by omega), show 63 - (63 - i) = i by omega]
  · rw [if_neg h1, mkN_at (by omega), show 127 - (127 - i) = i by omega]
/-- A word's mask. -/
def msk (b : Bool) : Nat := sel b 18446744073709551615
theorem and_msk {x : Nat} (b : Bool) (h : x < B64) : x &&& msk b = sel b x := by
  cases b
  · simp [msk, sel]
  · show x &&& (2 ^ 64 - 1) = x
    rw [Nat.and_two_pow_sub_one_eq_mod, Nat.mod_eq_of_lt h]
theorem msk_and {x : Nat} (b : Bool) (h : x < B64) : msk b &&& x = sel b x := by rw [Nat.and_comm, and_msk b h]
theorem w0_sel (b : Bool) (x : Nat) : w0 (sel b x) = sel b (w0 x) := by
  cases b
  · show w0 0 = 0
    decide +kernel
  · rfl
theorem w1_sel (b : Bool) (x : Nat) : w1 (sel b x) = sel b (w1 x) := by
  cases b
  · show w1 0 = 0
    decide +kernel
  · rfl
theorem gd_bit (a : Nat) {i : Nat} (h : i < 128) : (gd a).testBit i = ((decide (1 ≤ i) && a.testBit (i - 1)) ^^ (a.testBit 127 && (135 : Nat).testBit i)) := by
  unfold gd
  rw [Nat.testBit_xor]
  congr 1
  · rw [show a % 170141183460469231731687303715884105728 * 2 = a % 2 ^ 127 * 2 ^ 1 from rfl, shl_bit, Nat.testBit_mod_two_pow]
    have : i - 1 < 127 := by omega
    simp [this]
  · cases a.testBit 127 <;> simp [sel]
theorem raised0 (A : Nat) : w0 A / 2 ^^^ sel ((w1 A).testBit 0) 16212958658533785600 = w0 (gd A) := by
  have hA : (w1 A).testBit 0 = A.testBit 127 := mkN_at (by omega)
  rw [hA]
  have hd : ∀ t, t < 64 → (16212958658533785600 : Nat).testBit t = (135 : Nat).testBit (63 - t) := by decide +kernel
  refine bits_ext (n := 64) (Nat.xor_lt_two_pow (Nat.lt_of_le_of_lt (Nat.div_le_self _ _) (w0_lt A)) (sel_lt (by decide) (by decide))) (mkN_lt _ _) fun t ht => ?_
  rw [Nat.testBit_xor]
  unfold w0
  rw [mkN_at ht, gd_bit A (by omega), show ∀ x : Nat, x / 2 = x / 2 ^ 1 from fun _ => rfl, Nat.testBit_div_two_pow, mkN_bit]
  congr 1
  · by_cases h1 : t + 1 < 64
    · have : 1 ≤ 63 - t := by omega
      rw [show 63 - (t + 1) = 63 - t - 1 by omega]
      simp [h1, this]
    · have : ¬ 1 ≤ 63 - t := by omega
      simp [h1, this]
  · rw [← hd t ht]
    cases A.testBit 127 <;> simp [sel]
theorem raised1 (A : Nat) : w0 A * 2 ^ 63 % 18446744073709551616 ||| w1 A / 2 = w1 (gd A) := by
  have hd : ∀ t, t < 64 → (135 : Nat).testBit (127 - t) = false := by decide +kernel
  refine bits_ext (n := 64) (Nat.or_lt_two_pow (Nat.mod_lt _ (by decide)) (Nat.lt_of_le_of_lt (Nat.div_le_self _ _) (w1_lt A))) (mkN_lt _ _) fun t ht => ?_
  rw [Nat.testBit_or, show (18446744073709551616 : Nat) = 2 ^ 64 from rfl, Nat.testBit_mod_two_pow, shl_bit]
  unfold w0 w1
  rw [mkN_at ht, gd_bit A (by omega), hd t ht, show ∀ x : Nat, x / 2 = x / 2 ^ 1 from fun _ => rfl, Nat.testBit_div_two_pow, mkN_bit, mkN_bit]
  have h127 : 1 ≤ 127 - t := by omega
  by_cases h1 : t = 63
  · subst h1
    simp
  · have h2 : ¬ 63 ≤ t := by omega
    have h3 : t + 1 < 64 := by omega
    rw [show 127 - (t + 1) = 127 - t - 1 by omega]
    simp [h2, h3, h127]
/-- The product by the first so many bits. -/
def pA (A B : Nat) : Nat → Nat
  | 0 => 0
  | k + 1 => pA A B k ^^^ sel (B.testBit k) (gX k A)
theorem lin_pA (A k : Nat) : Lin fun B => pA A B k := by
  induction k with
  | zero => exact Lin.none
  | succ k ih => exact Lin.add (f := fun B => pA A B k) ih (Lin.bit k (gX k A))
theorem pA_two (A i : Nat) : ∀ k, pA A (2 ^ i) k = sel (decide (i < k)) (gX i A) := by
  intro k
  induction k with
  | zero => rfl
  | succ k ih =>
    rw [pA, ih, Nat.testBit_two_pow]
    by_cases h : i = k
    · subst h
      have : i < i + 1 := by omega
      simp [sel, this]
    · by_cases h2 : i < k
      · have : i < k + 1 := by omega
        simp [sel, h, h2, this]
      · have : ¬ i < k + 1 := by omega
        simp [sel, h, h2, this]
theorem pA_all {A B : Nat} (hB : B < B128) : pA A B 128 = gm A B :=
  block_ext (f := fun B => pA A B 128) (g := fun B => gm A B) (lin_pA A 128) (gm_right A) (fun i hi => by
    show pA A (2 ^ i) 128 = gm A (2 ^ i)
    rw [pA_two, gm_pow A hi]
    simp [sel, hi]) B hB
/-- A word's bits that are left, after so many rounds. -/
def shW (x k : Nat) : Nat := x * 2 ^ k % 18446744073709551616
theorem shW_zero {x : Nat} (h : x < B64) : shW x 0 = x := by unfold shW; rw [Nat.pow_zero, Nat.mul_one]; exact Nat.mod_eq_of_lt h
theorem shW_more (x k : Nat) : shW x k * 2 % 18446744073709551616 = shW x (k + 1) := by
  unfold shW
  rw [Nat.mod_mul_mod, Nat.pow_succ, Nat.mul_assoc]
theorem shW_lt (x k : Nat) : shW x k < B64 := Nat.mod_lt _ (by decide)
theorem shW_top (N : Nat) {j k : Nat} (hj : j < 2) (hk : k < 64) : shW (wi N j) k / 9223372036854775808 = (if N.testBit (64 * j + k) then 1 else 0) := by
  have h1 : shW (wi N j) k / 9223372036854775808 < 2 ^ 1 := by
    have : shW (wi N j) k < 18446744073709551616 := shW_lt (wi N j) k
    omega
  have h2 : (shW (wi N j) k / 9223372036854775808).testBit 0 = N.testBit (64 * j + k) := by
    rw [show (9223372036854775808 : Nat) = 2 ^ 63 from rfl, Nat.testBit_div_two_pow]
    unfold shW
    rw [show (18446744073709551616 : Nat) = 2 ^ 64 from rfl, Nat.testBit_mod_two_pow, shl_bit]
    have h3 : k ≤ 0 + 63 := by omega
    unfold wi w0 w1
    by_cases hj0 : j = 0
    · subst hj0
      rw [if_pos rfl, mkN_at (by omega), show 63 - (0 + 63 - k) = 64 * 0 + k by omega]
      simp [h3]
    · obtain rfl : j = 1 := by omega
      rw [if_neg (by omega), mkN_at (by omega), show 127 - (0 + 63 - k) = 64 * 1 + k by omega]
      simp [h3]
  generalize shW (wi N j) k / 9223372036854775808 = y at h1 h2
  rw [← h2]
  have : y = 0 ∨ y = 1 := by omega
  rcases this with rfl | rfl <;> rfl
end Go.Proofs.YtcecjoodlmpgnaaGreat
