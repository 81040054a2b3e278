import PyProof.Rows.All
import Wide.All
import OpenK.AllK
import Wide.FinOn
import Lean
import PyProof.EqAt
import PyProof.EqKinds
import PyProof.TupleCall
import KE.KRevSl
import KE.KTryMore
import KE.KEqDict
import PySem.Challenge.RW_evenpass_k27_whole_in_whatever_weaving
set_option Elab.async false
set_option linter.all false
set_option maxRecDepth 100000
set_option maxHeartbeats 4000000
namespace PySem.W.Fast
def tw15546310150153411892:=0
def tw1596829265877061045:=0
def tw14516557456729546682:=0
def tw2100800186386640507:=0
def tw4692626440428219698:=0
def tw9830947605154652536:=0
def tw5713286061865980127:=0
def tw4839760832856814680:=0
def tw17000876264884412348:=0
def tw4528190632492781185:=0
def tw12480224743946013518:=0
def tw845805897518831664:=0
def tw8866507388023647566:=0
def tw18277971966329404289:=0
def tw15663871496591816090:=0
def tw5375451260747444408:=0
def tw2829678524798849322:=0
def tw2972616527264937647:=0
def tw1798419493754452386:=0
def tw4512303557796568418:=0
def tw13555526625820922688:=0
def tw18106919554915373988:=0
def tw13205108756767108432:=0
def tw16258197398902607230:=0
def tw9407790886619528769:=0
def tw15002591284916613921:=0
def tw17626362096439452909:=0
def tw5479330110516429278:=0
def tw8180328686507350063:=0
def tw15353007220982627515:=0
def tw9916744129960438766:=0
def tw14804608779244438236:=0
def tw1946314953717431698:=0
def tw15041787292518203134:=0
def tw7025048186817126588:=0
def tw2914387593961326747:=0
def tw12613093249057027879:=0
def tw6655783917454666619:=0
def tw16041056071779204033:=0
def tw12300023671822328660:=0
def tw9062601779845847737:=0
def tw11891823981575270318:=0
def tw9968182968013514167:=0
def tw13818751135219852018:=0
def tw7334087496439763593:=0
def tw12595071564481910592:=0
def tw10653447525534540198:=0
def tw7678341577481892163:=0
def tw2262599488584527572:=0
def tw6642306264709251868:=0
def tw5924738275502047767:=0
def tw18097370630372202913:=0
def tw6495259775686664925:=0
def tw2943992060499980322:=0
def tw9792509888852798929:=0
def tw1024836267566226203:=0
def tw13117815214899508520:=0
def tw9293686116609275994:=0
def tw5086137185325132645:=0
def tw12571027474849008767:=0
def tw3701102709210456775:=0
def tw1168131804022221322:=0
def tw10001053588889838961:=0
def tw3066258899835861433:=0
def tw6004362465863730189:=0
def tw3873984816405608670:=0
def tw8280372077878155095:=0
def tw3459619226755942608:=0
def tw11764984546988689225:=0
def tw3858821520360731924:=0
def tw10642001093216875481:=0
def tw2782819368049354223:=0
def tw811561300077289182:=0
def tw9438114290158681347:=0
def tw12385498915587198631:=0
def tw13478036563836208721:=0
def tw10054546004155949315:=0
def tw5821373227650349066:=0
def tw12264258164907236989:=0
def tw2899056542692409745:=0
def tw15438491307856626812:=0
def tw15578376032163033588:=0
def tw16959052034636747858:=0
def tw13064671562266934767:=0
def tw16192255894715661988:=0
def tw3842514403936957906:=0
def tw17055619313957656924:=0
def tw5497726590070575026:=0
def tw10919839379529957221:=0
def tw16232502831539408067:=0
def tw9620993109651665877:=0
def tw15868414872910458396:=0
def tw7601114521825819653:=0
def tw7070859637209541400:=0
def tw16638810970151792092:=0
def tw3369923139078949136:=0
def tw16446002291530640446:=0
def tw10384377986270161706:=0
def tw15292389138504453703:=0
def tw7868739771703659088:=0
def tw434106481598262495:=0
def tw17960546935519663451:=0
def tw3548711645296272039:=0
def tw1542093385803146982:=0
def tw9053206772360532601:=0
def tw1471464546091425115:=0
def tw11135910149106944426:=0
def tw3559615155556895642:=0
def tw17533274526177002675:=0
def tw16404362851511992589:=0
def tw14204837114175322584:=0
def tw981598644147752419:=0
def tw13361276503286258075:=0
def tw1602563299293511642:=0
def tw16302758423750322515:=0
def tw4378052909732675729:=0
def tw8443947657994461968:=0
def tw8477127897078783145:=0
def tw9463863919750279096:=0
def tw2141300051189395776:=0
def tw15093851062010260097:=0
def tw6182011722135124647:=0
def tw5882171064344694032:=0
def tw10054399041980221334:=0
def tw4327155509965206038:=0
def tw4068916388402966364:=0
def tw695528226688758695:=0
def tw4948614561390745141:=0
def tw12073795129586622587:=0
def tw4305624870720605564:=0
def tw16670902652686429286:=0
def tw2518390857724632627:=0
def tw7846485971467399490:=0
def tw17280197441787469126:=0
def tw5702084833208414824:=0
def tw1023977190835189121:=0
def tw8031201400844365881:=0
def tw7302054948846035375:=0
def tw11987190881742142619:=0
def tw4396617068059413623:=0
def tw11706443298998110462:=0
def tw10937320531196620938:=0
def tw10579227834272840471:=0
def tw12750507484954756889:=0
def tw1493085700863005044:=0
def tw16027723943492146951:=0
def tw6031874703287558782:=0
def tw18293439912392454550:=0
def tw7801265327873861782:=0
def tw15724677611584136645:=0
def tw518054017042099566:=0
def tw7002818845545051627:=0
def tw715087465793358849:=0
def tw6284855209517225959:=0
def tw13513207906519970966:=0
def tw512194611427657903:=0
def tw14598053086336198863:=0
def tw8705906564094609544:=0
def tw18227118502934396322:=0
def tw4242966780262754256:=0
def tw14550115322348847239:=0
def tw4262597813065056252:=0
def tw11425477416749293211:=0
def tw17302435098073104181:=0
def tw6381071212474530629:=0
def tw12458724467526709574:=0
def tw5690431924407889658:=0
def tw15673695159179698175:=0
def tw3247399768641643249:=0
def tw10623224504520779378:=0
def tw6599116602339590781:=0
def tw16026303249040475982:=0
def tw10475066037880958686:=0
def tw12722442637772320193:=0
def tw10884109130880904451:=0
def tw1615372712318580046:=0
def tw2517639615534106881:=0
def tw634217612247183158:=0
def tw3684921691921549343:=0
def tw5463737760397540422:=0
def tw5022524212337316006:=0
def tw14102603317228341569:=0
def tw11891944940015537070:=0
def tw14865335541748040053:=0
def tw18341581557895400752:=0
def tw9726256506904409541:=0
def tw14668127707474992522:=0
def tw9589036588161752783:=0
def tw4661314774455847675:=0
def tw6947013892219969636:=0
def tw14054211278423643109:=0
def tw17291008999310976474:=0
def tw6152402881697139071:=0
def tw12997778410220376931:=0
def tw10446259762919395263:=0
def tw14398913607512928509:=0
def tw13000449270384417537:=0
def tw12390738615828370642:=0
def tw14126170524512179171:=0
def tw11757817083475028437:=0
def tw10571659342380166374:=0
def tw16482225323192515814:=0
def tw2545532492305119135:=0
def tw216638484291606828:=0
def tw13243365444856469785:=0
def tw5004191035492505590:=0
def tw12950015744266747919:=0
def tw5609026355944986481:=0
def tw15603039269618007868:=0
def tw10888315628041301599:=0
def tw5322390831793093429:=0
def tw658230904996191296:=0
def tw18014028455827241924:=0
def tw8810052897508403102:=0
def tw15929330904740437970:=0
def tw10640373119061919256:=0
def tw2538083624257618323:=0
def tw10545197756069856524:=0
def tw2216692284370494616:=0
def tw14414053285782151323:=0
def tw9621149729551506881:=0
def tw13072584900546224549:=0
def tw18407162439772224318:=0
def tw12405466750215603314:=0
def tw3043656992392412237:=0
def tw6543854961522561400:=0
def tw12511014986378877299:=0
def tw13958777181305387201:=0
def tw14862967259083225792:=0
def tw15739317871351023910:=0
def tw1823534908771897703:=0
def tw5716443806631343031:=0
def tw7054789084834940586:=0
def tw10603954904575912124:=0
def tw3129553582110658404:=0
def tw8634550628263633050:=0
def tw4142543457654974631:=0
def tw3417264011533771528:=0
def tw74439158204657579:=0
def tw17606356080852923944:=0
def tw18298590093734443334:=0
def tw770066352336142366:=0
def tw2171942443931268291:=0
def tw4364981740342081951:=0
def tw11207418943618284193:=0
def tw11792615106817222505:=0
def tw5099105365213919910:=0
def tw8598679305490609494:=0
def tw3000008882959312284:=0
def tw10575456638053381710:=0
def tw12091575373882324018:=0
def tw6289029861261802542:=0
def tw16648380702985116806:=0
def tw17371349606317664959:=0
def tw13972831894819036752:=0
def tw8522429731804324528:=0
def tw17594017560839188371:=0
def tw2219434705519146631:=0
def tw837622188160795285:=0
def tw7687900088690899535:=0
def tw10449750635355654017:=0
def tw5331234716682127289:=0
def tw18118827422628438:=0
def tw8960944219413954023:=0
def tw8516258250737383897:=0
def tw8810223601887596086:=0
def tw2435691023985049372:=0
def tw10110264363185824106:=0
def tw15130335092224840959:=0
def tw5491973347891889985:=0
def tw13379961138333015478:=0
def tw4501935899883759193:=0
def tw5263210618410717413:=0
def tw7263094182557705249:=0
def tw8249703680498709204:=0
def tw7733627261335878631:=0
def tw11610687969215944632:=0
def tw10668328245708001903:=0
def tw15096519609699143687:=0
def tw12774692283639735202:=0
def tw13236091734570063310:=0
def tw11564975761961980993:=0
def tw2304283222184374631:=0
def tw279766854526832793:=0
def tw903613874177628869:=0
def tw7414769119190173785:=0
def tw845101003179777291:=0
def tw7610391510343161863:=0
def tw11056843098789215198:=0
def tw4503340874980551878:=0
def tw16271017013186204864:=0
def tw18344959143222700477:=0
def tw7085842294020421856:=0
def tw13972943608189899470:=0
def tw3116877451229484324:=0
def tw12001293261142471953:=0
def tw12515594853733919151:=0
def tw12641243550726616570:=0
def tw18161637691657194924:=0
def tw12937481354470762764:=0
def tw16984960669959451294:=0
def tw8027500396995433607:=0
def tw7924221826509248224:=0
def tw15948135404641581849:=0
def tw6162464159424316366:=0
def tw14832047786993229251:=0
def tw15946167455769850974:=0
def tw11353874886951190010:=0
def tw4352697563439676843:=0
def tw15810677524193227914:=0
def tw4190342537536144096:=0
def tw6084444223822026739:=0
def tw6527088315895841530:=0
def tw9747499355926913668:=0
def tw14666863980097562831:=0
def tw14866718210371320499:=0
def tw15552335871491905076:=0
def tw17644944672977421976:=0
def tw3578053662633291060:=0
def tw7410493141948701108:=0
def tw7382859169698228510:=0
def tw14422575526356374294:=0
def tw10660558584773359342:=0
def tw3972222031960431787:=0
def tw14245388214551751154:=0
def tw550771374531082242:=0
def tw3455208712584621405:=0
def tw17180711993377882060:=0
def tw6176801748454325206:=0
def tw11476858276011195834:=0
def tw12681520831866020780:=0
def tw10139460081251890551:=0
def tw8430205567454634428:=0
def tw14946248149350817543:=0
def tw3139073504376590838:=0
def tw10498445529310971575:=0
def tw7715739946655306970:=0
def tw11534681791131313014:=0
def tw1791404816543968324:=0
def tw3996340737764559728:=0
def tw11752946582895051565:=0
def tw12426889592769267627:=0
def tw14039018980052620300:=0
def tw9288408514666175767:=0
def tw6513742650575397354:=0
def tw3147898659633676256:=0
def tw16556612357948893602:=0
def tw7118175719741578459:=0
def tw3524423797609211878:=0
def tw8434635253632174890:=0
def tw8677460757379802370:=0
def tw200439900897618253:=0
def tw9798169870045573837:=0
def tw10521793359755059085:=0
def tw276034959403149298:=0
def tw15124553834334959537:=0
def tw15950329554788384072:=0
def tw9884706431459311725:=0
def tw6697826013812581777:=0
def tw9119691604419081519:=0
def tw6202670478934122642:=0
def tw12903597808608167044:=0
def tw10219672606089455078:=0
def tw2330549305915195220:=0
def tw7906123569459512521:=0
def tw12953772714482229962:=0
def tw15115024157061487764:=0
def tw11168777134456927112:=0
def tw694197419227299431:=0
def tw7822546028799088365:=0
def tw2167695274450532383:=0
def tw10797935431835963083:=0
def tw6524745264318927206:=0
def tw6779633387656072613:=0
def tw11675865989229992722:=0
end PySem.W.Fast


namespace L2
open PySem PySem.Spec PyProof.Rows

abbrev Key := Sum Int Str
def keyIs : Key → Value → Bool
  | .inl k, v => Value.isInt k v
  | .inr x, v => Value.isStrOf x v
def keyH (w : World) : Key → Int
  | .inl k => hashInt k
  | .inr x => hashStr w x
theorem keyIs_shape : ∀ {k : Key} {v : Value}, keyIs k v = true → (∃ i t, k = Sum.inl i ∧ v = Value.int i t) ∨ (∃ x t, k = Sum.inr x ∧ v = Value.str x t)
  | .inl i, v, h => by
    obtain ⟨t, e⟩ := Value.isInt_shape (k := i) (v := v) h
    exact .inl ⟨i, t, rfl, e⟩
  | .inr x, v, h => by
    obtain ⟨t, e⟩ := Value.isStrOf_shape (x := x) (v := v) h
    exact .inr ⟨x, t, rfl, e⟩
theorem keyIs_int (i : Int) (t : Tok) : keyIs (.inl i) (.int i t) = true := by simp [keyIs, Value.isInt]
theorem keyIs_str (x : Str) (t : Tok) : keyIs (.inr x) (.str x t) = true := by simp [keyIs, Value.isStrOf]
theorem key_ll (a b : Int) : decide ((Sum.inl a : Key) = Sum.inl b) = (a == b) := by
  by_cases e : a = b
  · subst e; simp
  · have h : ¬ (Sum.inl a : Key) = Sum.inl b := fun q => e (Sum.inl.inj q)
    rw [decide_eq_false h]
    exact (beq_eq_false_iff_ne.mpr e).symm
theorem key_rr (a b : Str) : decide ((Sum.inr a : Key) = Sum.inr b) = decide (a = b) := by
  by_cases e : a = b
  · subst e; simp
  · have h : ¬ (Sum.inr a : Key) = Sum.inr b := fun q => e (Sum.inr.inj q)
    rw [decide_eq_false h, decide_eq_false e]
theorem key_lr (a : Int) (b : Str) : decide ((Sum.inl a : Key) = Sum.inr b) = false := decide_eq_false (fun q => nomatch q)
theorem key_rl (a : Str) (b : Int) : decide ((Sum.inr a : Key) = Sum.inl b) = false := decide_eq_false (fun q => nomatch q)

def mixKind (prog : Program) (w : World) : PySem.KeyKind prog w Key where
  is := keyIs
  hash := keyH w
  inj := fun v a b ha hb => by
    rcases keyIs_shape ha with ⟨i, t, rfl, rfl⟩ | ⟨x, t, rfl, rfl⟩
    · rcases keyIs_shape hb with ⟨j, u, rfl, e⟩ | ⟨y, u, rfl, e⟩
      · injection e with e1 _; rw [e1]
      · exact nomatch e
    · rcases keyIs_shape hb with ⟨j, u, rfl, e⟩ | ⟨y, u, rfl, e⟩
      · exact nomatch e
      · injection e with e1 _; rw [e1]
  byValue := fun k v h => by
    rcases keyIs_shape h with ⟨i, t, rfl, rfl⟩ | ⟨x, t, rfl, rfl⟩ <;> rfl
  pyHash := fun hv h => by
    rcases keyIs_shape hv with ⟨i, t, rfl, rfl⟩ | ⟨x, t, rfl, rfl⟩
    · exact wpAny_pyHash_int h
    · exact wpAny_pyHash_str h
  eqBool := fun hu hv h => by
    rcases keyIs_shape hu with ⟨i, t, rfl, rfl⟩ | ⟨x, t, rfl, rfl⟩
    · rcases keyIs_shape hv with ⟨j, u, rfl, rfl⟩ | ⟨y, u, rfl, rfl⟩
      · rw [key_ll] at h; exact wpAny_eqBool_int h
      · rw [key_lr] at h; exact SeqAt.EqAt.int_str i t y u _ _ _ _ h
    · rcases keyIs_shape hv with ⟨j, u, rfl, rfl⟩ | ⟨y, u, rfl, rfl⟩
      · rw [key_rl] at h; exact SeqAt.EqAt.str_int x t j u _ _ _ _ h
      · rw [key_rr] at h; exact wpAny_eqBool_str h
  «strs» := fun k x t v h => by
    rcases keyIs_shape h with ⟨i, u, rfl, e⟩ | ⟨y, u, rfl, e⟩
    · exact nomatch e
    · injection e with e1 _
      subst e1
      cases v <;> rfl

theorem mixKind_int (prog : Program) (w : World) (i : Int) (t : Tok) : (mixKind prog w).is (.inl i) (.int i t) = true := keyIs_int i t
theorem mixKind_str (prog : Program) (w : World) (x : Str) (t : Tok) : (mixKind prog w).is (.inr x) (.str x t) = true := keyIs_str x t
end L2

namespace L2
open PySem PySem.Spec PyProof.Rows

inductive V where
  | non | bl (b : Bool) | int (i : Int) | str (x : Str) | byt (b : Array UInt8) | flt (b : UInt64) | ref (a : Addr) | ty (n : String)
  deriving DecidableEq

def RelV : V → Value → Prop
  | .non, u => u = Value.none
  | .bl b, u => u = Value.bool b
  | .int i, u => ∃ t, u = Value.int i t
  | .str x, u => ∃ t, u = Value.str x t
  | .byt b, u => ∃ t, u = Value.bytes b t
  | .flt b, u => ∃ t, u = Value.float b t
  | .ref a, u => u = Value.ref a
  | .ty n, u => u = Value.type n

abbrev Vals : List V → List Value → Prop := Paired RelV
theorem Vals.length {xs : List V} {us : List Value} (r : Vals xs us) : xs.length = us.length := Paired.length r
theorem Vals.get : ∀ {xs : List V} {us : List Value} {i : Nat} {x : V}, Vals xs us → xs[i]? = some x → ∃ u, us[i]? = some u ∧ RelV x u
  | _, _, _, _, .nil, e => by simp at e
  | _, _, 0, _, .cons r _, e => by simp at e; subst e; exact ⟨_, rfl, r⟩
  | _, _, i + 1, x, .cons _ t, e => by
    obtain ⟨u, h1, h2⟩ := Vals.get (i := i) (x := x) t (by simpa using e)
    exact ⟨u, by simpa using h1, h2⟩
theorem Vals.set {x : V} {u : Value} (r : RelV x u) : ∀ {xs : List V} {us : List Value} (i : Nat), Vals xs us → Vals (xs.set i x) (us.set i u)
  | _, _, _, .nil => .nil
  | _, _, 0, .cons _ t => .cons r t
  | _, _, i + 1, .cons q t => .cons q (Vals.set r i t)
theorem Vals.append : ∀ {xs ys : List V} {us ws : List Value}, Vals xs us → Vals ys ws → Vals (xs ++ ys) (us ++ ws)
  | _, _, _, _, .nil, s => s
  | _, _, _, _, .cons r t, s => .cons r (Vals.append t s)
theorem Vals.take : ∀ {xs : List V} {us : List Value} (n : Nat), Vals xs us → Vals (xs.take n) (us.take n)
  | _, _, 0, _ => .nil
  | _, _, _ + 1, .nil => .nil
  | _, _, n + 1, .cons r t => .cons r (Vals.take n t)
theorem Vals.drop : ∀ {xs : List V} {us : List Value} (n : Nat), Vals xs us → Vals (xs.drop n) (us.drop n)
  | _, _, 0, r => r
  | _, _, _ + 1, .nil => .nil
  | _, _, n + 1, .cons _ t => Vals.drop n t
def RelO : Option V → Option Value → Prop
  | some v, some u => RelV v u
  | none, none => True
  | _, _ => False
def KV {κ : Type} : List (κ × V) → List (κ × Value) → Prop := Paired fun (p : κ × V) (q : κ × Value) => p.1 = q.1 ∧ RelV p.2 q.2

def kV : Key → V
  | .inl i => .int i
  | .inr x => .str x

inductive HO where
    | lst (xs : List V)
    | tup (xs : List V)
    | dK (kvs : List (Key × V)) | dT (kvs : List (List Key × V))
    | set (S : Int → Bool) (n : Nat)
    | ins (C dx : Addr) (fs : List (Str × V))
    | own (x : Addr)
    | xd (fs : List (Str × V))
    | met (f x : Addr)
    | rng (lo hi : Int)
    | frz (o : Obj) (u : HO)
    | tbl (q : Str × Int × Int)
    | ext (φ : Heap → Prop)

abbrev Hp := Addr → Option HO
def upd (H : Hp) (a : Addr) (o : HO) : Hp := fun b => if b = a then some o else H b
theorem upd_same {H : Hp} {a : Addr} {o : HO} : upd H a o a = some o := by unfold upd; rw [if_pos rfl]
theorem upd_ne {H : Hp} {a b : Addr} {o : HO} (h : b ≠ a) : upd H a o b = H b := by unfold upd; rw [if_neg h]
theorem upd_upd {H : Hp} {a : Addr} {o u : HO} : upd (upd H a o) a u = upd H a u := by
  funext b; unfold upd; split <;> rfl
theorem ne_of {H : Hp} {a b : Addr} {o u : HO} (h : H a = some o) (h' : H b = some u) (d : o ≠ u) : a ≠ b := by
  intro e; subst e; rw [h] at h'; exact d (Option.some.inj h')
theorem ne_of_none {H : Hp} {a b : Addr} {o : HO} (h : H a = some o) (h' : H b = none) : a ≠ b := by
  intro e; subst e; rw [h] at h'; cases h'

def IsTupD (h : Heap) (a : Addr) (items : Array Value) : Prop := ∃ o, h.get? a = some o ∧ o.cls = .type "tuple" ∧ ∃ n, o.data = .seq items n ∧ o.dict = none
theorem IsTupD.tup {h : Heap} {a : Addr} {items : Array Value} (x : IsTupD h a items) : IsTup h a items := let ⟨o, e, c, n, d, _⟩ := x; ⟨o, e, c, n, d⟩
theorem IsTupD.lt {h : Heap} {a : Addr} {items : Array Value} (x : IsTupD h a items) : a < h.objs.size := let ⟨_, e, _⟩ := x; Heap.lt_size e
theorem IsTupD.new (h : Heap) (items : Array Value) : IsTupD (h.push { cls := .type "tuple", data := .seq items }) h.objs.size items := ⟨_, Heap.get?_push_size _ rfl, rfl, _, rfl, rfl⟩
section
variable (P : Program) (w : World)
def ObjOk (H : Hp) (h : Heap) (a : Addr) : HO → Prop
  | .lst xs => xs.length ≤ sizeLine ∧ ∃ (its : List Value) (n : Nat), Vals xs its ∧ h.get? a = some { cls := .type "list", data := .seq its.toArray n }
  | .tup xs => xs.length ≤ sizeLine ∧ ∃ its : List Value, Vals xs its ∧ IsTupD h a its.toArray
  | .dK kvs => kvs.length ≤ sizeLine ∧ (a == sysModules) = false ∧ ∃ vs, KV kvs vs ∧ h.DictOf (mixKind P w) a vs
  | .dT kvs => kvs.length ≤ sizeLine ∧ (a == sysModules) = false ∧ ∃ xs : List (List Key × Addr × Value),
      Paired (fun (p : List Key × V) (q : List Key × Addr × Value) => p.1 = q.1 ∧ H q.2.1 = some (.tup (p.1.map kV)) ∧ RelV p.2 q.2.2) kvs xs ∧
      ∃ o es ep, h.get? a = some o ∧ o.ExactDict ∧ o.data = .dict es ep ∧ es.toList = xs.map (entryOfKey (tupleKind (mixKind P w))) ∧ (xs.map (·.1)).Nodup
  | .set S n => h.SetOf (intKind P w) a S n
  | .ins C dx fs => H dx = some (.own a) ∧ fs.length ≤ 1000 ∧ dx ≠ a ∧ h.get? a = some (PySem.W.instObj C dx) ∧
      ∃ mA, h.Ns1 dx mA ∧ (∀ f, RelO (fs.lookup f) (mA f)) ∧ PySem.Within mA (fs.map (·.1))
  | .own _ => ∃ o, h.get? a = some o
  | .xd fs => ∃ mA, h.Ns1 a mA ∧ ∀ f, RelO (fs.lookup f) (mA f)
  | .rng lo hi => ∃ t u v, h.get? a = some { cls := .type "range", data := .fields #[.int lo t, .int hi u, .int 1 v] }
  | .frz o u => h.get? a = some o ∧ ObjOk H h a u
  | .tbl q => h.get? a = some { cls := .none, data := .fields #[] } ∨ ∃ c, h.get? a = some { cls := .none, data := .fields #[rawInt q.2.1, rawInt q.2.2, .ref c] } ∧ H c = some (.own a) ∧ h.CodeRec (.ref c) q.1
  | .met f x => h.get? a = some (PySem.W.methodObj (.ref f) (.ref x))
  | .ext φ => φ h ∧ (∃ o, h.get? a = some o) ∧ ∀ h1 h2 : Heap, φ h1 → (∀ o, h1.get? a = some o → h2.get? a = some o) → φ h2
def HOk (H : Hp) (h : Heap) : Prop := ∀ a o, H a = some o → ObjOk P w H h a o
end

section
variable {P : Program} {w : World} {H H' : Hp} {h h' : Heap} {a : Addr} {o : HO}
theorem ObjOk.lt (x : ObjOk P w H h a o) : a < h.objs.size := by
  cases o with
  | lst xs => obtain ⟨_, _, _, _, e⟩ := x; exact Heap.lt_size e
  | tup xs => obtain ⟨_, _, _, p⟩ := x; exact p.lt
  | dK kvs => obtain ⟨_, _, _, _, o, _, _, e, _⟩ := x; exact Heap.lt_size e
  | dT kvs => obtain ⟨_, _, _, _, o, _, _, e, _⟩ := x; exact Heap.lt_size e
  | set S n => obtain ⟨o, _, _, _, e, _⟩ := x; exact Heap.lt_size e
  | ins C dx fs => obtain ⟨_, _, _, e, _⟩ := x; exact Heap.lt_size e
  | own y => obtain ⟨_, e⟩ := x; exact Heap.lt_size e
  | xd fs => obtain ⟨_, ⟨_, _, _, e, _⟩, _⟩ := x; exact Heap.lt_size e
  | rng lo hi => obtain ⟨_, _, _, e⟩ := x; exact Heap.lt_size e
  | frz ob u => obtain ⟨e, _⟩ := x; exact Heap.lt_size e
  | tbl q =>
    rcases (show h.get? a = some { cls := .none, data := .fields #[] } ∨ ∃ c, h.get? a = some { cls := .none, data := .fields #[rawInt q.2.1, rawInt q.2.2, .ref c] } ∧ H c = some (.own a) ∧ h.CodeRec (.ref c) q.1 from x) with e | ⟨_, e, _⟩
    · exact Heap.lt_size e
    · exact Heap.lt_size e
  | met f y => exact Heap.lt_size (show h.get? a = some _ from x)
  | ext φ => obtain ⟨_, ⟨_, e⟩, _⟩ := x; exact Heap.lt_size e
theorem Paired.mapP {α β : Type} {F G : α → β → Prop} : ∀ {l₁ : List α} {l₂ : List β}, Paired F l₁ l₂ → (∀ a b, F a b → G a b) → Paired G l₁ l₂
  | _, _, .nil, _ => .nil
  | _, _, .cons r t, f => .cons (f _ _ r) (Paired.mapP t f)
theorem ObjOk.stay (x : ObjOk P w H h a o) (k : ∀ b u, (b = a ∨ H b = some (.own a)) → h.get? b = some u → h'.get? b = some u)
    (ho : ∀ b, H b = some (.own a) → H' b = some (.own a)) (ht : ∀ b xs, H b = some (.tup xs) → H' b = some (.tup xs)) : ObjOk P w H' h' a o := by
  induction o with
  | lst xs => obtain ⟨z, its, n, r, e⟩ := x; exact ⟨z, its, n, r, k _ _ (.inl rfl) e⟩
  | tup xs => obtain ⟨z, its, r, ob, e, c⟩ := x; exact ⟨z, its, r, ob, k _ _ (.inl rfl) e, c⟩
  | dK kvs => obtain ⟨z, y, vs, r, ob, es, ep, e, c⟩ := x; exact ⟨z, y, vs, r, ob, es, ep, k _ _ (.inl rfl) e, c⟩
  | dT kvs =>
    obtain ⟨z, y, xs, r, ob, es, ep, e, c⟩ := x
    exact ⟨z, y, xs, Paired.mapP r fun p q z => ⟨z.1, ht _ _ z.2.1, z.2.2⟩, ob, es, ep, k _ _ (.inl rfl) e, c⟩
  | set S n => obtain ⟨ob, es, ep, t, e, c⟩ := x; exact ⟨ob, es, ep, t, k _ _ (.inl rfl) e, c⟩
  | ins C dx fs =>
    obtain ⟨d, z, ne, e, mA, ⟨od, es, ep, e2, c⟩, r⟩ := x
    exact ⟨ho _ d, z, ne, k _ _ (.inl rfl) e, mA, ⟨od, es, ep, k _ _ (.inr d) e2, c⟩, r⟩
  | own y => obtain ⟨ob, e⟩ := x; exact ⟨ob, k _ _ (.inl rfl) e⟩
  | xd fs => obtain ⟨mA, ⟨od, es, ep, e, c⟩, r⟩ := x; exact ⟨mA, ⟨od, es, ep, k _ _ (.inl rfl) e, c⟩, r⟩
  | rng lo hi => obtain ⟨t, u, v, e⟩ := x; exact ⟨t, u, v, k _ _ (.inl rfl) e⟩
  | frz ob u ih => obtain ⟨e, q⟩ := x; exact ⟨k _ _ (.inl rfl) e, ih q⟩
  | tbl q =>
    rcases (show h.get? a = some { cls := .none, data := .fields #[] } ∨ ∃ c, h.get? a = some { cls := .none, data := .fields #[rawInt q.2.1, rawInt q.2.2, .ref c] } ∧ H c = some (.own a) ∧ h.CodeRec (.ref c) q.1 from x) with e | ⟨c, e, hc, c0, oc, vs, t, ec, hoc, rest⟩
    · exact .inl (k a _ (.inl rfl) e)
    · cases ec
      exact .inr ⟨c, k a _ (.inl rfl) e, ho c hc, c, oc, vs, t, rfl, k c _ (.inr hc) hoc, rest⟩
  | met f y =>
    have e : h.get? a = some (PySem.W.methodObj (.ref f) (.ref y)) := x
    show h'.get? a = some (PySem.W.methodObj (.ref f) (.ref y))
    exact k a _ (.inl rfl) e
  | ext φ => obtain ⟨p, ⟨o, e⟩, st⟩ := x; exact ⟨st _ _ p fun o q => k _ _ (.inl rfl) q, ⟨o, k _ _ (.inl rfl) e⟩, st⟩
theorem HOk.lt (x : HOk P w H h) (e : H a = some o) : a < h.objs.size := (x a o e).lt
theorem HOk.fresh (x : HOk P w H h) (e : h.objs.size ≤ a) : H a = none := by
  cases q : H a with
  | none => rfl
  | some u => exact absurd (Nat.lt_of_lt_of_le (x.lt q) e) (Nat.lt_irrefl _)
theorem HOk.kept (x : HOk P w H h) (k : ∀ b u, h.get? b = some u → h'.get? b = some u) : HOk P w H h' := fun a o e =>
  (x a o e).stay (fun b u _ q => k b u q) (fun _ q => q) fun _ _ q => q
theorem HOk.laid (x : HOk P w H h) (k : ∀ b u, h.get? b = some u → h'.get? b = some u) (hp : h.objs.size ≤ a) (new : ObjOk P w (upd H a o) h' a o) : HOk P w (upd H a o) h' := fun b u e => by
  have hn := x.fresh hp
  by_cases hb : b = a
  · subst hb; rw [upd_same] at e; cases e; exact new
  · rw [upd_ne hb] at e
    exact (x b u e).stay (fun c v _ q => k c v q) (fun c q => by rw [upd_ne (ne_of_none q hn)]; exact q) fun c xs q => by rw [upd_ne (ne_of_none q hn)]; exact q
end

def Rd (H : Hp) (a : Addr) (u : HO) : Prop := H a = some u ∨ ∃ o, H a = some (.frz o u)
theorem Rd.ok {P : Program} {w : World} {H : Hp} {h : Heap} {a : Addr} {u : HO} (r : Rd H a u) (x : HOk P w H h) : ObjOk P w H h a u := by
  rcases r with r | ⟨o, r⟩
  · exact x a u r
  · obtain ⟨_, q⟩ := x a _ r
    exact q
def Mut : Option HO → Prop
  | some (.lst _) => True
  | some (.dK _) => True
  | some (.dT _) => True
  | some (.set _ _) => True
  | some (.ins _ _ _) => True
  | some (.ext _) => True
  | _ => False
section
variable {P : Program} {w : World} {H : Hp} {h h' : Heap} {x e : Addr} {o' : HO}
theorem HOk.write (ok : HOk P w H h) (mu : Mut (H x)) (he : e = x ∨ H e = some (.own x)) (k : ∀ b u, b ≠ e → h.get? b = some u → h'.get? b = some u) (heo : ∃ u, h'.get? e = some u)
    (new : ObjOk P w (upd H x o') h' x o') : HOk P w (upd H x o') h' := fun b u q => by
  have nown : ∀ c y, H c = some (.own y) → c ≠ x := fun c y r z => by subst z; rw [r] at mu; exact mu
  have ntup : ∀ c xs, H c = some (.tup xs) → c ≠ x := fun c xs r z => by subst z; rw [r] at mu; exact mu
  by_cases hb : b = x
  · subst hb; rw [upd_same] at q; cases q; exact new
  · rw [upd_ne hb] at q
    by_cases hbe : b = e
    · have q' : H b = some (.own x) := by
        rcases he with z | z
        · exact absurd (hbe.trans z) hb
        · rw [hbe]; exact z
      rw [q] at q'; cases q'
      obtain ⟨v, hv⟩ := heo
      exact ⟨v, by rw [hbe]; exact hv⟩
    · refine (ok b u q).stay (fun c v hc r => k c v ?_ r) (fun c r => by rw [upd_ne (nown c b r)]; exact r) fun c xs r => by rw [upd_ne (ntup c xs r)]; exact r
      rcases hc with rfl | hc
      · exact hbe
      · rintro rfl
        rcases he with z | z
        · exact nown c b hc z
        · rw [hc] at z; cases z; exact hb rfl
end

structure Un (fs ex : List Addr) (H H' : Hp) (h h' : Heap) : Prop where
  keep : ∀ b o, h.get? b = some o → H b = none → b ∉ fs → b ∉ ex → h'.get? b = some o
  slot : ∀ b o, h.get? b = some o → H b = none → b ∈ fs → b ∉ ex → ∃ sl, h'.get? b = some { o with slots := sl }
  free : ∀ b o, h.get? b = some o → H b = none → b ∉ ex → H' b = none
  there : ∀ b o, h.get? b = some o → b ∉ ex → ∃ o', h'.get? b = some o'
  tups : ∀ b xs, H b = some (.tup xs) → H' b = some (.tup xs)
  frzs : ∀ b o u, H b = some (.frz o u) → H' b = some (.frz o u)
  tbls : ∀ b ps, H b = some (.tbl ps) → H' b = some (.tbl ps) ∧ ∀ c o, H c = some (.own b) → h.get? c = some o → H' c = some (.own b) ∧ h'.get? c = some o
section
variable {fs fs' ex ex' : List Addr} {H H1 H2 : Hp} {h h1 h2 h' : Heap} {a x e : Addr} {o : HO}
theorem Un.any (u : Un fs ex H H1 h h1) {b : Addr} {ob : Obj} (q : h.get? b = some ob) (n : H b = none) (hx : b ∉ ex) : ∃ sl, h1.get? b = some { ob with slots := sl } := by
  by_cases hb : b ∈ fs
  · exact u.slot b ob q n hb hx
  · exact ⟨ob.slots, u.keep b ob q n hb hx⟩
theorem Un.kept (k : ∀ b u, h.get? b = some u → h'.get? b = some u) : Un fs ex H H h h' :=
  ⟨fun b ob q _ _ _ => k b ob q, fun b ob q _ _ _ => ⟨ob.slots, k b ob q⟩, fun _ _ _ n _ => n, fun b ob q _ => ⟨ob, k b ob q⟩, fun _ _ q => q, fun _ _ _ q => q, fun _ _ q => ⟨q, fun c o e x => ⟨e, k c o x⟩⟩⟩
theorem Un.refl : Un fs ex H H h h := Un.kept fun _ _ q => q
theorem Un.laid (k : ∀ b u, h.get? b = some u → h'.get? b = some u) (hp : h.objs.size ≤ a) (hn : H a = none) : Un fs ex H (upd H a o) h h' where
  keep := fun b u q _ _ _ => k b u q
  slot := fun b u q _ _ _ => ⟨u.slots, k b u q⟩
  free := fun b u q n _ => by rw [upd_ne (Nat.ne_of_lt (Nat.lt_of_lt_of_le (Heap.lt_size q) hp))]; exact n
  there := fun b u q _ => ⟨u, k b u q⟩
  tups := fun b xs q => by rw [upd_ne (ne_of_none q hn)]; exact q
  frzs := fun b u xs q => by rw [upd_ne (ne_of_none q hn)]; exact q
  tbls := fun b ps q => ⟨by rw [upd_ne (ne_of_none q hn)]; exact q, fun c u e x => ⟨by rw [upd_ne (ne_of_none e hn)]; exact e, k c u x⟩⟩
theorem Un.write (mu : Mut (H x)) (he : e = x ∨ H e = some (.own x)) (k : ∀ b u, b ≠ e → h.get? b = some u → h'.get? b = some u) (heo : ∃ u, h'.get? e = some u) : Un fs ex H (upd H x o) h h' := by
  have hx : ∀ b, H b = none → b ≠ x := fun b n z => by subst z; rw [n] at mu; exact mu
  have hb : ∀ b, H b = none → b ≠ e := fun b n z => by
    subst z
    rcases he with r | r
    · exact hx b n r
    · rw [n] at r; cases r
  have hm : ∀ b u, H b = some u → ¬ Mut (some u) → b ≠ x := fun b u q nm z => by subst z; rw [q] at mu; exact nm mu
  refine ⟨fun b u q n _ _ => k b u (hb b n) q, fun b u q n _ _ => ⟨u.slots, k b u (hb b n) q⟩, fun b u q n _ => by rw [upd_ne (hx b n)]; exact n, fun b u q _ => ?_,
    fun b xs q => by rw [upd_ne (hm b _ q fun z => z)]; exact q, fun b u xs q => by rw [upd_ne (hm b _ q fun z => z)]; exact q, fun b ps q => ⟨by rw [upd_ne (hm b _ q fun z => z)]; exact q, fun c u hc x => ⟨by rw [upd_ne (hm c _ hc fun z => z)]; exact hc, k c u (fun z => he.elim (fun r => hm c _ hc (fun z => z) (z.trans r)) fun r => by rw [← z, hc] at r; cases r; rw [q] at mu; exact mu) x⟩⟩⟩
  by_cases hbe : b = e
  · subst hbe; exact heo
  · exact ⟨u, k b u hbe q⟩
end

def trk (h : Heap) (H : Hp) : List Addr := (List.range h.objs.size).filter fun a => (H a).isSome
def hidT (h : Heap) (H : Hp) : Heap := PySem.W.hideAll h (trk h H)
theorem hidT_size (h : Heap) (H : Hp) : (hidT h H).objs.size = h.objs.size := PySem.W.hideAll_size _ _
theorem hidT_get {h : Heap} {H : Hp} {b : Addr} {o : Obj} (e : h.get? b = some o) (n : H b = none) : (hidT h H).get? b = some o :=
  PySem.W.hideAll_get _ e fun hm => by
    have q : (H b).isSome = true := (List.mem_filter.mp hm).2
    rw [n] at q; simp at q
theorem of_hidT {h : Heap} {H : Hp} {b : Addr} {o : Obj} (e : (hidT h H).get? b = some o) : h.get? b = some o ∧ H b = none := by
  have e' : h.get? b = some o := PySem.W.of_hideAll (trk h H) e
  refine ⟨e', ?_⟩
  cases q : H b with
  | none => rfl
  | some x =>
    have hm : b ∈ trk h H := List.mem_filter.mpr ⟨List.mem_range.mpr (Heap.lt_size e'), by simp [q]⟩
    have z : (hidT h H).get? b = none := PySem.W.hideAll_none (trk h H) hm
    rw [z] at e; cases e

def allNews (g h : Heap) (L : Addr) : List (Addr × Obj) := (List.range h.objs.size).filterMap fun a => if a = L ∨ (g.get? a).isSome = true then none else (h.get? a).map fun o => (a, o)
def rest (g h : Heap) (L d : Addr) : List (Addr × Obj) := (allNews g h L).filter fun p => decide (p.1 ≠ d)
end L2

namespace L2
open PySem PySem.Spec PyProof.Rows

structure Mod (K : PySem.W.Frag) (mg : Str → Option Value) (base : Heap) : Prop where
  kin : K.In base
  glob : base.Ns mainGlobals mg
  blt : ∃ mb, base.Ns builtinsNs mb ∧ ∀ x : Str, x ≠ "__name__" → mb x = bootBuiltins x
  nolimit : base.NoLimit

structure Cx where
  prog : Program
  w : World
  K : PySem.W.Frag
  mg : Str → Option Value
  base : Heap
  A : Around
  N : List Str
  s₀ : Shared
  H₀ : Hp
  env : Env
  outer : List Env
  stack : List Env
  ex : List Addr
  fn : Str → Bool
  calm : Bool
  pn : List (Addr × Obj)
  xe : Value → Shared → Prop
def frs (l : List Env) : List Addr := l.filterMap (·.frame)
abbrev Cx.fs (X : Cx) : List Addr := frs X.outer

def Vis (sc : Scope) (x : Str) : Prop := sc.names.lookup x = some .local ∨ sc.names.lookup x = some .cell ∨ sc.names.lookup x = some .free
def Loc (sc : Scope) (x : Str) : Prop := sc.names.lookup x = some .local ∨ sc.names.lookup x = some .cell
def Look (env : Env) (h : Heap) (m : Str → Option Value) (x : Str) (u : Value) : Prop :=
  (env.kindOf x = some .local ∧ m x = some u) ∨ ((env.kindOf x = some .cell ∨ env.kindOf x = some .free) ∧ ∃ c, env.cells.lookup x = some c ∧ h.IsCell c (some u))

structure Cx.Ok (X : Cx) : Prop where
  mod : Mod X.K X.mg X.base
  kind : X.env.scope.kind = .function
  glob : X.env.globals = mainGlobals
  blt : X.env.builtins = builtinsNs
  above : X.s₀.heap.objs.size ≤ X.env.locals
  inj : ∀ x y c, X.env.cells.lookup x = some c → X.env.cells.lookup y = some c → x = y
  has : ∀ x, (X.env.kindOf x = some .cell ∨ X.env.kindOf x = some .free) → ∃ c, X.env.cells.lookup x = some c
  cab : ∀ x c, X.fn x = true → X.env.cells.lookup x = some c → X.s₀.heap.objs.size ≤ c
  hd : X.calm = true → X.A.handled = none
  frames : X.A.frames = some X.stack
  stk : X.stack = X.outer ∨ (X.stack = X.env :: X.outer ∧ X.env.frame = some X.env.locals)
  exf : ∀ b ∈ X.ex, b ≠ X.env.locals ∧ ∀ x c, X.env.cells.lookup x = some c → c ≠ b
  bs : ∀ b o, X.base.get? b = some o → X.s₀.heap.get? b = some o ∧ X.H₀ b = none
  bsz : X.base.objs.size ≤ X.s₀.heap.objs.size
  noex : ∀ b o, X.base.get? b = some o → b ∉ X.ex
  exfs : ∀ b ∈ X.ex, b ∉ X.fs
  funs : X.s₀.heap.FunFrames X.base X.outer
  frf : ∀ b ∈ X.fs, X.H₀ b = none

structure Inv (X : Cx) (pins : List (Addr × Obj)) (σ : List (Option V)) (H : Hp) (s : Shared) : Prop where
  ok : X.Ok
  os : s.os = X.s₀.os
  bare : AllBare s.gens
  base : Un X.fs X.ex X.H₀ H X.s₀.heap s.heap
  loc : ∃ m, s.heap.Ns X.env.locals m ∧ ∀ (i : Nat) (x : Str) (v : V), X.N[i]? = some x → σ[i]? = some (some v) → Vis X.env.scope x → ∃ u, RelV v u ∧ Look X.env s.heap m x u
  cell : ∀ x c, X.env.cells.lookup x = some c → ∃ v, s.heap.IsCell c v
  free : H X.env.locals = none
  freeC : ∀ x c, X.env.cells.lookup x = some c → H c = none
  pin : ∀ p ∈ X.pn ++ pins, s.heap.get? p.1 = some p.2 ∧ H p.1 = none ∧ p.1 ≠ X.env.locals ∧ p.1 ∉ X.fs ∧ ∀ v, p.2.data ≠ .cell v
  hok : HOk X.prog X.w H s.heap
  len : σ.length = X.N.length

section
variable {X : Cx} {pins : List (Addr × Obj)} {σ : List (Option V)} {H H' : Hp} {s : Shared} {h' : Heap}

theorem Cx.Ok.nofr (ok : X.Ok) {b : Addr} {o : Obj} (e : X.base.get? b = some o) : b ∉ X.fs := fun hb => by
  have := (ok.funs.mem hb).1
  rw [e] at this; cases this
theorem Inv.bs (I : Inv X pins σ H s) : ∀ b o, X.base.get? b = some o → s.heap.get? b = some o ∧ H b = none := fun b o e =>
  ⟨I.base.keep b o (I.ok.bs b o e).1 (I.ok.bs b o e).2 (I.ok.nofr e) (I.ok.noex b o e), I.base.free b o (I.ok.bs b o e).1 (I.ok.bs b o e).2 (I.ok.noex b o e)⟩
theorem Inv.bk (I : Inv X pins σ H s) : ∀ b o, X.base.get? b = some o → s.heap.get? b = some o := fun b o e => (I.bs b o e).1
theorem Inv.mod (I : Inv X pins σ H s) : Mod X.K X.mg X.base := I.ok.mod
theorem Inv.kIn (I : Inv X pins σ H s) : X.K.In s.heap := I.ok.mod.kin.keeps I.bk
theorem Inv.fr (I : Inv X pins σ H s) : ∃ m, Fr X.base X.env.locals s.heap m :=
  let ⟨m, hn, _⟩ := I.loc
  ⟨m, hn, I.bk, Nat.le_trans I.ok.bsz I.ok.above⟩
theorem Inv.lt (I : Inv X pins σ H s) : X.env.locals < s.heap.objs.size := let ⟨_, hn, _⟩ := I.loc; hn.lt
theorem Inv.sz (I : Inv X pins σ H s) : X.s₀.heap.objs.size ≤ s.heap.objs.size := Nat.le_trans I.ok.above (Nat.le_of_lt I.lt)
theorem Inv.nofs (I : Inv X pins σ H s) {a : Addr} (h : s.heap.objs.size ≤ a) : a ∉ X.fs := fun hb => by
  obtain ⟨_, o, ho, _⟩ := I.ok.funs.mem hb
  exact absurd (Nat.lt_of_lt_of_le (Heap.lt_size ho) (Nat.le_trans I.sz h)) (Nat.lt_irrefl _)
theorem Inv.cne (I : Inv X pins σ H s) : ∀ x c, X.env.cells.lookup x = some c → c ≠ X.env.locals := fun x c e z => by
  obtain ⟨v, o, ho, hd⟩ := I.cell x c e
  obtain ⟨m, ⟨o', es, ep, ho', hd', _⟩, _⟩ := I.loc
  rw [z, ho'] at ho; cases ho; rw [hd'] at hd; cases hd
theorem Inv.funs (I : Inv X pins σ H s) : s.heap.FunFrames X.base X.outer := by
  have all : ∀ (l : List Env), (∀ b ∈ frs l, b ∈ X.fs) → X.s₀.heap.FunFrames X.base l → s.heap.FunFrames X.base l := by
    intro l
    induction l with
    | nil => intro _ _; trivial
    | cons env r ih =>
      intro hs hl
      obtain ⟨hk, ⟨L, o, hf, hn, ho, hd⟩, hr⟩ := hl
      have hL : L ∈ X.fs := hs L (by unfold frs; rw [List.filterMap_cons, hf]; exact List.mem_cons_self)
      obtain ⟨sl, e⟩ := I.base.slot L o ho (I.ok.frf L hL) hL fun z => I.ok.exfs L z hL
      exact ⟨hk, ⟨L, _, hf, hn, e, hd⟩, ih (fun b hb => hs b (by unfold frs; rw [List.filterMap_cons, hf]; exact List.mem_cons_of_mem _ hb)) hr⟩
  exact all X.outer (fun _ hb => hb) I.ok.funs

theorem Inv.stack (I : Inv X pins σ H s) : s.heap.FunFrames X.base X.stack := by
  rcases I.ok.stk with e | ⟨e, hf⟩
  · rw [e]; exact I.funs
  · rw [e]
    obtain ⟨m, hn, _⟩ := I.loc
    refine .cons (by rw [I.ok.kind]; decide) hf hn ?_ I.funs
    exact Heap.get?_none_of_le (Nat.le_trans I.ok.bsz I.ok.above)
theorem Inv.stkSub (I : Inv X pins σ H s) : ∀ b ∈ frs X.stack, b ∈ X.env.locals :: X.fs := fun b hb => by
  rcases I.ok.stk with e | ⟨e, hf⟩
  · rw [e] at hb; exact List.mem_cons_of_mem _ hb
  · rw [e] at hb
    unfold frs at hb
    rw [List.filterMap_cons, hf] at hb
    exact hb
theorem Inv.stkFree (I : Inv X pins σ H s) : ∀ b ∈ frs X.stack, H b = none := fun b hb => by
  rcases List.mem_cons.mp (I.stkSub b hb) with e | hb
  · rw [e]; exact I.free
  · obtain ⟨_, o, ho, _⟩ := I.ok.funs.mem hb
    exact I.base.free b o ho (I.ok.frf b hb) fun z => I.ok.exfs b z hb

theorem Inv.step {g' : Array GenState} {t' : Nat} {d' : Drawn} {ch : List Addr} (I : Inv X pins σ H s)
    (hch : ∀ b ∈ ch, (b ∈ X.ex ∨ X.s₀.heap.objs.size ≤ b) ∧ b ≠ X.env.locals ∧ (∀ x c, X.env.cells.lookup x = some c → c ≠ b) ∧ ∀ p ∈ X.pn ++ pins, p.1 ≠ b)
    (keep : ∀ b o, b ≠ X.env.locals → b ∉ X.fs → b ∉ ch → s.heap.get? b = some o → H b = none → h'.get? b = some o)
    (slot : ∀ b o, b ≠ X.env.locals → b ∈ X.fs → b ∉ ch → s.heap.get? b = some o → H b = none → ∃ sl, h'.get? b = some { o with slots := sl }) (free : ∀ b o, b ∉ ch → s.heap.get? b = some o → H b = none → H' b = none)
    (there : ∀ b o, b ∉ ch → s.heap.get? b = some o → ∃ o', h'.get? b = some o')
    (tups : ∀ b xs, H b = some (.tup xs) → H' b = some (.tup xs)) (frzs : ∀ b o u, H b = some (.frz o u) → H' b = some (.frz o u)) (tbls : ∀ b ps, H b = some (.tbl ps) → H' b = some (.tbl ps) ∧ ∀ c o, H c = some (.own b) → s.heap.get? c = some o → H' c = some (.own b) ∧ h'.get? c = some o)
    (ns : ∀ m, s.heap.Ns X.env.locals m → h'.Ns X.env.locals m) (hok : HOk X.prog X.w H' h') (hg : AllBare g') :
    Inv X pins σ H' { s with heap := h', gens := g', drawn := d', toks := t' } := by
  have neL : ∀ b o, X.s₀.heap.get? b = some o → b ≠ X.env.locals := fun b o e => Nat.ne_of_lt (Nat.lt_of_lt_of_le (Heap.lt_size e) I.ok.above)
  have neC : ∀ b o, X.s₀.heap.get? b = some o → b ∉ X.ex → b ∉ ch := fun b o e hx hb => by
    rcases (hch b hb).1 with z | z
    · exact hx z
    · exact absurd (Nat.lt_of_lt_of_le (Heap.lt_size e) z) (Nat.lt_irrefl _)
  have cellK : ∀ x c, X.env.cells.lookup x = some c → ∀ v, s.heap.IsCell c v → h'.IsCell c v := fun x c e v ⟨o, ho, hd⟩ => by
    have nch : c ∉ ch := fun z => (hch c z).2.2.1 x c e rfl
    by_cases hc : c ∈ X.fs
    · obtain ⟨sl, q⟩ := slot c o (I.cne x c e) hc nch ho (I.freeC x c e)
      exact ⟨_, q, hd⟩
    · exact ⟨o, keep c o (I.cne x c e) hc nch ho (I.freeC x c e), hd⟩
  refine ⟨I.ok, I.os, hg, ⟨fun b o e n hb hx => ?_, fun b o e n hb hx => ?_, fun b o e n hx => ?_, fun b o e hx => ?_, fun b xs e => tups b xs (I.base.tups b xs e), fun b o xs e => frzs b o xs (I.base.frzs b o xs e), fun b ps e => ?_⟩, ?_, fun x c e => ?_, ?_, fun x c e => ?_, fun p hp => ?_, hok, I.len⟩
  · exact keep b o (neL b o e) hb (neC b o e hx) (I.base.keep b o e n hb hx) (I.base.free b o e n hx)
  · obtain ⟨sl, e1⟩ := I.base.slot b o e n hb hx
    obtain ⟨sl', e2⟩ := slot b _ (neL b o e) hb (neC b o e hx) e1 (I.base.free b o e n hx)
    exact ⟨sl', e2⟩
  · obtain ⟨o', e1⟩ := I.base.there b o e hx
    exact free b o' (neC b o e hx) e1 (I.base.free b o e n hx)
  · obtain ⟨o', e1⟩ := I.base.there b o e hx
    exact there b o' (neC b o e hx) e1
  · exact ⟨(tbls b ps (I.base.tbls b ps e).1).1, fun c o e1 x => let z := (I.base.tbls b ps e).2 c o e1 x; (tbls b ps (I.base.tbls b ps e).1).2 c o z.1 z.2⟩
  · obtain ⟨m, hn, hl⟩ := I.loc
    refine ⟨m, ns m hn, fun i x v e1 e2 e3 => ?_⟩
    obtain ⟨u, r, l⟩ := hl i x v e1 e2 e3
    refine ⟨u, r, ?_⟩
    rcases l with l | ⟨k, c, e, z⟩
    · exact .inl l
    · exact .inr ⟨k, c, e, cellK x c e _ z⟩
  · obtain ⟨v, z⟩ := I.cell x c e
    exact ⟨v, cellK x c e v z⟩
  · obtain ⟨m, ⟨o, _, _, ho, _⟩, _⟩ := I.loc
    exact free _ o (fun z => (hch _ z).2.1 rfl) ho I.free
  · obtain ⟨v, o, ho, hd⟩ := I.cell x c e
    exact free c o (fun z => (hch c z).2.2.1 x c e rfl) ho (I.freeC x c e)
  · obtain ⟨e, n, ne, nf, d⟩ := I.pin p hp
    have nch : p.1 ∉ ch := fun z => (hch p.1 z).2.2.2 p hp rfl
    exact ⟨keep p.1 p.2 ne nf nch e n, free p.1 p.2 nch e n, ne, nf, d⟩
theorem Inv.un {t' : Nat} (I : Inv X pins σ H s) (u : Un X.fs [] H H' s.heap h') (hok : HOk X.prog X.w H' h') : Inv X pins σ H' { s with heap := h', toks := t' } := by
  obtain ⟨m, ⟨o, es, ep, ho, r⟩, _⟩ := id I.loc
  obtain ⟨sl, hL⟩ := u.any ho I.free (by simp)
  exact I.step (g' := s.gens) (d' := s.drawn) (ch := []) (fun _ z => nomatch z) (fun b o _ hb _ e n => u.keep b o e n hb (by simp)) (fun b o _ hb _ e n => u.slot b o e n hb (by simp)) (fun b o _ e n => u.free b o e n (by simp)) (fun b o _ e => u.there b o e (by simp)) u.tups u.frzs u.tbls (fun m' hm => by
    obtain ⟨o', es', ep', ho', r'⟩ := hm
    rw [ho] at ho'; cases ho'
    exact ⟨_, es', ep', hL, r'⟩) hok I.bare
theorem Inv.call {g' : Array GenState} {t' : Nat} {d' : Drawn} {ch : List Addr} (I : Inv X pins σ H s) (u : Un (frs X.stack) ch H H' s.heap h') (hok : HOk X.prog X.w H' h') (hg : AllBare g')
    (hch : ∀ b ∈ ch, (b ∈ X.ex ∨ X.s₀.heap.objs.size ≤ b) ∧ b ≠ X.env.locals ∧ (∀ x c, X.env.cells.lookup x = some c → c ≠ b) ∧ ∀ p ∈ X.pn ++ pins, p.1 ≠ b) :
    Inv X pins σ H' { s with heap := h', gens := g', drawn := d', toks := t' } := by
  obtain ⟨m, ⟨o, es, ep, ho, r⟩, _⟩ := id I.loc
  obtain ⟨sl, hL⟩ := u.any ho I.free fun z => (hch _ z).2.1 rfl
  exact I.step (ch := ch) hch (fun b o hL hb hc e n => u.keep b o e n (fun z => (List.mem_cons.mp (I.stkSub b z)).elim hL hb) hc) (fun b o _ _ hc e n => u.any e n hc) (fun b o hc e n => u.free b o e n hc) (fun b o hc e => u.there b o e hc) u.tups u.frzs u.tbls (fun m' hm => by
    obtain ⟨o', es', ep', ho', r'⟩ := hm
    rw [ho] at ho'; cases ho'
    exact ⟨_, es', ep', hL, r'⟩) hok hg
theorem Inv.turned {t' : Nat} {it : Addr} (I : Inv X pins σ H s) (k : ∀ b o, b ≠ it → s.heap.get? b = some o → h'.get? b = some o) (hn : H it = none) (hL : it ≠ X.env.locals)
    (h1 : it ∈ X.ex ∨ X.s₀.heap.objs.size ≤ it) (h2 : ∀ x c, X.env.cells.lookup x = some c → c ≠ it) (h3 : ∀ p ∈ X.pn ++ pins, p.1 ≠ it) : Inv X pins σ H { s with heap := h', toks := t' } := by
  have nit : ∀ b u, H b = some u → b ≠ it := fun b u e z => by rw [z, hn] at e; cases e
  refine I.step (g' := s.gens) (d' := s.drawn) (ch := [it]) (fun b hb => ?_) (fun b o _ _ hc e _ => k b o (fun z => hc (by simp [z])) e) (fun b o _ _ hc e _ => ⟨o.slots, k b o (fun z => hc (by simp [z])) e⟩) (fun _ _ _ _ n => n)
    (fun b o hc e => ⟨o, k b o (fun z => hc (by simp [z])) e⟩) (fun _ _ e => e) (fun _ _ _ e => e) (fun b ps e => ⟨e, fun c o ec x => ⟨ec, k c o (nit c _ ec) x⟩⟩) (fun m hm => ?_) (fun b u e => ?_) I.bare
  · have e : b = it := by simpa using hb
    subst e
    exact ⟨h1, hL, h2, h3⟩
  · obtain ⟨o, es, ep, ho, r⟩ := hm
    exact ⟨o, es, ep, k _ o (Ne.symm hL) ho, r⟩
  · refine (I.hok b u e).stay (fun c v hc q => k c v ?_ q) (fun _ q => q) fun _ _ q => q
    rcases hc with z | z
    · rw [z]; exact nit b u e
    · exact nit c _ z
theorem Inv.tok (I : Inv X pins σ H s) (t : Nat) : Inv X pins σ H { s with toks := t } := I.un (h' := s.heap) (t' := t) Un.refl I.hok
theorem Inv.kept {t' : Nat} (I : Inv X pins σ H s) (k : ∀ b u, s.heap.get? b = some u → h'.get? b = some u) : Inv X pins σ H { s with heap := h', toks := t' } := I.un (Un.kept k) (I.hok.kept k)
theorem Inv.laid {a : Addr} {o : HO} {t' : Nat} (I : Inv X pins σ H s) (k : ∀ b u, s.heap.get? b = some u → h'.get? b = some u) (hp : s.heap.objs.size ≤ a) (new : ObjOk X.prog X.w (upd H a o) h' a o) :
    Inv X pins σ (upd H a o) { s with heap := h', toks := t' } := I.un (Un.laid k hp (I.hok.fresh hp)) (I.hok.laid k hp new)
theorem Inv.write {x e : Addr} {o : HO} {t' : Nat} (I : Inv X pins σ H s) (mu : Mut (H x)) (he : e = x ∨ H e = some (.own x)) (k : ∀ b u, b ≠ e → s.heap.get? b = some u → h'.get? b = some u) (heo : ∃ u, h'.get? e = some u)
    (new : ObjOk X.prog X.w (upd H x o) h' x o) : Inv X pins σ (upd H x o) { s with heap := h', toks := t' } := I.un (Un.write mu he k heo) (I.hok.write mu he k heo new)
theorem Inv.weak {σ' : List (Option V)} (I : Inv X pins σ H s) (hl : σ'.length = σ.length) (w : ∀ (i : Nat) v, σ'[i]? = some (some v) → σ[i]? = some (some v)) : Inv X pins σ' H s :=
  ⟨I.ok, I.os, I.bare, I.base, let ⟨m, hn, hl'⟩ := I.loc; ⟨m, hn, fun i x v e1 e2 e3 => hl' i x v e1 (w i v e2) e3⟩, I.cell, I.free, I.freeC, I.pin, I.hok, hl.trans I.len⟩
theorem Inv.pins_of {pins' : List (Addr × Obj)} (I : Inv X pins σ H s) (h : ∀ p ∈ pins', s.heap.get? p.1 = some p.2 ∧ H p.1 = none ∧ p.1 ≠ X.env.locals ∧ p.1 ∉ X.fs ∧ ∀ v, p.2.data ≠ .cell v) : Inv X pins' σ H s :=
  ⟨I.ok, I.os, I.bare, I.base, I.loc, I.cell, I.free, I.freeC, fun p hp => (List.mem_append.mp hp).elim (fun z => I.pin p (List.mem_append_left _ z)) (h p), I.hok, I.len⟩

theorem nodup_ix {N : List Str} (hN : N.Nodup) {i j : Nat} {x : Str} (a : N[i]? = some x) (b : N[j]? = some x) : i = j := by
  obtain ⟨h1, e1⟩ := List.getElem?_eq_some_iff.mp a
  obtain ⟨h2, e2⟩ := List.getElem?_eq_some_iff.mp b
  exact (List.getElem_inj hN).mp (e1.trans e2.symm)

theorem store_ok2 {M : Model} {A : Around} {E : Value → Shared → Prop} {i : Nat} {x : Str} {v : V} {u : Value} {Q : Unit → Shared → Prop} (I : Inv X pins σ H s) (hN : X.N.Nodup) (hi : X.N[i]? = some x) (hx : Loc X.env.scope x) (r : RelV v u)
    (h : ∀ s', Inv X pins (σ.set i (some v)) H s' → (∃ a, Heap.SameBut a s.heap s'.heap ∧ (a = X.env.locals ∨ X.env.cells.lookup x = some a)) → Q () s') (hf : X.fn x = true ∨ X.env.scope.names.lookup x = some .local := by first | exact .inl rfl | exact .inr rfl | assumption) : wpAny M A (storeName X.env x u) Q E s := by
  obtain ⟨m, hn, hl⟩ := id I.loc
  have hcls : (X.env.scope.kind == .class || (X.env.scope.kind == .module && X.env.locals != X.env.globals)) = false := by rw [I.ok.kind]; rfl
  have hiσ : i < σ.length := by rw [I.len]; exact (List.getElem?_eq_some_iff.mp hi).1
  have cne := I.cne
  have tracked : ∀ {a : Addr} {h' : Heap}, (∃ o, s.heap.get? a = some o ∧ H a = none) → Heap.SameBut a s.heap h' → HOk X.prog X.w H h' := fun {a h'} ha hs b ob e => by
    obtain ⟨_, _, hfree⟩ := ha
    refine (I.hok b ob e).stay (fun c w' hc q => (hs.2 c ?_).trans q) (fun _ q => q) fun _ _ q => q
    rintro rfl
    rcases hc with rfl | hc
    · rw [hfree] at e; cases e
    · rw [hfree] at hc; cases hc
  rcases hx with hk | hk
  · refine wpAny_storeName_local hk hn (fun h' hn' hs => ?_) hcls
    obtain ⟨oL, _, _, hoL, _⟩ := id hn
    refine h _ ⟨I.ok, I.os, I.bare, ⟨fun b o e n hb hx => ?_, fun b o e n hb hx => ?_, I.base.free, fun b o e hx => ?_, I.base.tups, I.base.frzs, fun b ps e => ⟨(I.base.tbls b ps e).1, fun d o e1 x1 => let z := (I.base.tbls b ps e).2 d o e1 x1; ⟨z.1, (hs.2 d (ne_of_none z.1 I.free)).trans z.2⟩⟩⟩, ⟨_, hn', fun j y v' e1 e2 e3 => ?_⟩, fun y c e => ?_, I.free, I.freeC, fun p hp => ?_, tracked ⟨oL, hoL, I.free⟩ hs, by simpa using I.len⟩ ⟨_, hs, .inl rfl⟩
    · exact (hs.2 b (Nat.ne_of_lt (Nat.lt_of_lt_of_le (Heap.lt_size e) I.ok.above))).trans (I.base.keep b o e n hb hx)
    · obtain ⟨sl, e1⟩ := I.base.slot b o e n hb hx
      exact ⟨sl, (hs.2 b (Nat.ne_of_lt (Nat.lt_of_lt_of_le (Heap.lt_size e) I.ok.above))).trans e1⟩
    · obtain ⟨o', e1⟩ := I.base.there b o e hx
      exact ⟨o', (hs.2 b (Nat.ne_of_lt (Nat.lt_of_lt_of_le (Heap.lt_size e) I.ok.above))).trans e1⟩
    · by_cases hj : j = i
      · subst hj
        rw [hi] at e1; cases e1
        rw [List.getElem?_set_self hiσ] at e2
        cases e2
        exact ⟨u, r, .inl ⟨hk, by simp⟩⟩
      · rw [List.getElem?_set_ne (Ne.symm hj)] at e2
        obtain ⟨u', r', q⟩ := hl j y v' e1 e2 e3
        refine ⟨u', r', ?_⟩
        rcases q with ⟨k, e⟩ | ⟨k, c, e, z⟩
        · refine .inl ⟨k, ?_⟩
          have : y ≠ x := fun e => hj (nodup_ix hN e1 (e ▸ hi))
          simp [this, e]
        · exact .inr ⟨k, c, e, z.sameBut hs (cne y c e)⟩
    · obtain ⟨w', z⟩ := I.cell y c e
      exact ⟨w', z.sameBut hs (cne y c e)⟩
    · obtain ⟨e, n, ne, nf, d⟩ := I.pin p hp
      exact ⟨(hs.2 p.1 ne).trans e, n, ne, nf, d⟩
  · have hfn : X.fn x = true := by
      rcases hf with z | z
      · exact z
      · rw [z] at hk; cases hk
    obtain ⟨c, hc⟩ := I.ok.has x (.inl hk)
    obtain ⟨w', z⟩ := I.cell x c hc
    refine wpAny_storeName_cell I.ok.kind hk hc z (fun h' hc' hs => ?_)
    obtain ⟨oc, hoc, hocd⟩ := id z
    refine h { s with heap := h' } ⟨I.ok, I.os, I.bare, ⟨fun b o e n hb hx => ?_, fun b o e n hb hx => ?_, I.base.free, fun b o e hx => ?_, I.base.tups, I.base.frzs, fun b ps e => ⟨(I.base.tbls b ps e).1, fun d o e1 x1 => let z := (I.base.tbls b ps e).2 d o e1 x1; ⟨z.1, (hs.2 d (ne_of_none z.1 (I.freeC x c hc))).trans z.2⟩⟩⟩, ⟨m, hn.sameBut hs (Ne.symm (cne x c hc)), fun j y v' e1 e2 e3 => ?_⟩, fun y c' e => ?_, I.free, I.freeC, fun p hp => ?_, tracked ⟨oc, hoc, I.freeC x c hc⟩ hs, by simpa using I.len⟩ ⟨c, hs, .inr hc⟩
    · exact (hs.2 b (Nat.ne_of_lt (Nat.lt_of_lt_of_le (Heap.lt_size e) (I.ok.cab x c hfn hc)))).trans (I.base.keep b o e n hb hx)
    · obtain ⟨sl, e1⟩ := I.base.slot b o e n hb hx
      exact ⟨sl, (hs.2 b (Nat.ne_of_lt (Nat.lt_of_lt_of_le (Heap.lt_size e) (I.ok.cab x c hfn hc)))).trans e1⟩
    · obtain ⟨o', e1⟩ := I.base.there b o e hx
      exact ⟨o', (hs.2 b (Nat.ne_of_lt (Nat.lt_of_lt_of_le (Heap.lt_size e) (I.ok.cab x c hfn hc)))).trans e1⟩
    · by_cases hj : j = i
      · subst hj
        rw [hi] at e1; cases e1
        rw [List.getElem?_set_self hiσ] at e2
        cases e2
        exact ⟨u, r, .inr ⟨.inl hk, c, hc, hc'⟩⟩
      · rw [List.getElem?_set_ne (Ne.symm hj)] at e2
        obtain ⟨u', r', q⟩ := hl j y v' e1 e2 e3
        refine ⟨u', r', ?_⟩
        rcases q with q | ⟨k, c', e, z'⟩
        · exact .inl q
        · refine .inr ⟨k, c', e, z'.sameBut hs ?_⟩
          rintro rfl
          exact hj (nodup_ix hN e1 (I.ok.inj _ _ _ e hc ▸ hi))
    · by_cases hcc : c' = c
      · subst hcc; exact ⟨_, hc'⟩
      · obtain ⟨w2, z2⟩ := I.cell y c' e
        exact ⟨w2, z2.sameBut hs hcc⟩
    · obtain ⟨e, n, ne, nf, d⟩ := I.pin p hp
      refine ⟨(hs.2 p.1 ?_).trans e, n, ne, nf, d⟩
      intro q
      rw [q, hoc] at e
      have q' : oc = p.2 := Option.some.inj e
      exact d w' (by rw [← q']; exact hocd)
theorem store_ok {M : Model} {A : Around} {E : Value → Shared → Prop} {i : Nat} {x : Str} {v : V} {u : Value} {Q : Unit → Shared → Prop} (I : Inv X pins σ H s) (hN : X.N.Nodup) (hi : X.N[i]? = some x) (hx : Loc X.env.scope x) (r : RelV v u)
    (h : ∀ s', Inv X pins (σ.set i (some v)) H s' → Q () s') (hf : X.fn x = true ∨ X.env.scope.names.lookup x = some .local := by first | exact .inl rfl | exact .inr rfl | assumption) : wpAny M A (storeName X.env x u) Q E s :=
  store_ok2 I hN hi hx r (fun s' I' _ => h s' I') hf
theorem Inv.call' {s' : Shared} {ch : List Addr} (I : Inv X pins σ H s) (ho : s'.os = s.os) (u : Un (frs X.stack) ch H H' s.heap s'.heap) (hok : HOk X.prog X.w H' s'.heap) (hg : AllBare s'.gens)
    (hch : ∀ b ∈ ch, (b ∈ X.ex ∨ X.s₀.heap.objs.size ≤ b) ∧ b ≠ X.env.locals ∧ (∀ x c, X.env.cells.lookup x = some c → c ≠ b) ∧ ∀ p ∈ X.pn ++ pins, p.1 ≠ b) : Inv X pins σ H' s' := by
  obtain ⟨h', g', d', t', o'⟩ := s'
  have e : o' = s.os := ho
  subst e
  exact I.call (g' := g') (t' := t') (d' := d') u hok hg hch
end

abbrev XK := Value → Option Addr → Hp → Prop
abbrev St := List (Option V)
abbrev VK := V → Hp → Prop
abbrev TE := St → Hp → VK → Prop
abbrev TT := St → Hp → (Bool → Hp → Prop) → Prop
abbrev TA := St → Hp → (List V → Hp → Prop) → Prop
structure Ends where
  nx : St → Hp → Prop
  rt : VK
  bk : St → Hp → Prop := fun _ _ => False
  ct : St → Hp → Prop := fun _ _ => False
abbrev TS := Ends → St → Hp → Prop

def EP (X : Cx) (pins : List (Addr × Obj)) (σ : St) (Q : VK) (u : Value) (s' : Shared) : Prop := ∃ v H', Inv X pins σ H' s' ∧ RelV v u ∧ Q v H'
def TP (X : Cx) (pins : List (Addr × Obj)) (σ : St) (Q : Bool → Hp → Prop) (b : Bool) (s' : Shared) : Prop := ∃ H', Inv X pins σ H' s' ∧ Q b H'
def AP (X : Cx) (pins : List (Addr × Obj)) (σ : St) (Q : List V → Hp → Prop) (us : List Value) (s' : Shared) : Prop := ∃ vs H', Inv X pins σ H' s' ∧ Vals vs us ∧ Q vs H'
def SP (X : Cx) (pins : List (Addr × Obj)) (D : Ends) (f : Flow) (s' : Shared) : Prop :=
  match f with
  | .next => ∃ σ' H', Inv X pins σ' H' s' ∧ D.nx σ' H'
  | .brk => ∃ σ' H', Inv X pins σ' H' s' ∧ D.bk σ' H'
  | .cont => ∃ σ' H', Inv X pins σ' H' s' ∧ D.ct σ' H'
  | .ret u => ∃ v σ' H', Inv X pins σ' H' s' ∧ RelV v u ∧ D.rt v H'

def PE (X : Cx) (e : Expr) (t : TE) : Prop :=
  ∀ (pins : List (Addr × Obj)) (s : Shared) (σ : St) (H : Hp) (Q : VK), Inv X pins σ H s → t σ H Q → wpAny (model X.prog X.w) X.A (eval e X.env) (EP X pins σ Q) X.xe s
def PT (X : Cx) (e : Expr) (t : TT) : Prop :=
  ∀ (pins : List (Addr × Obj)) (s : Shared) (σ : St) (H : Hp) (Q : Bool → Hp → Prop), Inv X pins σ H s → t σ H Q → wpAny (model X.prog X.w) X.A (isTrue e X.env (eval e X.env)) (TP X pins σ Q) X.xe s
def PW (X : Cx) (e : Expr) (t : TT) : Prop :=
  ∀ (whole : Sem Value) (pins : List (Addr × Obj)) (s : Shared) (σ : St) (H : Hp) (Q : Bool → Hp → Prop), Inv X pins σ H s → t σ H Q → wpAny (model X.prog X.w) X.A (isTrue e X.env whole) (TP X pins σ Q) X.xe s
theorem PW.pt {X : Cx} {e : Expr} {t : TT} (h : PW X e t) : PT X e t := h _
def PA (X : Cx) (es : List Expr) (t : TA) : Prop :=
  ∀ (pos : Pos) (pins : List (Addr × Obj)) (s : Shared) (σ : St) (H : Hp) (Q : List V → Hp → Prop), Inv X pins σ H s → t σ H Q → wpAny (model X.prog X.w) X.A (spliced (backTo pos (starEach es X.env))) (AP X pins σ Q) X.xe s
def PS (X : Cx) (st : Stmt) (t : TS) : Prop :=
  ∀ (pins : List (Addr × Obj)) (s : Shared) (σ : St) (H : Hp) (D : Ends), Inv X pins σ H s → t D σ H → wpAny (model X.prog X.w) X.A (exec st X.env) (SP X pins D) X.xe s
def PSs (X : Cx) (st : List Stmt) (t : TS) : Prop :=
  ∀ (pins : List (Addr × Obj)) (s : Shared) (σ : St) (H : Hp) (D : Ends), Inv X pins σ H s → t D σ H → wpAny (model X.prog X.w) X.A (execs st X.env) (SP X pins D) X.xe s
theorem thn {α : Type} {t : Sem α} {Q Q' : α → Shared → Prop} {M : Model} {A : Around} {E : Value → Shared → Prop} {s : Shared} (h : wpAny M A t Q E s) (hQ : ∀ a s, Q a s → Q' a s) : wpAny M A t Q' E s := wpAny_mono h hQ fun _ _ x => x
end L2

namespace L2
open PySem PySem.Spec PyProof.Rows
section
variable {X : Cx}

inductive TVar (i : Nat) (σ : St) (H : Hp) (Q : VK) : Prop
  | mk (v : V) (e : σ[i]? = some (some v)) (q : Q v H) : TVar i σ H Q
def tVar (i : Nat) : TE := TVar i
def tC (v : V) : TE := fun _ H Q => Q v H
theorem pe_var {i : Nat} {x : Str} {pos : Pos} (hN : X.N[i]? = some x) (hv : Vis X.env.scope x) (hd : (x == ("__debug__" : Str)) = false := by decide) (hcd : (x == ("__classdict__" : Str)) = false := by decide) : PE X (.Name x pos) (tVar i) := by
  intro pins s σ H Q I h
  obtain ⟨v, e, h⟩ := h
  obtain ⟨m, hn, hl⟩ := I.loc
  obtain ⟨u, r, l⟩ := hl i x v hN e hv
  have fin : EP X pins σ Q u s := ⟨v, H, I, r, h⟩
  rcases l with ⟨hk, hm⟩ | ⟨hk, c, hc, hcell⟩
  · exact wpAny_Name (wpAny_loadName_local I.ok.kind hk hn hm fin) hd
  · rcases hk with hk | hk
    · exact wpAny_Name (wpAny_loadName_cell I.ok.kind hk hc hcell fin) hd
    · exact wpAny_Name (wpAny_loadName_free I.ok.kind hk hc hcell fin hcd) hd
theorem pe_int {i j pos} : PE X (.Constant (.int i) j pos) (tC (.int i)) := fun _ _ _ H _ I h => wpAny_Constant_int ⟨.int i, H, I.tok _, ⟨_, rfl⟩, h⟩
theorem pe_bl {b j pos} : PE X (.Constant (.bool b) j pos) (tC (.bl b)) := fun _ _ _ H _ I h => Constant_bool ⟨.bl b, H, I, rfl, h⟩
theorem pe_non {j pos} : PE X (.Constant .none j pos) (tC .non) := fun _ _ _ H _ I h => Constant_none ⟨.non, H, I, rfl, h⟩
theorem pe_str {x j pos} : PE X (.Constant (.str x) j pos) (tC (.str x)) := fun _ _ _ H _ I h => Calls.Constant_str ⟨.str x, H, I.tok _, ⟨_, rfl⟩, h⟩

def Gl (X : Cx) (x : Str) : Prop := X.env.kindOf x = some .globalImplicit
theorem ld_glob {E : Value → Shared → Prop} {pins : List (Addr × Obj)} {s : Shared} {σ : St} {H : Hp} {x : Str} {u : Value} {pos : Pos} {Q : Value → Shared → Prop} (I : Inv X pins σ H s) (hg : Gl X x) (hm : X.mg x = some u) (h : Q u s)
    (hd : (x == ("__debug__" : Str)) = false := by decide) : wpAny (model X.prog X.w) X.A (eval (.Name x pos) X.env) Q E s :=
  Calls.Name_function_global I.ok.kind hg (Calls.loadGlobal_global (by rw [I.ok.glob]; exact I.mod.glob.keeps I.bk) hm h) hd
theorem ld_blt {E : Value → Shared → Prop} {pins : List (Addr × Obj)} {s : Shared} {σ : St} {H : Hp} {x : Str} {u : Value} {pos : Pos} {Q : Value → Shared → Prop} (I : Inv X pins σ H s) (hg : Gl X x) (hm : X.mg x = none) (hv : bootBuiltins x = some u) (h : Q u s)
    (hn : x ≠ "__name__" := by decide) (hd : (x == ("__debug__" : Str)) = false := by decide) : wpAny (model X.prog X.w) X.A (eval (.Name x pos) X.env) Q E s := by
  obtain ⟨mb, h1, h2⟩ := I.mod.blt
  exact Calls.Name_function_global I.ok.kind hg (Calls.loadGlobal_builtin (by rw [I.ok.glob]; exact I.mod.glob.keeps I.bk) hm (by rw [I.ok.blt]; exact h1.keeps I.bk) ((h2 x hn).trans hv) h) hd
theorem pe_bltn {x : Str} {v : V} {u : Value} {pos : Pos} (hg : Gl X x) (hm : X.mg x = none) (hv : bootBuiltins x = some u) (r : RelV v u) (hn : x ≠ "__name__" := by decide) (hd : (x == ("__debug__" : Str)) = false := by decide) : PE X (.Name x pos) (tC v) :=
  fun _ _ _ H _ I h => ld_blt I hg hm hv ⟨v, H, I, r, h⟩ hn hd

inductive OfBl (x : V) (H : Hp) (Q : Bool → Hp → Prop) : Prop
  | mk (c : Bool) (e : x = .bl c) (q : Q c H) : OfBl x H Q
inductive OfI (x : V) (H : Hp) (Q : Int → Hp → Prop) : Prop
  | mk (i : Int) (e : x = .int i) (q : Q i H) : OfI x H Q
inductive NewOb (n : Nat) (o : HO) (H : Hp) (Q : VK) : Prop
  | mk (l : n ≤ sizeLine) (q : ∀ p, H p = none → Q (.ref p) (upd H p o)) : NewOb n o H Q
variable {a b : Expr} {ta tb : TE} {pos : Pos}
def tB (t : TE) : TT := fun σ H Q => t σ H fun x H1 => OfBl x H1 Q
theorem pt_val {e : Expr} {t : TE} (h : PE X e t) (he : ∀ whole, isTrue e X.env whole = (do let v ← whole; standAt e.pos; holding [v] (truthy v)) := by intro _; rfl) : PT X e (tB t) := by
  intro pins s σ H Q I hw
  refine isTrue_plain (thn (h pins s σ H _ I hw) fun v s1 ⟨x, H1, I1, r1, q1⟩ => ?_) (he _)
  obtain ⟨d, rfl, q⟩ := q1
  cases r1
  exact wpAny_truthy_bool ⟨H1, I1, q⟩

variable {tA tB' : TT} {rest : List Expr}
def tOr (t u : TT) : TT := fun σ H Q => t σ H fun c H1 => if c = true then Q true H1 else u σ H1 Q
def tNot (t : TT) : TT := fun σ H Q => t σ H fun c H1 => Q (!c) H1
theorem pw_or1 (ha : PT X a tA) : PW X (.BoolOp .Or [a] pos) tA := by
  intro wh pins s σ H Q I h
  refine isTrue_or (thn (ha pins s σ H Q I h) fun c s1 e => ?_)
  cases c with
  | false => exact isTrue_or_nil e
  | true => exact e
theorem pw_or (ha : PT X a tA) (hb : PW X (.BoolOp .Or (b :: rest) pos) tB') : PW X (.BoolOp .Or (a :: b :: rest) pos) (tOr tA tB') := by
  intro wh pins s σ H Q I h
  refine isTrue_or (thn (ha pins s σ H _ I h) fun c s1 ⟨H1, I1, q1⟩ => ?_)
  cases c with
  | true => exact ⟨H1, I1, q1⟩
  | false => exact hb wh pins s1 σ H1 Q I1 q1
theorem pt_not (ha : PT X a tA) : PT X (.UnaryOp .Not a pos) (tNot tA) := by
  intro pins s σ H Q I h
  exact isTrue_not (ha pins s σ H (fun c H1 => Q (!c) H1) I h)
def tAndV (ta tb : TE) : TE := fun σ H Q => ta σ H fun x H1 => OfBl x H1 fun c H1 => if c = true then tb σ H1 Q else Q (.bl false) H1
def tNotV (ta : TE) : TE := fun σ H Q => ta σ H fun x H1 => OfBl x H1 fun c H1 => Q (.bl (!c)) H1
theorem pe_one {op} {t : TE} (h : PE X a t) : PE X (.BoolOp op [a] pos) t := fun pins s σ H Q I hw => BoolOp_one (h pins s σ H Q I hw)
theorem pe_and (ha : PE X a ta) (hb : PE X (.BoolOp .And (b :: rest) pos) tb) : PE X (.BoolOp .And (a :: b :: rest) pos) (tAndV ta tb) := by
  intro pins s σ H Q I h
  refine BoolOp_and (thn (ha pins s σ H _ I h) fun v s1 ⟨x, H1, I1, r1, q1⟩ => ?_)
  obtain ⟨c, rfl, q1⟩ := q1
  cases r1
  refine wpAny_truthy_bool ?_
  cases c with
  | true => exact hb pins s1 σ H1 Q I1 q1
  | false => exact ⟨.bl false, H1, I1, rfl, q1⟩
theorem pe_not (ha : PE X a ta) : PE X (.UnaryOp .Not a pos) (tNotV ta) := by
  intro pins s σ H Q I h
  refine UnaryOp_ (thn (ha pins s σ H _ I h) fun v s1 ⟨x, H1, I1, r1, q1⟩ => ?_)
  obtain ⟨c, rfl, q1⟩ := q1
  cases r1
  exact not_of (wpAny_truthy_bool ⟨.bl (!c), H1, I1, rfl, q1⟩)
def tIf (t : TT) (ta tb : TE) : TE := fun σ H Q => t σ H fun c H1 => if c = true then ta σ H1 Q else tb σ H1 Q
theorem pe_ifExp {c : Expr} (hc : PT X c tA) (ha : PE X a ta) (hb : PE X b tb) : PE X (.IfExp c a b pos) (tIf tA ta tb) := by
  intro pins s σ H Q I h
  refine wpAny_IfExp (thn (hc pins s σ H _ I h) fun d s1 ⟨H1, I1, q1⟩ => ?_)
  cases d with
  | true => exact ha pins s1 σ H1 Q I1 q1
  | false => exact hb pins s1 σ H1 Q I1 q1
end
end L2

namespace L2
open PySem PySem.Spec PyProof.Rows

def SqL (K : PySem.W.Frag) (H : Hp) (a : Addr) (xs : List V) : Prop :=
  Rd H a (.lst xs) ∨
    ∃ (o : Obj) (its : Array Value) (n : Nat), K.lookup a = some o ∧ o.cls = .type "list" ∧ o.dict = none ∧ o.data = .seq its n ∧ its.size ≤ sizeLine ∧ Vals xs its.toList
def SqT (K : PySem.W.Frag) (H : Hp) (a : Addr) (xs : List V) : Prop :=
  Rd H a (.tup xs) ∨
    ∃ (o : Obj) (its : Array Value) (n : Nat), K.lookup a = some o ∧ o.cls = .type "tuple" ∧ o.data = .seq its n ∧ its.size ≤ sizeLine ∧ Vals xs its.toList
def absV : Value → Option V
  | .none => some .non
  | .bool b => some (.bl b)
  | .int i _ => some (.int i)
  | .str x _ => some (.str x)
  | .bytes b _ => some (.byt b)
  | .float b _ => some (.flt b)
  | .ref a => some (.ref a)
  | .type n => some (.ty n)
  | _ => none
theorem RelV.abs {x : V} {u : Value} (r : RelV x u) : absV u = some x := by
  cases x with
  | non => cases r; rfl
  | bl _ => cases r; rfl
  | int _ => obtain ⟨t, rfl⟩ := r; rfl
  | str _ => obtain ⟨t, rfl⟩ := r; rfl
  | byt _ => obtain ⟨t, rfl⟩ := r; rfl
  | flt _ => obtain ⟨t, rfl⟩ := r; rfl
  | ref _ => cases r; rfl
  | ty _ => cases r; rfl
theorem RelV.inj {x y : V} {u : Value} (r : RelV x u) (q : RelV y u) : x = y := Option.some.inj (r.abs.symm.trans q.abs)
theorem Vals.inj : ∀ {xs ys : List V} {us : List Value}, Vals xs us → Vals ys us → xs = ys
  | _, _, _, .nil, .nil => rfl
  | _, _, _, .cons r t, .cons r' t' => by rw [r.inj r', Vals.inj t t']
section
variable {X : Cx} {pins : List (Addr × Obj)} {σ : St} {H : Hp} {s : Shared} {a : Addr} {xs ys : List V}
theorem SqL.of {K : PySem.W.Frag} (h : H a = some (.lst xs)) : SqL K H a xs := .inl (.inl h)
theorem SqT.of {K : PySem.W.Frag} (h : H a = some (.tup xs)) : SqT K H a xs := .inl (.inl h)
theorem Inv.list (I : Inv X pins σ H s) (h : SqL X.K H a xs) : ∃ its : List Value, Vals xs its ∧ PlainL s.heap a its.toArray ∧ xs.length ≤ sizeLine := by
  rcases h with h | ⟨o, its, n, hk, hc, hd, hs, hz, r⟩
  · obtain ⟨z, its, n, r, e⟩ := h.ok I.hok
    exact ⟨its, r, ⟨_, n, e, rfl, rfl, rfl⟩, z⟩
  · refine ⟨its.toList, r, ⟨o, n, I.kIn a o hk, hc, hd, by simpa using hs⟩, ?_⟩
    have e := r.length
    simp only [Array.length_toList] at e
    (first | lia | omega)
theorem Inv.tuple (I : Inv X pins σ H s) (h : SqT X.K H a xs) : ∃ its : List Value, Vals xs its ∧ IsTup s.heap a its.toArray ∧ xs.length ≤ sizeLine := by
  rcases h with h | ⟨o, its, n, hk, hc, hs, hz, r⟩
  · obtain ⟨z, its, r, p⟩ := h.ok I.hok
    exact ⟨its, r, p.tup, z⟩
  · refine ⟨its.toList, r, ⟨o, I.kIn a o hk, hc, n, by simpa using hs⟩, ?_⟩
    have e := r.length
    simp only [Array.length_toList] at e
    (first | lia | omega)
theorem Inv.list_inj (I : Inv X pins σ H s) (h : SqL X.K H a xs) (h' : SqL X.K H a ys) : xs = ys := by
  obtain ⟨its, r, ⟨o, n, e, _, _, d⟩, _⟩ := I.list h
  obtain ⟨its', r', ⟨o', n', e', _, _, d'⟩, _⟩ := I.list h'
  rw [e] at e'; cases e'
  rw [d] at d'
  injection d' with d1 _
  have : its = its' := by simpa using congrArg Array.toList d1
  subst this
  exact r.inj r'
theorem Inv.tuple_inj (I : Inv X pins σ H s) (h : SqT X.K H a xs) (h' : SqT X.K H a ys) : xs = ys := by
  obtain ⟨its, r, ⟨o, e, _, n, d⟩, _⟩ := I.tuple h
  obtain ⟨its', r', ⟨o', e', _, n', d'⟩, _⟩ := I.tuple h'
  rw [e] at e'; cases e'
  rw [d] at d'
  injection d' with d1 _
  have : its = its' := by simpa using congrArg Array.toList d1
  subst this
  exact r.inj r'
end

abbrev Cx.wish (X : Cx) (E : Value → Shared → Prop) : Cx := { X with xe := E }
abbrev Cx.nox (X : Cx) : Cx := X.wish fun _ _ => False
theorem Cx.Ok.wish {X : Cx} (ok : X.Ok) (E : Value → Shared → Prop) : (X.wish E).Ok :=
  ⟨ok.mod, ok.kind, ok.glob, ok.blt, ok.above, ok.inj, ok.has, ok.cab, ok.hd, ok.frames, ok.stk, ok.exf, ok.bs, ok.bsz, ok.noex, ok.exfs, ok.funs, ok.frf⟩
theorem Cx.Ok.unwish {X : Cx} {E : Value → Shared → Prop} (ok : (X.wish E).Ok) : X.Ok :=
  ⟨ok.mod, ok.kind, ok.glob, ok.blt, ok.above, ok.inj, ok.has, ok.cab, ok.hd, ok.frames, ok.stk, ok.exf, ok.bs, ok.bsz, ok.noex, ok.exfs, ok.funs, ok.frf⟩
section
variable {X : Cx} {pins : List (Addr × Obj)} {σ : St} {H : Hp} {s : Shared} {E : Value → Shared → Prop}
theorem Inv.wish (I : Inv X pins σ H s) (E : Value → Shared → Prop) : Inv (X.wish E) pins σ H s := ⟨I.ok.wish E, I.os, I.bare, I.base, I.loc, I.cell, I.free, I.freeC, I.pin, I.hok, I.len⟩
theorem Inv.unwish (I : Inv (X.wish E) pins σ H s) : Inv X pins σ H s := ⟨I.ok.unwish, I.os, I.bare, I.base, I.loc, I.cell, I.free, I.freeC, I.pin, I.hok, I.len⟩
theorem SP.unwish {D : Ends} {f : Flow} {s' : Shared} (h : SP (X.wish E) pins D f s') : SP X pins D f s' := by
  cases f with
  | next => obtain ⟨σ', H', I, q⟩ := h; exact ⟨σ', H', I.unwish, q⟩
  | brk => obtain ⟨σ', H', I, q⟩ := h; exact ⟨σ', H', I.unwish, q⟩
  | cont => obtain ⟨σ', H', I, q⟩ := h; exact ⟨σ', H', I.unwish, q⟩
  | ret u => obtain ⟨v, σ', H', I, r, q⟩ := h; exact ⟨v, σ', H', I.unwish, r, q⟩
theorem PSs.nox {st : List Stmt} {t : TS} (h : PSs X.nox st t) : PSs X st t := fun pins s σ H D I hw =>
  wpAny_mono (h pins s σ H D (I.wish _) hw) (fun _ _ q => q.unwish) fun _ _ z => False.elim z
end

section
variable {X : Cx} {st : Stmt} {rest : List Stmt} {t u : TS} {e : Expr} {te : TE} {pos : Pos}
def tNext : TS := fun D σ H => D.nx σ H
def tSeq (t u : TS) : TS := fun D σ H => t { D with nx := u D } σ H
theorem pss_nil : PSs X [] tNext := fun _ _ σ H _ I h => wpAny_execs_nil ⟨σ, H, I, h⟩
theorem pss_cons (h1 : PS X st t) (h2 : PSs X rest u) : PSs X (st :: rest) (tSeq t u) := by
  intro pins s σ H D I h
  refine wpAny_execs_cons (thn (h1 pins s σ H { D with nx := u D } I h) fun f s1 q => ?_)
  cases f with
  | next =>
    obtain ⟨σ', H', I', q⟩ := q
    exact h2 pins s1 σ' H' D I' q
  | ret v => exact q
  | brk => exact q
  | cont => exact q
theorem pss_one (h1 : PS X st t) : PSs X [st] t := by
  intro pins s σ H D I h
  refine wpAny_execs_cons (thn (h1 pins s σ H D I h) fun f s1 q => ?_)
  cases f with
  | next => exact wpAny_execs_nil q
  | ret v => exact q
  | brk => exact q
  | cont => exact q
theorem Inv.quiet {pins : List (Addr × Obj)} {σ : St} {H : Hp} {s : Shared} (I : Inv X pins σ H s) : interactive X.env = false := by simp [interactive, I.ok.kind]
def tDrop (te : TE) : TS := fun D σ H => te σ H fun _ H1 => D.nx σ H1
theorem ps_expr (he : PE X e te) (hs : swapsWith e none pos.line X.env = pure false := by rfl) : PS X (.Expr e pos) (tDrop te) := by
  intro pins s σ H D I h
  exact wpAny_Expr_any (thn (he pins s σ H _ I h) fun v s1 ⟨x, H1, I1, r1, q1⟩ => ⟨σ, H1, I1, q1⟩) I.quiet hs
def tRet (te : TE) : TS := fun D σ H => te σ H D.rt
theorem ps_ret (he : PE X e te) : PS X (.Return (some e) pos) (tRet te) := by
  intro pins s σ H D I h
  exact wpAny_Return_some (thn (he pins s σ H _ I h) fun v s1 ⟨x, H1, I1, r1, q1⟩ => ⟨x, σ, H1, I1, r1, q1⟩)
def tIfS (c : TT) (t u : TS) : TS := fun D σ H => c σ H fun b H1 => if b = true then t D σ H1 else u D σ H1
theorem ps_if {c : Expr} {a b : List Stmt} {tc : TT} (hc : PT X c tc) (ha : PSs X a t) (hb : PSs X b u) : PS X (.If c a b pos) (tIfS tc t u) := by
  intro pins s σ H D I h
  refine wpAny_If (thn (hc pins s σ H _ I h) fun d s1 ⟨H1, I1, q1⟩ => ?_)
  cases d with
  | true => exact ha pins s1 σ H1 D I1 q1
  | false => exact hb pins s1 σ H1 D I1 q1
def tNever : TS := fun _ _ _ => False
theorem ps_never : PS X st tNever := fun _ _ _ _ _ _ h => h.elim
end

abbrev TG := V → St → Hp → (St → Hp → Prop) → Prop
abbrev TGs := List V → St → Hp → (St → Hp → Prop) → Prop
def PG (X : Cx) (target : Expr) (t : TG) : Prop :=
  ∀ (pins : List (Addr × Obj)) (s : Shared) (σ : St) (H : Hp) (v : V) (u : Value) (Q : St → Hp → Prop), Inv X pins σ H s → RelV v u → t v σ H Q →
    wpAny (model X.prog X.w) X.A (assign target X.env u) (fun _ s' => ∃ σ' H', Inv X pins σ' H' s' ∧ Q σ' H') X.xe s
def PGs (X : Cx) (ts : List Expr) (t : TGs) : Prop :=
  ∀ (pins : List (Addr × Obj)) (s : Shared) (σ : St) (H : Hp) (vs : List V) (us : List Value) (Q : St → Hp → Prop), Inv X pins σ H s → Vals vs us → t vs σ H Q →
    wpAny (model X.prog X.w) X.A (assignInOrder ((assignEach ts X.env).map (·.2)) us) (fun _ s' => ∃ σ' H', Inv X pins σ' H' s' ∧ Q σ' H') X.xe s
abbrev TSet := V → V → V → Hp → (Hp → Prop) → Prop
def PSet (X : Cx) (t : TSet) : Prop :=
  ∀ (pins : List (Addr × Obj)) (s : Shared) (σ : St) (H : Hp) (o i v : V) (ov iv u : Value) (Q : Hp → Prop), Inv X pins σ H s → RelV o ov → RelV i iv → RelV v u → t o i v H Q →
    wpAny (model X.prog X.w) X.A (setItem ov iv u) (fun _ s' => ∃ H', Inv X pins σ H' s' ∧ Q H') X.xe s
abbrev TIp := V → V → Hp → VK → Prop
def PIp (X : Cx) (op : Operator) (t : TIp) : Prop :=
  ∀ (pins : List (Addr × Obj)) (s : Shared) (σ : St) (H : Hp) (x y : V) (v u : Value) (Q : VK), Inv X pins σ H s → RelV x v → RelV y u → t x y H Q →
    wpAny (model X.prog X.w) X.A (inplaceOp op v u) (EP X pins σ Q) X.xe s
section
variable {X : Cx} {pos : Pos}
def gName (i : Nat) : TG := fun v σ H Q => Q (σ.set i (some v)) H
theorem pg_name {i : Nat} {x : Str} (hN : X.N.Nodup) (hi : X.N[i]? = some x) (hx : Loc X.env.scope x) (hf : X.fn x = true ∨ X.env.scope.names.lookup x = some .local := by first | exact .inl rfl | exact .inr rfl | assumption) : PG X (.Name x pos) (gName i) := by
  intro pins s σ H v u Q I r h
  exact wpAny_assign_Name (store_ok I hN hi hx r (fun s' I' => ⟨_, H, I', h⟩) hf)
def gNil : TGs := fun vs σ H Q => vs = [] ∧ Q σ H
def gCons (t : TG) (u : TGs) : TGs := fun vs σ H Q => ∃ v r, vs = v :: r ∧ t v σ H fun σ' H' => u r σ' H' Q
theorem pgs_nil : PGs X [] gNil := by
  intro pins s σ H vs us Q I r h
  obtain ⟨e, h⟩ := h
  subst e
  cases r
  exact assignInOrder_nil ⟨σ, H, I, h⟩
theorem pgs_cons {e : Expr} {es : List Expr} {t : TG} {u : TGs} (h1 : PG X e t) (h2 : PGs X es u)
    (hs : (assignEach (e :: es) X.env).map (·.2) = assign e X.env :: (assignEach es X.env).map (·.2) := by rfl) : PGs X (e :: es) (gCons t u) := by
  intro pins s σ H vs us Q I r h
  obtain ⟨v, vr, e1, h⟩ := h
  subst e1
  cases r with
  | cons r rr =>
    rw [hs]
    refine assignInOrder_cons (thn (h1 pins s σ H _ _ _ I r h) fun _ s1 ⟨σ1, H1, I1, q1⟩ => ?_)
    exact h2 pins s1 σ1 H1 _ _ Q I1 rr q1
def gTup (K : PySem.W.Frag) (n : Nat) (t : TGs) : TG := fun v σ H Q => ∃ a xs, v = .ref a ∧ SqT K H a xs ∧ xs.length = n ∧ t xs σ H Q
theorem pg_tup {es : List Expr} {k : Nat} {t : TGs} {n : Nat} (hc : X.calm = true) (h : PGs X es t)
    (hn : (assignEach es X.env).length = n := by rfl) (hst : (assignEach es X.env).findIdx? (·.1) = none := by rfl) : PG X (.Tuple es k pos) (gTup X.K n t) := by
  intro pins s σ H v u Q I r hw
  obtain ⟨a, xs, e1, hq, hl, hw⟩ := hw
  subst e1
  cases r
  obtain ⟨its, rv, ht, hz⟩ := I.tuple hq
  refine assign_Tuple_tuple (I.ok.hd hc) ht (by simp [hn, ← hl, rv.length]) hst fun h' hx => ?_
  have I1 : Inv X pins σ H { s with heap := h' } := I.kept (t' := s.toks) fun b o e => hx b o (Nat.ne_of_lt (Heap.lt_size e)) e
  exact h pins _ σ H xs _ Q I1 (by simpa using rv) hw
def gSub (to ti : TE) (t : TSet) : TG := fun v σ H Q => to σ H fun o H1 => ti σ H1 fun i H2 => t o i v H2 fun H3 => Q σ H3
theorem pg_sub {o i : Expr} {to ti : TE} {t : TSet} (ho : PE X o to) (hi : PE X i ti) (hs : PSet X t)
    (ha : ∀ v, assign (.Subscript o i pos) X.env v = (do
      let ov ← holding [v] (eval o X.env)
      let iv ← holding [v, ov] (eval i X.env)
      standAt pos
      holding [v, ov, iv] (setItem ov iv v)
      release [v, ov, iv] []) := by intro _; rfl) : PG X (.Subscript o i pos) (gSub to ti t) := by
  intro pins s σ H v u Q I r h
  rw [ha]
  refine wpAny_bind (wpAny_holding (thn (ho pins s σ H _ I h) fun ov s1 ⟨x, H1, I1, r1, q1⟩ => ?_))
  refine wpAny_bind (wpAny_holding (thn (hi pins s1 σ H1 _ I1 q1) fun iv s2 ⟨y, H2, I2, r2, q2⟩ => ?_))
  refine wpAny_bind (wpAny_standAt (wpAny_bind (wpAny_holding (thn (hs pins s2 σ H2 x y v ov iv u _ I2 r1 r2 r q2) fun _ s3 ⟨H3, I3, q3⟩ => ?_))))
  exact wpAny_release ⟨σ, H3, I3, q3⟩
def tAsg (te : TE) (g : TG) : TS := fun D σ H => te σ H fun x H1 => g x σ H1 D.nx
theorem ps_asg {tg e : Expr} {te : TE} {g : TG} (he : PE X e te) (hg : PG X tg g) (hs : swapsWithSole [tg] e pos.line X.env = pure false := by rfl) (hw : swappedStores [tg] e X.env = pure none := by rfl)
    (h1 : (assignEach [tg] X.env).map (·.2) = [assign tg X.env] := by rfl) : PS X (.Assign [tg] e pos) (tAsg te g) := by
  intro pins s σ H D I h
  refine wpAny_Assign_stores (thn (he pins s σ H _ I h) fun v s1 ⟨x, H1, I1, r1, q1⟩ => ?_) hs hw
  rw [h1]
  exact thn (hg pins s1 σ H1 x v _ I1 r1 q1) fun _ s2 q => q
theorem ps_set {i : Nat} {x : Str} {e : Expr} {te : TE} {pos' : Pos} (hN : X.N.Nodup) (hi : X.N[i]? = some x) (hx : Loc X.env.scope x) (he : PE X e te) (hs : swapsWith e (some (.Name x pos')) pos.line X.env = pure false := by rfl) (hf : X.fn x = true ∨ X.env.scope.names.lookup x = some .local := by first | exact .inl rfl | exact .inr rfl | assumption) :
    PS X (.Assign [.Name x pos'] e pos) (tAsg te (gName i)) := by
  intro pins s σ H D I h
  refine wpAny_Assign_Name (thn (he pins s σ H _ I h) fun v s1 ⟨y, H1, I1, r1, q1⟩ => ?_) hs
  exact store_ok I1 hN hi hx r1 (fun s2 I2 => ⟨_, H1, I2, q1⟩) hf
def tAugS (to ti te : TE) (tget : V → V → Hp → VK → Prop) (tip : TIp) (tset : TSet) : TS := fun D σ H => to σ H fun o H1 => ti σ H1 fun i H2 => tget o i H2 fun x H3 => te σ H3 fun y H4 => tip x y H4 fun z H5 => tset o i z H5 fun H6 => D.nx σ H6
def PGet (X : Cx) (t : V → V → Hp → VK → Prop) : Prop :=
  ∀ (pins : List (Addr × Obj)) (s : Shared) (σ : St) (H : Hp) (o i : V) (ov iv : Value) (Q : VK), Inv X pins σ H s → RelV o ov → RelV i iv → t o i H Q →
    wpAny (model X.prog X.w) X.A (getItem ov iv) (EP X pins σ Q) X.xe s
theorem ps_augS {o i e : Expr} {to ti te : TE} {tget : V → V → Hp → VK → Prop} {tip : TIp} {tset : TSet} {op : Operator} {tpos : Pos} (ho : PE X o to) (hi : PE X i ti) (hg : PGet X tget) (he : PE X e te) (hp : PIp X op tip) (hs : PSet X tset)
    (ha : ∀ ov iv new, augStore i ov iv new = (do holding [new, ov, iv] (setItem ov iv new); release [new, ov, iv] []; pure .next) := by intros; rfl) : PS X (.AugAssign (.Subscript o i tpos) op e pos) (tAugS to ti te tget tip tset) := by
  intro pins s σ H D I h
  refine wpAny_AugAssign_SubscriptAny (thn (ho pins s σ H _ I h) fun ov s1 ⟨x1, H1, I1, r1, q1⟩ => ?_) ha
  refine thn (hi pins s1 σ H1 _ I1 q1) fun iv s2 ⟨x2, H2, I2, r2, q2⟩ => ?_
  refine thn (hg pins s2 σ H2 x1 x2 ov iv _ I2 r1 r2 q2) fun old s3 ⟨x3, H3, I3, r3, q3⟩ => ?_
  refine thn (he pins s3 σ H3 _ I3 q3) fun v s4 ⟨x4, H4, I4, r4, q4⟩ => ?_
  refine thn (hp pins s4 σ H4 x3 x4 old v _ I4 r3 r4 q4) fun new s5 ⟨x5, H5, I5, r5, q5⟩ => ?_
  exact thn (hs pins s5 σ H5 x1 x2 x5 ov iv new _ I5 r1 r2 r5 q5) fun _ s6 ⟨H6, I6, q6⟩ => ⟨σ, H6, I6, q6⟩
def ipI (f : Int → Int → Int) : TIp := fun x y H Q => ∃ i j, x = .int i ∧ y = .int j ∧ Q (.int (f i j)) H
theorem ip_add : PIp X .Add (ipI fun i j => i + j) := by
  intro pins s σ H x y v u Q I r1 r2 h
  obtain ⟨i, j, e1, e2, q⟩ := h
  subst e1; subst e2
  obtain ⟨t, rfl⟩ := r1
  obtain ⟨t', rfl⟩ := r2
  exact iadd_int ⟨.int _, H, I.tok _, ⟨_, rfl⟩, q⟩
end

section
variable {X : Cx} {pos : Pos}
def tWhile (c : TT) (tb : TS) : TS := fun D σ H => ∃ W : Nat → St → Hp → Prop, (∃ m, W m σ H) ∧ ∀ m σ H, W m σ H →
  c σ H fun b H1 => if b = true then ∃ N : St → Hp → Prop, (∀ σ' H', N σ' H' → ∃ m', m' < m ∧ W m' σ' H') ∧ tb { D with nx := N, ct := N, bk := D.nx } σ H1 else D.nx σ H1
theorem ps_while {c : Expr} {body : List Stmt} {tc : TT} {tb : TS} (hp : PassesOwn (model X.prog X.w) X.A X.env X.xe) (hc : PT X c tc) (hb : PSs X body tb) : PS X (.While c body [] pos) (tWhile tc tb) := by
  intro pins s σ H D I h
  obtain ⟨W, ⟨m0, w0⟩, turn⟩ := h
  refine wpAny_While (codeAny_whileLoop (fun n s' => ∃ σ' H', Inv X pins σ' H' s' ∧ W n σ' H') ?_ m0 ⟨σ, H, I, w0⟩)
  rintro n s1 ⟨σ1, H1, I1, w1⟩
  refine wpAny_passesOwn hp (thn (hc pins s1 σ1 H1 _ I1 (turn n σ1 H1 w1)) fun b s2 ⟨H2, I2, q2⟩ => ?_)
  cases b with
  | true =>
    obtain ⟨N, hN, q2⟩ := q2
    rw [if_pos rfl]
    refine wpAny_passesOwn hp (thn (hb pins s2 σ1 H2 _ I2 q2) fun f s3 q3 => ?_)
    cases f with
    | next =>
      obtain ⟨σ3, H3, I3, n3⟩ := q3
      obtain ⟨m', hm, w3⟩ := hN σ3 H3 n3
      exact ⟨m', hm, σ3, H3, I3, w3⟩
    | cont =>
      obtain ⟨σ3, H3, I3, n3⟩ := q3
      obtain ⟨m', hm, w3⟩ := hN σ3 H3 n3
      exact ⟨m', hm, σ3, H3, I3, w3⟩
    | brk => exact q3
    | ret v => exact q3
  | false =>
    rw [if_neg Bool.false_ne_true]
    exact wpAny_execs_nil ⟨σ1, H2, I2, q2⟩
end

structure It where
  go : Nat → Hp → Prop
  yld : Nat → Hp → V → Hp → Prop
  stop : Nat → Hp → Prop
def FpOk (X : Cx) (pins : List (Addr × Obj)) (H : Hp) (b : Addr) : Prop :=
  H b = none ∧ b ≠ X.env.locals ∧ b ∉ X.fs ∧ (b ∈ X.ex ∨ X.s₀.heap.objs.size ≤ b) ∧ (∀ x c, X.env.cells.lookup x = some c → c ≠ b) ∧ ∀ p ∈ X.pn ++ pins, p.1 ≠ b
theorem Inv.fpOk {X : Cx} {pins : List (Addr × Obj)} {σ : St} {H H' : Hp} {s : Shared} {b : Addr} (I : Inv X pins σ H s) (hb : s.heap.objs.size ≤ b) (hn : H' b = none) : FpOk X pins H' b := by
  refine ⟨hn, Nat.ne_of_gt (Nat.lt_of_lt_of_le I.lt hb), I.nofs hb, .inr (Nat.le_trans I.sz hb), fun x c e z => ?_, fun p hp z => ?_⟩
  · obtain ⟨v, q⟩ := I.cell x c e
    exact absurd (Nat.lt_of_lt_of_le q.lt (by rw [z]; exact hb)) (Nat.lt_irrefl _)
  · exact absurd (Nat.lt_of_lt_of_le (Heap.lt_size (I.pin p hp).1) (by rw [z]; exact hb)) (Nat.lt_irrefl _)
structure Turn (P : Program) (w : World) (K : PySem.W.Frag) (tg : Expr) (J : It) (fp : List Addr) (it : Addr) (tn : Nat → Heap → Prop) : Prop where
  mem : it ∈ fp
  obj : ∀ i h, tn i h → ∀ b ∈ fp, ∃ o, h.get? b = some o ∧ ∀ v, o.data ≠ .cell v
  keep : ∀ i h h', tn i h → (∀ b ∈ fp, ∀ o, h.get? b = some o → h'.get? b = some o) → tn i h'
  item : ∀ (X : Cx), X.prog = P → X.w = w → X.K = K → X.calm = true → ∀ (i : Nat) (pins : List (Addr × Obj)) (s : Shared) (σ : St) (H : Hp) (E : Value → Shared → Prop), Inv X pins σ H s → (∀ b ∈ fp, FpOk X pins H b) → tn i s.heap → J.go i H →
    wpAny (model P w) X.A (pyNext (.ref it)) (fun r s1 => ∃ u, r = some u ∧
      wpAny (model P w) X.A (letOwnedTupleGo tg (.ref it) u) (fun _ s2 => ∃ x H', Inv X pins σ H' s2 ∧ RelV x u ∧ J.yld i H x H' ∧ tn (i + 1) s2.heap ∧ ∀ b ∈ fp, H' b = none) E s1) E s
  done : ∀ (X : Cx), X.prog = P → X.w = w → X.K = K → X.calm = true → ∀ (i : Nat) (pins : List (Addr × Obj)) (s : Shared) (σ : St) (H : Hp) (E : Value → Shared → Prop), Inv X pins σ H s → (∀ b ∈ fp, FpOk X pins H b) → tn i s.heap → J.stop i H →
    wpAny (model P w) X.A (pyNext (.ref it)) (fun r s1 => r = none ∧ Inv X pins σ H s1) E s
  self : ∀ (A : Around) (i : Nat) (s : Shared) (Q : Value → Shared → Prop) (E : Value → Shared → Prop), tn i s.heap → Q (.ref it) s → wpAny (model P w) A (pyIter (.ref it)) Q E s
abbrev TI := St → Hp → (It → Hp → Prop) → Prop
def PIE (X : Cx) (pins : List (Addr × Obj)) (σ : St) (tg : Expr) (R : It → Hp → Prop) (itv : Value) (s2 : Shared) : Prop :=
  ∃ (it : Addr) (fp : List Addr) (tn : Nat → Heap → Prop) (J : It) (H' : Hp), itv = .ref it ∧ Inv X pins σ H' s2 ∧ Turn X.prog X.w X.K tg J fp it tn ∧ tn 0 s2.heap ∧ (∀ b ∈ fp, FpOk X pins H' b) ∧ R J H'
def PI (X : Cx) (tg iter : Expr) (wi : TI) : Prop :=
  ∀ (pins : List (Addr × Obj)) (s : Shared) (σ : St) (H : Hp) (R : It → Hp → Prop), Inv X pins σ H s → wi σ H R →
    wpAny (model X.prog X.w) X.A (eval iter X.env) (fun v s1 => wpAny (model X.prog X.w) X.A (pyIter v) (PIE X pins σ tg R) X.xe s1) X.xe s

theorem go_of {M : Model} {A : Around} {E : Value → Shared → Prop} {s : Shared} {tg : Expr} {it : Addr} {u : Value} {o : Obj} {n : String} {vs : Array Value} {Q : Unit → Shared → Prop} (ho : s.heap.get? it = some o) (hc : o.cls = .type n) (hd : o.data = .fields vs)
    (hn : ["enumerate", "zip", "dict_itemiterator", "dict_reverseitemiterator", "odict_iterator", "itertools.zip_longest", "itertools.pairwise"].contains n = false) (hQ : Q () s) : wpAny M A (letOwnedTupleGo tg (.ref it) u) Q E s := by
  unfold letOwnedTupleGo
  cases tg <;> first
    | exact wpAny_pure hQ
    | (cases u <;> first
        | exact wpAny_pure hQ
        | (refine wpAny_bind (wpAny_load ho ?_)
           rw [hc, hd]
           show wpAny M A (if (["enumerate", "zip", "dict_itemiterator", "dict_reverseitemiterator", "odict_iterator", "itertools.zip_longest", "itertools.pairwise"].contains n && vs[0]? == some (rawInt _)) = true then _ else _) Q E s
           rw [if_neg (by intro h; rw [hn, Bool.false_and] at h; cases h)]
           exact wpAny_pure hQ))

def Itl (K : PySem.W.Frag) (a : Addr) : It :=
  ⟨fun i H => ∃ xs x, SqL K H a xs ∧ xs[i]? = some x, fun i H x H' => H' = H ∧ ∀ xs, SqL K H a xs → xs[i]? = some x, fun i H => ∃ xs, SqL K H a xs ∧ xs.length ≤ i⟩
def Itt (K : PySem.W.Frag) (a : Addr) : It :=
  ⟨fun i H => ∃ xs x, SqT K H a xs ∧ xs[i]? = some x, fun i H x H' => H' = H ∧ ∀ xs, SqT K H a xs → xs[i]? = some x, fun i H => ∃ xs, SqT K H a xs ∧ xs.length ≤ i⟩
def Itr (lo : Int) (n : Nat) : It := ⟨fun i _ => i < n, fun i H x H' => H' = H ∧ x = .int (lo + i), fun i _ => n ≤ i⟩
theorem turn_list {P : Program} {w : World} {K : PySem.W.Frag} {tg : Expr} (a it : Addr) : Turn P w K tg (Itl K a) [it] it (fun i h => h.IsListIter it a i) where
  mem := by simp
  obj := fun i h st b hb => by
    have e : b = it := by simpa using hb
    subst e
    obtain ⟨o, e, c, d⟩ := st
    exact ⟨o, e, fun v z => by rw [d] at z; cases z⟩
  keep := fun i h h' st k => st.at fun o e => k it (by simp) o e
  item := by
    intro X hP hw hK hc i pins s σ H E I hf st hg
    subst hP hw hK
    obtain ⟨xs, x, hq, hx⟩ := hg
    obtain ⟨its, rv, p, hz⟩ := I.list hq
    obtain ⟨u, hu, ru⟩ := rv.get hx
    obtain ⟨f0, f1, f2, f3, f4, f5⟩ := hf it (by simp)
    refine wpAny_pyNext_list_item st p.isList (x := u) (by simpa using hu) fun h' st' sb => ?_
    have I1 : Inv X pins σ H { s with heap := h' } := I.turned (t' := s.toks) (fun b o hb e => (sb.2 b hb).trans e) f0 f1 f3 f4 f5
    obtain ⟨o, e, c, d⟩ := id st'
    exact ⟨u, rfl, go_of (s := { s with heap := h' }) e c d (by decide) ⟨x, H, I1, ru, ⟨rfl, fun ys hy => by rw [I.list_inj hy hq]; exact hx⟩, st', fun b hb => (hf b hb).1⟩⟩
  done := by
    intro X hP hw hK hc i pins s σ H E I hf st hg
    subst hP hw hK
    obtain ⟨xs, hq, hx⟩ := hg
    obtain ⟨its, rv, p, hz⟩ := I.list hq
    obtain ⟨f0, f1, f2, f3, f4, f5⟩ := hf it (by simp)
    have hl := rv.length
    exact wpAny_pyNext_list_end (I.ok.hd hc) st p.isList (by simp; (first | lia | omega)) fun h' eb => ⟨rfl, I.turned (t' := s.toks) (fun b o hb e => eb b o hb e) f0 f1 f3 f4 f5⟩
  self := fun _ _ _ _ _ st h => wpAny_pyIter_listiter st h
theorem turn_tuple {P : Program} {w : World} {K : PySem.W.Frag} {tg : Expr} (a it : Addr) : Turn P w K tg (Itt K a) [it] it (fun i h => h.IsTupleIter it a i) where
  mem := by simp
  obj := fun i h st b hb => by
    have e : b = it := by simpa using hb
    subst e
    obtain ⟨o, e, c, d⟩ := st
    exact ⟨o, e, fun v z => by rw [d] at z; cases z⟩
  keep := fun i h h' st k => st.at fun o e => k it (by simp) o e
  item := by
    intro X hP hw hK hc i pins s σ H E I hf st hg
    subst hP hw hK
    obtain ⟨xs, x, hq, hx⟩ := hg
    obtain ⟨its, rv, p, hz⟩ := I.tuple hq
    obtain ⟨u, hu, ru⟩ := rv.get hx
    obtain ⟨f0, f1, f2, f3, f4, f5⟩ := hf it (by simp)
    refine wpAny_pyNext_tuple_item st (show s.heap.IsTuple a its.toArray from p) (x := u) (by simpa using hu) fun h' st' sb => ?_
    have I1 : Inv X pins σ H { s with heap := h' } := I.turned (t' := s.toks) (fun b o hb e => (sb.2 b hb).trans e) f0 f1 f3 f4 f5
    obtain ⟨o, e, c, d⟩ := id st'
    exact ⟨u, rfl, go_of (s := { s with heap := h' }) e c d (by decide) ⟨x, H, I1, ru, ⟨rfl, fun ys hy => by rw [I.tuple_inj hy hq]; exact hx⟩, st', fun b hb => (hf b hb).1⟩⟩
  done := by
    intro X hP hw hK hc i pins s σ H E I hf st hg
    subst hP hw hK
    obtain ⟨xs, hq, hx⟩ := hg
    obtain ⟨its, rv, p, hz⟩ := I.tuple hq
    obtain ⟨f0, f1, f2, f3, f4, f5⟩ := hf it (by simp)
    have hl := rv.length
    exact wpAny_pyNext_tuple_end (I.ok.hd hc) st (show s.heap.IsTuple a its.toArray from p) (by simp; (first | lia | omega)) fun h' eb => ⟨rfl, I.turned (t' := s.toks) (fun b o hb e => eb b o hb e) f0 f1 f3 f4 f5⟩
  self := fun _ _ _ _ _ st h => wpAny_pyIter_tupleiter st h
theorem turn_range {P : Program} {w : World} {K : PySem.W.Frag} {tg : Expr} (it : Addr) (lo : Int) (n : Nat) : Turn P w K tg (Itr lo n) [it] it (fun i h => IsRangeIter h it (lo + (i : Nat) * 1) ((n : Int) - (i : Nat)) 1) where
  mem := by simp
  obj := fun i h st b hb => by
    have e : b = it := by simpa using hb
    subst e
    exact ⟨_, st, fun v z => by
      have z' : Data.fields _ = Data.cell v := z
      cases z'⟩
  keep := fun i h h' st k => k it (by simp) _ st
  item := by
    intro X hP hw hK hc i pins s σ H E I hf st hg
    subst hP hw hK
    obtain ⟨f0, f1, f2, f3, f4, f5⟩ := hf it (by simp)
    have W := Walks.range (prog := X.prog) (w := X.w) (I.ok.hd hc) it lo 1 n
    refine W.item i s _ _ hg st fun v h' tk hv st' kk => ?_
    obtain ⟨t, rfl⟩ := hv
    have I1 : Inv X pins σ H { s with heap := h', toks := tk } := I.turned (fun b o hb e => kk b o (by simpa using hb) e) f0 f1 f3 f4 f5
    refine ⟨_, rfl, go_of (s := { s with heap := h', toks := tk }) (n := "range_iterator") st' rfl rfl (by decide) ⟨.int (lo + i), H, I1, ⟨t, ?_⟩, ⟨rfl, rfl⟩, st', fun b hb => (hf b hb).1⟩⟩
    rw [Int.mul_one]
  done := by
    intro X hP hw hK hc i pins s σ H E I hf st hg
    subst hP hw hK
    obtain ⟨f0, f1, f2, f3, f4, f5⟩ := hf it (by simp)
    exact wpAny_pyNext_range_end (I.ok.hd hc) st (by have : n ≤ i := hg; (first | lia | omega)) fun h' eb => ⟨rfl, I.turned (t' := s.toks) (fun b o hb e => eb b o hb e) f0 f1 f3 f4 f5⟩
  self := fun _ _ _ _ _ st h => wpAny_pyIter_rangeiter st h
end L2

namespace L2
open PySem PySem.Spec PyProof.Rows
section
variable {X : Cx} {tg : Expr}
def iList (K : PySem.W.Frag) (tl : TE) : TI := fun σ H R => tl σ H fun x H1 => ∃ a, x = .ref a ∧ (∃ xs, SqL K H1 a xs) ∧ R (Itl K a) H1
def iTup (K : PySem.W.Frag) (tl : TE) : TI := fun σ H R => tl σ H fun x H1 => ∃ a, x = .ref a ∧ (∃ xs, SqT K H1 a xs) ∧ R (Itt K a) H1
theorem pi_list {l : Expr} {tl : TE} (hl : PE X l tl) : PI X tg l (iList X.K tl) := by
  intro pins s σ H R I h
  refine thn (hl pins s σ H _ I h) fun v s1 ⟨x, H1, I1, r1, q1⟩ => ?_
  obtain ⟨a, e, ⟨xs, hq⟩, q⟩ := q1
  subst e
  cases r1
  obtain ⟨its, rv, p, hz⟩ := I1.list hq
  refine wpAny_pyIter_list p.isList ?_
  refine ⟨s1.heap.objs.size, [s1.heap.objs.size], _, _, H1, rfl, I1.kept (t' := s1.toks) fun b o e => Heap.get?_push_of_some _ e, turn_list a _, ⟨_, Heap.get?_push_size _ rfl, rfl, rfl⟩, fun b hb => ?_, q⟩
  have e : b = s1.heap.objs.size := by simpa using hb
  subst e
  exact I1.fpOk (Nat.le_refl _) (I1.hok.fresh (Nat.le_refl _))
theorem pi_tup {l : Expr} {tl : TE} (hl : PE X l tl) : PI X tg l (iTup X.K tl) := by
  intro pins s σ H R I h
  refine thn (hl pins s σ H _ I h) fun v s1 ⟨x, H1, I1, r1, q1⟩ => ?_
  obtain ⟨a, e, ⟨xs, hq⟩, q⟩ := q1
  subst e
  cases r1
  obtain ⟨its, rv, p, hz⟩ := I1.tuple hq
  refine wpAny_pyIter_tuple (show s1.heap.IsTuple a its.toArray from p) ?_
  refine ⟨s1.heap.objs.size, [s1.heap.objs.size], _, _, H1, rfl, I1.kept (t' := s1.toks) fun b o e => Heap.get?_push_of_some _ e, turn_tuple a _, ⟨_, Heap.get?_push_size _ rfl, rfl, rfl⟩, fun b hb => ?_, q⟩
  have e : b = s1.heap.objs.size := by simpa using hb
  subst e
  exact I1.fpOk (Nat.le_refl _) (I1.hok.fresh (Nat.le_refl _))
theorem range_it {pins : List (Addr × Obj)} {σ : St} {H : Hp} {s : Shared} {R : It → Hp → Prop} {E : Value → Shared → Prop} {lo hi : Int} {t u v : Tok} {tk : Nat} (I : Inv X pins σ H s) (h1 : -(2 ^ 62) ≤ lo) (h2 : lo < 2 ^ 62) (h3 : -(2 ^ 62) ≤ hi) (h4 : hi < 2 ^ 62)
    (q : R (Itr lo (hi - lo).toNat) H) : wpAny (model X.prog X.w) X.A (pyIter (.ref s.heap.objs.size)) (PIE X pins σ tg R) E { s with heap := s.heap.push { cls := .type "range", data := .fields #[.int lo t, .int hi u, .int 1 v] }, toks := tk } := by
  refine wpAny_pyIter_range (IsRange.new ..) (small_one h1 h2 h3 h4) ?_
  have I1 : Inv X pins σ H { s with heap := s.heap.push { cls := .type "range", data := .fields #[.int lo t, .int hi u, .int 1 v] }, toks := tk } := I.kept fun b o e => Heap.get?_push_of_some _ e
  refine ⟨(s.heap.push { cls := .type "range", data := .fields #[.int lo t, .int hi u, .int 1 v] }).objs.size, [(s.heap.push { cls := .type "range", data := .fields #[.int lo t, .int hi u, .int 1 v] }).objs.size], _, _, H, rfl,
    I1.kept (t' := tk) fun b o e => Heap.get?_push_of_some _ e, turn_range _ lo (hi - lo).toNat, ?_, fun b hb => ?_, q⟩
  · have e1 : lo + ((0 : Nat) : Int) * 1 = lo := by simp
    have e2 : (((hi - lo).toNat : Nat) : Int) - ((0 : Nat) : Int) = Builtin.Range.rangeSize lo hi 1 := by rw [rangeSize_one]; split <;> (first | lia | omega)
    show IsRangeIter _ _ (lo + ((0 : Nat) : Int) * 1) ((((hi - lo).toNat : Nat) : Int) - ((0 : Nat) : Int)) 1
    rw [e1, e2]
    exact Heap.get?_push_size _ rfl
  · have e : b = (s.heap.push { cls := .type "range", data := .fields #[.int lo t, .int hi u, .int 1 v] }).objs.size := by simpa using hb
    subst e
    exact I1.fpOk (Nat.le_refl _) (I1.hok.fresh (Nat.le_refl _))
def iRng1 (ta : TA) : TI := fun σ H R => ta σ H fun vs H1 => ∃ j : Int, vs = [.int j] ∧ -(2 ^ 62) ≤ j ∧ j < 2 ^ 62 ∧ R (Itr 0 j.toNat) H1
def iRng2 (ta : TA) : TI := fun σ H R => ta σ H fun vs H1 => ∃ i j : Int, vs = [.int i, .int j] ∧ (-(2 ^ 62) ≤ i ∧ i < 2 ^ 62 ∧ -(2 ^ 62) ≤ j ∧ j < 2 ^ 62) ∧ R (Itr i (j - i).toNat) H1
theorem pi_range1 {a : Expr} {ta : TA} {p pos : Pos} (hg : Gl X "range") (hm : X.mg "range" = none) (ha : PA X [a] ta) (hs : starEach [a] X.env = [(false, eval a X.env)] := by rfl) : PI X tg (.Call (.Name "range" p) [a] [] pos) (iRng1 ta) := by
  intro pins s σ H R I h
  refine Call_ (ld_blt I hg hm boot_range (PyProof.Rows.callWith_type1 (thn (ha pos pins s σ H _ I h) fun us s1 ⟨vs, H1, I1, r1, q1⟩ => ?_) hs rfl))
  obtain ⟨j, e, q1, q2, q⟩ := q1
  subst e
  cases r1 with
  | cons r rr =>
    cases rr
    obtain ⟨t, rfl⟩ := r
    exact call_range_1 (range_it I1 (by (first | lia | omega)) (by (first | lia | omega)) q1 q2 (by simpa using q))
theorem pi_range2 {a b : Expr} {ta : TA} {p pos : Pos} (hg : Gl X "range") (hm : X.mg "range" = none) (ha : PA X [a, b] ta) (hs : starEach [a, b] X.env = [(false, eval a X.env), (false, eval b X.env)] := by rfl) (hs2 : starEach [b] X.env = [(false, eval b X.env)] := by rfl) :
    PI X tg (.Call (.Name "range" p) [a, b] [] pos) (iRng2 ta) := by
  intro pins s σ H R I h
  refine Call_ (ld_blt I hg hm boot_range (PyProof.Rows.callWith_type1 (thn (ha pos pins s σ H _ I h) fun us s1 ⟨vs, H1, I1, r1, q1⟩ => ?_) (by rw [hs, hs2]) (by rw [hs2]; rfl)))
  obtain ⟨i, j, e, ⟨q1, q2, q3, q4⟩, q⟩ := q1
  subst e
  cases r1 with
  | cons r rr =>
    cases rr with
    | cons r' rr =>
      cases rr
      obtain ⟨t, rfl⟩ := r
      obtain ⟨t', rfl⟩ := r'
      exact call_range_2 (range_it I1 q1 q2 q3 q4 q)

def tFor (wi : TI) (g : TG) (tb : TS) : TS := fun D σ H => wi σ H fun J H1 => ∃ W : Nat → Nat → St → Hp → Prop, (∃ m, W 0 m σ H1) ∧ ∀ i m σ H, W i m σ H →
  (J.stop i H ∧ D.nx σ H) ∨ (J.go i H ∧ ∃ N : St → Hp → Prop, (∀ σ' H', N σ' H' → ∃ m', m' < m ∧ W (i + 1) m' σ' H') ∧ ∀ x H', J.yld i H x H' → g x σ H' fun σ2 H2 => tb { D with nx := N, ct := N, bk := D.nx } σ2 H2)
def pinsAt (fp : List Addr) (h : Heap) : List (Addr × Obj) := fp.filterMap fun b => (h.get? b).map fun o => (b, o)
theorem mem_pinsAt {fp : List Addr} {h : Heap} {b : Addr} {o : Obj} (hb : b ∈ fp) (e : h.get? b = some o) : (b, o) ∈ pinsAt fp h := List.mem_filterMap.mpr ⟨b, hb, by rw [e]; rfl⟩
theorem of_pinsAt {fp : List Addr} {h : Heap} {p : Addr × Obj} (hp : p ∈ pinsAt fp h) : p.1 ∈ fp ∧ h.get? p.1 = some p.2 := by
  obtain ⟨b, hb, e⟩ := List.mem_filterMap.mp hp
  cases q : h.get? b with
  | none => rw [q] at e; cases e
  | some o =>
    rw [q] at e
    have e' : (b, o) = p := Option.some.inj e
    subst e'
    exact ⟨hb, q⟩
theorem Inv.pinned {pins : List (Addr × Obj)} {σ : St} {H : Hp} {s : Shared} {fp : List Addr} (I : Inv X pins σ H s) (hf : ∀ b ∈ fp, FpOk X pins H b) (ho : ∀ b ∈ fp, ∃ o, s.heap.get? b = some o ∧ ∀ v, o.data ≠ .cell v) : Inv X (pins ++ pinsAt fp s.heap) σ H s :=
  I.pins_of fun p hp => (List.mem_append.mp hp).elim (fun z => I.pin p (List.mem_append_right _ z)) fun z => by
    obtain ⟨hb, e⟩ := of_pinsAt z
    obtain ⟨f0, f1, f2, _⟩ := hf p.1 hb
    obtain ⟨o, e', d⟩ := ho p.1 hb
    rw [e] at e'; cases e'
    exact ⟨e, f0, f1, f2, d⟩
theorem Inv.unpinned {pins pl : List (Addr × Obj)} {σ : St} {H : Hp} {s : Shared} (I : Inv X (pins ++ pl) σ H s) : Inv X pins σ H s := I.pins_of fun p hp => I.pin p (List.mem_append_right _ (List.mem_append_left _ hp))
theorem ps_for {iter : Expr} {body : List Stmt} {wi : TI} {g : TG} {tb : TS} {pos : Pos} (hp : PassesOwn (model X.prog X.w) X.A X.env X.xe) (hc : X.calm = true) (hi : PI X tg iter wi) (hg : PG X tg g) (hb : PSs X body tb)
    (hs : ∀ x, foldedSetIterable iter X.env x = pure x := by intro _; rfl) : PS X (.For tg iter body [] pos) (tFor wi g tb) := by
  intro pins s σ H D I h
  refine wpAny_For (thn (hi pins s σ H _ I h) fun v s1 h1 => thn h1 fun itv s2 h2 => ?_) hs
  obtain ⟨it, fp, tn, J, H2, e, I2, T, st2, f2, W, ⟨m0, w0⟩, turn⟩ := h2
  subst e
  -- what stays true of the iterator's objects through the loop
  have stat : ∀ {H' : Hp}, (∀ b ∈ fp, H' b = none) → ∀ b ∈ fp, FpOk X pins H' b := fun hn b hb => ⟨hn b hb, (f2 b hb).2⟩
  refine codeAny_forLoop_any (fun n s' => ∃ i σ' H', Inv X pins σ' H' s' ∧ tn i s'.heap ∧ (∀ b ∈ fp, H' b = none) ∧ W i n σ' H') ?_ m0 ⟨0, σ, H2, I2, st2, fun b hb => (f2 b hb).1, w0⟩
  rintro n s3 ⟨i, σ3, H3, I3, st3, fr3, w3⟩
  rcases turn i n σ3 H3 w3 with ⟨stop, qn⟩ | ⟨go, N, hN, step⟩
  · refine wpAny_passesOwn hp (thn (T.done X rfl rfl rfl hc i pins s3 σ3 H3 X.xe I3 (stat fr3) st3 stop) fun r s4 ⟨hr, I4⟩ => ?_)
    subst hr
    exact wpAny_execs_nil ⟨σ3, H3, I4, qn⟩
  · refine wpAny_passesOwn hp (thn (T.item X rfl rfl rfl hc i pins s3 σ3 H3 X.xe I3 (stat fr3) st3 go) fun r s4 ⟨u, hr, h4⟩ => ?_)
    subst hr
    refine wpAny_passesOwn hp (thn h4 fun _ s5 ⟨x, H5, I5, r5, y5, st5, fr5⟩ => ?_)
    have I5' := I5.pinned (stat fr5) (T.obj _ _ st5)
    refine wpAny_passesOwn hp (thn (hg _ s5 σ3 H5 x u _ I5' r5 (step x H5 y5)) fun _ s6 ⟨σ6, H6, I6, q6⟩ => ?_)
    refine wpAny_passesOwn hp (thn (hb _ s6 σ6 H6 _ I6 q6) fun f s7 q7 => ?_)
    have again : ∀ {σ7 : St} {H7 : Hp}, Inv X (pins ++ pinsAt fp s5.heap) σ7 H7 s7 → N σ7 H7 → ∃ m, m < n ∧ ∃ i σ' H', Inv X pins σ' H' s7 ∧ tn i s7.heap ∧ (∀ b ∈ fp, H' b = none) ∧ W i m σ' H' := fun {σ7 H7} I7 n7 => by
      obtain ⟨m', hm, w7⟩ := hN σ7 H7 n7
      refine ⟨m', hm, i + 1, σ7, H7, I7.unpinned, T.keep _ _ _ st5 fun b hb o e => (I7.pin (b, o) (List.mem_append_right _ (List.mem_append_right _ (mem_pinsAt hb e)))).1, fun b hb => ?_, w7⟩
      obtain ⟨o, e, d⟩ := T.obj _ _ st5 b hb
      exact (I7.pin (b, o) (List.mem_append_right _ (List.mem_append_right _ (mem_pinsAt hb e)))).2.1
    cases f with
    | next => obtain ⟨σ7, H7, I7, n7⟩ := q7; exact again I7 n7
    | cont => obtain ⟨σ7, H7, I7, n7⟩ := q7; exact again I7 n7
    | brk => obtain ⟨σ7, H7, I7, q7⟩ := q7; exact ⟨σ7, H7, I7.unpinned, q7⟩
    | ret v => obtain ⟨x7, σ7, H7, I7, r7, q7⟩ := q7; exact ⟨x7, σ7, H7, I7.unpinned, r7, q7⟩
end

theorem for_list {K : PySem.W.Frag} {a : Addr} {xs : List V} {g : TG} {tb : TS} {D : Ends} {σ : St} {H : Hp} (Pv : Nat → St → Hp → Prop) (h0 : Pv 0 σ H) (hl : ∀ i σ H, i ≤ xs.length → Pv i σ H → SqL K H a xs)
    (hs : ∀ i x σ H, xs[i]? = some x → Pv i σ H → g x σ H fun σ2 H2 => tb { D with nx := Pv (i + 1), ct := Pv (i + 1), bk := D.nx } σ2 H2) (hd : ∀ σ H, Pv xs.length σ H → D.nx σ H) :
    ∃ W : Nat → Nat → St → Hp → Prop, (∃ m, W 0 m σ H) ∧ ∀ i m σ H, W i m σ H →
      ((Itl K a).stop i H ∧ D.nx σ H) ∨ ((Itl K a).go i H ∧ ∃ N : St → Hp → Prop, (∀ σ' H', N σ' H' → ∃ m', m' < m ∧ W (i + 1) m' σ' H') ∧ ∀ x H', (Itl K a).yld i H x H' → g x σ H' fun σ2 H2 => tb { D with nx := N, ct := N, bk := D.nx } σ2 H2) := by
  refine ⟨fun i m σ H => m = xs.length - i ∧ i ≤ xs.length ∧ Pv i σ H, ⟨xs.length, by simp, Nat.zero_le _, h0⟩, ?_⟩
  rintro i m σ H ⟨rfl, hi, p⟩
  have q := hl i σ H hi p
  by_cases hlt : i < xs.length
  · refine .inr ⟨⟨xs, xs[i], q, by simp [hlt]⟩, Pv (i + 1), fun σ' H' p' => ⟨xs.length - (i + 1), by (first | lia | omega), rfl, hlt, p'⟩, fun x H' y => ?_⟩
    obtain ⟨e, y⟩ := y
    subst e
    exact hs i x σ _ (y xs q) p
  · have e : i = xs.length := by (first | lia | omega)
    subst e
    exact .inl ⟨⟨xs, q, Nat.le_refl _⟩, hd σ H p⟩
theorem for_tup {K : PySem.W.Frag} {a : Addr} {xs : List V} {g : TG} {tb : TS} {D : Ends} {σ : St} {H : Hp} (Pv : Nat → St → Hp → Prop) (h0 : Pv 0 σ H) (hl : ∀ i σ H, i ≤ xs.length → Pv i σ H → SqT K H a xs)
    (hs : ∀ i x σ H, xs[i]? = some x → Pv i σ H → g x σ H fun σ2 H2 => tb { D with nx := Pv (i + 1), ct := Pv (i + 1), bk := D.nx } σ2 H2) (hd : ∀ σ H, Pv xs.length σ H → D.nx σ H) :
    ∃ W : Nat → Nat → St → Hp → Prop, (∃ m, W 0 m σ H) ∧ ∀ i m σ H, W i m σ H →
      ((Itt K a).stop i H ∧ D.nx σ H) ∨ ((Itt K a).go i H ∧ ∃ N : St → Hp → Prop, (∀ σ' H', N σ' H' → ∃ m', m' < m ∧ W (i + 1) m' σ' H') ∧ ∀ x H', (Itt K a).yld i H x H' → g x σ H' fun σ2 H2 => tb { D with nx := N, ct := N, bk := D.nx } σ2 H2) := by
  refine ⟨fun i m σ H => m = xs.length - i ∧ i ≤ xs.length ∧ Pv i σ H, ⟨xs.length, by simp, Nat.zero_le _, h0⟩, ?_⟩
  rintro i m σ H ⟨rfl, hi, p⟩
  have q := hl i σ H hi p
  by_cases hlt : i < xs.length
  · refine .inr ⟨⟨xs, xs[i], q, by simp [hlt]⟩, Pv (i + 1), fun σ' H' p' => ⟨xs.length - (i + 1), by (first | lia | omega), rfl, hlt, p'⟩, fun x H' y => ?_⟩
    obtain ⟨e, y⟩ := y
    subst e
    exact hs i x σ _ (y xs q) p
  · have e : i = xs.length := by (first | lia | omega)
    subst e
    exact .inl ⟨⟨xs, q, Nat.le_refl _⟩, hd σ H p⟩
theorem for_range {lo : Int} {n : Nat} {g : TG} {tb : TS} {D : Ends} {σ : St} {H : Hp} (Pv : Nat → St → Hp → Prop) (h0 : Pv 0 σ H)
    (hs : ∀ i σ H, i < n → Pv i σ H → g (.int (lo + i)) σ H fun σ2 H2 => tb { D with nx := Pv (i + 1), ct := Pv (i + 1), bk := D.nx } σ2 H2) (hd : ∀ σ H, Pv n σ H → D.nx σ H) :
    ∃ W : Nat → Nat → St → Hp → Prop, (∃ m, W 0 m σ H) ∧ ∀ i m σ H, W i m σ H →
      ((Itr lo n).stop i H ∧ D.nx σ H) ∨ ((Itr lo n).go i H ∧ ∃ N : St → Hp → Prop, (∀ σ' H', N σ' H' → ∃ m', m' < m ∧ W (i + 1) m' σ' H') ∧ ∀ x H', (Itr lo n).yld i H x H' → g x σ H' fun σ2 H2 => tb { D with nx := N, ct := N, bk := D.nx } σ2 H2) := by
  refine ⟨fun i m σ H => m = n - i ∧ i ≤ n ∧ Pv i σ H, ⟨n, by simp, Nat.zero_le _, h0⟩, ?_⟩
  rintro i m σ H ⟨rfl, hi, p⟩
  by_cases hlt : i < n
  · refine .inr ⟨hlt, Pv (i + 1), fun σ' H' p' => ⟨n - (i + 1), by (first | lia | omega), rfl, hlt, p'⟩, fun x H' y => ?_⟩
    obtain ⟨e, y⟩ := y
    subst e y
    exact hs i σ _ hlt p
  · have e : i = n := by (first | lia | omega)
    subst e
    exact .inl ⟨Nat.le_refl _, hd σ H p⟩
theorem while_by {c : TT} {tb : TS} {D : Ends} {σ : St} {H : Hp} (Pv : St → Hp → Prop) (μ : St → Hp → Nat) (h0 : Pv σ H)
    (hs : ∀ σ H, Pv σ H → c σ H fun b H1 => if b = true then tb { D with nx := fun σ' H' => Pv σ' H' ∧ μ σ' H' < μ σ H, ct := fun σ' H' => Pv σ' H' ∧ μ σ' H' < μ σ H, bk := D.nx } σ H1 else D.nx σ H1)
    (mono : ∀ σ H Q Q', (∀ b H1, Q b H1 → Q' b H1) → c σ H Q → c σ H Q') : tWhile c tb D σ H := by
  refine ⟨fun m σ H => m = μ σ H ∧ Pv σ H, ⟨_, rfl, h0⟩, ?_⟩
  rintro m σ H ⟨rfl, p⟩
  refine mono σ H _ _ (fun b H1 q => ?_) (hs σ H p)
  cases b with
  | true => exact ⟨_, fun σ' H' ⟨p', l⟩ => ⟨_, l, rfl, p'⟩, q⟩
  | false => exact q
end L2

namespace L2
open PySem PySem.Spec PyProof.Rows

abbrev R2 := V → V → Hp → VK → Prop
def OpR (X : Cx) (f : Value → Value → Sem Value) (r : R2) : Prop :=
  ∀ (pins : List (Addr × Obj)) (s : Shared) (σ : St) (H : Hp) (x y : V) (v u : Value) (Q : VK), Inv X pins σ H s → RelV x v → RelV y u → r x y H Q →
    wpAny (model X.prog X.w) X.A (f v u) (EP X pins σ Q) X.xe s
def UnR (X : Cx) (f : Value → Sem Value) (r : V → Hp → VK → Prop) : Prop :=
  ∀ (pins : List (Addr × Obj)) (s : Shared) (σ : St) (H : Hp) (x : V) (v : Value) (Q : VK), Inv X pins σ H s → RelV x v → r x H Q →
    wpAny (model X.prog X.w) X.A (f v) (EP X pins σ Q) X.xe s
def CallR (X : Cx) (f : Value) (r : List V → Hp → VK → Prop) : Prop :=
  ∀ (pins : List (Addr × Obj)) (s : Shared) (σ : St) (H : Hp) (xs : List V) (us : List Value) (Q : VK), Inv X pins σ H s → Vals xs us → r xs H Q →
    wpAny (model X.prog X.w) X.A (call f us) (EP X pins σ Q) X.xe s
def tOp (r : R2) (ta tb : TE) : TE := fun σ H Q => ta σ H fun x H1 => tb σ H1 fun y H2 => r x y H2 Q
def tUn (r : V → Hp → VK → Prop) (ta : TE) : TE := fun σ H Q => ta σ H fun x H1 => r x H1 Q
inductive RIP (C : Int → Int → Prop) (g : Int → Int → V) (x : V) (y : V) (H : Hp) (Q : VK) : Prop
  | mk (i : _) (j : _) (h1 : x = .int i) (h2 : y = .int j) (h3 : C i j) (h4 : Q (g i j) H) : RIP C g x y H Q
def rI (C : Int → Int → Prop) (g : Int → Int → V) : R2 := fun x y H Q => RIP C g x y H Q
inductive RI0P (g : Int → Int → V) (x : V) (y : V) (H : Hp) (Q : VK) : Prop
  | mk (i : _) (j : _) (h1 : x = .int i) (h2 : y = .int j) (h3 : Q (g i j) H) : RI0P g x y H Q
def rI0 (g : Int → Int → V) : R2 := fun x y H Q => RI0P g x y H Q
inductive RUP (g : Int → V) (x : V) (H : Hp) (Q : VK) : Prop
  | mk (i : _) (h1 : x = .int i) (h2 : Q (g i) H) : RUP g x H Q
def rU (g : Int → V) : V → Hp → VK → Prop := fun x H Q => RUP g x H Q

section
variable {X : Cx} {a b c : Expr} {ta tb tc : TE} {pos : Pos}

theorem binT (ha : PE X a ta) (hb : PE X b tb) {pins : List (Addr × Obj)} {s : Shared} {σ : St} {H : Hp} {R : V → V → Hp → Prop} (I : Inv X pins σ H s)
    (h : ta σ H fun x H1 => tb σ H1 fun y H2 => R x y H2) {Q : Value → Shared → Prop} {f : Value → Value → Sem Value}
    (hf : ∀ v u s2 x y H2, Inv X pins σ H2 s2 → RelV x v → RelV y u → R x y H2 → wpAny (model X.prog X.w) X.A (f v u) Q X.xe s2) :
    wpAny (model X.prog X.w) X.A (eval a X.env) (fun v s₁ => wpAny (model X.prog X.w) X.A (eval b X.env) (fun u s₂ => wpAny (model X.prog X.w) X.A (f v u) Q X.xe s₂) X.xe s₁) X.xe s := by
  refine thn (ha pins s σ H _ I h) fun v s1 ⟨x, H1, I1, r1, q1⟩ => ?_
  refine thn (hb pins s1 σ H1 _ I1 q1) fun u s2 ⟨y, H2, I2, r2, q2⟩ => ?_
  exact hf v u s2 x y H2 I2 r1 r2 q2

theorem pe_op {op : Operator} {r : R2} (ho : OpR X (binaryOp op) r) (ha : PE X a ta) (hb : PE X b tb) : PE X (.BinOp a op b pos) (tOp r ta tb) := by
  intro pins s σ H Q I h
  exact wpAny_BinOp (binT ha hb I h fun v u s2 x y H2 I2 rx ry q => ho pins s2 σ H2 x y v u Q I2 rx ry q)
theorem pe_un {op : UnaryOp} {r : V → Hp → VK → Prop} (ho : UnR X (unaryOp op) r) (ha : PE X a ta) : PE X (.UnaryOp op a pos) (tUn r ta) := by
  intro pins s σ H Q I h
  exact UnaryOp_ (thn (ha pins s σ H _ I h) fun v s1 ⟨x, H1, I1, r1, q1⟩ => ho pins s1 σ H1 x v Q I1 r1 q1)
theorem opI {f : Value → Value → Sem Value} {C : Int → Int → Prop} {g : Int → Int → Int}
    (rule : ∀ (i j : Int) (t u : Tok) (s : Shared) (Q : Value → Shared → Prop) (E : Value → Shared → Prop), C i j → Q (.int (g i j) s.toks) { s with toks := s.toks + 1 } → wpAny (model X.prog X.w) X.A (f (.int i t) (.int j u)) Q E s) :
    OpR X f (rI C fun i j => .int (g i j)) := by
  intro pins s σ H x y v u Q I rx ry h
  obtain ⟨i, j, rfl, rfl, hc, q⟩ := h
  obtain ⟨t, rfl⟩ := rx
  obtain ⟨t', rfl⟩ := ry
  exact rule i j t t' s _ _ hc ⟨.int (g i j), H, I.tok _, ⟨_, rfl⟩, q⟩
theorem opI0 {f : Value → Value → Sem Value} {g : Int → Int → Int}
    (rule : ∀ (i j : Int) (t u : Tok) (s : Shared) (Q : Value → Shared → Prop) (E : Value → Shared → Prop), Q (.int (g i j) s.toks) { s with toks := s.toks + 1 } → wpAny (model X.prog X.w) X.A (f (.int i t) (.int j u)) Q E s) :
    OpR X f (rI0 fun i j => .int (g i j)) := by
  intro pins s σ H x y v u Q I rx ry h
  obtain ⟨i, j, rfl, rfl, q⟩ := h
  obtain ⟨t, rfl⟩ := rx
  obtain ⟨t', rfl⟩ := ry
  exact rule i j t t' s _ _ ⟨.int (g i j), H, I.tok _, ⟨_, rfl⟩, q⟩
theorem opB0 {f : Value → Value → Sem Value} {g : Int → Int → Bool}
    (rule : ∀ (i j : Int) (t u : Tok) (s : Shared) (Q : Value → Shared → Prop) (E : Value → Shared → Prop), Q (.bool (g i j)) s → wpAny (model X.prog X.w) X.A (f (.int i t) (.int j u)) Q E s) :
    OpR X f (rI0 fun i j => .bl (g i j)) := by
  intro pins s σ H x y v u Q I rx ry h
  obtain ⟨i, j, rfl, rfl, q⟩ := h
  obtain ⟨t, rfl⟩ := rx
  obtain ⟨t', rfl⟩ := ry
  exact rule i j t t' s _ _ ⟨.bl (g i j), H, I, rfl, q⟩

def CDiv (i j : Int) : Prop := 0 < j ∧ j < 1073741824
def CPow (i j : Int) : Prop := 0 ≤ j ∧ j ≤ 1000000 ∧ i.natAbs < 2 ^ 64
def CMul (i j : Int) : Prop := (-(2 ^ 64) < i ∧ i < 2 ^ 64) ∨ (-(2 ^ 64) < j ∧ j < 2 ^ 64)
theorem CMul.ok {i j : Int} (h : CMul i j) : IntMulOk i j := by
  rcases h with ⟨h1, h2⟩ | ⟨h1, h2⟩
  · exact .of_left (intBits_le_64 h1 h2)
  · exact .of_right (intBits_le_64 h1 h2)
theorem op_add : OpR X (binaryOp .Add) (rI0 fun i j => .int (i + j)) := opI0 fun _ _ _ _ _ _ _ q => add_int q
theorem op_sub : OpR X (binaryOp .Sub) (rI0 fun i j => .int (i - j)) := opI0 fun _ _ _ _ _ _ _ q => sub_int q
theorem op_mul : OpR X (binaryOp .Mult) (rI CMul fun i j => .int (i * j)) := opI fun _ _ _ _ _ _ _ hc q => mul_int q hc.ok
theorem op_fdiv : OpR X (binaryOp .FloorDiv) (rI CDiv fun i j => .int (i / j)) := opI fun i j _ _ _ _ _ hc q => by
  have h1 : (0 : Int) < j := hc.1
  have h2 : j < 1073741824 := hc.2
  exact floordiv_int (by (first | lia | omega)) (by rw [Int.fdiv_eq_ediv_of_nonneg i (by (first | lia | omega))]; exact q) (.inl (PyProof.noPylong_small (by (first | lia | omega))))
theorem op_mod : OpR X (binaryOp .Mod) (rI (fun _ j => 0 < j) fun i j => .int (i % j)) := opI fun i j _ _ _ _ _ hc q => by
  have h1 : (0 : Int) < j := hc
  exact mod_int' (by (first | lia | omega)) (by rw [Int.fmod_eq_emod_of_nonneg i (by (first | lia | omega))]; exact q)
theorem op_pow : OpR X (binaryOp .Pow) (rI CPow fun i j => .int (i ^ j.toNat)) := opI fun _ _ _ _ _ _ _ hc q => pow_int_small hc.1 hc.2.1 hc.2.2 q
theorem unI {f : Value → Sem Value} {g : Int → Int}
    (rule : ∀ (i : Int) (t : Tok) (s : Shared) (Q : Value → Shared → Prop) (E : Value → Shared → Prop), Q (.int (g i) s.toks) { s with toks := s.toks + 1 } → wpAny (model X.prog X.w) X.A (f (.int i t)) Q E s) :
    UnR X f (rU fun i => .int (g i)) := by
  intro pins s σ H x v Q I rx h
  obtain ⟨i, rfl, q⟩ := h
  obtain ⟨t, rfl⟩ := rx
  exact rule i t s _ _ ⟨.int (g i), H, I.tok _, ⟨_, rfl⟩, q⟩
theorem un_neg : UnR X (unaryOp .USub) (rU fun i => .int (-i)) := unI fun _ _ _ _ _ q => neg_int q
end

def scal : V → V → Bool
  | .non, .non => true | .non, .int _ => true | .int _, .non => true | .non, .bl _ => true | .bl _, .non => true | .non, .str _ => true | .str _, .non => true
  | .int _, .int _ => true | .bl _, .bl _ => true | .str _, .str _ => true | .byt _, .byt _ => true
  | .int _, .str _ => true | .str _, .int _ => true | .bl _, .str _ => true | .str _, .bl _ => true
  | _, _ => false
inductive REqP (x : V) (y : V) (H : Hp) (Q : VK) : Prop
  | mk  (h1 : scal x y = true) (h2 : Q (.bl (decide (x = y))) H) : REqP x y H Q
def rEq : R2 := fun x y H Q => REqP  x y H Q
inductive RNeP (x : V) (y : V) (H : Hp) (Q : VK) : Prop
  | mk  (h1 : scal x y = true) (h2 : Q (.bl (!decide (x = y))) H) : RNeP x y H Q
def rNe : R2 := fun x y H Q => RNeP  x y H Q

theorem dec_int {i j : Int} : decide (V.int i = V.int j) = (i == j) := by
  rw [Bool.eq_iff_iff]
  simp
theorem dec_bl {i j : Bool} : decide (V.bl i = V.bl j) = (i == j) := by
  rw [Bool.eq_iff_iff]
  simp
theorem dec_str {i j : Str} : decide (V.str i = V.str j) = (i == j) := by
  rw [Bool.eq_iff_iff]
  simp
theorem dec_byt {i j : Array UInt8} : decide (V.byt i = V.byt j) = (i.toList == j.toList) := by
  rw [Bool.eq_iff_iff]
  cases i
  cases j
  simp

section
variable {X : Cx} {a b c : Expr} {ta tb tc : TE} {pos : Pos}
theorem fin_bl {pins : List (Addr × Obj)} {σ : St} {H : Hp} {s : Shared} {Q : VK} {k k' : Bool} (I : Inv X pins σ H s) (q : Q (.bl k) H) (e : k = k') : EP X pins σ Q (.bool k') s := by
  subst e
  exact ⟨.bl k, H, I, rfl, q⟩
theorem op_eq : OpR X (compareOp .Eq) rEq := by
  intro pins s σ H x y v u Q I rx ry h
  obtain ⟨hs, q⟩ := h
  cases x with
  | non =>
    cases rx
    cases y with
    | non => cases ry; exact PySem.EqNone.eq_none_none (fin_bl I q (by simp))
    | bl j => cases ry; exact PySem.EqNone.eq_none_bool (fin_bl I q (by simp))
    | int j => obtain ⟨t', rfl⟩ := ry; exact PySem.EqNone.eq_none_int (fin_bl I q (by simp))
    | str j => obtain ⟨t', rfl⟩ := ry; exact PySem.EqNone.eq_none_str (fin_bl I q (by simp))
    | _ => exact absurd (show false = true from hs) Bool.false_ne_true
  | bl i =>
    cases rx
    cases y with
    | non => cases ry; exact PySem.EqNone.eq_bool_none (fin_bl I q (by simp))
    | bl j => cases ry; exact eq_bool (fin_bl I q dec_bl)
    | str j => obtain ⟨t', rfl⟩ := ry; exact PySem.EqMixed.eq_bool_str (fin_bl I q (by simp))
    | _ => exact absurd (show false = true from hs) Bool.false_ne_true
  | int i =>
    obtain ⟨t, rfl⟩ := rx
    cases y with
    | non => cases ry; exact PySem.EqNone.eq_int_none (fin_bl I q (by simp))
    | int j => obtain ⟨t', rfl⟩ := ry; exact eq_int (fin_bl I q dec_int)
    | str j => obtain ⟨t', rfl⟩ := ry; exact PySem.EqMixed.eq_int_str (fin_bl I q (by simp))
    | _ => exact absurd (show false = true from hs) Bool.false_ne_true
  | str i =>
    obtain ⟨t, rfl⟩ := rx
    cases y with
    | non => cases ry; exact PySem.EqNone.eq_str_none (fin_bl I q (by simp))
    | bl j => cases ry; exact PySem.EqMixed.eq_str_bool (fin_bl I q (by simp))
    | int j => obtain ⟨t', rfl⟩ := ry; exact PySem.EqMixed.eq_str_int (fin_bl I q (by simp))
    | str j => obtain ⟨t', rfl⟩ := ry; exact eq_str (fin_bl I q dec_str)
    | _ => exact absurd (show false = true from hs) Bool.false_ne_true
  | byt i =>
    obtain ⟨t, rfl⟩ := rx
    cases y with
    | byt j => obtain ⟨t', rfl⟩ := ry; exact PySem.W.eq_bytes (fin_bl I q dec_byt)
    | _ => exact absurd (show false = true from hs) Bool.false_ne_true
  | _ => cases y <;> exact absurd (show false = true from hs) Bool.false_ne_true
theorem op_ne : OpR X (compareOp .NotEq) rNe := by
  intro pins s σ H x y v u Q I rx ry h
  obtain ⟨hs, q⟩ := h
  cases x with
  | non =>
    cases rx
    cases y with
    | non => cases ry; exact PySem.EqNone.ne_none_none (fin_bl I q (by simp))
    | bl j => cases ry; exact PySem.EqNone.ne_none_bool (fin_bl I q (by simp))
    | int j => obtain ⟨t', rfl⟩ := ry; exact PySem.EqNone.ne_none_int (fin_bl I q (by simp))
    | str j => obtain ⟨t', rfl⟩ := ry; exact PySem.EqNone.ne_none_str (fin_bl I q (by simp))
    | _ => exact absurd (show false = true from hs) Bool.false_ne_true
  | bl i =>
    cases rx
    cases y with
    | non => cases ry; exact PySem.EqNone.ne_bool_none (fin_bl I q (by simp))
    | bl j => cases ry; exact ne_bool (fin_bl I q (congrArg not dec_bl))
    | str j => obtain ⟨t', rfl⟩ := ry; exact PySem.EqMixed.ne_bool_str (fin_bl I q (by simp))
    | _ => exact absurd (show false = true from hs) Bool.false_ne_true
  | int i =>
    obtain ⟨t, rfl⟩ := rx
    cases y with
    | non => cases ry; exact PySem.EqNone.ne_int_none (fin_bl I q (by simp))
    | int j => obtain ⟨t', rfl⟩ := ry; exact ne_int (fin_bl I q (congrArg not dec_int))
    | str j => obtain ⟨t', rfl⟩ := ry; exact PySem.EqMixed.ne_int_str (fin_bl I q (by simp))
    | _ => exact absurd (show false = true from hs) Bool.false_ne_true
  | str i =>
    obtain ⟨t, rfl⟩ := rx
    cases y with
    | non => cases ry; exact PySem.EqNone.ne_str_none (fin_bl I q (by simp))
    | bl j => cases ry; exact PySem.EqMixed.ne_str_bool (fin_bl I q (by simp))
    | int j => obtain ⟨t', rfl⟩ := ry; exact PySem.EqMixed.ne_str_int (fin_bl I q (by simp))
    | str j => obtain ⟨t', rfl⟩ := ry; exact ne_str (fin_bl I q (congrArg not dec_str))
    | _ => exact absurd (show false = true from hs) Bool.false_ne_true
  | byt i =>
    obtain ⟨t, rfl⟩ := rx
    cases y with
    | byt j => obtain ⟨t', rfl⟩ := ry; exact PySem.W.ne_bytes (fin_bl I q (congrArg not dec_byt))
    | _ => exact absurd (show false = true from hs) Bool.false_ne_true
  | _ => cases y <;> exact absurd (show false = true from hs) Bool.false_ne_true

theorem op_lt : OpR X (compareOp .Lt) (rI0 fun i j => .bl (decide (i < j))) := opB0 fun _ _ _ _ _ _ _ q => lt_int q
theorem op_le : OpR X (compareOp .LtE) (rI0 fun i j => .bl (decide (i ≤ j))) := opB0 fun _ _ _ _ _ _ _ q => le_int q
theorem op_gt : OpR X (compareOp .Gt) (rI0 fun i j => .bl (decide (j < i))) := opB0 fun _ _ _ _ _ _ _ q => gt_int q
theorem op_ge : OpR X (compareOp .GtE) (rI0 fun i j => .bl (decide (j ≤ i))) := opB0 fun _ _ _ _ _ _ _ q => ge_int q
theorem op_isN : OpR X (compareOp .Is) (fun x y H Q => y = .non ∧ Q (.bl (decide (x = .non))) H) := by
  intro pins s σ H x y v u Q I rx ry h
  obtain ⟨rfl, q⟩ := h
  cases ry
  refine is_none_gen (fin_bl I q ?_)
  cases x <;> first
    | (cases rx; rfl)
    | (obtain ⟨t, rfl⟩ := rx; rfl)
theorem nomark (b : Expr) {op : CmpOp} (h : op ≠ .In := by decide) (h2 : op ≠ .NotIn := by decide) : behindInMarks op b = false := by
  have e1 : (op == CmpOp.In) = false := by cases op <;> first | rfl | exact absurd rfl h
  have e2 : (op == CmpOp.NotIn) = false := by cases op <;> first | rfl | exact absurd rfl h2
  cases b <;> simp [behindInMarks, e1, e2]
theorem pe_cmpR {op : CmpOp} {r : R2} (ho : OpR X (compareOp op) r) (ha : PE X a ta) (hb : PE X b tb) (hm : behindInMarks op b = false) : PE X (.Compare a [op] [b] pos) (tOp r ta tb) := by
  intro pins s σ H Q I h
  exact wpAny_Compare1 (binT ha hb I h fun v u s2 x y H2 I2 rx ry q => ho pins s2 σ H2 x y v u Q I2 rx ry q) hm
def tTest (t : TE) : TT := fun σ H Q => t σ H fun x H' => OfBl x H' Q
theorem pt_cmpR {op : CmpOp} {r : R2} (ho : OpR X (compareOp op) r) (ha : PE X a ta) (hb : PE X b tb) (hm : behindInMarks op b = false) : PT X (.Compare a [op] [b] pos) (tTest (tOp r ta tb)) := by
  intro pins s σ H Q I h
  refine wpAny_isTrue_Compare1 (thn (ha pins s σ H _ I h) fun v s1 ⟨x, H1, I1, r1, q1⟩ => thn (hb pins s1 σ H1 _ I1 q1) fun u s2 ⟨y, H2, I2, r2, q2⟩ =>
    thn (ho pins s2 σ H2 x y v u _ I2 r1 r2 q2) fun c s3 ⟨z, H3, I3, r3, k, e, q3⟩ => ?_) hm
  subst e
  cases r3
  exact wpAny_truthy_bool ⟨H3, I3, q3⟩
def tChain (r r' : R2) (ta tb tc : TE) : TE := fun σ H Q => ta σ H fun x H1 => tb σ H1 fun y H2 => r x y H2 fun z H3 => ∃ k, z = .bl k ∧
  (if k = true then tc σ H3 fun w' H4 => r' y w' H4 Q else Q (.bl false) H3)
theorem pe_chain {op op' : CmpOp} {r r' : R2} (ho : OpR X (compareOp op) r) (ho' : OpR X (compareOp op') r') (ha : PE X a ta) (hb : PE X b tb) (hc : PE X c tc)
    (hm : lastMarks [op, op'] [b, c] = false := by with_unfolding_all rfl) : PE X (.Compare a [op, op'] [b, c] pos) (tChain r r' ta tb tc) := by
  intro pins s σ H Q I h
  refine Compare_chain (thn (ha pins s σ H _ I h) fun v s1 ⟨x, H1, I1, r1, q1⟩ => chain_link (thn (hb pins s1 σ H1 _ I1 q1) fun u s2 ⟨y, H2, I2, r2, q2⟩ =>
    thn (ho pins s2 σ H2 x y v u _ I2 r1 r2 q2) fun d s3 ⟨z, H3, I3, r3, k, e, q3⟩ => ?_)) hm
  subst e
  cases r3
  refine wpAny_truthy_bool ?_
  cases k with
  | false => exact ite_ff ⟨.bl false, H3, I3, rfl, q3⟩
  | true => exact ite_tt (chain_last (thn (hc pins s3 σ H3 _ I3 q3) fun w' s4 ⟨z', H4, I4, r4, q4⟩ => ho' pins s4 σ H4 y z' u w' Q I4 r2 r4 q4))
theorem pt_chain {op op' : CmpOp} {r r' : R2} (ho : OpR X (compareOp op) r) (ho' : OpR X (compareOp op') r') (ha : PE X a ta) (hb : PE X b tb) (hc : PE X c tc)
    (hm : lastMarks [op, op'] [b, c] = false := by with_unfolding_all rfl) : PT X (.Compare a [op, op'] [b, c] pos) (tTest (tChain r r' ta tb tc)) := by
  intro pins s σ H Q I h
  refine isTrue_chain (thn (ha pins s σ H _ I h) fun v s1 ⟨x, H1, I1, r1, q1⟩ => test_link (thn (hb pins s1 σ H1 _ I1 q1) fun u s2 ⟨y, H2, I2, r2, q2⟩ =>
    thn (ho pins s2 σ H2 x y v u _ I2 r1 r2 q2) fun d s3 ⟨z, H3, I3, r3, k, e, q3⟩ => ?_)) hm
  subst e
  cases r3
  refine wpAny_truthy_bool ?_
  cases k with
  | false =>
    obtain ⟨k', e', q'⟩ := q3
    cases e'
    exact ite_ff ⟨H3, I3, q'⟩
  | true =>
    refine ite_tt (test_last (thn (hc pins s3 σ H3 _ I3 q3) fun w' s4 ⟨z', H4, I4, r4, q4⟩ => thn (ho' pins s4 σ H4 y z' u w' _ I4 r2 r4 q4) fun d' s5 ⟨z2, H5, I5, r5, k2, e2, q5⟩ => ?_))
    subst e2
    cases r5
    exact wpAny_truthy_bool ⟨H5, I5, q5⟩

theorem line63 : (sizeLine : Nat) < 2 ^ 63 := by rw [sizeLine_eq]; decide
theorem vals1 {x : V} {us : List Value} (r : Vals [x] us) : ∃ u, us = [u] ∧ RelV x u := by
  cases r with
  | cons r1 r2 => cases r2; exact ⟨_, rfl, r1⟩
theorem vals2 {x y : V} {us : List Value} (r : Vals [x, y] us) : ∃ u w', us = [u, w'] ∧ RelV x u ∧ RelV y w' := by
  cases r with
  | cons r1 r2 =>
    cases r2 with
    | cons r3 r4 => cases r4; exact ⟨_, _, rfl, r1, r3⟩
inductive P_call_max2 (K : PySem.W.Frag) (xs : List V) (H : Hp) (Q : VK) : Prop
  | mk (i : _) (j : _) (h1 : xs = [.int i, .int j]) (h2 : Q (.int (if j > i then j else i)) H) : P_call_max2 K xs H Q
theorem call_max2 (hc : X.calm = true) : CallR X (.builtin "max") (P_call_max2 X.K) := by
  intro pins s σ H xs us Q I r h
  obtain ⟨i, j, rfl, q⟩ := h
  obtain ⟨u, w', rfl, ⟨t, rfl⟩, ⟨t', rfl⟩⟩ := vals2 r
  refine max_two_ints (I.ok.hd hc) fun h' tk k => ⟨_, H, I.kept k, ?_, q⟩
  by_cases hj : j > i
  · rw [if_pos hj, if_pos hj]; exact ⟨_, rfl⟩
  · rw [if_neg hj, if_neg hj]; exact ⟨_, rfl⟩
theorem call_int1 : CallR X (.type "int") (fun xs H Q => (∃ i, xs = [.int i] ∧ Q (.int i) H) ∨ ∃ k, xs = [.bl k] ∧ Q (.int (if k then 1 else 0)) H) := by
  intro pins s σ H xs us Q I r h
  rcases h with ⟨i, rfl, q⟩ | ⟨k, rfl, q⟩
  · obtain ⟨u, rfl, t, rfl⟩ := vals1 r
    exact call_int_int ⟨.int i, H, I, ⟨_, rfl⟩, q⟩
  · obtain ⟨u, rfl, r1⟩ := vals1 r
    cases r1
    exact call_int_bool ⟨.int (if k then 1 else 0), H, I.tok _, ⟨_, rfl⟩, q⟩
end
end L2

namespace L2
open PySem PySem.Spec PyProof.Rows

structure ObjM (h : Heap) (x dx C : Addr) (mA : Str → Option Value) : Prop where
  obj : h.get? x = some (PySem.W.instObj C dx)
  ns : h.Ns1 dx mA
  ne : dx ≠ x

theorem lookIn_ns {h : Heap} {dx : Addr} {mA : Str → Option Value} (n : h.Ns1 dx mA) : ∃ od, h.get? dx = some od ∧ ∀ name, PySem.W.lookIn name od = some (mA name) := by
  obtain ⟨o, es, ep, ho, hd, hk, _, hm⟩ := n
  refine ⟨o, ho, fun name => ?_⟩
  have e := hm name
  unfold nsFind findBy at e
  rw [← Array.find?_toList] at e
  unfold PySem.W.lookIn
  rw [hd]
  dsimp only
  split
  · rename_i y q
    rw [q] at e
    exact congrArg some e
  · rename_i q
    rw [q] at e
    have a : es.toList.any (·.refKey) = false := by
      rw [List.any_eq_false]
      intro y hy
      obtain ⟨z, t, hkey⟩ := hk y (Array.mem_toList_iff.mp hy)
      simp [DictEntry.refKey, hkey]
    have a' : ¬ es.toList.any (·.refKey) = true := by rw [a]; exact Bool.false_ne_true
    rw [if_neg a']
    exact congrArg some e

theorem ObjM.look {h : Heap} {x dx C : Addr} {mA : Str → Option Value} (I : ObjM h x dx C mA) : ∃ od, PySem.W.InstAt h x (PySem.W.instObj C dx) C (some od) ∧ ∀ name, PySem.W.lookIn name od = some (mA name) :=
  let ⟨od, ho, hl⟩ := lookIn_ns I.ns
  ⟨od, ⟨I.obj, rfl, rfl, ho⟩, hl⟩

section
variable {prog : Program} {w : World} {A : Around} {E : Value → Shared → Prop} {s : Shared} {K : PySem.W.Frag} {x dx C f : Addr} {mA : Str → Option Value} {name : Str} {v : Value}

theorem get_map {expr : Bool} {Q : Value → Shared → Prop} (X : K.In s.heap) (I : ObjM s.heap x dx C mA) (hg : PySem.W.plainGet K C name = true) (hh : PySem.W.hasDictIn K C = true)
    (ha : PySem.W.findIn K (.ref C) name = some none) (hv : mA name = some v) (hv' : PySem.W.handedIn v = true) (h : Q v { s with toks := s.toks + 1 }) :
    wpAny (model prog w) A (getAttr (.ref x) name expr) Q E s := by
  obtain ⟨od, J, hl⟩ := I.look
  exact PySem.W.get_value X J (PySem.W.plainGet_of hg).1 (PySem.W.findObj_own hh ha rfl (by rw [hl, hv])) hv' h

theorem get_meth {pl : Sem Bool} {Q : Value × List Value → Shared → Prop} (X : K.In s.heap) (I : ObjM s.heap x dx C mA) (hg : PySem.W.plainGet K C name = true)
    (hf : PySem.W.findIn K (.ref C) name = some (some (.ref f))) (ht : PySem.W.isFn K (.ref f) = true) (hv : mA name = none) (h : Q (.ref f, [.ref x]) s) :
    wpAny (model prog w) A (getMethod (.ref x) name pl) Q E s := by
  obtain ⟨od, J, hl⟩ := I.look
  exact PySem.W.method_fn X J (PySem.W.plainGet_of hg).1 (PySem.W.plainGet_of hg).2 hf (beq_iff_eq.mp ht) (by show (PySem.W.lookIn name od).map (·.isSome) = some false; rw [hl, hv]; rfl) h

theorem set_map {ns : List Str} {Q : Unit → Shared → Prop} (X : K.In s.heap) (I : ObjM s.heap x dx C mA)
    (hs : PySem.W.findIn K (.ref C) "__setattr__" = some (some (.builtin "object.__setattr__"))) (hp : PySem.W.plainOver K C = true) (ht : PySem.W.takerIn K C name = some none) (hh : PySem.W.hasDictIn K C = true)
    (hw : PySem.Within mA ns) (hsz : ns.length ≤ sizeLine)
    (h : ∀ h', ObjM h' x dx C (fun y => if y = name then some v else mA y) → Heap.SameBut dx s.heap h' → Q () { s with heap := h', toks := s.toks + 2 }) :
    wpAny (model prog w) A (setAttr (.ref x) name v) Q E s := by
  obtain ⟨od, J, hl⟩ := I.look
  refine PySem.W.set_plain X J hs (PySem.W.osa_open (s := { s with toks := s.toks + 1 }) (r := none) X J hp ht fun b => ?_)
  obtain ⟨cd, hc, hd'⟩ := PySem.W.any_some hh
  have hx : s.heap.get? x = some ⟨.ref C, some dx, .plain, #[]⟩ := I.obj
  refine wpAny_bind (wpAny_pure (wpAny_bind (wpAny_bind (wpAny_loadPart hx (wpAny_bind (PySem.W.Looks.here (s := { s with toks := s.toks + 1 }) (PySem.W.looks_clsIn X hc) ?_))))))
  rw [hd']
  refine wpAny_pure (a := some dx) (wpAny_bind (wpAny_pure (wpAny_bind ?_)))
  refine wpAny_nsSet1 (s := { s with toks := s.toks + 1 }) I.ns fun h' hn2 hs2 => ?_
  obtain ⟨oD, esD, epD, hoD, hdD, hcD⟩ := hn2.count (PySem.Within.cons name v hw)
  refine wpAny_bind (wpAny_lookBehind hoD (by rw [hdD]; exact pastItsLine_dict (Nat.le_trans hcD (by rw [List.length_cons]; (first | lia | omega)))) ?_)
  exact wpAny_pure (h _ ⟨(hs2.2 _ (Ne.symm I.ne)).trans I.obj, hn2, I.ne⟩ hs2)

theorem make_map {R : Result → Shared → Prop} {vs : List Value} {kw : List (Str × Value)} (X : K.In s.heap) (hm : PySem.W.makesIn K C = true)
    (hi : PySem.W.findIn K (.ref C) "__init__" = some (some (.ref f))) (hf : PySem.W.typeIn K (.ref f) = some (.type "function"))
    (h : codeAny (model prog w) (A.under (.builtin "type.__call__" ⟨.ref C :: vs, kw⟩)) (.call (.ref f) ⟨.ref (s.heap.objs.size + 1) :: vs, kw⟩) (PySem.W.InitBack (s.heap.objs.size + 1) R)
      { s with heap := (s.heap.push PySem.W.emptyDict).push (PySem.W.instObj C s.heap.objs.size) }) :
    codeAny (model prog w) A (.call (.ref C) ⟨vs, kw⟩) R s := by
  obtain ⟨hh, g, d, t, os⟩ := s
  exact PySem.W.make_core (PySem.W.makes_of X hm) (PySem.W.looks_findIn X hi) (fun self => PySem.W.bind_fn X self hf) (.inl rfl) h
end

def putF (f : Str) (v : V) : List (Str × V) → List (Str × V)
  | [] => [(f, v)]
  | (g, x) :: r => if g = f then (g, v) :: r else (g, x) :: putF f v r
theorem lookup_putF (f g : Str) (v : V) : ∀ fs : List (Str × V), (putF f v fs).lookup g = if g = f then some v else fs.lookup g
  | [] => by
    show List.lookup g [(f, v)] = _
    by_cases h : g = f
    · have hb : (g == f) = true := beq_iff_eq.mpr h
      simp only [List.lookup, hb, if_pos h]
    · have hb : (g == f) = false := beq_eq_false_iff_ne.mpr h
      simp only [List.lookup, hb, if_neg h]
  | (k, x) :: r => by
    have ih := lookup_putF f g v r
    rw [show putF f v ((k, x) :: r) = (if k = f then (k, v) :: r else (k, x) :: putF f v r) from rfl]
    by_cases hk : k = f
    · rw [if_pos hk]
      by_cases h : g = k
      · have hb : (g == k) = true := beq_iff_eq.mpr h
        simp only [List.lookup, hb, if_pos (h.trans hk)]
      · have hb : (g == k) = false := beq_eq_false_iff_ne.mpr h
        simp only [List.lookup, hb, if_neg (fun e : g = f => h (e.trans hk.symm))]
    · rw [if_neg hk]
      by_cases h : g = k
      · have hb : (g == k) = true := beq_iff_eq.mpr h
        simp only [List.lookup, hb, if_neg (fun e : g = f => hk (h.symm.trans e))]
      · have hb : (g == k) = false := beq_eq_false_iff_ne.mpr h
        simp only [List.lookup, hb]
        exact ih
theorem keys_putF (f : Str) (v : V) : ∀ fs : List (Str × V), f ∈ (putF f v fs).map (·.1) ∧ ∀ g, g ∈ fs.map (·.1) → g ∈ (putF f v fs).map (·.1)
  | [] => ⟨by simp [putF], fun g h => by simp at h⟩
  | (k, x) :: r => by
    obtain ⟨i1, i2⟩ := keys_putF f v r
    rw [show putF f v ((k, x) :: r) = (if k = f then (k, v) :: r else (k, x) :: putF f v r) from rfl]
    by_cases hk : k = f
    · rw [if_pos hk]
      subst hk
      exact ⟨by simp, fun g h => by simpa using h⟩
    · rw [if_neg hk]
      refine ⟨?_, fun g h => ?_⟩
      · rw [List.map_cons]
        exact List.mem_cons_of_mem _ i1
      · rw [List.map_cons] at h ⊢
        rcases List.mem_cons.mp h with e | e
        · exact List.mem_cons.mpr (.inl e)
        · exact List.mem_cons_of_mem _ (i2 g e)
theorem length_putF (f : Str) (v : V) : ∀ fs : List (Str × V), (putF f v fs).length ≤ fs.length + 1
  | [] => by simp [putF]
  | (k, x) :: r => by
    have ih := length_putF f v r
    rw [show putF f v ((k, x) :: r) = (if k = f then (k, v) :: r else (k, x) :: putF f v r) from rfl]
    by_cases hk : k = f
    · rw [if_pos hk, List.length_cons, List.length_cons]; (first | lia | omega)
    · rw [if_neg hk, List.length_cons, List.length_cons]; (first | lia | omega)

theorem RelO.some_of {v : V} {o : Option Value} (r : RelO (some v) o) : ∃ u, o = some u ∧ RelV v u := by
  cases o with
  | none => exact (show False from r).elim
  | some u => exact ⟨u, rfl, r⟩
theorem RelO.none_of {o : Option Value} (r : RelO none o) : o = none := by
  cases o with
  | none => rfl
  | some u => exact (show False from r).elim
theorem handed_of {v : V} {u : Value} (r : RelV v u) : PySem.W.handedIn u = true := by
  cases v with
  | non => cases (show u = Value.none from r); rfl
  | bl b => cases (show u = Value.bool b from r); rfl
  | int i => obtain ⟨t, e⟩ := (show ∃ t, u = Value.int i t from r); cases e; rfl
  | str x => obtain ⟨t, e⟩ := (show ∃ t, u = Value.str x t from r); cases e; rfl
  | byt b => obtain ⟨t, e⟩ := (show ∃ t, u = Value.bytes b t from r); cases e; rfl
  | flt b => obtain ⟨t, e⟩ := (show ∃ t, u = Value.float b t from r); cases e; rfl
  | ref a => cases (show u = Value.ref a from r); rfl
  | ty n => cases (show u = Value.type n from r); rfl

section
variable {P : Program} {w : World} {H H' : Hp} {h h' : Heap} {a C dx : Addr} {fs fs' : List (Str × V)}
theorem ins_get (hok : HOk P w H h) (e : H a = some (.ins C dx fs)) : ∃ mA, ObjM h a dx C mA ∧ (∀ f, RelO (fs.lookup f) (mA f)) ∧ PySem.Within mA (fs.map (·.1)) ∧ fs.length ≤ 1000 ∧ H dx = some (.own a) := by
  obtain ⟨d, z, ne, ob, mA, n, r, q⟩ := (show ObjOk P w H h a (.ins C dx fs) from hok a _ e)
  exact ⟨mA, ⟨ob, n, ne⟩, r, q, z, d⟩
end

structure Cls (K : PySem.W.Frag) (C : Addr) : Prop where
  pg : PySem.W.plainGet K C Str.empty = true
  hd : PySem.W.hasDictIn K C = true
  po : PySem.W.plainOver K C = true
  sa : PySem.W.findIn K (.ref C) "__setattr__" = some (some (.builtin "object.__setattr__"))
theorem Cls.get {K : PySem.W.Frag} {C : Addr} (c : Cls K C) (f : Str) : PySem.W.plainGet K C f = true := c.pg
def NoAttr (K : PySem.W.Frag) (C : Addr) (f : Str) : Prop := PySem.W.findIn K (.ref C) f = some none
theorem NoAttr.taker {K : PySem.W.Frag} {C : Addr} {f : Str} (n : NoAttr K C f) : PySem.W.takerIn K C f = some none := by
  unfold PySem.W.takerIn
  rw [show PySem.W.findIn K (.ref C) f = some none from n]
  rfl
structure Meth (K : PySem.W.Frag) (C : Addr) (m : Str) (f : Addr) : Prop where
  at_ : PySem.W.findIn K (.ref C) m = some (some (.ref f))
  fn : PySem.W.isFn K (.ref f) = true
  kp : PySem.W.keepIn K (.ref f) = true

section
variable {X : Cx} {pins : List (Addr × Obj)} {σ : St} {H : Hp} {s : Shared} {a C dx : Addr} {fs : List (Str × V)} {f : Str} {v : V} {A : Around} {E : Value → Shared → Prop}

theorem getattr_ok {b : Bool} {Q : Value → Shared → Prop} (I : Inv X pins σ H s) (e : H a = some (.ins C dx fs)) (c : Cls X.K C) (n : NoAttr X.K C f) (l : fs.lookup f = some v)
    (h : ∀ u s', Inv X pins σ H s' → RelV v u → Q u s') : wpAny (model X.prog X.w) A (getAttr (.ref a) f b) Q E s := by
  obtain ⟨mA, O, r, _, _, _⟩ := ins_get I.hok e
  obtain ⟨u, hu, ru⟩ := RelO.some_of (v := v) (o := mA f) (by rw [← l]; exact r f)
  exact get_map I.kIn O (c.get f) c.hd n hu (handed_of ru) (h u _ (I.tok _) ru)

theorem getmeth_ok {m : Str} {g : Addr} {pl : Sem Bool} {Q : Value × List Value → Shared → Prop} (I : Inv X pins σ H s) (e : H a = some (.ins C dx fs)) (c : Cls X.K C) (k : Meth X.K C m g) (l : fs.lookup m = none)
    (h : Q (.ref g, [.ref a]) s) : wpAny (model X.prog X.w) A (getMethod (.ref a) m pl) Q E s := by
  obtain ⟨mA, O, r, _, _, _⟩ := ins_get I.hok e
  have hn : mA m = none := RelO.none_of (by rw [← l]; exact r m)
  exact get_meth I.kIn O (c.get m) k.at_ k.fn hn h

theorem setattr_ok {y : V} {u : Value} {Q : Unit → Shared → Prop} (I : Inv X pins σ H s) (e : H a = some (.ins C dx fs)) (c : Cls X.K C) (n : NoAttr X.K C f) (hl : fs.length < 1000) (ry : RelV y u)
    (h : ∀ s', Inv X pins σ (upd H a (.ins C dx (putF f y fs))) s' → Q () s') : wpAny (model X.prog X.w) A (setAttr (.ref a) f u) Q E s := by
  obtain ⟨mA, O, r, wi, _, ho⟩ := ins_get I.hok e
  have hz : (fs.map (·.1)).length ≤ sizeLine := by rw [List.length_map, sizeLine_eq]; (first | lia | omega)
  refine set_map I.kIn O c.sa c.po n.taker c.hd wi hz fun h' O' sb => h _ ?_
  have hd : ∃ o, h'.get? dx = some o := let ⟨o, _, _, e', _⟩ := O'.ns; ⟨o, e'⟩
  refine I.write (x := a) (e := dx) (by rw [e]; exact True.intro) (.inr ho) (fun b q hb z => (sb.2 b hb).trans z) hd ?_
  refine ⟨by rw [upd_ne O.ne]; exact ho, ?_, O.ne, O'.obj, _, O'.ns, fun g => ?_, fun g hg => ?_⟩
  · have := length_putF f y fs; (first | lia | omega)
  · show RelO ((putF f y fs).lookup g) (if g = f then some u else mA g)
    rw [lookup_putF]
    by_cases q : g = f
    · rw [if_pos q, if_pos q]; exact ry
    · rw [if_neg q, if_neg q]; exact r g
  · by_cases q : g = f
    · rw [q]; exact (keys_putF f y fs).1
    · refine (keys_putF f y fs).2 g (wi g fun z => hg ?_)
      show (if g = f then some u else mA g) = none
      rw [if_neg q]; exact z

theorem Inv.made (I : Inv X pins σ H s) : Inv X pins σ (upd (upd H s.heap.objs.size (.own (s.heap.objs.size + 1))) (s.heap.objs.size + 1) (.ins C s.heap.objs.size []))
    { s with heap := (s.heap.push PySem.W.emptyDict).push (PySem.W.instObj C s.heap.objs.size) } := by
  have e1 : (s.heap.push PySem.W.emptyDict).get? s.heap.objs.size = some PySem.W.emptyDict := Heap.get?_push_size s.heap rfl
  have e2 : ((s.heap.push PySem.W.emptyDict).push (PySem.W.instObj C s.heap.objs.size)).get? (s.heap.objs.size + 1) = some (PySem.W.instObj C s.heap.objs.size) := by
    have := Heap.get?_push_size (s.heap.push PySem.W.emptyDict) (o := PySem.W.instObj C s.heap.objs.size) rfl
    rwa [Heap.size_push] at this
  have e3 : (s.heap.push PySem.W.emptyDict).Ns s.heap.objs.size (fun _ => none) := ⟨PySem.W.emptyDict, #[], _, e1, rfl, (fun e he => absurd he (by simp)), fun _ => rfl⟩
  have I1 := I.laid (a := s.heap.objs.size) (o := .own (s.heap.objs.size + 1)) (h' := s.heap.push PySem.W.emptyDict) (t' := s.toks) (fun b u q => Heap.get?_push_of_some _ q) (Nat.le_refl _) ⟨_, e1⟩
  refine I1.laid (a := s.heap.objs.size + 1) (o := .ins C s.heap.objs.size []) (t' := s.toks) (fun b u q => Heap.get?_push_of_some _ q) (Nat.le_of_eq (Heap.size_push _ _)) ?_
  have ne : s.heap.objs.size ≠ s.heap.objs.size + 1 := Nat.ne_of_lt (Nat.lt_succ_self _)
  refine ⟨by rw [upd_ne ne, upd_same], Nat.zero_le _, ne, e2, fun _ => none, (Heap.Ns1.of_empty e3).at fun o q => Heap.get?_push_of_some _ q, fun _ => True.intro, fun y hy => absurd rfl hy⟩

theorem attr_of {prog : Program} {w : World} {env : Env} {e : Expr} {f : Str} {pos : Pos} {s : Shared} {Q : Value → Shared → Prop} (hb : attributeBase e f env (eval e env) = eval e env)
    (h : wpAny (model prog w) A (eval e env) (fun o s₁ => wpAny (model prog w) A (getAttr o f true) Q E s₁) E s) : wpAny (model prog w) A (eval (.Attribute e f pos) env) Q E s :=
  Attribute_any_ h (by rw [arm_eval_Attribute, hb])
end

inductive OfFld (K : PySem.W.Frag) (f : Str) (x : V) (H : Hp) (Q : VK) : Prop
  | mk (a C dx : Addr) (fs : List (Str × V)) (v : V) (e : x = .ref a) (h : H a = some (.ins C dx fs)) (c : Cls K C) (n : NoAttr K C f) (l : fs.lookup f = some v) (q : Q v H) : OfFld K f x H Q
def tFld (K : PySem.W.Frag) (ta : TE) (f : Str) : TE := fun σ H Q => ta σ H fun x H1 => OfFld K f x H1 Q
def sFld (K : PySem.W.Frag) (ta tv : TE) (f : Str) : TS := fun D σ H => tv σ H fun y H1 => ta σ H1 fun x H2 => ∃ a C dx fs, x = .ref a ∧ H2 a = some (.ins C dx fs) ∧ Cls K C ∧ NoAttr K C f ∧ fs.length < 1000 ∧
  D.nx σ (upd H2 a (.ins C dx (putF f y fs)))
section
variable {X : Cx} {o e value : Expr} {f : Str} {pos pos' tpos : Pos} {ta tv : TE}
theorem pe_fld (he : PE X e ta) (hb : attributeBase e f X.env (eval e X.env) = eval e X.env) : PE X (.Attribute e f pos) (tFld X.K ta f) := by
  intro pins s σ H Q I h
  refine attr_of hb (thn (he pins s σ H _ I h) fun u s1 ⟨x, H1, I1, rx, a, C, dx, fs, v, ex, ea, c, n, l, q⟩ => ?_)
  subst ex
  obtain rfl : u = Value.ref a := rx
  exact getattr_ok I1 ea c n l fun u' s2 I2 ru => ⟨v, H1, I2, ru, q⟩
theorem ps_fld (ha : PE X o ta) (hv : PE X value tv) (hs : swapsWith value (some (.Attribute o f pos')) pos.line X.env = pure false) : PS X (.Assign [.Attribute o f pos'] value pos) (sFld X.K ta tv f) := by
  intro pins s σ H D I h
  refine plainObj_wpAny_Assign_Attribute (thn (hv pins s σ H _ I h) fun u s1 ⟨y, H1, I1, ry, q⟩ => thn (ha pins s1 σ H1 _ I1 q) fun ov s2 ⟨x, H2, I2, rx, a, C, dx, fs, ex, ea, c, n, l, q2⟩ => ?_) hs
  subst ex
  obtain rfl : ov = Value.ref a := rx
  exact setattr_ok I2 ea c n l ry fun s3 I3 => ⟨σ, _, I3, q2⟩
end

section
variable {X : Cx} {pins : List (Addr × Obj)} {σ : St} {H : Hp} {s : Shared} {A : Around} {E : Value → Shared → Prop} {Q : Value → Shared → Prop} {c : Value} {b : Bool}
inductive TyOf (K : PySem.W.Frag) (H : Hp) : V → Value → Prop where
  | non : TyOf K H .non (.type "NoneType")
  | bl (x : Bool) : TyOf K H (.bl x) (.type "bool")
  | int (i : Int) : TyOf K H (.int i) (.type "int")
  | str (x : Str) : TyOf K H (.str x) (.type "str")
  | flt (x : UInt64) : TyOf K H (.flt x) (.type "float")
  | lst {a : Addr} {xs : List V} (e : H a = some (.lst xs)) : TyOf K H (.ref a) (.type "list")
  | frz {a : Addr} {o : Obj} {xs : List V} (e : H a = some (.frz o (.lst xs))) : TyOf K H (.ref a) (.type "list")
  | tup {a : Addr} {xs : List V} (e : H a = some (.tup xs)) : TyOf K H (.ref a) (.type "tuple")
  | dK {a : Addr} {kvs : List (Key × V)} (e : H a = some (.dK kvs)) : TyOf K H (.ref a) (.type "dict")
  | dT {a : Addr} {kvs : List (List Key × V)} (e : H a = some (.dT kvs)) : TyOf K H (.ref a) (.type "dict")
  | ins {a C dx : Addr} {fs : List (Str × V)} (e : H a = some (.ins C dx fs)) (cl : Cls K C) (ha : PySem.W.findIn K (.ref C) "__class__" = some (some (.builtin "object.__class__")))
      (hn : PySem.W.specialIn K (.builtin "object.__class__") "__get__" = some (some (.builtin "getset_descriptor.__get__"))) (htk : PySem.W.takesIn K (.builtin "object.__class__") = some true)
      (hm : PySem.W.mroIn K C (.type "object") = some true) : TyOf K H (.ref a) (.ref C)
theorem isinst_ok {x : V} {u t : Value} (I : Inv X pins σ H s) (rx : RelV x u) (ty : TyOf X.K H x t) (e : PySem.W.kitOne X.K t c = some b) (h : ∀ tk, Q (.bool b) { s with toks := tk }) :
    wpAny (model X.prog X.w) A (call (.builtin "isinstance") [u, c]) Q E s := by
  cases ty with
  | non => cases (show u = Value.none from rx); exact PySem.W.kia_one PySem.W.kitx_none I.kIn True.intro e (fun z => nomatch z) h
  | bl y => cases (show u = Value.bool y from rx); exact PySem.W.kia_one PySem.W.kitx_bool I.kIn True.intro e (fun z => nomatch z) h
  | int i => obtain ⟨t, q⟩ := (show ∃ t, u = Value.int i t from rx); cases q; exact PySem.W.kia_one PySem.W.kitx_int I.kIn True.intro e (fun z => nomatch z) h
  | str y => obtain ⟨t, q⟩ := (show ∃ t, u = Value.str y t from rx); cases q; exact PySem.W.kia_one PySem.W.kitx_str I.kIn True.intro e (fun z => nomatch z) h
  | flt y => obtain ⟨t, q⟩ := (show ∃ t, u = Value.float y t from rx); cases q; exact PySem.W.kia_one PySem.W.kitx_float I.kIn True.intro e (fun z => nomatch z) h
  | @lst a xs ea =>
    cases (show u = Value.ref a from rx)
    obtain ⟨_, _, n, _, h1⟩ := (show ObjOk X.prog X.w H s.heap a (.lst xs) from I.hok a _ ea)
    exact PySem.W.kia_one PySem.W.kitx_list I.kIn ⟨_, h1, rfl⟩ e (fun z => nomatch z) h
  | @frz a ob xs ea =>
    cases (show u = Value.ref a from rx)
    obtain ⟨_, _, _, n, _, h1⟩ := (show ObjOk X.prog X.w H s.heap a (.frz ob (.lst xs)) from I.hok a _ ea)
    exact PySem.W.kia_one PySem.W.kitx_list I.kIn ⟨_, h1, rfl⟩ e (fun z => nomatch z) h
  | @tup a xs ea =>
    cases (show u = Value.ref a from rx)
    obtain ⟨_, _, _, p⟩ := (show ObjOk X.prog X.w H s.heap a (.tup xs) from I.hok a _ ea)
    obtain ⟨o, h1, h2, _⟩ := p
    exact PySem.W.kia_one PySem.W.kitx_tuple I.kIn ⟨o, h1, h2⟩ e (fun z => nomatch z) h
  | @dK a kvs ea =>
    cases (show u = Value.ref a from rx)
    obtain ⟨_, _, vs, _, p⟩ := (show ObjOk X.prog X.w H s.heap a (.dK kvs) from I.hok a _ ea)
    obtain ⟨o, es, ep, h1, h2, _⟩ := p
    exact PySem.W.kia_one PySem.W.kitx_dict I.kIn ⟨o, h1, h2.1⟩ e (fun z => nomatch z) h
  | @dT a kvs ea =>
    cases (show u = Value.ref a from rx)
    obtain ⟨_, _, xs, _, o, es, ep, h1, h2, _⟩ := (show ObjOk X.prog X.w H s.heap a (.dT kvs) from I.hok a _ ea)
    exact PySem.W.kia_one PySem.W.kitx_dict I.kIn ⟨o, h1, h2.1⟩ e (fun z => nomatch z) h
  | @ins a C dx fs ea cl ha hn htk hm =>
    cases (show u = Value.ref a from rx)
    obtain ⟨mA, O, _⟩ := ins_get I.hok ea
    obtain ⟨od, J, _⟩ := O.look
    exact PySem.W.kia_one (PySem.W.kitx_own (cl.get _) cl.hd ha hn htk hm) I.kIn J e (fun z => nomatch z) h
end
end L2

namespace L2
open PySem PySem.Spec PyProof.Rows

structure Room (k : Nat) (A : Around) : Prop where
  hd : A.handled = none
  dp : A.depth + 3 * k + 5 < recursionLimit
  un : A.units + 16 * k + 200 < cLine
  gd : A.guards = some []
theorem Room.mono {j k : Nat} {A : Around} (r : Room k A) (h : j ≤ k) : Room j A := ⟨r.hd, by have := r.dp; (first | lia | omega), by have := r.un; (first | lia | omega), r.gd⟩
theorem Room.deeper {k : Nat} {A : Around} (r : Room (k + 1) A) (env : Env) : Room k (A.deeper env) :=
  ⟨r.hd, by have := r.dp; show A.depth + 1 + 3 * k + 5 < _; (first | lia | omega), by have := r.un; show A.units + 3 + 16 * k + 200 < _; (first | lia | omega), r.gd⟩
theorem make_depth {A : Around} {C : Addr} {us : List Value} {kw : List (Str × Value)} : (A.under (.builtin "type.__call__" ⟨.ref C :: us, kw⟩)).depth = A.depth + 1 := by
  first | rfl | simp [Around.under, Code.weight, Code.isCreation, Code.isGuard, Code.isCaller, Code.frames, Code.isFrame, guardIds]
theorem make_units {A : Around} {C : Addr} {us : List Value} {kw : List (Str × Value)} : (A.under (.builtin "type.__call__" ⟨.ref C :: us, kw⟩)).units = A.units + 1 := by
  first | rfl | simp [Around.under, Code.cUnits, Code.frames, Code.isFrame]
theorem make_guards {A : Around} {C : Addr} {us : List Value} {kw : List (Str × Value)} : (A.under (.builtin "type.__call__" ⟨.ref C :: us, kw⟩)).guards = A.guards := by
  first | rfl | (simp [Around.under, Code.guards, Code.isGuard, guardIds, pushGuards])
theorem Room.make {k : Nat} {A : Around} (r : Room (k + 1) A) (C : Addr) (us : List Value) (kw : List (Str × Value)) : Room k (A.under (.builtin "type.__call__" ⟨.ref C :: us, kw⟩)) :=
  ⟨r.hd, by have := r.dp; rw [make_depth]; (first | lia | omega), by have := r.un; rw [make_units]; (first | lia | omega), by rw [make_guards]; exact r.gd⟩
theorem Room.depth {k : Nat} {A : Around} (r : Room k A) : A.depth < recursionLimit := by have := r.dp; (first | lia | omega)
theorem Room.units {k : Nat} {A : Around} (r : Room k A) : A.units + 64 < cLine := by have := r.un; (first | lia | omega)
theorem Room.units0 {k : Nat} {A : Around} (r : Room k A) : A.units < cLine := by have := r.un; (first | lia | omega)

def tNil : TA := fun _ H Q => Q [] H
def tCons (ta : TE) (tr : TA) : TA := fun σ H Q => ta σ H fun x H1 => tr σ H1 fun xs H2 => Q (x :: xs) H2
section
variable {X : Cx} {e : Expr} {es : List Expr} {te : TE} {t : TA} {pos : Pos}
theorem pa_nil : PA X [] tNil := fun _ _ _ _ H Q I h => Calls.spliced_nil ⟨[], H, I, .nil, h⟩
theorem pa_cons (ha : PE X e te) (hr : PA X es t) (hs : starEach (e :: es) X.env = (false, eval e X.env) :: starEach es X.env := by rfl) : PA X (e :: es) (tCons te t) := by
  intro pos pins s σ H Q I h
  rw [hs]
  show wpAny _ _ (spliced ((false, eval e X.env) :: backTo pos (starEach es X.env))) _ _ s
  refine Calls.spliced_cons (thn (ha pins s σ H _ I h) fun u s1 ⟨x, H1, I1, r1, q1⟩ => ?_)
  exact thn (hr pos pins s1 σ H1 _ I1 q1) fun us s2 ⟨xs, H2, I2, r2, q2⟩ => ⟨x :: xs, H2, I2, .cons r1 r2, q2⟩

def tTup (t : TA) : TE := fun σ H Q => t σ H fun xs H1 => NewOb xs.length (.tup xs) H1 Q
def tLst (t : TA) : TE := fun σ H Q => t σ H fun xs H1 => NewOb xs.length (.lst xs) H1 Q
theorem pe_tup {x1} (h : PA X es t) : PE X (.Tuple es x1 pos) (tTup t) := by
  intro pins s σ H Q I hq
  refine wpAny_Tuple_spliced (thn (h pos pins s σ H _ I hq) fun us s1 ⟨xs, H1, I1, r, z, q⟩ => ⟨by rw [← r.length]; exact z, ?_⟩)
  have hf : H1 s1.heap.objs.size = none := I1.hok.fresh (Nat.le_refl _)
  refine ⟨.ref s1.heap.objs.size, upd H1 s1.heap.objs.size (.tup xs), I1.laid (t' := s1.toks) (fun b u e => Heap.get?_push_of_some _ e) (Nat.le_refl _) ?_, rfl, q _ hf⟩
  exact ⟨z, us, r, ⟨_, Heap.get?_push_size _ rfl, rfl, _, rfl, rfl⟩⟩
theorem pe_lst (h : PA X es t) : PE X (.List es pos) (tLst t) := by
  intro pins s σ H Q I hq
  refine wpAny_List_spliced (thn (h pos pins s σ H _ I hq) fun us s1 ⟨xs, H1, I1, r, z, q⟩ => ⟨by rw [← r.length]; exact z, ?_⟩)
  have hf : H1 s1.heap.objs.size = none := I1.hok.fresh (Nat.le_refl _)
  refine ⟨.ref s1.heap.objs.size, upd H1 s1.heap.objs.size (.lst xs), I1.laid (t' := s1.toks) (fun b u e => Heap.get?_push_of_some _ e) (Nat.le_refl _) ?_, rfl, q _ hf⟩
  exact ⟨z, us, 0, r, Heap.get?_push_size _ rfl⟩
end

abbrev Sp := List V → Hp → VK → XK → Prop
abbrev CXT := List Env → Hp → Shared → XK → Value → Shared → Prop

structure Env0 (P : Program) (w : World) (K : PySem.W.Frag) (mg : Str → Option Value) (base : Heap) (A : Around) (outer : List Env) (s : Shared) (H : Hp) : Prop where
  frames : A.frames = some outer
  mod : Mod K mg base
  bs : ∀ b o, base.get? b = some o → s.heap.get? b = some o ∧ H b = none
  bsz : base.objs.size ≤ s.heap.objs.size
  funs : s.heap.FunFrames base outer
  frf : ∀ b ∈ frs outer, H b = none
  hok : HOk P w H s.heap
  bare : AllBare s.gens
def CE (outer : List Env) (P : Program) (w : World) (H : Hp) (s : Shared) (Q : VK) (u : Value) (s' : Shared) : Prop :=
  ∃ v H', s'.os = s.os ∧ AllBare s'.gens ∧ Un (frs outer) [] H H' s.heap s'.heap ∧ HOk P w H' s'.heap ∧ RelV v u ∧ Q v H'
def CR (CX : CXT) (outer : List Env) (P : Program) (w : World) (H : Hp) (s : Shared) (Q : VK) (E : XK) (r : Result) (s' : Shared) : Prop :=
  match r with
  | .ok (.ret u) => CE outer P w H s Q u s'
  | .ok _ => False
  | .error e => CX outer H s E e s'
structure FnOk (P : Program) (w : World) (K : PySem.W.Frag) (mg : Str → Option Value) (base : Heap) (CX : CXT) (k : Nat) (f : Addr) (fd : FuncData) (ps : List Str) (sp : Sp) : Prop where
  len : ∀ vs H Q E, sp vs H Q E → vs.length = ps.length
  run : ∀ (A : Around) (outer : List Env) (s : Shared) (H : Hp) (args : Args) (us : List Value) (vs : List V) (Q : VK) (E : XK), Room k A → Env0 P w K mg base A outer s H → BindsTo s fd args (ps.zip us) → Vals vs us → sp vs H Q E →
    codeAny (model P w) A (.call (.ref f) args) (CR CX outer P w H s Q E) s
theorem FnOk.mono {P : Program} {w : World} {K : PySem.W.Frag} {mg : Str → Option Value} {base : Heap} {CX : CXT} {j k : Nat} {f : Addr} {fd : FuncData} {ps : List Str} {sp : Sp} (F : FnOk P w K mg base CX j f fd ps sp) (h : j ≤ k) :
    FnOk P w K mg base CX k f fd ps sp := ⟨F.len, fun A outer s H args us vs Q E hr => F.run A outer s H args us vs Q E (hr.mono h)⟩
theorem Env0.make {P : Program} {w : World} {K : PySem.W.Frag} {mg : Str → Option Value} {base : Heap} {A : Around} {outer : List Env} {s : Shared} {H : Hp} (e : Env0 P w K mg base A outer s H) (C : Addr) (us : List Value) (kw : List (Str × Value)) :
    Env0 P w K mg base (A.under (.builtin "type.__call__" ⟨.ref C :: us, kw⟩)) outer s H := ⟨by first | exact e.frames | (simpa [Around.under, Code.envs, Code.isFrame, pushEnvs] using e.frames), e.mod, e.bs, e.bsz, e.funs, e.frf, e.hok, e.bare⟩
section
variable {X : Cx} {pins : List (Addr × Obj)} {σ : St} {H : Hp} {s s' : Shared}
theorem Inv.env0 (I : Inv X pins σ H s) : Env0 X.prog X.w X.K X.mg X.base X.A X.stack s H :=
  ⟨I.ok.frames, I.ok.mod, I.bs, Nat.le_trans I.ok.bsz I.sz, I.stack, I.stkFree, I.hok, I.bare⟩
theorem Inv.after {Q : VK} {u : Value} (I : Inv X pins σ H s) (h : CE X.stack X.prog X.w H s Q u s') : EP X pins σ Q u s' := by
  obtain ⟨v, H', os, bare, un, hok, r, q⟩ := h
  obtain ⟨hh, g, d, t, os'⟩ := s'
  obtain rfl : os' = s.os := os
  exact ⟨v, H', I.call (h' := hh) (g' := g) (d' := d) (t' := t) (ch := []) un hok bare (fun b z => absurd z (by simp)), r, q⟩
end

def tCall (sp : Sp) (dvs : List V) (E : XK) (t : TA) : TE := fun σ H Q => t σ H fun vs H1 => sp (vs ++ dvs) H1 Q E
inductive OfIns (C : Addr) (m : Str) (x : V) (H : Hp) (Q : Prop) : Prop
  | mk (a dx : Addr) (fs : List (Str × V)) (e : x = .ref a) (h : H a = some (.ins C dx fs)) (n : fs.lookup m = none) (q : Q) : OfIns C m x H Q
def tMeth (C : Addr) (m : Str) (sp : Sp) (dvs : List V) (E : XK) (ta : TE) (t : TA) : TE := fun σ H Q => ta σ H fun x H1 => OfIns C m x H1 (t σ H1 fun vs H2 => sp (x :: (vs ++ dvs)) H2 Q E)
def tMake (C : Addr) (sp : Sp) (dvs : List V) (E : XK) (t : TA) : TE := fun σ H Q => t σ H fun vs H1 => ∀ x dx, H1 x = none → H1 dx = none → dx ≠ x →
  sp (.ref x :: (vs ++ dvs)) (upd (upd H1 dx (.own x)) x (.ins C dx [])) (fun v H2 => v = .non ∧ Q (.ref x) H2) E

def Binds (K : PySem.W.Frag) (fd : FuncData) (ps : List Str) (ds : List Value) : Prop :=
  ∀ (s : Shared) (us : List Value), K.In s.heap → (us ++ ds).length = ps.length → BindsTo s fd ⟨us, []⟩ (ps.zip (us ++ ds))
theorem Binds.all {K : PySem.W.Frag} {fd : FuncData} {ps : List Str} (h : ∀ us : List Value, us.length = ps.length → bindArgs fd ⟨us, []⟩ = pure (ps.zip us)) : Binds K fd ps [] := fun s us _ hl => by
  rw [List.append_nil] at hl ⊢
  exact .of_eq (h us hl)

def Passes (CX : CXT) (X : Cx) (E : XK) : Prop := ∀ (pins : List (Addr × Obj)) (σ : St) (H : Hp) (s : Shared) (e : Value) (s' : Shared), Inv X pins σ H s → CX X.stack H s E e s' → X.xe e s'

section
variable {X : Cx} {CX : CXT} {k : Nat} {f C : Addr} {fd : FuncData} {ps : List Str} {sp : Sp} {dvs : List V} {ds : List Value} {E : XK} {x m : Str} {p pos apos : Pos} {e o : Expr} {es : List Expr} {ta : TE} {t : TA}

theorem run_fn {pins : List (Addr × Obj)} {σ : St} {H : Hp} {s : Shared} {Q : VK} {us : List Value} {vs : List V} (F : FnOk X.prog X.w X.K X.mg X.base CX k f fd ps sp) (hr : Room k X.A) (hb : Binds X.K fd ps ds) (hd : Vals dvs ds) (hx : Passes CX X E)
    (I : Inv X pins σ H s) (r : Vals vs us) (h : sp (vs ++ dvs) H Q E) : wpAny (model X.prog X.w) X.A (call (.ref f) us) (EP X pins σ Q) X.xe s := by
  have r2 : Vals (vs ++ dvs) (us ++ ds) := r.append hd
  have hl : (us ++ ds).length = ps.length := by rw [← r2.length]; exact F.len _ _ _ _ h
  refine wpAny_call (codeAny_mono (F.run X.A X.stack s H ⟨us, []⟩ (us ++ ds) (vs ++ dvs) Q E hr I.env0 (hb s us I.kIn hl) r2 h) fun r s' hq => ?_)
  cases r with
  | error e => exact hx pins σ H s e s' I hq
  | ok fl =>
    cases fl with
    | ret u => exact I.after hq
    | next => exact False.elim hq
    | brk => exact False.elim hq
    | cont => exact False.elim hq

theorem pe_call (F : FnOk X.prog X.w X.K X.mg X.base CX k f fd ps sp) (hr : Room k X.A) (hg : Gl X x) (hm : X.mg x = some (.ref f)) (hk : PySem.W.keepIn X.K (.ref f) = true) (hb : Binds X.K fd ps ds) (hd : Vals dvs ds) (hx : Passes CX X E)
    (ha : PA X (e :: es) t) (hdb : (x == ("__debug__" : Str)) = false := by decide) (he : starEach (e :: es) X.env = (false, eval e X.env) :: starEach es X.env := by rfl) (hpl : (backTo pos (starEach es X.env)).any (·.1) = false := by rfl) :
    PE X (.Call (.Name x p) (e :: es) [] pos) (tCall sp dvs E t) := by
  intro pins s σ H Q I h
  refine wpAny_Call_Name_kw (ld_glob I hg hm ?_ hdb)
  refine PySem.W.callWith_K (h₀ := X.base) I.ok.mod.kin hk (thn (ha pos pins s σ H _ I h) fun us s1 ⟨vs, H1, I1, r, q⟩ => ⟨I1.kIn, ?_⟩) he hpl
  exact run_fn F hr hb hd hx I1 r q
theorem pe_meth {pl : Sem Bool} (he : PE X o ta) (c : Cls X.K C) (hm : Meth X.K C m f) (F : FnOk X.prog X.w X.K X.mg X.base CX k f fd ps sp) (hr : Room k X.A) (hb : Binds X.K fd ps ds) (hd : Vals dvs ds) (hx : Passes CX X E) (ha : PA X (e :: es) t)
    (hst : starEach (e :: es) X.env = (false, eval e X.env) :: starEach es X.env := by rfl) (hpl : (backTo pos (starEach es X.env)).any (·.1) = false := by rfl)
    (ht : eval (.Call (.Attribute o m apos) (e :: es) [] pos) X.env = (do
      let ov ← eval o X.env
      standAt apos.atName
      let (f, first) ← holding [ov] (getMethod ov m pl)
      callWith pos f first (backTo pos (starEach (e :: es) X.env)) (backToKw pos (keywordEach [] X.env))) := by rfl) :
    PE X (.Call (.Attribute o m apos) (e :: es) [] pos) (tMeth C m sp dvs E ta t) := by
  intro pins s σ H Q I h
  refine PySem.W.methodCall_KW (pl := pl) (thn (he pins s σ H _ I h) fun u s1 ⟨x, H1, I1, rx, a, dx, fs, ex, ea, l, q⟩ => ?_) ht
  subst ex
  obtain rfl : u = Value.ref a := rx
  refine getmeth_ok I1 ea c hm l ?_
  refine PySem.W.callWith_K (first := [.ref a]) (h₀ := X.base) I.ok.mod.kin hm.kp (thn (ha pos pins s1 σ H1 _ I1 q) fun us s2 ⟨vs, H2, I2, r, q2⟩ => ⟨I2.kIn, ?_⟩) hst hpl
  exact run_fn (us := .ref a :: us) (vs := .ref a :: vs) F hr hb hd hx I2 (.cons rfl r) q2
theorem pe_meth0 {pl : Sem Bool} (he : PE X o ta) (c : Cls X.K C) (hm : Meth X.K C m f) (F : FnOk X.prog X.w X.K X.mg X.base CX k f fd ps sp) (hr : Room k X.A) (hb : Binds X.K fd ps ds) (hd : Vals dvs ds) (hx : Passes CX X E)
    (ht : eval (.Call (.Attribute o m apos) [] [] pos) X.env = (do
      let ov ← eval o X.env
      standAt apos.atName
      let (f, first) ← holding [ov] (getMethod ov m pl)
      callWith pos f first (backTo pos (starEach [] X.env)) (backToKw pos (keywordEach [] X.env))) := by rfl) :
    PE X (.Call (.Attribute o m apos) [] [] pos) (tMeth C m sp dvs E ta tNil) := by
  intro pins s σ H Q I h
  refine PySem.W.methodCall_KW (pl := pl) (thn (he pins s σ H _ I h) fun u s1 ⟨x, H1, I1, rx, a, dx, fs, ex, ea, l, q⟩ => ?_) ht
  subst ex
  obtain rfl : u = Value.ref a := rx
  refine getmeth_ok I1 ea c hm l ?_
  exact PySem.W.callWith_K0 (first := [.ref a]) I1.kIn hm.kp (run_fn (us := [.ref a]) (vs := [.ref a]) F hr hb hd hx I1 (.cons rfl .nil) q)

structure Mk (K : PySem.W.Frag) (C f : Addr) : Prop where
  makes : PySem.W.makesIn K C = true
  init : PySem.W.findIn K (.ref C) "__init__" = some (some (.ref f))
  fn : PySem.W.isFn K (.ref f) = true
  kp : PySem.W.keepIn K (.ref C) = true

theorem run_make {pins : List (Addr × Obj)} {σ : St} {H : Hp} {s : Shared} {Q : VK} {us : List Value} {vs : List V} (M : Mk X.K C f) (F : FnOk X.prog X.w X.K X.mg X.base CX k f fd ps sp) (hr : Room (k + 1) X.A) (hb : Binds X.K fd ps ds) (hd : Vals dvs ds)
    (hx : Passes CX X E) (I : Inv X pins σ H s) (r : Vals vs us)
    (h : ∀ x dx, H x = none → H dx = none → dx ≠ x → sp (.ref x :: (vs ++ dvs)) (upd (upd H dx (.own x)) x (.ins C dx [])) (fun v H2 => v = .non ∧ Q (.ref x) H2) E) :
    wpAny (model X.prog X.w) X.A (call (.ref C) us) (EP X pins σ Q) X.xe s := by
  have hq := h (s.heap.objs.size + 1) s.heap.objs.size (I.hok.fresh (Nat.le_succ _)) (I.hok.fresh (Nat.le_refl _)) (Nat.ne_of_lt (Nat.lt_succ_self _))
  have I2 := Inv.made (C := C) I
  have r2 : Vals (V.ref (s.heap.objs.size + 1) :: (vs ++ dvs)) (Value.ref (s.heap.objs.size + 1) :: (us ++ ds)) := .cons rfl (r.append hd)
  have hl : (Value.ref (s.heap.objs.size + 1) :: us ++ ds).length = ps.length := by
    have e := r2.length
    rw [F.len _ _ _ _ hq] at e
    exact e.symm
  refine wpAny_call (make_map (f := f) I.kIn M.makes M.init (beq_iff_eq.mp M.fn) (codeAny_mono (F.run _ X.stack _ _ ⟨Value.ref (s.heap.objs.size + 1) :: us, []⟩ (Value.ref (s.heap.objs.size + 1) :: (us ++ ds)) _ _ E (hr.make C us [])
    (I2.env0.make C us []) (hb _ (Value.ref (s.heap.objs.size + 1) :: us) I2.kIn hl) r2 hq) fun r s' hq' => ?_))
  cases r with
  | error e => exact hx pins σ _ _ e s' I2 hq'
  | ok fl =>
    cases fl with
    | ret u =>
      obtain ⟨v, H', I3, rv, ev, q3⟩ := I2.after hq'
      subst ev
      exact ⟨rv, ⟨V.ref (s.heap.objs.size + 1), H', I3, rfl, q3⟩⟩
    | next => exact False.elim hq'
    | brk => exact False.elim hq'
    | cont => exact False.elim hq'
theorem pe_make (M : Mk X.K C f) (F : FnOk X.prog X.w X.K X.mg X.base CX k f fd ps sp) (hr : Room (k + 1) X.A) (hg : Gl X x) (hm : X.mg x = some (.ref C)) (hb : Binds X.K fd ps ds) (hd : Vals dvs ds) (hx : Passes CX X E)
    (ha : PA X (e :: es) t) (hdb : (x == ("__debug__" : Str)) = false := by decide) (he : starEach (e :: es) X.env = (false, eval e X.env) :: starEach es X.env := by rfl) (hpl : (backTo pos (starEach es X.env)).any (·.1) = false := by rfl) :
    PE X (.Call (.Name x p) (e :: es) [] pos) (tMake C sp dvs E t) := by
  intro pins s σ H Q I h
  refine wpAny_Call_Name_kw (ld_glob I hg hm ?_ hdb)
  refine PySem.W.callWith_K (h₀ := X.base) I.ok.mod.kin M.kp (thn (ha pos pins s σ H _ I h) fun us s1 ⟨vs, H1, I1, r, q⟩ => ⟨I1.kIn, ?_⟩) he hpl
  exact run_make M F hr hb hd hx I1 r q
end

section
variable {X : Cx} {CX : CXT} {k : Nat} {f C : Addr} {fd : FuncData} {ps ks : List Str} {sp : Sp} {E : XK} {x m : Str} {p pos apos kpos : Pos} {e o : Expr} {es : List Expr} {kws : List Keyword} {te ta : TE} {t tk : TA} {nm : Option Str}
variable {g : List Value → List Value → List Value} {gV : List V → List V → List V}
end

structure FnScope (N P : List Str) (sc : Scope) : Prop where
  kind : sc.kind = .function
  co : sc.isCoroutine = false
  gen : sc.isGenerator = false
  nd : N.Nodup
  pre : N.take P.length = P
  par : ∀ x ∈ P, sc.names.lookup x = some .local ∨ sc.names.lookup x = some .cell
  nofree : ∀ y ∈ sc.names, y.2 ≠ .free

theorem bindL_out {kindOf : Str → Option NameKind} {x : Str} : ∀ {binds : List (Str × Value)} {m : Str → Option Value}, (∀ v, (x, v) ∉ binds) → bindL kindOf binds m x = m x
  | [], _, _ => rfl
  | (n, v) :: r, m, h => by
    unfold bindL
    rw [bindL_out fun w hw => h w (List.mem_cons_of_mem _ hw)]
    split
    · have : x ≠ n := by rintro rfl; exact h v List.mem_cons_self
      simp [this]
    · rfl
theorem bindC_out {kindOf : Str → Option NameKind} {x : Str} : ∀ {binds : List (Str × Value)} {m : Str → Option Value}, (∀ v, (x, v) ∉ binds) → bindC kindOf binds m x = m x
  | [], _, _ => rfl
  | (n, v) :: r, m, h => by
    unfold bindC
    rw [bindC_out fun w hw => h w (List.mem_cons_of_mem _ hw)]
    split
    · rfl
    · have : x ≠ n := by rintro rfl; exact h v List.mem_cons_self
      simp [this]
theorem bindL_get {kindOf : Str → Option NameKind} {x : Str} {v : Value} : ∀ {P : List Str} {vs : List Value} {i : Nat} {m : Str → Option Value}, P.Nodup → P[i]? = some x → vs[i]? = some v → kindOf x = some .local →
    bindL kindOf (P.zip vs) m x = some v
  | [], _, _, _, _, h, _, _ => by simp at h
  | _ :: _, [], _, _, _, _, h, _ => by simp at h
  | p :: P, w :: vs, 0, m, nd, h1, h2, hk => by
    simp at h1 h2; subst h1; subst h2
    show bindL kindOf ((p, w) :: P.zip vs) m p = _
    unfold bindL
    rw [bindL_out fun v hv => (List.nodup_cons.mp nd).1 (List.of_mem_zip hv).1, if_pos hk]
    simp
  | p :: P, w :: vs, i + 1, m, nd, h1, h2, hk => by
    show bindL kindOf ((p, w) :: P.zip vs) m x = _
    unfold bindL
    exact bindL_get (i := i) (List.nodup_cons.mp nd).2 (by simpa using h1) (by simpa using h2) hk
theorem bindC_get {kindOf : Str → Option NameKind} {x : Str} {v : Value} : ∀ {P : List Str} {vs : List Value} {i : Nat} {m : Str → Option Value}, P.Nodup → P[i]? = some x → vs[i]? = some v → kindOf x ≠ some .local →
    bindC kindOf (P.zip vs) m x = some v
  | [], _, _, _, _, h, _, _ => by simp at h
  | _ :: _, [], _, _, _, _, h, _ => by simp at h
  | p :: P, w :: vs, 0, m, nd, h1, h2, hk => by
    simp at h1 h2; subst h1; subst h2
    show bindC kindOf ((p, w) :: P.zip vs) m p = _
    unfold bindC
    rw [bindC_out fun v hv => (List.nodup_cons.mp nd).1 (List.of_mem_zip hv).1, if_neg hk]
    simp
  | p :: P, w :: vs, i + 1, m, nd, h1, h2, hk => by
    show bindC kindOf ((p, w) :: P.zip vs) m x = _
    unfold bindC
    exact bindC_get (i := i) (List.nodup_cons.mp nd).2 (by simpa using h1) (by simpa using h2) hk

def start (N : List Str) (vs : List V) : St := vs.map some ++ List.replicate (N.length - vs.length) none

def cxOf (CX : CXT) (P : Program) (w : World) (K : PySem.W.Frag) (mg : Str → Option Value) (base : Heap) (N : List Str) (qual : Str) (scope : Scope) (f : Addr) (cd : Value) (A : Around) (outer : List Env) (s : Shared) (H : Hp) (E : XK) : Cx where
  prog := P
  w := w
  K := K
  mg := mg
  base := base
  A := A.deeper (envOfC qual scope s.heap.objs.size f cd)
  N := N
  s₀ := s
  H₀ := H
  env := envOfC qual scope s.heap.objs.size f cd
  outer := outer
  stack := envOfC qual scope s.heap.objs.size f cd :: outer
  ex := []
  calm := true
  fn := fun _ => true
  pn := []
  xe := fun e s' => wpAny (model P w) (A.deeper (envOfC qual scope s.heap.objs.size f cd)) (leaving (envOfC qual scope s.heap.objs.size f cd) e) (fun _ s'' => CX outer H s E e s'') (fun e' s'' => CX outer H s E e' s'') s'

theorem cell_has {sc : Scope} {n : Nat} {x : Str} (h : sc.names.lookup x = some .cell) : ∃ c, (cellsFrom n sc.names []).lookup x = some c := by
  have q := PySem.W.cellsFrom_some sc.names n [] (.inl h)
  exact Option.isSome_iff_exists.mp q

theorem inv_start {CX : CXT} {P : Program} {w : World} {K : PySem.W.Frag} {mg : Str → Option Value} {base : Heap} {N ps : List Str} {qual : Str} {scope : Scope} {f : Addr} {cd : Value} {A : Around} {outer : List Env} {s s1 : Shared} {H : Hp} {E : XK} {us : List Value} {vs : List V}
    (S : FnScope N ps scope) (hd : A.handled = none) (e0 : Env0 P w K mg base A outer s H) (hl : vs.length = ps.length) (r : Vals vs us)
    (x : InCallC s s.heap.objs.size (bindL (envOfC qual scope s.heap.objs.size f cd).kindOf (ps.zip us) fun _ => none) (cellsFrom (s.heap.objs.size + 1) scope.names []) (bindC (envOfC qual scope s.heap.objs.size f cd).kindOf (ps.zip us) fun _ => none) s1) :
    Inv (cxOf CX P w K mg base N qual scope f cd A outer s H E) [] (start N vs) H s1 := by
  have hpl : ps.length ≤ N.length := by have := congrArg List.length S.pre; rw [List.length_take] at this; (first | lia | omega)
  obtain ⟨h1, tk, rfl, hk⟩ := x.done
  have noA : ∀ b : Addr, b ∉ (cxOf CX P w K mg base N qual scope f cd A outer s H E).ex := fun b z => absurd (show b ∈ ([] : List Addr) from z) (by simp)
  refine ⟨⟨e0.mod, S.kind, rfl, rfl, Nat.le_refl _, fun y z c h1 h2 => ?_, fun y hy => ?_, fun y c _ h => ?_, fun _ => hd, Around.frames_deeper e0.frames, .inr ⟨rfl, rfl⟩, fun b z => absurd z (noA b), e0.bs, e0.bsz, fun b _ _ => noA b, fun b z => absurd z (noA b), e0.funs, e0.frf⟩,
    rfl, e0.bare, Un.kept hk, ⟨_, x.toInCall.ns, fun i y v h1 h2 h3 => ?_⟩, fun y c h => ⟨_, x.cell y c h⟩, e0.hok.fresh (Nat.le_refl _), fun y c h => ?_, fun p hp => absurd (show p ∈ ([] : List (Addr × Obj)) from hp) (by simp), e0.hok.kept hk, ?_⟩
  · exact name_of_addr x.apart (PySem.mem_of_lookup h1) (PySem.mem_of_lookup h2)
  · have hy : scope.names.lookup y = some .cell ∨ scope.names.lookup y = some .free := hy
    rcases hy with hy | hy
    · exact cell_has hy
    · exact absurd rfl (S.nofree _ (PySem.mem_of_lookup hy))
  · exact Nat.le_of_lt (x.above y c (PySem.mem_of_lookup h))
  · have hi : i < vs.length := by
      unfold start at h2
      by_cases hi : i < vs.length
      · exact hi
      · rw [List.getElem?_append_right (by simpa using hi)] at h2
        rw [List.getElem?_replicate] at h2
        split at h2 <;> cases h2
    have ha : vs[i]? = some v := by
      unfold start at h2
      rw [List.getElem?_append_left (by simpa using hi), List.getElem?_map] at h2
      cases e : vs[i]? with
      | none => rw [e] at h2; cases h2
      | some a => rw [e] at h2; cases h2; rfl
    obtain ⟨u, hu, rv⟩ := r.get ha
    have hp : ps[i]? = some y := by
      rw [← S.pre, List.getElem?_take_of_lt (by (first | lia | omega))]; exact h1
    have ndP : ps.Nodup := by rw [← S.pre]; exact S.nd.sublist (List.take_sublist _ _)
    refine ⟨u, rv, ?_⟩
    rcases S.par y (List.mem_of_getElem? hp) with k | k
    · exact .inl ⟨k, bindL_get ndP hp hu k⟩
    · obtain ⟨c, e⟩ := cell_has (n := s.heap.objs.size + 1) k
      refine .inr ⟨.inl k, c, e, ?_⟩
      have q := x.cell y c e
      rw [bindC_get ndP hp hu (by show scope.names.lookup y ≠ _; rw [k]; decide)] at q
      exact q
  · exact e0.hok.fresh (Nat.le_of_lt (x.above y c (PySem.mem_of_lookup h)))
  · unfold start
    show _ = N.length
    rw [List.length_append, List.length_map, List.length_replicate]
    (first | lia | omega)

theorem fn_of {CX : CXT} {P : Program} {w : World} {K : PySem.W.Frag} {mg : Str → Option Value} {base : Heap} {k : Nat} {f : Addr} {name qual : Str} {params : Arguments} {body : List Stmt} {scope : Scope} {dV kV doc pm cdv ct oc : Value} {an od : Option Addr}
    {osl : Array (Option Value)} {N ps : List Str} {sp : Sp} (lk : K.lookup f = some ⟨oc, od, .func (PySem.W.fnOf name qual params body scope dV kV doc pm an cdv ct), osl⟩) (hcd : PySem.W.codeIn K cdv qual = true) (S : FnScope N ps scope)
    (len : ∀ vs H Q E, sp vs H Q E → vs.length = ps.length)
    (hbody : ∀ (A : Around) (outer : List Env) (s : Shared) (H : Hp) (vs : List V) (Q : VK) (E : XK), Room k (A.deeper (envOfC qual scope s.heap.objs.size f cdv)) → sp vs H Q E →
      ∃ t, PSs (cxOf CX P w K mg base N qual scope f cdv A outer s H E) body t ∧ t { nx := fun _ H' => Q .non H', rt := Q } (start N vs) H) :
    FnOk P w K mg base CX (k + 1) f (PySem.W.fnOf name qual params body scope dV kV doc pm an cdv ct) ps sp := by
  refine ⟨len, fun A outer s H args us vs Q E hr e0 hb r hsp => ?_⟩
  have hl := len _ _ _ _ hsp
  have KX : K.In s.heap := e0.mod.kin.keeps fun b o e => (e0.bs b o e).1
  have lim : s.heap.NoLimit := e0.mod.nolimit.keeps fun b o e => (e0.bs b o e).1
  have hkind : ∀ y ∈ ps.zip us, scope.names.lookup y.1 = some .local ∨ (scope.names.lookup y.1 = some .cell ∧ ((cellsFrom (s.heap.objs.size + 1) scope.names []).lookup y.1).isSome = true) := fun ⟨n, v⟩ hy => by
    rcases S.par n (List.of_mem_zip hy).1 with q | q
    · exact .inl q
    · exact .inr ⟨q, PySem.W.cellsFrom_some _ _ _ (.inl q)⟩
  refine codeAny_call_function hr.depth (KX _ _ lk) rfl S.co S.gen rfl (PySem.W.codeRec_of KX hcd) (hb _ _ _ _ ?_)
  refine wpAny_newFunctionEnv_cells S.kind hkind fun env he s1 x => ?_
  subst he
  refine ⟨lim.keeps x.toInCall.keep, codeAny_func ?_⟩
  obtain ⟨t, ht, hq⟩ := hbody A outer s H vs Q E (hr.deeper _) hsp
  have I : Inv (cxOf CX P w K mg base N qual scope f cdv A outer s H E) [] (start N vs) H s1 := inv_start S hr.hd e0 hl r x
  refine wpAny_mono (ht [] s1 (start N vs) H _ I hq) (fun fl s' hs => ?_) fun e s' hs => hs
  have fin : ∀ {σ' : St} {H' : Hp} {v : V} {u : Value}, Inv (cxOf CX P w K mg base N qual scope f cdv A outer s H E) [] σ' H' s' → RelV v u → Q v H' → CE outer P w H s Q u s' :=
    fun {σ' H' v u} J rv q => ⟨v, H', J.os, J.bare, J.base, J.hok, rv, q⟩
  cases fl with
  | ret u =>
    obtain ⟨v, σ', H', J, rv, q⟩ := hs
    exact fin J rv q
  | next =>
    obtain ⟨σ', H', J, q⟩ := hs
    exact fin (v := V.non) (u := Value.none) J rfl q
  | brk =>
    obtain ⟨_, _, _, q⟩ := hs
    exact False.elim q
  | cont =>
    obtain ⟨_, _, _, q⟩ := hs
    exact False.elim q
end L2

namespace L2
open PySem PySem.Spec PyProof.Rows
section
variable {X : Cx} {x : Str} {p pos : Pos} {e : Expr} {es : List Expr} {t : TA} {id T : String} {r : List V → Hp → VK → Prop}

def tCB (r : List V → Hp → VK → Prop) (t : TA) : TE := fun σ H Q => t σ H fun vs H1 => r vs H1 Q
theorem pe_callB (hc : CallR X (.builtin id) r) (hg : Gl X x) (hm : X.mg x = none) (hv : bootBuiltins x = some (.builtin id)) (ha : PA X (e :: es) t) (hn : x ≠ "__name__" := by decide) (hdb : (x == ("__debug__" : Str)) = false := by decide)
    (he : starEach (e :: es) X.env = (false, eval e X.env) :: starEach es X.env := by rfl) (hpl : (backTo pos (starEach es X.env)).any (·.1) = false := by rfl) : PE X (.Call (.Name x p) (e :: es) [] pos) (tCB r t) := by
  intro pins s σ H Q I h
  refine wpAny_Call_Name_kw (ld_blt I hg hm hv ?_ hn hdb)
  exact PyProof.Rows.callWith_builtin1 (thn (ha pos pins s σ H _ I h) fun us s1 ⟨vs, H1, I1, r1, q1⟩ => hc pins s1 σ H1 vs us Q I1 r1 q1) he hpl
theorem pe_callTy (hc : CallR X (.type T) r) (hg : Gl X x) (hm : X.mg x = none) (hv : bootBuiltins x = some (.type T)) (ha : PA X (e :: es) t) (hn : x ≠ "__name__" := by decide) (hdb : (x == ("__debug__" : Str)) = false := by decide)
    (he : starEach (e :: es) X.env = (false, eval e X.env) :: starEach es X.env := by rfl) (hpl : (backTo pos (starEach es X.env)).any (·.1) = false := by rfl) : PE X (.Call (.Name x p) (e :: es) [] pos) (tCB r t) := by
  intro pins s σ H Q I h
  refine wpAny_Call_Name_kw (ld_blt I hg hm hv ?_ hn hdb)
  exact PyProof.Rows.callWith_type1 (thn (ha pos pins s σ H _ I h) fun us s1 ⟨vs, H1, I1, r1, q1⟩ => hc pins s1 σ H1 vs us Q I1 r1 q1) he hpl
end
end L2

namespace HT
open PySem PyProof.Rows

section
open PySem.SeqAt
open PySem.AutoSeq1 (wpAny_loadPart')
open PySem.MeetsSeq PySem.MeetsSeq2 PySem.MeetsSeq3

end

section
variable {prog : Program} {w : World} {A : Around} {E : Value → Shared → Prop} {s : Shared}

def sIx (n d : Nat) : Option Int → Nat
  | none => d
  | some v => if v < 0 then (v + (n : Int)).toNat else min v.toNat n
theorem sIx_nat (n d k : Nat) : sIx n d (some (k : Int)) = min k n := by
  show (if (k : Int) < 0 then ((k : Int) + (n : Int)).toNat else min (k : Int).toNat n) = min k n
  rw [if_neg (by (first | lia | omega)), Int.toNat_natCast]
theorem sIx_le (n d : Nat) (hd : d ≤ n) (o : Option Int) : sIx n d o ≤ n := by
  cases o with
  | none => exact hd
  | some v =>
    show (if v < 0 then (v + (n : Int)).toNat else min v.toNat n) ≤ n
    by_cases hv : v < 0
    · rw [if_pos hv]; (first | lia | omega)
    · rw [if_neg hv]; exact Nat.min_le_right _ _
theorem clip_eq (v : Int) (n d : Nat) : (if v < 0 then max (v + (n : Int)) 0 else min v (n : Int)) = ((sIx n d (some v) : Nat) : Int) := by
  show (if v < 0 then max (v + (n : Int)) 0 else min v (n : Int)) = (((if v < 0 then (v + (n : Int)).toNat else min v.toNat n) : Nat) : Int)
  by_cases hv : v < 0
  · simp only [if_pos hv]; (first | lia | omega)
  · simp only [if_neg hv]; (first | lia | omega)
theorem adjust_gen (lo hi : Option Int) (n : Nat) : Builtin.Slice.sliceAdjust lo hi 1 (n : Int) = (((sIx n 0 lo : Nat) : Int), ((sIx n n hi : Nat) : Int)) := by
  have h1 : ¬ ((1 : Int) < 0) := by (first | lia | omega)
  unfold Builtin.Slice.sliceAdjust
  simp only [h1, if_false]
  refine Prod.ext ?_ ?_
  · cases lo with
    | none => rfl
    | some v => exact clip_eq v n 0
  · cases hi with
    | none => rfl
    | some v => exact clip_eq v n n
theorem places_gen (i j : Nat) : Builtin.Slice.slicePlaces (i : Int) (j : Int) 1 = j - i := by
  unfold Builtin.Slice.slicePlaces
  have h1 : (1 : Int) > 0 := by (first | lia | omega)
  simp only [h1, if_true, Int.ediv_one]
  split <;> (first | lia | omega)
theorem slicePart_ {v : Value} {o : Option Int} {Q : Option Int → Shared → Prop} (p : IsPart v o) (h : Q o s) : wpAny (model prog w) A (Builtin.Slice.slicePartIndex v) Q E s := by
  cases p with
  | none => exact slicePart_none h
  | int i t => exact slicePart_int h
theorem sliceApplied_gen {sl : Addr} {vl vu : Value} {lo hi : Option Int} {n : Nat} {Q : Int × Int × Nat → Shared → Prop} (hs : s.heap.IsSliceOf sl vl vu .none) (pl : IsPart vl lo) (pu : IsPart vu hi)
    (h : Q (((sIx n 0 lo : Nat) : Int), 1, sIx n n hi - sIx n 0 lo) s) : wpAny (model prog w) A (Builtin.Slice.sliceApplied (.ref sl) (pure (n : Int))) Q E s := by
  obtain ⟨os, hos, hcs, hds⟩ := id hs
  unfold Builtin.Slice.sliceApplied Builtin.Slice.sliceFields
  refine wpAny_bind (wpAny_bind (wpAny_field hos hds (x := vl) rfl (wpAny_bind (wpAny_field hos hds (x := vu) rfl (wpAny_bind (wpAny_field hos hds (x := .none) rfl (wpAny_pure ?_)))))))
  refine wpAny_bind (slicePart_none ?_)
  show wpAny _ _ (if ((1 : Int) == 0) = true then _ else _) _ _ s
  rw [if_neg (by decide)]
  refine wpAny_bind (slicePart_ pl (wpAny_bind (slicePart_ pu (wpAny_bind (wpAny_pure ?_)))))
  show wpAny _ _ (match Builtin.Slice.sliceAdjust lo hi 1 (n : Int) with | (lo, hi) => pure (lo, (1 : Int), Builtin.Slice.slicePlaces lo hi 1)) _ _ s
  rw [adjust_gen lo hi n]
  show wpAny _ _ (pure (((sIx n 0 lo : Nat) : Int), (1 : Int), Builtin.Slice.slicePlaces ((sIx n 0 lo : Nat) : Int) ((sIx n n hi : Nat) : Int) 1)) _ _ s
  rw [places_gen]
  exact wpAny_pure h
theorem pick_gen (xs : Array Value) (i k : Nat) : ((List.range k).filterMap fun (m : Nat) => xs[((i : Int) + (m : Int) * 1).toNat]?).toArray = ((xs.toList.drop i).take k).toArray := by
  have e : (fun (m : Nat) => xs[((i : Int) + (m : Int) * 1).toNat]?) = fun m => xs[i + m]? := by
    funext m
    have : ((i : Int) + (m : Int) * 1).toNat = i + m := by (first | lia | omega)
    rw [this]
  rw [e]
  have := pick_run xs i k
  rw [List.filterMap_map] at this
  have e2 : ((fun x => xs[x]?) ∘ fun x => i + x) = fun m => xs[i + m]? := rfl
  rw [e2] at this
  rw [this]

theorem getItem_tuple_cut {t sl : Addr} {items : Array Value} {vl vu : Value} {lo hi : Option Int} {Q : Value → Shared → Prop} (ht : IsTup s.heap t items) (hs : s.heap.IsSliceOf sl vl vu .none) (pl : IsPart vl lo) (pu : IsPart vu hi)
    (hw : ¬ (sIx items.size 0 lo = 0 ∧ sIx items.size items.size hi = items.size))
    (h : Q (.ref s.heap.objs.size) { s with heap := s.heap.push { cls := .type "tuple", data := .seq ((items.toList.drop (sIx items.size 0 lo)).take (sIx items.size items.size hi - sIx items.size 0 lo)).toArray } })
    (hsz : items.size ≤ sizeLine) : wpAny (model prog w) A (getItem (.ref t) (.ref sl)) Q E s := by
  have htake : sizeOk (.seq ((items.toList.drop (sIx items.size 0 lo)).take (sIx items.size items.size hi - sIx items.size 0 lo)).toArray) := by
    show ((items.toList.drop (sIx items.size 0 lo)).take (sIx items.size items.size hi - sIx items.size 0 lo)).toArray.size ≤ sizeLine
    rw [List.size_toArray, List.length_take, List.length_drop, Array.length_toList]
    (first | lia | omega)
  have hj : sIx items.size items.size hi ≤ items.size := sIx_le _ _ (Nat.le_refl _) hi
  obtain ⟨os, hos, hcs, hds⟩ := id hs
  have hTs : s.TypeIs (.ref sl) "slice" := ⟨os, hos, hcs⟩
  unfold getItem
  try with_reducible refine wpAny_holding ?_
  first | refine wpAny_bind (wpAny_pure ?_) | skip
  refine wpAny_bind (wpAny_sequenceKey ht.typeIs (by decide) ?_)
  refine wpAny_bind (wpAny_callSpecial?_slot (name := Str.ofString "__getitem__") ht.typeIs PyProof.Rows.slot_tuple_getitem
    (wpAny_call_entry PyProof.Rows.slot_tuple_getitem ht.typeIs entry_tuple_getitem ?_ (args_tuple_getitem _ _)))
  show wpAny _ _ (Builtin.Tuple.tupleItemsOf (.ref t) >>= _) _ _ s
  refine wpAny_bind (tupleItemsOf_ ht ?_)
  refine wpAny_bind (wpAny_typeOf hTs ?_)
  rw [if_pos (by decide)]
  refine wpAny_bind (sliceApplied_gen hs pl pu ?_)
  have hno : ¬ ((((sIx items.size 0 lo : Nat) : Int) == 0 && (1 : Int) == 1 && (sIx items.size items.size hi - sIx items.size 0 lo) == items.size) = true) := by
    intro q
    rw [Bool.and_eq_true, Bool.and_eq_true] at q
    have q1 : ((sIx items.size 0 lo : Nat) : Int) = 0 := eq_of_beq q.1.1
    have q2 : sIx items.size items.size hi - sIx items.size 0 lo = items.size := eq_of_beq q.2
    exact hw ⟨by (first | lia | omega), by (first | lia | omega)⟩
  show wpAny _ _ (if (((sIx items.size 0 lo : Nat) : Int) == 0 && (1 : Int) == 1 && (sIx items.size items.size hi - sIx items.size 0 lo) == items.size) = true then _ else _) _ _ s
  rw [if_neg hno, pick_gen]
  first
    | exact wpAny_bind (m := Builtin.Tuple.tupleExact _) (wpAny_newObj_type (wpAny_pure ⟨_, rfl, wpAny_pure h⟩) htake)
    | exact wpAny_bind (m := Builtin.Tuple.tupleExact _) (wpAny_newObj_type (wpAny_bind (wpAny_pure (wpAny_pure ⟨_, rfl, wpAny_pure h⟩))) htake)
    | exact wpAny_bind (wpAny_bind (m := Builtin.Tuple.tupleExact _) (wpAny_newObj_type (wpAny_pure (wpAny_pure ⟨_, rfl, wpAny_pure h⟩)) htake))
    | exact wpAny_bind (wpAny_bind (m := Builtin.Tuple.tupleExact _) (wpAny_newObj_type (wpAny_pure ⟨_, rfl, wpAny_pure h⟩) htake))
end
end HT

namespace L2
open PySem PySem.Spec PyProof.Rows

abbrev TO := St → Hp → (Option Int → Hp → Prop) → Prop
def PO (X : Cx) (e : Option Expr) (t : TO) : Prop :=
  ∀ (pins : List (Addr × Obj)) (s : Shared) (σ : St) (H : Hp) (Q : Option Int → Hp → Prop), Inv X pins σ H s → t σ H Q →
    wpAny (model X.prog X.w) X.A (evalPart e X.env) (fun u s' => ∃ o H', Inv X pins σ H' s' ∧ IsPart u o ∧ Q o H') X.xe s
def tNoPart : TO := fun _ H Q => Q none H
def tPart (t : TE) : TO := fun σ H Q => t σ H fun x H1 => OfI x H1 fun i H1 => Q (some i) H1

theorem intsAre_of {ns : List Int} : ∀ {us : List Value}, Vals (ns.map V.int) us → IntsAre us ns := by
  induction ns with
  | nil => intro us r; rw [List.map_nil] at r; cases r; exact .nil
  | cons n ns ih =>
    intro us r
    rw [List.map_cons] at r
    cases r with
    | cons r1 r2 =>
      obtain ⟨t, e⟩ := r1
      subst e
      exact .cons n t (ih r2)

section
variable {X : Cx} {e : Expr} {te : TE} {lo hi : Option Expr} {tl th : TO} {pos p2 : Pos}

theorem po_none : PO X none tNoPart := by
  intro pins s σ H Q I h
  rw [evalPart_none]
  exact wpAny_pure ⟨none, H, I, .none, h⟩
theorem po_some (h : PE X e te) : PO X (some e) (tPart te) := by
  intro pins s σ H Q I hw
  rw [evalPart_some]
  refine thn (h pins s σ H _ I hw) fun u s1 ⟨x, H1, I1, r1, q1⟩ => ?_
  obtain ⟨i, rfl, q⟩ := q1
  obtain ⟨t, rfl⟩ := r1
  exact ⟨some i, H1, I1, .int i t, q⟩

def SlR (X : Cx) (r : V → Option Int → Option Int → Hp → VK → Prop) : Prop :=
  ∀ (pins : List (Addr × Obj)) (s : Shared) (σ : St) (H : Hp) (x : V) (v vl vu : Value) (lo hi : Option Int) (sl : Addr) (Q : VK), Inv X pins σ H s → RelV x v → s.heap.IsSliceOf sl vl vu .none → IsPart vl lo → IsPart vu hi → r x lo hi H Q →
    ∃ T id, typeLookup (.type T) "__getitem__" = pure (some (.builtin id)) ∧ s.TypeIs v T ∧ wpAny (model X.prog X.w) X.A (getItem v (.ref sl)) (EP X pins σ Q) X.xe s
def tSl (r : V → Option Int → Option Int → Hp → VK → Prop) (te : TE) (tl th : TO) : TE := fun σ H Q => te σ H fun x H1 => tl σ H1 fun l H2 => th σ H2 fun u H3 => r x l u H3 Q
theorem pe_slice {r : V → Option Int → Option Int → Hp → VK → Prop} (hr : SlR X r) (he : PE X e te) (hl : PO X lo tl) (hu : PO X hi th) : PE X (.Subscript e (.Slice lo hi none p2) pos) (tSl r te tl th) := by
  intro pins s σ H Q I h
  refine Subscript_ (thn (he pins s σ H _ I h) fun v s1 ⟨x, H1, I1, r1, q1⟩ => ?_)
  refine wpAny_Slice (thn (hl pins s1 σ H1 _ I1 q1) fun vl s2 ⟨l, H2, I2, pl, q2⟩ => thn (hu pins s2 σ H2 _ I2 q2) fun vu s3 ⟨u, H3, I3, pu, q3⟩ => ?_)
  rw [evalPart_none]
  refine wpAny_pure ?_
  have I4 : Inv X pins σ H3 { s3 with heap := s3.heap.push { cls := .type "slice", data := .fields #[vl, vu, .none] } } := I3.kept (t' := s3.toks) fun b ob q => Heap.get?_push_of_some _ q
  obtain ⟨T, id, hT, ht, hg⟩ := hr pins { s3 with heap := s3.heap.push { cls := .type "slice", data := .fields #[vl, vu, .none] } } σ H3 x v vl vu l u s3.heap.objs.size Q I4 r1 (Heap.IsSliceOf.new ..) pl pu q3
  show wpAny (model X.prog X.w) X.A (subscriptTail e (.Slice lo hi none p2) v (.ref s3.heap.objs.size)) (EP X pins σ Q) X.xe { s3 with heap := s3.heap.push { cls := .type "slice", data := .fields #[vl, vu, .none] } }
  exact tail_any (ops := [.ref s3.heap.objs.size, v]) ht hT hg (by with_unfolding_all rfl)

def cutV (xs : List V) (lo hi : Option Int) : List V := (xs.drop (HT.sIx xs.length 0 lo)).take (HT.sIx xs.length xs.length hi - HT.sIx xs.length 0 lo)
theorem cutV_length (xs : List V) (lo hi : Option Int) : (cutV xs lo hi).length ≤ xs.length := by
  unfold cutV
  rw [List.length_take, List.length_drop]
  (first | lia | omega)
def rSlT (K : PySem.W.Frag) : V → Option Int → Option Int → Hp → VK → Prop := fun x lo hi H Q => ∃ a xs, x = .ref a ∧ SqT K H a xs ∧
  ¬ (HT.sIx xs.length 0 lo = 0 ∧ HT.sIx xs.length xs.length hi = xs.length) ∧ ∀ p, H p = none → Q (.ref p) (upd H p (.tup (cutV xs lo hi)))
theorem sl_tup : SlR X (rSlT X.K) := by
  intro pins s σ H x v vl vu lo hi sl Q I rx hs pl pu h
  obtain ⟨a, xs, rfl, hx, hw, q⟩ := h
  cases rx
  obtain ⟨its, r, ht, hz⟩ := I.tuple hx
  have hlen : its.toArray.size = xs.length := by rw [List.size_toArray]; exact r.length.symm
  refine ⟨"tuple", _, PyProof.Rows.slot_tuple_getitem.lookup, ht.typeIs, ?_⟩
  refine HT.getItem_tuple_cut ht hs pl pu (by rw [hlen]; exact hw) ?_ (by rw [hlen]; exact hz)
  rw [hlen]
  refine ⟨.ref s.heap.objs.size, _, I.laid (t' := s.toks) (o := .tup (cutV xs lo hi)) (fun b ob q => Heap.get?_push_of_some _ q) (Nat.le_refl _) ?_, rfl, q _ (I.hok.fresh (Nat.le_refl _))⟩
  exact ⟨Nat.le_trans (cutV_length xs lo hi) hz, _, (r.drop (HT.sIx xs.length 0 lo)).take (HT.sIx xs.length xs.length hi - HT.sIx xs.length 0 lo), IsTupD.new _ _⟩

end
end L2

namespace L2
open PySem PySem.Spec PyProof.Rows

def ixN (n : Nat) (i : Int) : Option Nat := if 0 ≤ i then (if i < n then some i.toNat else none) else if -(n : Int) ≤ i then some (i + n).toNat else none
def atI {α : Type} (xs : List α) (i : Int) : Option α := (ixN xs.length i).bind fun j => xs[j]?
theorem ixN_seq {n : Nat} {i : Int} {j : Nat} (h : ixN n i = some j) : seqIndex? i n = some j ∧ j < n ∧ -(n : Int) ≤ i ∧ i < n := by
  unfold ixN at h
  by_cases h0 : 0 ≤ i
  · rw [if_pos h0] at h
    by_cases h1 : i < n
    · rw [if_pos h1] at h
      have e : i.toNat = j := Option.some.inj h
      exact ⟨by rw [seqIndex_of h0 h1, e], by (first | lia | omega), by (first | lia | omega), h1⟩
    · rw [if_neg h1] at h; cases h
  · rw [if_neg h0] at h
    by_cases h1 : -(n : Int) ≤ i
    · rw [if_pos h1] at h
      have e : (i + n).toNat = j := Option.some.inj h
      exact ⟨by rw [seqIndex_neg (by (first | lia | omega)) h1, e], by (first | lia | omega), h1, by (first | lia | omega)⟩
    · rw [if_neg h1] at h; cases h
theorem atI_get {α : Type} {xs : List α} {i : Int} {v : α} (h : atI xs i = some v) : ∃ j, seqIndex? i xs.length = some j ∧ xs[j]? = some v ∧ j < xs.length ∧ -(xs.length : Int) ≤ i ∧ i < xs.length := by
  unfold atI at h
  cases e : ixN xs.length i with
  | none => rw [e] at h; cases h
  | some j =>
    rw [e] at h
    obtain ⟨h1, h2, h3, h4⟩ := ixN_seq e
    exact ⟨j, h1, h, h2, h3, h4⟩
theorem atI_nat {α : Type} {xs : List α} {j : Nat} {v : α} (h : xs[j]? = some v) : atI xs (j : Int) = some v := by
  have hj : j < xs.length := (List.getElem?_eq_some_iff.mp h).1
  have e : ixN xs.length (j : Int) = some j := by
    unfold ixN
    rw [if_pos (by (first | lia | omega)), if_pos (by (first | lia | omega))]; simp
  unfold atI; rw [e]; exact h
def PlainIx (b : Expr) : Prop := ∀ o i, subscripted b false o i = operate [o, i] (getItem o i)
def IxR (X : Cx) (r : R2) : Prop :=
  ∀ (value slice : Expr) (pins : List (Addr × Obj)) (s : Shared) (σ : St) (H : Hp) (x y : V) (v u : Value) (Q : VK), Inv X pins σ H s → RelV x v → RelV y u → r x y H Q →
    subscripted slice false v u = operate [v, u] (getItem v u) → wpAny (model X.prog X.w) X.A (subscriptTail value slice v u) (EP X pins σ Q) X.xe s
def MtR (X : Cx) (id : String) (r : V → List V → Hp → VK → Prop) : Prop :=
  ∀ (pins : List (Addr × Obj)) (s : Shared) (σ : St) (H : Hp) (x : V) (xs : List V) (v : Value) (us : List Value) (Q : VK), Inv X pins σ H s → RelV x v → Vals xs us → r x xs H Q →
    wpAny (model X.prog X.w) X.A (call (.builtin id) (v :: us)) (EP X pins σ Q) X.xe s
section
variable {X : Cx} {a b : Expr} {ta tb : TE} {pos : Pos}
theorem pe_ix {r : R2} (hr : IxR X r) (ha : PE X a ta) (hb : PE X b tb) (hs : PlainIx b) : PE X (.Subscript a b pos) (tOp r ta tb) := by
  intro pins s σ H Q I h
  exact Subscript_ (binT ha hb I h fun v u s2 x y H2 I2 rx ry q => hr a b pins s2 σ H2 x y v u Q I2 rx ry q (hs _ _))

inductive RIxLP (K : PySem.W.Frag) (x : V) (y : V) (H : Hp) (Q : VK) : Prop
  | mk (p : _) (xs : _) (i : _) (v : _) (h1 : x = .ref p) (h2 : y = .int i) (h3 : SqL K H p xs) (h4 : atI xs i = some v) (h5 : Q v H) : RIxLP K x y H Q
def rIxL (K : PySem.W.Frag) : R2 := fun x y H Q => RIxLP K x y H Q
inductive RIxTP (K : PySem.W.Frag) (x : V) (y : V) (H : Hp) (Q : VK) : Prop
  | mk (p : _) (xs : _) (i : _) (v : _) (h1 : x = .ref p) (h2 : y = .int i) (h3 : SqT K H p xs) (h4 : atI xs i = some v) (h5 : Q v H) : RIxTP K x y H Q
def rIxT (K : PySem.W.Frag) : R2 := fun x y H Q => RIxTP K x y H Q
theorem ix_list : IxR X (rIxL X.K) := by
  intro value slice pins s σ H x y v u Q I rx ry h hs
  obtain ⟨p, xs, i, z, rfl, rfl, hq, he, q⟩ := h
  cases rx
  obtain ⟨t, rfl⟩ := ry
  obtain ⟨its, r, pl, hz⟩ := I.list hq
  obtain ⟨j, h1, h2, h3, h4, h5⟩ := atI_get he
  obtain ⟨w, ew, rw'⟩ := r.get h2
  have hl := r.length
  have hn := line63
  have fin : EP X pins σ Q w s := ⟨z, H, I, rw', q⟩
  by_cases h0 : 0 ≤ i
  · have hj : i.toNat = j := by
      rw [seqIndex_of h0 h5] at h1
      exact Option.some.inj h1
    exact item_listR pl.isList h0 (by (first | lia | omega)) (by rw [hj]; simpa using ew) fin hs
  · have hj : (i + (its.toArray.size : Int)).toNat = j := by
      rw [seqIndex_neg (by (first | lia | omega)) h4] at h1
      rw [List.size_toArray, ← hl]
      exact Option.some.inj h1
    exact subscriptTail_builtinR (x := w) pl.isList.typeIs slot_list_getitem.lookup
      (wpAny_getItem_list_neg (Q := fun r s' => r = w ∧ EP X pins σ Q r s') pl.isList (by (first | lia | omega)) (by rw [List.size_toArray] <;> (first | lia | omega)) (by (first | lia | omega)) (by rw [hj]; simpa using ew) ⟨rfl, fin⟩) hs
theorem ix_tup : IxR X (rIxT X.K) := by
  intro value slice pins s σ H x y v u Q I rx ry h hs
  obtain ⟨p, xs, i, z, rfl, rfl, hq, he, q⟩ := h
  cases rx
  obtain ⟨t, rfl⟩ := ry
  obtain ⟨its, r, pl, hz⟩ := I.tuple hq
  obtain ⟨j, h1, h2, h3, h4, h5⟩ := atI_get he
  obtain ⟨w, ew, rw'⟩ := r.get h2
  have hl := r.length
  have hn := line63
  have fin : EP X pins σ Q w s := ⟨z, H, I, rw', q⟩
  exact subscriptTail_builtinR (x := w) pl.typeIs slot_tuple_getitem.lookup
    (getItem_tuple (j := j) (Q := fun r s' => r = w ∧ EP X pins σ Q r s') pl (by (first | lia | omega)) (by (first | lia | omega)) (by rw [List.size_toArray, ← hl]; exact h1) (by simpa using ew) ⟨rfl, fin⟩) hs
theorem mapSeq_set (its : List Value) (n j : Nat) (u : Value) : Obj.mapSeq (·.setIfInBounds j u) { cls := .type "list", data := .seq its.toArray n } = { cls := .type "list", data := .seq (its.set j u).toArray n } := by
  simp [Obj.mapSeq]
theorem Inv.lst {pins : List (Addr × Obj)} {σ : St} {H : Hp} {s : Shared} {p : Addr} {xs : List V} (I : Inv X pins σ H s) (h : H p = some (.lst xs)) :
    ∃ (its : List Value) (n : Nat), Vals xs its ∧ s.heap.get? p = some { cls := .type "list", data := .seq its.toArray n } ∧ xs.length ≤ sizeLine := by
  obtain ⟨z, its, n, r, e⟩ := I.hok p _ h
  exact ⟨its, n, r, e, z⟩
theorem Inv.lstUpd {pins : List (Addr × Obj)} {σ : St} {H : Hp} {s : Shared} {p : Addr} {xs ys : List V} {its its' : List Value} {n n' : Nat} {f : Obj → Obj} (I : Inv X pins σ H s) (h : H p = some (.lst xs))
    (ho : s.heap.get? p = some { cls := .type "list", data := .seq its.toArray n }) (hf : f { cls := .type "list", data := .seq its.toArray n } = { cls := .type "list", data := .seq its'.toArray n' }) (r : Vals ys its') (hz : ys.length ≤ sizeLine) (t : Nat) :
    Inv X pins σ (upd H p (.lst ys)) { s with heap := s.heap.update p f, toks := t } := by
  have e : (s.heap.update p f).get? p = some { cls := .type "list", data := .seq its'.toArray n' } := by
    rw [Heap.get?_update_self f ho (by rw [hf] <;> rfl), hf]
  refine I.write (x := p) (e := p) (by rw [h]; trivial) (.inl rfl) (fun b u hb q => (Heap.get?_update_other _ _ (Ne.symm hb)).trans q) ⟨_, e⟩ ?_
  exact ⟨hz, its', n', r, e⟩
inductive RSetLP (o : V) (i : V) (v : V) (H : Hp) (Q : Hp → Prop) : Prop
  | mk (p : _) (xs : _) (k : _) (j : _) (h1 : o = .ref p) (h2 : i = .int k) (h3 : H p = some (.lst xs)) (h4 : ixN xs.length k = some j) (h5 : Q (upd H p (.lst (xs.set j v)))) : RSetLP o i v H Q
def rSetL : V → V → V → Hp → (Hp → Prop) → Prop := fun o i v H Q => RSetLP  o i v H Q
theorem set_list : PSet X rSetL := by
  intro pins s σ H o i v ov iv u Q I ro ri rv h
  obtain ⟨p, xs, k, j, rfl, rfl, hp, hj, q⟩ := h
  cases ro
  obtain ⟨t, rfl⟩ := ri
  obtain ⟨its, n, r, ho, hz⟩ := I.lst hp
  obtain ⟨h1, h2, h3, h4⟩ := ixN_seq hj
  have hl := r.length
  have hn := line63
  have I' : Inv X pins σ (upd H p (.lst (xs.set j v))) { s with heap := s.heap.update p (Obj.mapSeq (·.setIfInBounds j u)) } :=
    I.lstUpd hp ho (mapSeq_set its n j u) (r.set rv j) (by rw [List.length_set]; exact hz) s.toks
  by_cases h0 : 0 ≤ k
  · have hk : k.toNat = j := by
      rw [seqIndex_of h0 h4] at h1
      exact Option.some.inj h1
    exact PySem.W.ki_setAt ho h0 (by (first | lia | omega)) (by rw [List.size_toArray, ← hl]; exact h4) (by rw [hk]; exact ⟨_, I', q⟩)
  · have hk : (k + (its.toArray.size : Int)).toNat = j := by
      rw [seqIndex_neg (by (first | lia | omega)) h3] at h1
      rw [List.size_toArray, ← hl]
      exact Option.some.inj h1
    exact PySem.W.ki_setBack ho (by (first | lia | omega)) (by rw [List.size_toArray, ← hl]; exact h3) (by (first | lia | omega)) (by rw [hk]; exact ⟨_, I', q⟩)

theorem slice_bounds (lo hi : Option Int) (n : Nat) : (sliceBounds lo hi none n).1 = ((HT.sIx n 0 lo : Nat) : Int) ∧ (sliceBounds lo hi none n).2.1 = ((HT.sIx n n hi : Nat) : Int) ∧ (sliceBounds lo hi none n).2.2 = 1 := by
  refine ⟨?_, ?_, rfl⟩
  · cases lo with
    | none => simp [sliceBounds, HT.sIx]
    | some i =>
      simp only [sliceBounds, HT.sIx, Option.getD_none, show (1 : Int) > 0 by decide, if_true]
      by_cases h : i < 0
      · simp only [h, if_true] <;> (first | lia | omega)
      · simp only [h, if_false] <;> (first | lia | omega)
  · cases hi with
    | none => simp [sliceBounds, HT.sIx]
    | some i =>
      simp only [sliceBounds, HT.sIx, Option.getD_none, show (1 : Int) > 0 by decide, if_true]
      by_cases h : i < 0
      · simp only [h, if_true] <;> (first | lia | omega)
      · simp only [h, if_false] <;> (first | lia | omega)
theorem slicePick_cut (its : List Value) (lo hi : Option Int) : slicePick its.toArray lo hi none = ((its.drop (HT.sIx its.length 0 lo)).take (HT.sIx its.length its.length hi - HT.sIx its.length 0 lo)).toArray := by
  obtain ⟨h1, h2, h3⟩ := slice_bounds lo hi its.toArray.size
  unfold slicePick
  rw [h1, h2, h3]
  simp only [sliceRange_one, pick_run, List.size_toArray] <;> rfl
inductive RSlLP (K : PySem.W.Frag) (x : V) (lo : Option Int) (hi : Option Int) (H : Hp) (Q : VK) : Prop
  | mk (a : _) (xs : _) (h1 : x = .ref a) (h2 : SqL K H a xs) (h3 : ∀ p, H p = none → Q (.ref p) (upd H p (.lst (cutV xs lo hi)))) : RSlLP K x lo hi H Q
def rSlL (K : PySem.W.Frag) : V → Option Int → Option Int → Hp → VK → Prop := fun x lo hi H Q => RSlLP K x lo hi H Q
theorem sl_list : SlR X (rSlL X.K) := by
  intro pins s σ H x v vl vu lo hi sl Q I rx hs pl pu h
  obtain ⟨a, xs, rfl, hx, q⟩ := h
  cases rx
  obtain ⟨its, r, ht, hz⟩ := I.list hx
  have hlen := r.length
  refine ⟨"list", _, slot_list_getitem.lookup, ht.isList.typeIs, ?_⟩
  refine wpAny_getItem_list_slice ht.isList hs pl pu .none (by simp) ?_ (by rw [List.size_toArray] <;> (first | lia | omega))
  rw [slicePick_cut, ← hlen]
  refine ⟨.ref s.heap.objs.size, _, I.laid (t' := s.toks) (o := .lst (cutV xs lo hi)) (fun b ob q => Heap.get?_push_of_some _ q) (Nat.le_refl _) ?_, rfl, q _ (I.hok.fresh (Nat.le_refl _))⟩
  exact ⟨Nat.le_trans (cutV_length xs lo hi) hz, _, 0, (r.drop (HT.sIx xs.length 0 lo)).take (HT.sIx xs.length xs.length hi - HT.sIx xs.length 0 lo), Heap.get?_push_size _ rfl⟩

def flatV : V → Bool
  | .non => true
  | .bl _ => true
  | .int _ => true
  | .str _ => true
  | _ => false
def eqV : V → V → Bool
  | .non, .non => true
  | .bl a, .bl b => a == b
  | .bl a, .int b => (if a then 1 else 0) == b
  | .int a, .bl b => a == (if b then 1 else 0)
  | .int a, .int b => a == b
  | .str a, .str b => a == b
  | _, _ => false
theorem eqAt_V {A : Around} {s : Shared} {y x : V} {u v : Value} (ry : RelV y u) (rx : RelV x v) (fy : flatV y = true) (fx : flatV x = true) : SeqAt.EqAt A s u v (eqV y x) := by
  cases y with
  | non =>
    cases ry
    cases x with
    | non => cases rx; exact SeqAt.EqAt.same _
    | bl b => cases rx; exact SeqAt.EqAt.none_bool b
    | int b => obtain ⟨t, rfl⟩ := rx; exact SeqAt.EqAt.none_int b t
    | str b => obtain ⟨t, rfl⟩ := rx; exact SeqAt.EqAt.none_str b t
    | _ => exact absurd (show false = true from fx) Bool.false_ne_true
  | bl a =>
    cases ry
    cases x with
    | non => cases rx; exact SeqAt.EqAt.bool_none a
    | bl b => cases rx; exact SeqAt.EqAt.bool_bool a b
    | int b => obtain ⟨t, rfl⟩ := rx; exact SeqAt.EqAt.bool_int a b t
    | str b => obtain ⟨t, rfl⟩ := rx; exact SeqAt.EqAt.bool_str a b t
    | _ => exact absurd (show false = true from fx) Bool.false_ne_true
  | int a =>
    obtain ⟨t', rfl⟩ := ry
    cases x with
    | non => cases rx; exact SeqAt.EqAt.int_none a t'
    | bl b => cases rx; exact SeqAt.EqAt.int_bool a t' b
    | int b => obtain ⟨t, rfl⟩ := rx; exact SeqAt.EqAt.int_int a t' b t
    | str b => obtain ⟨t, rfl⟩ := rx; exact SeqAt.EqAt.int_str a t' b t
    | _ => exact absurd (show false = true from fx) Bool.false_ne_true
  | str a =>
    obtain ⟨t', rfl⟩ := ry
    cases x with
    | non => cases rx; exact SeqAt.EqAt.str_none a t'
    | bl b => cases rx; exact SeqAt.EqAt.str_bool a t' b
    | int b => obtain ⟨t, rfl⟩ := rx; exact SeqAt.EqAt.str_int a t' b t
    | str b => obtain ⟨t, rfl⟩ := rx; exact SeqAt.EqAt.str_str a t' b t
    | _ => exact absurd (show false = true from fx) Bool.false_ne_true
  | _ => exact absurd (show false = true from fy) Bool.false_ne_true
def eqU (x : V) (u : Value) : Bool := match u with
  | .none => eqV .non x
  | .bool b => eqV (.bl b) x
  | .int i _ => eqV (.int i) x
  | .str z _ => eqV (.str z) x
  | _ => false
theorem eqU_of {x y : V} {u : Value} (r : RelV y u) (f : flatV y = true) : eqU x u = eqV y x := by
  cases y with
  | non => cases r; rfl
  | bl b => cases r; rfl
  | int i => obtain ⟨t, rfl⟩ := r; rfl
  | str z => obtain ⟨t, rfl⟩ := r; rfl
  | _ => exact absurd (show false = true from f) Bool.false_ne_true
theorem any_eqU {x : V} : ∀ {xs : List V} {us : List Value}, Vals xs us → xs.all flatV = true → us.any (eqU x) = xs.any fun y => eqV y x
  | _, _, .nil, _ => rfl
  | y :: xs, u :: us, .cons r t, f => by
    rw [List.all_cons, Bool.and_eq_true] at f
    rw [List.any_cons, List.any_cons, eqU_of r f.1, any_eqU t f.2]
theorem mem_eqAt {A : Around} {s : Shared} {x : V} {v : Value} (rx : RelV x v) (fx : flatV x = true) : ∀ {xs : List V} {us : List Value}, Vals xs us → xs.all flatV = true → ∀ u ∈ us, SeqAt.EqAt A s u v (eqU x u)
  | _, _, .nil, _ => fun u hu => by cases hu
  | y :: xs, u :: us, .cons r t, f => fun u' hu => by
    rw [List.all_cons, Bool.and_eq_true] at f
    rcases List.mem_cons.mp hu with rfl | hu
    · rw [eqU_of r f.1]; exact eqAt_V r rx f.1 fx
    · exact mem_eqAt rx fx t f.2 u' hu
def inV (x : V) (xs : List V) : Bool := xs.any fun y => eqV y x
inductive RInP (K : PySem.W.Frag) (neg : Bool) (x : V) (y : V) (H : Hp) (Q : VK) : Prop
  | mk (p : _) (xs : _) (h1 : y = .ref p) (h2 : (SqL K H p xs ∨ SqT K H p xs)) (h3 : flatV x = true) (h4 : xs.all flatV = true) (h5 : Q (.bl (if neg then !inV x xs else inV x xs)) H) : RInP K neg x y H Q
def rIn (K : PySem.W.Frag) (neg : Bool) : R2 := fun x y H Q => RInP K neg x y H Q
theorem op_in_seq : OpR X (compareOp .In) (rIn X.K false) := by
  intro pins s σ H x y v u Q I rx ry h
  obtain ⟨p, xs, rfl, hq, fx, fs, q⟩ := h
  cases ry
  rcases hq with hq | hq
  · obtain ⟨its, r, pl, hz⟩ := I.list hq
    refine SeqAt.in_listAt (eqU x) pl.isList (fun w hw => mem_eqAt rx fx r fs w (by simpa using hw)) ⟨.bl _, H, I, rfl, ?_⟩
    rw [show its.toArray.any (eqU x) = its.any (eqU x) by simp, any_eqU r fs]
    exact q
  · obtain ⟨its, r, pl, hz⟩ := I.tuple hq
    refine SeqAt.in_tupleAt (eqU x) pl (fun w hw => mem_eqAt rx fx r fs w (by simpa using hw)) ⟨.bl _, H, I, rfl, ?_⟩
    rw [show its.toArray.any (eqU x) = its.any (eqU x) by simp, any_eqU r fs]
    exact q
theorem op_notIn_seq : OpR X (compareOp .NotIn) (rIn X.K true) := by
  intro pins s σ H x y v u Q I rx ry h
  obtain ⟨p, xs, rfl, hq, fx, fs, q⟩ := h
  cases ry
  rcases hq with hq | hq
  · obtain ⟨its, r, pl, hz⟩ := I.list hq
    refine SeqAt.notIn_listAt (eqU x) pl.isList (fun w hw => mem_eqAt rx fx r fs w (by simpa using hw)) ⟨.bl _, H, I, rfl, ?_⟩
    rw [show its.toArray.any (eqU x) = its.any (eqU x) by simp, any_eqU r fs]
    exact q
  · obtain ⟨its, r, pl, hz⟩ := I.tuple hq
    refine SeqAt.notIn_tupleAt (eqU x) pl (fun w hw => mem_eqAt rx fx r fs w (by simpa using hw)) ⟨.bl _, H, I, rfl, ?_⟩
    rw [show its.toArray.any (eqU x) = its.any (eqU x) by simp, any_eqU r fs]
    exact q
inductive P_call_len_seq (K : PySem.W.Frag) (xs : List V) (H : Hp) (Q : VK) : Prop
  | mk (p : _) (ys : _) (h1 : xs = [.ref p]) (h2 : (SqL K H p ys ∨ SqT K H p ys)) (h3 : Q (.int ys.length) H) : P_call_len_seq K xs H Q
theorem call_len_seq : CallR X (.builtin "len") (P_call_len_seq X.K) := by
  intro pins s σ H xs us Q I r h
  obtain ⟨p, ys, rfl, hq, q⟩ := h
  obtain ⟨u, rfl, rx⟩ := vals1 r
  cases rx
  have hn := line63
  rcases hq with hq | hq
  · obtain ⟨its, r', pl, hz⟩ := I.list hq
    have hlen := r'.length
    exact Calls.call_len_list pl.isList (by simp only [List.size_toArray] <;> (first | lia | omega)) ⟨.int ys.length, H, I.tok _, ⟨s.toks + 1, by rw [List.size_toArray, hlen]⟩, q⟩
  · obtain ⟨its, r', pl, hz⟩ := I.tuple hq
    have hlen := r'.length
    exact len_tuple pl (by simp only [List.size_toArray] <;> (first | lia | omega)) ⟨.int ys.length, H, I.tok _, ⟨s.toks + 1, by rw [List.size_toArray, hlen]⟩, q⟩
inductive P_call_list_of (K : PySem.W.Frag) (xs : List V) (H : Hp) (Q : VK) : Prop
  | mk (p : _) (ys : _) (h1 : xs = [.ref p]) (h2 : (SqL K H p ys ∨ SqT K H p ys)) (h3 : ∀ l, H l = none → Q (.ref l) (upd H l (.lst ys))) : P_call_list_of K xs H Q
theorem call_list_of : CallR X (.type "list") (P_call_list_of X.K) := by
  intro pins s σ H xs us Q I r h
  obtain ⟨p, ys, rfl, hq, q⟩ := h
  obtain ⟨u, rfl, rx⟩ := vals1 r
  cases rx
  have fin : ∀ (its : List Value), Vals ys its → ys.length ≤ sizeLine → ∀ (h' : Heap) (c' : Nat), (∀ b o', s.heap.get? b = some o' → h'.get? b = some o') →
      h'.get? s.heap.objs.size = some { cls := .type "list", dict := none, data := .seq its.toArray c', slots := #[] } → EP X pins σ Q (.ref s.heap.objs.size) { s with heap := h' } := fun its r' hz h' c' kp e =>
    ⟨.ref s.heap.objs.size, _, I.laid (t' := s.toks) kp (Nat.le_refl _) (show ObjOk X.prog X.w _ h' _ (.lst ys) from ⟨hz, its, c', r', e⟩), rfl, q _ (I.hok.fresh (Nat.le_refl _))⟩
  rcases hq with hq | hq
  · obtain ⟨its, r', pl, hz⟩ := I.list hq
    have hlen := r'.length
    obtain ⟨o, ho, hc, n, hd⟩ := pl.isList
    exact call_list_seq p (.inl rfl) ho hc hd (fun h' c' kp e => fin its r' hz h' c' kp e) (by simp only [List.size_toArray] <;> (first | lia | omega))
  · obtain ⟨its, r', pl, hz⟩ := I.tuple hq
    have hlen := r'.length
    obtain ⟨o, ho, hc, n, hd⟩ := pl
    exact call_list_seq p (.inr rfl) ho hc hd (fun h' c' kp e => fin its r' hz h' c' kp e) (by simp only [List.size_toArray] <;> (first | lia | omega))
inductive P_call_tuple_of (K : PySem.W.Frag) (xs : List V) (H : Hp) (Q : VK) : Prop
  | mk (p : _) (ys : _) (h1 : xs = [.ref p]) (h2 : ((SqL K H p ys ∧ ∀ l, H l = none → Q (.ref l) (upd H l (.tup ys))) ∨ (SqT K H p ys ∧ Q (.ref p) H))) : P_call_tuple_of K xs H Q
theorem call_tuple_of : CallR X (.type "tuple") (P_call_tuple_of X.K) := by
  intro pins s σ H xs us Q I r h
  obtain ⟨p, ys, rfl, h⟩ := h
  obtain ⟨u, rfl, rx⟩ := vals1 r
  cases rx
  rcases h with ⟨hq, q⟩ | ⟨hq, q⟩
  · obtain ⟨its, r', pl, hz⟩ := I.list hq
    have hlen := r'.length
    refine call_tuple_list pl.isList (fun h' kp => ?_) (by simp only [List.size_toArray] <;> (first | lia | omega))
    have I1 : Inv X pins σ H { s with heap := h' } := I.kept (t' := s.toks) kp
    have I2 : Inv X pins σ (upd H h'.objs.size (.tup ys)) { s with heap := h'.push { cls := .type "tuple", data := .seq its.toArray } } :=
      I1.laid (t' := s.toks) (fun b o e => Heap.get?_push_of_some _ e) (Nat.le_refl _) (show ObjOk X.prog X.w _ _ _ (.tup ys) from ⟨hz, its, r', IsTupD.new _ _⟩)
    exact ⟨.ref h'.objs.size, _, I2, rfl, q _ (I1.hok.fresh (Nat.le_refl _))⟩
  · obtain ⟨its, r', pl, hz⟩ := I.tuple hq
    exact call_tuple_same pl ⟨.ref p, H, I, rfl, q⟩

def tyV (K : PySem.W.Frag) (T : String) (x : V) (H : Hp) : Prop := match x with
  | .str _ => T = "str"
  | .int _ => T = "int"
  | .ref p => (T = "list" ∧ ∃ xs, SqL K H p xs) ∨ (T = "tuple" ∧ ((∃ o, K.lookup p = some o ∧ o.cls = .type "tuple" ∧ o.dict = none) ∨ ∃ xs, H p = some (.tup xs))) ∨
      (T = "dict" ∧ ((∃ kvs, H p = some (.dK kvs)) ∨ ∃ kvs, H p = some (.dT kvs))) ∨ (T = "set" ∧ ∃ S n, H p = some (.set S n))
  | _ => False
theorem tyV_is {pins : List (Addr × Obj)} {σ : St} {H : Hp} {s : Shared} {T : String} {x : V} {v : Value} (I : Inv X pins σ H s) (r : RelV x v) (ty : tyV X.K T x H) :
    s.TypeIs v T ∧ ∀ a, v = .ref a → ∃ ob, s.heap.get? a = some ob ∧ ob.dict = none := by
  cases x with
  | str z =>
    obtain ⟨t, rfl⟩ := r
    cases (show T = "str" from ty)
    exact ⟨typeIs_str s z t, fun _ e => nomatch e⟩
  | int i =>
    obtain ⟨t, rfl⟩ := r
    cases (show T = "int" from ty)
    exact ⟨typeIs_int s i t, fun _ e => nomatch e⟩
  | ref p =>
    cases r
    rcases ty with ⟨rfl, xs, hq⟩ | ⟨rfl, ⟨o, hk, hc, hd⟩ | ⟨xs, hk⟩⟩ | ⟨rfl, hk⟩ | ⟨rfl, S, n, hk⟩
    · obtain ⟨its, _, pl, _⟩ := I.list hq
      refine ⟨pl.isList.typeIs, fun a e => ?_⟩
      cases e
      obtain ⟨o, n, e, c, hd, _⟩ := pl
      exact ⟨o, e, hd⟩
    · refine ⟨⟨o, I.kIn p o hk, hc⟩, fun a e => ?_⟩
      cases e
      exact ⟨o, I.kIn _ o hk, hd⟩
    · obtain ⟨_, _, _, o, e1, c1, n, d1, dn⟩ := (show ObjOk X.prog X.w H s.heap p (.tup xs) from I.hok p _ hk)
      refine ⟨⟨o, e1, c1⟩, fun a e => ?_⟩
      cases e
      exact ⟨o, e1, dn⟩
    · have z : ∃ o, s.heap.get? p = some o ∧ o.ExactDict := by
        rcases hk with ⟨kvs, hk⟩ | ⟨kvs, hk⟩
        · obtain ⟨_, _, _, _, o, _, _, e, ex, _⟩ := I.hok p _ hk
          exact ⟨o, e, ex⟩
        · obtain ⟨_, _, _, _, o, _, _, e, ex, _⟩ := I.hok p _ hk
          exact ⟨o, e, ex⟩
      obtain ⟨o, e, ex⟩ := z
      refine ⟨⟨o, e, ex.1⟩, fun a e2 => ?_⟩
      cases e2
      exact ⟨o, e, ex.2.1⟩
    · obtain ⟨o, _, _, _, e, ex, _⟩ := I.hok p _ hk
      refine ⟨⟨o, e, ex.1⟩, fun a e2 => ?_⟩
      cases e2
      exact ⟨o, e, ex.2.1⟩
  | _ => exact False.elim ty
def tBM (K : PySem.W.Frag) (T : String) (r : V → List V → Hp → VK → Prop) (to : TE) (t : TA) : TE := fun σ H Q => to σ H fun x H1 => tyV K T x H1 ∧ t σ H1 fun xs H2 => r x xs H2 Q
variable {o e : Expr} {es : List Expr} {to : TE} {t : TA} {name : Str} {apos cpos : Pos} {T id : String} {r : V → List V → Hp → VK → Prop}
theorem pe_bm (pa : PlainAttrs T) (slot : Slot T name id) (hty : typeOf (.builtin id) = pure (.type "method_descriptor")) (hm : MtR X id r) (ho : PE X o to) (ha : PA X (e :: es) t)
    (hbase : attributeBase o name X.env (eval o X.env) = eval o X.env := by rfl)
    (hfew : ((backTo cpos (starEach (e :: es) X.env)).all (fun x => !x.1) && (backToKw cpos (keywordEach [] X.env)).all (fun x => x.1.isSome)
      && decide ((e :: es).length + ([] : List Keyword).length + (if ([] : List Keyword).isEmpty then 0 else 1) < 30)) = true := by rfl)
    (hline : (apos.endLine == cpos.line) = true := by rfl) (hs : starEach (e :: es) X.env = (false, eval e X.env) :: starEach es X.env := by rfl) (hplain : (backTo cpos (starEach es X.env)).any (·.1) = false := by rfl) :
    PE X (.Call (.Attribute o name apos) (e :: es) [] cpos) (tBM X.K T r to t) := by
  intro pins s σ H Q I h
  refine wpAny_Call_method_late hbase hfew hline rfl (thn (ho pins s σ H _ I h) fun v s1 ⟨x, H1, I1, r1, ty, q1⟩ => ?_)
  obtain ⟨h1, h2⟩ := tyV_is I1 r1 ty
  refine ⟨T, id, pa, slot, hty, h1, h2, ?_⟩
  have hA := ha cpos pins s1 σ H1 _ I1 q1
  rw [hs] at hA ⊢
  refine Calls.callWith_builtin (by show (false || (backTo cpos (starEach es X.env)).any (·.1)) = false; rw [hplain] <;> rfl) (Calls.evalArgs_plain ?_)
  exact thn hA fun us s2 ⟨vs, H2, I2, r2, q2⟩ => hm pins s2 σ H2 x vs v us Q I2 r1 r2 q2
/- xs.append(e), list.index on a module's tuple .. are MtR facts of 06m -/
end
end L2

namespace L2
open PySem PySem.Spec PyProof.Rows

def MtM (X : Cx) (id : String) (r : V → List V → Hp → VK → Prop) : Prop :=
  ∀ (pins : List (Addr × Obj)) (s : Shared) (σ : St) (H : Hp) (x : V) (xs : List V) (v : Value) (us : List Value) (Q : VK), Inv X pins σ H s → RelV x v → Vals xs us → r x xs H Q →
    wpAny (model X.prog X.w) X.A (call (.builtin id) (v :: us)) (EP X pins σ Q) X.xe s

theorem Vals.one : ∀ {x : V} {us : List Value}, Vals [x] us → ∃ u, us = [u] ∧ RelV x u
  | _, _, .cons r .nil => ⟨_, rfl, r⟩
theorem Vals.two : ∀ {x y : V} {us : List Value}, Vals [x, y] us → ∃ u v, us = [u, v] ∧ RelV x u ∧ RelV y v
  | _, _, _, .cons r (.cons q .nil) => ⟨_, _, rfl, r, q⟩
theorem Vals.rep {xs : List V} {us : List Value} (h : Vals xs us) : ∀ k : Nat, Vals (List.replicate k xs).flatten (List.replicate k us).flatten
  | 0 => .nil
  | k + 1 => by
    rw [List.replicate_succ, List.replicate_succ, List.flatten_cons, List.flatten_cons]
    exact Vals.append h (Vals.rep h k)
theorem foldl_rep (its : List Value) : ∀ (k : Nat) (acc : List Value),
    List.foldl (fun x1 x2 => x1 ++ x2) acc.toArray (List.replicate k its.toArray) = (acc ++ (List.replicate k its).flatten).toArray
  | 0, acc => by simp
  | k + 1, acc => by
    have e : acc.toArray ++ its.toArray = (acc ++ its).toArray := by simp
    have e2 : (acc ++ its) ++ (List.replicate k its).flatten = acc ++ (List.replicate (k + 1) its).flatten := by
      rw [List.replicate_succ, List.flatten_cons, List.append_assoc]
    rw [← e2, ← foldl_rep its k (acc ++ its), ← e, List.replicate_succ, List.foldl_cons]

section
variable {X : Cx} {pins : List (Addr × Obj)} {σ : St} {H : Hp} {s : Shared} {l b : Addr} {xs ys zs : List V}

theorem Inv.lset {its its' : List Value} {n : Nat} {f : Array Value → Array Value} {t' : Nat} (I : Inv X pins σ H s) (hH : H l = some (.lst xs))
    (e : s.heap.get? l = some { cls := .type "list", data := .seq its.toArray n }) (hf : f its.toArray = its'.toArray) (hv : Vals ys its') (hz : ys.length ≤ sizeLine) :
    Inv X pins σ (upd H l (.lst ys)) { s with heap := s.heap.update l (Obj.mapSeq f), toks := t' } := by
  have q := PySem.IsL.update e f
  rw [hf] at q
  refine I.write (x := l) (e := l) (by rw [hH]; exact trivial) (.inl rfl) (fun b' u hb hu => (Heap.get?_update_other s.heap (Obj.mapSeq f) (Ne.symm hb)).trans hu) ⟨_, q⟩ ?_
  exact ⟨hz, its', _, hv, q⟩
theorem Inv.lnew {its : List Value} {t' : Nat} (I : Inv X pins σ H s) (hv : Vals ys its) (hz : ys.length ≤ sizeLine) :
    Inv X pins σ (upd H s.heap.objs.size (.lst ys)) { s with heap := s.heap.push { cls := .type "list", data := .seq its.toArray }, toks := t' } :=
  I.laid (fun _ _ q => Heap.get?_push_of_some _ q) (Nat.le_refl _) ⟨hz, its, 0, hv, Heap.get?_push_size _ rfl⟩
theorem Inv.fresh (I : Inv X pins σ H s) : H s.heap.objs.size = none := I.hok.fresh (Nat.le_refl _)
theorem Inv.lstM (I : Inv X pins σ H s) (hH : H l = some (.lst xs)) : xs.length ≤ sizeLine ∧ ∃ (its : List Value) (n : Nat), Vals xs its ∧ xs.length = its.length ∧ s.heap.get? l = some { cls := .type "list", data := .seq its.toArray n } := by
  obtain ⟨z, its, n, r, e⟩ := I.hok l _ hH
  exact ⟨z, its, n, r, r.length, e⟩

theorem notLongL {n : Nat} (h : n ≤ sizeLine) : Builtin.List.listTooLong n = false := by
  unfold Builtin.List.listTooLong
  exact decide_eq_false (by (first | lia | omega))
end

section
variable {X : Cx}

inductive RAppendP (x : V) (vs : List V) (H : Hp) (Q : VK) : Prop
  | mk (l : _) (xs : _) (y : _) (h1 : x = .ref l) (h2 : vs = [y]) (h3 : H l = some (.lst xs)) (h4 : xs.length < sizeLine) (h5 : Q .non (upd H l (.lst (xs ++ [y])))) : RAppendP x vs H Q
def rAppend : V → List V → Hp → VK → Prop := fun x vs H Q => RAppendP  x vs H Q
theorem mt_append : MtM X "list.append" rAppend := by
  intro pins s σ H x vs v us Q I rx rv h
  obtain ⟨l, xs, y, rfl, rfl, hH, hz, q⟩ := h
  cases rx
  obtain ⟨u, rfl, ru⟩ := rv.one
  obtain ⟨z, its, n, r, hl, e⟩ := I.lstM hH
  refine call_meets F.slot_list_append ⟨_, e, rfl⟩ F.entry_list_append (F.args_list_append_2 _ _) (PySem.list_append l its.toArray n u (by rw [List.size_toArray]; (first | lia | omega))) ⟨e, ?_⟩
  refine ⟨.non, _, I.lset (its' := its ++ [u]) hH e (by simp) (r.append (.cons ru .nil)) ?_, rfl, q⟩
  rw [List.length_append, List.length_singleton]
  (first | lia | omega)

inductive RCatP (x : V) (y : V) (H : Hp) (Q : VK) : Prop
  | mk (l : _) (b : _) (xs : _) (zs : _) (h1 : x = .ref l) (h2 : y = .ref b) (h3 : H l = some (.lst xs)) (h4 : H b = some (.lst zs)) (h5 : xs.length + zs.length ≤ sizeLine) (h6 : ∀ p, H p = none → Q (.ref p) (upd H p (.lst (xs ++ zs)))) : RCatP x y H Q
def rCat : R2 := fun x y H Q => RCatP  x y H Q
theorem op_cat : OpR X (binaryOp .Add) rCat := by
  intro pins s σ H x y v u Q I rx ry h
  obtain ⟨l, b, xs, zs, rfl, rfl, hH, hB, hz, q⟩ := h
  cases rx
  cases ry
  obtain ⟨z, its, n, r, hl, e⟩ := I.lstM hH
  obtain ⟨z2, its2, n2, r2, hl2, e2⟩ := I.lstM hB
  refine PySem.P.add_list e e2 ?_ (by rw [List.size_toArray, List.size_toArray]; (first | lia | omega))
  have ea : its.toArray ++ its2.toArray = (its ++ its2).toArray := by simp
  rw [ea]
  exact ⟨.ref _, _, I.lnew (t' := s.toks) (r.append r2) (by rw [List.length_append]; (first | lia | omega)), rfl, q _ I.fresh⟩
inductive RRepP (x : V) (y : V) (H : Hp) (Q : VK) : Prop
  | mk (l : _) (k : _) (xs : _) (h1 : x = .ref l) (h2 : y = .int k) (h3 : H l = some (.lst xs)) (h4 : -(2 ^ 63) ≤ k) (h5 : k < 2 ^ 63) (h6 : xs.length * k.toNat ≤ sizeLine) (h7 : ∀ p, H p = none → Q (.ref p) (upd H p (.lst (List.replicate k.toNat xs).flatten))) : RRepP x y H Q
def rRep : R2 := fun x y H Q => RRepP  x y H Q
theorem len_rep {α : Type} (xs : List α) (k : Nat) : (List.replicate k xs).flatten.length = k * xs.length := by
  induction k with
  | zero => simp
  | succ k ih => rw [List.replicate_succ, List.flatten_cons, List.length_append, ih, Nat.succ_mul, Nat.add_comm]
theorem op_rep : OpR X (binaryOp .Mult) rRep := by
  intro pins s σ H x y v u Q I rx ry h
  obtain ⟨l, k, xs, rfl, rfl, hH, h1, h2, hz, q⟩ := h
  cases rx
  obtain ⟨t, rfl⟩ := ry
  obtain ⟨z, its, n, r, hl, e⟩ := I.lstM hH
  have hlen : its.toArray.size * k.toNat ≤ sizeLine := by rw [List.size_toArray, ← hl]; exact hz
  have hcap : ¬ its.toArray.size * k.toNat > (2 ^ 63 - 1) / 8 := by
    have : (sizeLine : Nat) ≤ (2 ^ 63 - 1) / 8 := by decide
    (first | lia | omega)
  have hfit : ¬ (!Builtin.List.listFitsIndex k) = true := by
    rw [fitsIndex_both h1 h2]
    exact Bool.false_ne_true
  have hlong : ¬ Builtin.List.listTooLong (its.toArray.size * k.toNat) = true := by
    rw [notLongL hlen]
    exact Bool.false_ne_true
  have hnew : List.foldl (fun x1 x2 => x1 ++ x2) #[] (List.replicate (if its.toArray.isEmpty = true then 0 else k.toNat) its.toArray) = (List.replicate k.toNat its).flatten.toArray := by
    have f0 : ∀ m : Nat, List.foldl (fun x1 x2 => x1 ++ x2) #[] (List.replicate m its.toArray) = (List.replicate m its).flatten.toArray := fun m => by
      have := foldl_rep its m []
      rw [List.nil_append] at this
      exact this
    rw [f0]
    cases its with
    | nil => simp
    | cons a r' => rw [if_neg (by simp)]
  refine wpAny_binaryOp_repeat_ref (T := "list") (U := "int") (by decide) ⟨_, e, rfl⟩ (fun s' => typeIs_int s' k t) noFill_list_mul F.fills_int_mul F.slot_int_rmul repeat_list F.slot_int_index.lookup
    (call_meets F.slot_int_rmul (typeIs_int s k t) F.entry_int_rmul (F.args_int_rmul_2 _ _) (int___rmul___int_list k t l its.toArray n)
      ⟨e, rfl, ⟨_, e, rfl⟩, call_meets F.slot_list_mul ⟨_, e, rfl⟩ F.entry_list_mul (F.args_list_mul_2 _ _) (AutoListH.list___mul___list_int_3 l its.toArray n k t hfit hcap hlong) ⟨e, ?_⟩⟩)
  rw [hnew]
  exact ⟨.ref _, _, I.lnew (t' := s.toks) (r.rep k.toNat) (by rw [len_rep, Nat.mul_comm]; exact hz), rfl, q _ I.fresh⟩

end

section
variable {prog : Program} {w : World} {A : Around} {E : Value → Shared → Prop} {s : Shared}
end

section
variable {X : Cx}
end
end L2

namespace Att
open PySem PySem.W PySem.Calls PyProof.Rows

theorem ints_of_wellAll {P : Params} {h : Heap} : ∀ (ns : List Int) (vs : List Value), WellAll P h vs (ns.map WData.int) → IntsAre vs ns := by
  intro ns
  induction ns with
  | nil =>
    intro vs w
    rw [List.map_nil] at w
    cases w
    exact .nil
  | cons n ns ih =>
    intro vs w
    rw [List.map_cons] at w
    cases w with
    | cons a b =>
      cases a
      exact .cons _ _ (ih _ b)

theorem script_of {l : OpenLaw} {n : Nat} (hn : l.most = some n) {P : Params} {h : Heap} {args : List WData} {vals : List Value}
    (hpre : l.row.toRowW.claim.pre args = true) (hwl : WellAll P h vals args) :
    ∃ a vs ns, vals = [Value.ref a] ∧ args = [WData.list (ns.map WData.int)] ∧ h.get? a = some { cls := .type "list", data := .seq vs.toArray } ∧ IntsAre vs ns ∧ ns.length ≤ n := by
  have hsh : WShape.hasAll [] args [.list .int] = true := (pre_splitW hpre).1
  have hc : l.pre.holds [] { args := args } = true := (pre_splitW hpre).2
  obtain ⟨d, r, rfl, h1, h2⟩ := hasAllW_cons hsh
  obtain rfl := hasAllW_nil h2
  obtain ⟨xs, rfl, h3⟩ := hasW_list h1
  obtain ⟨ns, rfl⟩ := items_int h3
  have hlen : ns.length ≤ n := by
    unfold OpenLaw.pre at hc
    have h4 : (WTm.not (.lt (.lit (.int (n : Int))) (.len (.arg 0)))).holds [] { args := [.list (ns.map .int)] } = true := by
      have h4 := (holds_andW hc).1
      rw [hn] at h4
      exact h4
    have h5 := condW_of h4 (w_not (w_lt w_lit (w_len_list (w_arg rfl))))
    rw [List.length_map] at h5
    refine Nat.le_of_not_lt fun q => ?_
    have q' : (n : Int) < ((ns.length : Nat) : Int) := by (first | lia | omega)
    first
      | (rw [decide_eq_true q'] at h5; exact absurd h5 (by decide))
      | (simp at h5; (first | lia | omega))
  cases hwl with
  | cons w1 w2 =>
    cases w2
    cases w1 with
    | list ho hall => exact ⟨_, _, ns, rfl, rfl, ho, ints_of_wellAll ns _ hall, hlen⟩

theorem post_true (l : OpenLaw) (args : List WData) : l.row.toRowW.claim.post args (.bool true) args = true :=
  postW_of (r := l.row.toRowW) (X := (true == true))
    (show WShape.has [] (.bool true) .bool = true by first | rfl | decide | simp [WShape.has, WShape.arms, WShape.armsAll])
    (show (WTm.eq .res (.lit (.bool true))).value [] { args := args, res := some (.bool true), after := args } = some (.bool (true == true)) from w_eq_bool (w_res rfl) w_lit) rfl

theorem attach_call {l : OpenLaw} {n : Nat} {q : Program} {loose : List Str} {XP : (Str → Option Value) → Heap → Prop} {YP : World → Heap → Prop} {d : DefRec}
    (hn : l.most = some n) (hdf : d.params.defaults = [])
    (call : ∀ (w : World) (s₀ s₁ : Shared) (mg mb : Str → Option Value) (fa : Addr) (o : Obj) (pm cd doc : Value) (a : Addr) (vs : List Value) (ns : List Int),
      Ground q loose [] XP w s₀ mg mb s₁.heap → YP w s₁.heap →
      s₁.heap.get? fa = some o → o.data = .func (docDef d.name d.params d.body d.scope pm cd doc) → s₁.heap.CodeRec cd d.name → mg d.name = some (.ref fa) →
      s₁.heap.get? a = some { cls := .type "list", data := .seq vs.toArray } → IntsAre vs ns → ns.length ≤ n → s₁.gens = #[] →
      codeAny (model l.prog w) callerA (.call (.ref fa) ⟨[.ref a], []⟩) (fun r s' => r = .ok (.ret (.bool true)) ∧ OldK s₁.heap s'.heap ∧ s'.os = s₁.os ∧ AllBare s'.gens) s₁) :
    WalkO q loose XP YP l.row.toRowW d [] (fun f vs => PySem.call f vs) := by
  intro w s₀ s₁ mg mb G Y fa o pm cd doc dV kV ho hd hcd hD hmg hg args vals as hpre hlay hrd hwl hlo
  obtain rfl : dV = .none := Dflts.none hD hdf
  obtain rfl : kV = .none := Dflts.noKw hD
  obtain ⟨a, vs, ns, rfl, rfl, hobj, hints, hlen⟩ := script_of hn hpre hwl
  refine enter_call (codeAny_mono (call w s₀ s₁ mg mb fa o pm cd doc a vs ns G Y ho (fd_plain hd) hcd hmg hobj hints hlen hg) fun r s' hq => ?_)
  obtain ⟨rfl, h2, h3, h4⟩ := hq
  exact ⟨.inl ⟨.bool true, .bool true, [], rfl, fun _ => rfl, .bool true, post_true l _, fun _ => ⟨List.Pairwise.nil, fun _ hm => (nomatch hm)⟩⟩, h2, h3, h4⟩

section
variable {prog : Program} {w : World} {A : Around} {E : Value → Shared → Prop} {s : Shared} {K : Frag}

def ledger (h : Heap) (L d : Addr) : List (Addr × Obj) := (List.range h.objs.size).filterMap fun a => if a = L ∨ a = d then none else (h.get? a).map fun o => (a, o)
end
end Att

namespace L2
open PySem PySem.Spec PyProof.Rows

theorem vals_ints : ∀ {vs : List Value} {ns : List Int}, IntsAre vs ns → Vals (ns.map V.int) vs
  | _, _, .nil => .nil
  | _, _, .cons n t h => .cons ⟨t, rfl⟩ (vals_ints h)

def Only (H : Hp) : Prop := ∀ b, H b = none ∨ ∃ o xs, H b = some (.frz o (.lst xs))

theorem law_call {P : Program} {w : World} {K : PySem.W.Frag} {mg mb : Str → Option Value} {CX : CXT} {k : Nat} {fa a : Addr} {fd : FuncData} {x : Str} {sp : Sp} {s₁ : Shared} {vs : List Value} {ns : List Int}
    (KX : K.In s₁.heap) (hns : s₁.heap.Ns mainGlobals mg) (hb : s₁.heap.Ns builtinsNs mb) (hbb : ∀ x : Str, x ≠ "__name__" → mb x = bootBuiltins x) (hlim : s₁.heap.NoLimit) (hg : s₁.gens = #[])
    (ha : s₁.heap.get? a = some { cls := .type "list", data := .seq vs.toArray }) (hi : IntsAre vs ns) (hl : ns.length ≤ sizeLine) (hr : Room k callerA)
    (F : ∀ base : Heap, K.In base → base.Ns mainGlobals mg → FnOk P w K mg base CX k fa fd [x] sp) (hbind : ∀ (s : Shared) (u : Value), BindsTo s fd ⟨[u], []⟩ [(x, u)])
    (hsp : ∀ H : Hp, Only H → SqL K H a (ns.map V.int) → sp [.ref a] H (fun v _ => v = .bl true) fun _ _ _ => False)
    (hCX : ∀ H e s', CX [] H s₁ (fun _ _ _ => False) e s' → False) :
    codeAny (model P w) callerA (.call (.ref fa) ⟨[.ref a], []⟩) (fun r s' => r = .ok (.ret (.bool true)) ∧ OldK s₁.heap s'.heap ∧ s'.os = s₁.os ∧ AllBare s'.gens) s₁ := by
  have rv := vals_ints hi
  have lenV := hi.length
  -- from an abstract heap in which nothing but the script may be tracked
  have core : ∀ H : Hp, Only H → SqL K H a (ns.map V.int) → HOk P w H s₁.heap → (∀ b, H b ≠ none → b = a) → (H a ≠ none → K.lookup a = none) →
      codeAny (model P w) callerA (.call (.ref fa) ⟨[.ref a], []⟩) (fun r s' => r = .ok (.ret (.bool true)) ∧ OldK s₁.heap s'.heap ∧ s'.os = s₁.os ∧ AllBare s'.gens) s₁ := by
    intro H hO hS hok hA hK
    have base_of : ∀ {b : Addr} {o : Obj}, s₁.heap.get? b = some o → H b = none → (hidT s₁.heap H).get? b = some o := fun e n => hidT_get e n
    have noA : ∀ {b : Addr} {o : Obj} {es : Array DictEntry} {ep : Nat}, s₁.heap.get? b = some o → o.data = .dict es ep → H b = none := fun {b o es ep} e d => by
      cases q : H b with
      | none => rfl
      | some u =>
        have e' : b = a := hA b (by rw [q]; simp)
        subst e'
        rw [ha] at e; cases e
        have d' : Data.seq vs.toArray _ = Data.dict es ep := d
        cases d'
    have nsK : ∀ {b : Addr} {m : Str → Option Value}, s₁.heap.Ns b m → (hidT s₁.heap H).Ns b m := fun {b m} ⟨o, es, ep, e, d, r⟩ => ⟨o, es, ep, base_of e (noA e d), d, r⟩
    have hKb : K.In (hidT s₁.heap H) := fun b o e => base_of (KX b o e) (by
      cases q : H b with
      | none => rfl
      | some u =>
        have e' : b = a := hA b (by rw [q]; simp)
        subst e'
        rw [hK (by rw [q]; simp)] at e; cases e)
    have hM : Mod K mg (hidT s₁.heap H) := ⟨hKb, nsK hns, ⟨mb, nsK hb, hbb⟩, let ⟨mc, h1, h2⟩ := hlim; ⟨mc, nsK h1, h2⟩⟩
    have e0 : Env0 P w K mg (hidT s₁.heap H) callerA [] s₁ H := ⟨rfl, hM, fun b o e => of_hidT e, Nat.le_of_eq (hidT_size _ _), trivial, fun b hb => absurd (show b ∈ ([] : List Addr) from hb) (by simp), hok, .of_eq hg⟩
    refine codeAny_mono ((F _ hKb (nsK hns)).run callerA [] s₁ H ⟨[.ref a], []⟩ [.ref a] [.ref a] _ _ hr e0 (hbind s₁ (.ref a)) (.cons rfl .nil) (hsp H hO hS)) fun r s' h => ?_
    cases r with
    | error e => exact (hCX H e s' h).elim
    | ok fl =>
      cases fl with
      | next => exact False.elim h
      | brk => exact False.elim h
      | cont => exact False.elim h
      | ret u =>
        obtain ⟨v, H', os, bare, un, hok', r', q⟩ := h
        have q' : v = .bl true := q
        subst q'
        obtain rfl : u = Value.bool true := r'
        refine ⟨rfl, OldK.of_keep fun b o e => ?_, os, bare⟩
        cases q : H b with
        | none => exact un.keep b o e q (by intro z; exact absurd (show b ∈ ([] : List Addr) from z) (by simp)) (by simp)
        | some u =>
          rcases hO b with z | ⟨ob, xs, z⟩
          · rw [q] at z; cases z
          · have z2 := un.frzs b ob _ z
            obtain ⟨e1, _⟩ := hok b _ z
            obtain ⟨e2, _⟩ := hok' b _ z2
            rw [e] at e1; cases e1
            exact e2
  cases hk : K.lookup a with
  | some o =>
    -- the script is one of the module's own objects
    have e := KX a o hk
    rw [ha] at e
    cases e
    refine core (fun _ => none) (fun _ => .inl rfl) (.inr ⟨_, vs.toArray, _, hk, rfl, rfl, rfl, by rw [List.size_toArray, lenV]; exact hl, by simpa using rv⟩) (fun b u z => by have z' : (none : Option HO) = some u := z; cases z') (fun b z => absurd rfl z) fun z => absurd rfl z
  | none =>
    refine core (fun b => if b = a then some (.frz { cls := .type "list", data := .seq vs.toArray } (.lst (ns.map V.int))) else none) (fun b => ?_) (.inl (.inr ⟨{ cls := .type "list", data := .seq vs.toArray }, if_pos rfl⟩)) (fun b u z => ?_) (fun b z => ?_) fun _ => hk
    · by_cases hb : b = a
      · exact .inr ⟨_, _, if_pos hb⟩
      · exact .inl (if_neg hb)
    · by_cases hb : b = a
      · have z' := (if_pos hb).symm.trans z
        cases z'
        subst hb
        exact ⟨ha, by rw [List.length_map]; exact hl, vs, _, rv, ha⟩
      · have z' := (if_neg hb).symm.trans z
        cases z'
    · by_cases hb : b = a
      · exact hb
      · exact absurd (if_neg hb) z
end L2

namespace L2
open PySem PySem.Spec PyProof.Rows

theorem walk_of {l : PySem.W.OpenLaw} {n k : Nat} {q : Program} {loose : List Str} {XP : (Str → Option Value) → Heap → Prop} {YP : World → Heap → Prop} {d : DefRec} {K : Params → PySem.W.Frag} {CX : World → CXT} {sp : World → Sp} {x : Str}
    (hn : l.most = some n) (hn2 : n ≤ sizeLine) (hdf : d.params.defaults = []) (hr : Room k callerA)
    (hY : ∀ (w : World) (h : Heap), YP w h → (K w.params).In h)
    (F : ∀ (w : World) (mg : Str → Option Value) (fa : Addr) (h : Heap), (K w.params).In h → h.Ns mainGlobals mg → mg d.name = some (.ref fa) →
      ∃ fd : FuncData, (∀ (s : Shared) (u : Value), BindsTo s fd ⟨[u], []⟩ [(x, u)]) ∧
        ∀ base : Heap, (K w.params).In base → base.Ns mainGlobals mg → FnOk l.prog w (K w.params) mg base (CX w) k fa fd [x] (sp w))
    (hsp : ∀ (w : World) (H : Hp) (a : Addr) (ns : List Int), ns.length ≤ n → Only H → SqL (K w.params) H a (ns.map V.int) → sp w [.ref a] H (fun v _ => v = .bl true) fun _ _ _ => False)
    (hCX : ∀ (w : World) (H : Hp) (s : Shared) (e : Value) (s' : Shared), CX w [] H s (fun _ _ _ => False) e s' → False) :
    PySem.W.WalkO q loose XP YP l.row.toRowW d [] (fun f vs => PySem.call f vs) := by
  refine Att.attach_call hn hdf fun w s₀ s₁ mg mb fa o pm cd doc a vs ns G Y ho hd hcd hmg hobj hints hlen hg => ?_
  have KX := hY w _ Y
  obtain ⟨fd, hb, hF⟩ := F w mg fa _ KX G.T.g hmg
  exact law_call KX G.T.g G.T.b G.T.builtins G.T.nolimit hg hobj hints (Nat.le_trans hlen hn2) hr hF hb (fun H hO hS => hsp w H a ns hlen hO hS) fun H e s' => hCX w H s₁ e s'
end L2

namespace L2
open PySem PySem.Spec PyProof.Rows

def inClass (s : Stmt) (j : Nat) : Stmt := match s with
  | .ClassDef _ _ _ body _ _ _ _ _ _ _ => body.getD j (.Pass ⟨0, 0, 0, 0⟩)
  | _ => .Pass ⟨0, 0, 0, 0⟩
def defArgs (s : Stmt) : Arguments := match s with
  | .FunctionDef _ a _ _ _ _ _ _ _ _ => a
  | _ => { posonlyargs := [], args := [], vararg := none, kwonlyargs := [], kw_defaults := [], kwarg := none, defaults := [] }
def defBody (s : Stmt) : List Stmt := match s with
  | .FunctionDef _ _ b _ _ _ _ _ _ _ => b
  | _ => []
def defScope (s : Stmt) : Scope := match s with
  | .FunctionDef _ _ _ _ _ _ sc _ _ _ => sc
  | _ => { kind := .function, names := [], isGenerator := false, isCoroutine := false }

abbrev CX0 : CXT := fun _ _ _ _ _ _ => False
abbrev E0 : XK := fun _ _ _ => False
theorem pass0 {X : Cx} : Passes CX0 X E0 := fun _ _ _ _ _ _ _ h => h.elim

structure Fun (K : PySem.W.Frag) (x qual : Str) (st : Stmt) (f : Addr) (fd : FuncData) : Prop where
  ex : ∃ (oc : Value) (od : Option Addr) (kV doc pm : Value) (an : Option Addr) (cdv ct : Value) (osl : Array (Option Value)),
    fd = PySem.W.fnOf x qual (defArgs st) (defBody st) (defScope st) .none kV doc pm an cdv ct ∧ K.lookup f = some ⟨oc, od, .func fd, osl⟩ ∧ PySem.W.codeIn K cdv qual = true
  kp : PySem.W.keepIn K (.ref f) = true
section
variable {P : Program} {w : World} {K : PySem.W.Frag} {mg : Str → Option Value} {base : Heap}
theorem Fun.ok {x qual : Str} {st : Stmt} {f : Addr} {fd : FuncData} {N ps : List Str} {k : Nat} {sp : Sp} (F : Fun K x qual st f fd) (S : FnScope N ps (defScope st)) (len : ∀ vs H Q E, sp vs H Q E → vs.length = ps.length)
    (hbody : ∀ (cdv : Value) (A : Around) (outer : List Env) (s : Shared) (H : Hp) (vs : List V) (Q : VK) (E : XK), Room k (A.deeper (envOfC qual (defScope st) s.heap.objs.size f cdv)) → sp vs H Q E →
      ∃ t, PSs (cxOf CX0 P w K mg base N qual (defScope st) f cdv A outer s H E).nox (defBody st) t ∧ t { nx := fun _ H' => Q .non H', rt := Q } (start N vs) H) : FnOk P w K mg base CX0 (k + 1) f fd ps sp := by
  obtain ⟨oc, od, kV, doc, pm, an, cdv, ct, osl, rfl, lk, hcd⟩ := F.ex
  refine fn_of lk hcd S len fun A outer s H vs Q E hr hsp => ?_
  obtain ⟨t, h, q⟩ := hbody cdv A outer s H vs Q E hr hsp
  exact ⟨t, h.nox, q⟩
theorem Fun.binds {x qual : Str} {st : Stmt} {f : Addr} {fd : FuncData} {ps : List Str} (F : Fun K x qual st f fd)
    (h : ∀ (kV doc pm : Value) (an : Option Addr) (cdv ct : Value) (us : List Value), us.length = ps.length → bindArgs (PySem.W.fnOf x qual (defArgs st) (defBody st) (defScope st) .none kV doc pm an cdv ct) ⟨us, []⟩ = pure (ps.zip us)) : Binds K fd ps [] := by
  obtain ⟨oc, od, kV, doc, pm, an, cdv, ct, osl, rfl, lk, hcd⟩ := F.ex
  exact .all (h kV doc pm an cdv ct)
theorem fun_mk {x qual : Str} {st : Stmt} {f : Addr} {oc : Value} {od an : Option Addr} {osl : Array (Option Value)} {kV doc pm cdv ct : Value} (l : K.lookup f = some ⟨oc, od, .func (PySem.W.fnOf x qual (defArgs st) (defBody st) (defScope st) .none kV doc pm an cdv ct), osl⟩)
    (c : PySem.W.codeIn K cdv qual = true) (k : PySem.W.keepIn K (.ref f) = true) : Fun K x qual st f (PySem.W.fnOf x qual (defArgs st) (defBody st) (defScope st) .none kV doc pm an cdv ct) := ⟨⟨oc, od, kV, doc, pm, an, cdv, ct, osl, rfl, l, c⟩, k⟩
end
theorem hu_of {A : Around} {k : Nat} (hr : Room k A) : A.units + 1 < cLine := Nat.lt_of_le_of_lt (Nat.add_le_add_left (by decide : 1 ≤ 64) _) hr.units
section
variable {X : Cx}
theorem pv (i : Nat) {x : Str} {pos : Pos} (hN : X.N[i]? = some x := by rfl) (hv : Vis X.env.scope x := by first | exact Or.inl rfl | exact Or.inr (Or.inl rfl) | exact Or.inr (Or.inr rfl)) (hd : (x == ("__debug__" : Str)) = false := by decide)
    (hcd : (x == ("__classdict__" : Str)) = false := by decide) : PE X (.Name x pos) (tVar i) := pe_var hN hv hd hcd
end

theorem ite2 {c A B : Prop} [Decidable c] (h1 : c → A) (h2 : ¬ c → B) : if c then A else B := by
  by_cases h : c
  · rw [if_pos h]
    exact h1 h
  · rw [if_neg h]
    exact h2 h
def Same (H H' : Hp) : Prop := ∀ b o, H b = some o → H' b = some o
theorem Same.refl (H : Hp) : Same H H := fun _ _ h => h
theorem Same.trans {H H1 H2 : Hp} (a : Same H H1) (b : Same H1 H2) : Same H H2 := fun c o h => b c o (a c o h)
theorem Same.free {H H' : Hp} (e : Same H H') {l : Addr} (h : H' l = Option.none) : H l = Option.none := by
  cases q : H l with
  | none => rfl
  | some o =>
    rw [e l o q] at h
    cases h
theorem Same.seq {K : PySem.W.Frag} {H H' : Hp} {a : Addr} {xs : List V} (e : Same H H') (h : SqL K H a xs) : SqL K H' a xs := by
  rcases h with (h | ⟨o, h⟩) | h
  · exact .inl (.inl (e _ _ h))
  · exact .inl (.inr ⟨o, e _ _ h⟩)
  · exact .inr h

end L2

namespace L2
open PySem PySem.Spec PyProof.Rows

def clo (env : Env) : List (Str × NameKind) → List (Str × Addr) → List (Str × Addr)
  | [], acc => acc
  | (n, k) :: r, acc => if k == .free then clo env r ((n, (env.cells.lookup n).getD 0) :: acc) else clo env r acc
theorem clo_run {env : Env} {f : Str × NameKind → List (Str × Addr) → Sem (ForInStep (List (Str × Addr)))}
    (hf : ∀ n k acc, f (n, k) acc = if k == .free then (do let a ← cellOf env n; pure (ForInStep.yield ((n, a) :: acc))) else pure (ForInStep.yield acc)) :
    ∀ (names : List (Str × NameKind)) (acc : List (Str × Addr)), (∀ p ∈ names, p.2 = .free → ∃ a, env.cells.lookup p.1 = some a) →
    (forIn names acc f : Sem (List (Str × Addr))) = pure (clo env names acc)
  | [], acc, _ => rfl
  | (n, k) :: r, acc, h => by
    rw [List.forIn_cons, hf]
    unfold clo
    by_cases hk : (k == NameKind.free) = true
    · rw [if_pos hk, if_pos hk]
      obtain ⟨a, ha⟩ := h (n, k) List.mem_cons_self (by simpa using hk)
      have e : cellOf env n = pure a := by
        unfold cellOf
        rw [show env.cells.lookup n = some a from ha]
      rw [e, show env.cells.lookup n = some a from ha]
      simp only [pure_bind]
      exact clo_run hf r _ fun p hp => h p (List.mem_cons_of_mem _ hp)
    · rw [if_neg hk, if_neg hk, pure_bind]
      exact clo_run hf r _ fun p hp => h p (List.mem_cons_of_mem _ hp)
theorem closureFor_clo {env : Env} {scope : Scope} (h : ∀ p ∈ scope.names, p.2 = .free → ∃ a, env.cells.lookup p.1 = some a) : closureFor scope env = pure (clo env scope.names []) := by
  simp only [closureFor]
  rw [clo_run (env := env) (fun n k acc => ?_) scope.names [] h]
  · rfl
  · by_cases hk : (k == NameKind.free) = true
    · simp only [hk, if_true]
    · simp only [hk, if_false]
theorem clo_mem {env : Env} : ∀ {names : List (Str × NameKind)} {acc : List (Str × Addr)}, (∀ p ∈ names, p.2 = .free → ∃ a, env.cells.lookup p.1 = some a) → ∀ p ∈ clo env names acc, p ∈ acc ∨ (env.cells.lookup p.1 = some p.2)
  | [], acc, _, p, hp => .inl hp
  | (n, k) :: r, acc, h, p, hp => by
    unfold clo at hp
    have hr : ∀ p ∈ r, p.2 = .free → ∃ a, env.cells.lookup p.1 = some a := fun p hp => h p (List.mem_cons_of_mem _ hp)
    by_cases hk : (k == NameKind.free) = true
    · rw [if_pos hk] at hp
      obtain ⟨a, ha⟩ := h (n, k) List.mem_cons_self (by simpa using hk)
      rcases clo_mem hr p hp with q | q
      · rcases List.mem_cons.mp q with q | q
        · subst q
          right
          show env.cells.lookup n = some ((env.cells.lookup n).getD 0)
          rw [show env.cells.lookup n = some a from ha]; rfl
        · exact .inl q
      · exact .inr q
    · rw [if_neg hk] at hp
      exact clo_mem hr p hp
theorem clo_acc {env : Env} : ∀ {names : List (Str × NameKind)} {acc : List (Str × Addr)}, ∀ p ∈ acc, p ∈ clo env names acc
  | [], acc, p, hp => hp
  | (n, k) :: r, acc, p, hp => by
    unfold clo
    by_cases hk : (k == NameKind.free) = true
    · rw [if_pos hk]; exact clo_acc p (List.mem_cons_of_mem _ hp)
    · rw [if_neg hk]; exact clo_acc p hp
theorem clo_has {env : Env} : ∀ {names : List (Str × NameKind)} {acc : List (Str × Addr)} {x : Str}, (x, NameKind.free) ∈ names → ∃ a, (x, a) ∈ clo env names acc
  | [], _, _, h => by cases h
  | (n, k) :: r, acc, x, h => by
    unfold clo
    rcases List.mem_cons.mp h with q | q
    · cases q
      rw [if_pos (show (NameKind.free == NameKind.free) = true from rfl)]
      exact ⟨_, clo_acc _ List.mem_cons_self⟩
    · by_cases hk : (k == NameKind.free) = true
      · rw [if_pos hk]; exact clo_has q
      · rw [if_neg hk]; exact clo_has q
theorem look_of_mem {β : Type} : ∀ {l : List (Str × β)} {x : Str} {b : β}, (x, b) ∈ l → ∃ b', l.lookup x = some b'
  | [], _, _, h => by cases h
  | (n, k) :: r, x, b, h => by
    rw [List.lookup_cons]
    cases hx : x == n with
    | true => exact ⟨k, rfl⟩
    | false =>
      rcases List.mem_cons.mp h with q | q
      · cases q; simp at hx
      · exact look_of_mem q
theorem mem_of_look {β : Type} : ∀ {l : List (Str × β)} {x : Str} {b : β}, l.lookup x = some b → (x, b) ∈ l
  | [], _, _, h => by simp at h
  | (n, k) :: r, x, b, h => by
    rw [List.lookup_cons] at h
    cases hx : x == n with
    | true =>
      rw [hx] at h
      have : x = n := by simpa using hx
      subst this
      cases h
      exact List.mem_cons_self
    | false =>
      rw [hx] at h
      exact List.mem_cons_of_mem _ (mem_of_look h)

theorem relabel_lookup {env : Env} {x : Str} : ∀ (names : List (Str × NameKind)),
    (names.map fun (p : Str × NameKind) => match p with | (n, k) => if (k == .free && env.scope.kind == .function && env.kindOf n == some .cell) then (n, NameKind.cell) else (n, k)).lookup x =
      (names.lookup x).map fun k => if (k == .free && env.scope.kind == .function && env.kindOf x == some .cell) then NameKind.cell else k
  | [] => rfl
  | (n, k) :: r => by
    have ih := @relabel_lookup env x r
    rw [List.map_cons]
    show List.lookup x ((if (k == NameKind.free && env.scope.kind == .function && env.kindOf n == some .cell) = true then (n, NameKind.cell) else (n, k)) :: _) = _
    cases hx : x == n with
    | true =>
      have e : x = n := by simpa using hx
      subst e
      by_cases hc : (k == NameKind.free && env.scope.kind == .function && env.kindOf x == some .cell) = true
      · rw [if_pos hc]; simp only [List.lookup_cons, hx, Option.map_some, if_pos hc]
      · rw [if_neg hc]; simp only [List.lookup_cons, hx, Option.map_some, if_neg hc]
    | false =>
      by_cases hc : (k == NameKind.free && env.scope.kind == .function && env.kindOf n == some .cell) = true
      · rw [if_pos hc]; simp only [List.lookup_cons, hx]; exact ih
      · rw [if_neg hc]; simp only [List.lookup_cons, hx]; exact ih
theorem relabel_names {env : Env} {scope : Scope} {x : Str} : (relabel scope env).names.lookup x = (scope.names.lookup x).map fun k => if (k == .free && env.scope.kind == .function && env.kindOf x == some .cell) then NameKind.cell else k :=
  relabel_lookup scope.names

def cxComp (X : Cx) (N' : List Str) (scope : Scope) (cl : List (Str × Addr)) (C : Addr) (s : Shared) (H : Hp) (fp : List Addr) (pn : List (Addr × Obj)) : Cx :=
  { X with N := N', s₀ := s, H₀ := H, env := compEnvC scope cl C X.env, outer := X.stack, stack := X.stack, ex := fp, fn := fun _ => false, pn := pn, xe := fun _ _ => False }

def Wk : St → St → Prop
  | [], [] => True
  | a :: r, b :: q => (a = none ∨ a = b) ∧ Wk r q
  | _, _ => False
theorem Wk.len : ∀ {a b : St}, Wk a b → a.length = b.length
  | [], [], _ => rfl
  | _ :: _, _ :: _, h => by simp [Wk.len h.2]
  | [], _ :: _, h => False.elim h
  | _ :: _, [], h => False.elim h
theorem Wk.get : ∀ {a b : St}, Wk a b → ∀ (i : Nat) v, a[i]? = some (some v) → b[i]? = some (some v)
  | [], [], _, i, v, h => by simp at h
  | x :: r, y :: q, h, 0, v, e => by
    simp at e
    rcases h.1 with z | z
    · rw [z] at e; cases e
    · simp [← z, e]
  | x :: r, y :: q, h, i + 1, v, e => by
    simp at e ⊢
    exact Wk.get h.2 i v e
  | [], _ :: _, h, _, _, _ => False.elim h
  | _ :: _, [], h, _, _, _ => False.elim h

def stC (own : Nat) (caps : List Nat) (σ : St) : St := List.replicate own none ++ caps.map fun j => (σ[j]?).join

def PTs (X : Cx) (ifs : List Expr) (t : TT) : Prop :=
  ∀ (pins : List (Addr × Obj)) (s : Shared) (σ : St) (H : Hp) (Q : Bool → Hp → Prop), Inv X pins σ H s → t σ H Q →
    wpAny (model X.prog X.w) X.A (forIn ifs true fun c r => if r = true then do let ok ← isTrue c X.env (eval c X.env); pure (ForInStep.yield ok) else pure (ForInStep.yield r)) (TP X pins σ Q) X.xe s
def tTru : TT := fun _ H Q => Q true H
theorem tru_if {σ : St} {H : Hp} {A B : Hp → Prop} (h : A H) : tTru σ H (fun b H3 => if b = true then A H3 else B H3) := by
  show if true = true then A H else B H
  rw [if_pos rfl]
  exact h
theorem pts_nil {X : Cx} : PTs X [] tTru := fun _ _ _ H _ I h => wpAny_tests_nil ⟨H, I, h⟩
theorem pts_one {X : Cx} {c : Expr} {t : TT} (h : PT X c t) : PTs X [c] t := fun pins s σ H Q I q => wpAny_tests_one (h pins s σ H Q I q)

theorem compLoop_go {prog : Program} {w : World} {A : Around} {R : Result → Shared → Prop} {s : Shared} {elt target iter : Expr} {ifs : List Expr} {scope : Scope} {pos : Pos} {it acc : Value} {env : Env} (I : Nat → Shared → Prop)
    (turn : ∀ n s, I n s → wpAny (model prog w) A (pyNext it) (fun r s₁ => match r with
      | none => R (.ok .next) s₁
      | some v => wpAny (model prog w) A (letOwnedTupleGo target it v) (fun _ s₁' => wpAny (model prog w) A (assign target env v) (fun _ s₂ =>
          wpAny (model prog w) A (forIn ifs true fun c r => if r = true then do let ok ← isTrue c env (eval c env); pure (ForInStep.yield ok) else pure (ForInStep.yield r)) (fun ok s₃ =>
            if ok = true then wpAny (model prog w) A (eval elt env) (fun x s₄ =>
              wpAny (model prog w) A (call (.builtin "list.append") [acc, x]) (fun _ s₅ => ∃ m, m < n ∧ I m s₅) (fun _ _ => False) s₄) (fun _ _ => False) s₃
            else ∃ m, m < n ∧ I m s₃) (fun _ _ => False) s₂) (fun _ _ => False) s₁') (fun _ _ => False) s₁) (fun _ _ => False) s)
    (n : Nat) (h : I n s) :
    codeAny (model prog w) A (.compLoop (.ListComp elt [⟨target, iter, ifs, 0⟩] scope pos) 0 it acc env) R s := by
  refine codeAny_loop rfl I (fun n s hI => ?_) n h
  show wpAny _ A ((compTurn (.ListComp elt [⟨target, iter, ifs, 0⟩] scope pos) 0 it acc env).onRaise (fun x => do noteFrame x env; theTreesLotGoes x)) _ _ s
  refine wpAny_noted ?_
  rw [compTurn_list]
  refine wpAny_bind (wpAny_standAt (wpAny_bind (wpAny_mono (turn n s hI) (fun r s₁ h₁ => ?_) fun _ _ h' => False.elim h')))
  cases r with
  | none => exact wpAny_pure h₁
  | some v =>
    refine wpAny_bind (wpAny_mono h₁ (fun _ s₁' h₁' => ?_) fun _ _ h' => False.elim h')
    refine wpAny_bind (wpAny_mono h₁' (fun _ s₂ h₂ => wpAny_bind (wpAny_mono h₂ (fun ok s₃ h₃ => ?_) fun _ _ h' => False.elim h')) fun _ _ h' => False.elim h')
    cases ok with
    | false => exact wpAny_pure ⟨rfl, h₃⟩
    | true =>
      exact wpAny_bind (wpAny_bind (wpAny_mono h₃ (fun x s₄ h₄ => wpAny_bind (wpAny_mono h₄ (fun _ s₅ h₅ => wpAny_pure (wpAny_pure ⟨rfl, h₅⟩)) fun _ _ h' => False.elim h')) fun _ _ h' => False.elim h'))

def tComp (wi : TI) (own : Nat) (caps : List Nat) (g : TG) (tt : TT) (te : TE) : TE := fun σ H Q => wi σ H fun J H1 => ∀ l, H1 l = none → ∃ W : Nat → Nat → List V → Hp → Prop, (∃ m, W 0 m [] (upd H1 l (.lst []))) ∧
  ∀ i m ys H, W i m ys H → H l = some (.lst ys) ∧ ((J.stop i H ∧ Q (.ref l) H) ∨ (J.go i H ∧ ys.length < sizeLine ∧ ∃ N : List V → Hp → Prop, (∀ ys' H', N ys' H' → ∃ m', m' < m ∧ W (i + 1) m' ys' H') ∧
    ∀ x H', J.yld i H x H' → g x (stC own caps σ) H' fun σ2 H2 => Wk (stC own caps σ) σ2 ∧
    tt σ2 H2 fun b H3 => if b = true then te σ2 H3 fun y H4 => H4 l = some (.lst ys) ∧ N (ys ++ [y]) (upd H4 l (.lst (ys ++ [y]))) else N ys H3))

section
variable {X : Cx} {tg elt iter : Expr} {ifs : List Expr} {scope : Scope} {pos : Pos} {wi : TI} {g : TG} {tt : TT} {te : TE} {ownN : List Str} {caps : List (Str × Nat)}
theorem inv_comp {pins : List (Addr × Obj)} {σ : St} {H : Hp} {s : Shared} {fp : List Addr} {h₁ : Heap}
    (I : Inv X pins σ H s) (hf : ∀ b ∈ fp, FpOk X pins H b) (hfl : ∀ b ∈ fp, b < s.heap.objs.size)
    (hkind : scope.kind = .function) (hcell : ∀ y ∈ scope.names, y.2 ≠ .cell)
    (hfree : ∀ p ∈ scope.names, p.2 = .free → X.env.scope.names.lookup p.1 = some .cell)
    (hcaps : ∀ c ∈ caps, X.N[c.2]? = some c.1 ∧ X.env.scope.names.lookup c.1 = some .cell ∧ scope.names.lookup c.1 = some .free)
    (hn : h₁.Ns s.heap.objs.size (fun _ => none)) (hk : ∀ b o, s.heap.get? b = some o → h₁.get? b = some o) {tk : Nat} :
    Inv (cxComp X (ownN ++ caps.map (·.1)) scope (clo X.env scope.names []) s.heap.objs.size s H fp (X.pn ++ pins)) [] (stC ownN.length (caps.map (·.2)) σ) H { s with heap := h₁, toks := tk } := by
  have has : ∀ p ∈ scope.names, p.2 = .free → ∃ a, X.env.cells.lookup p.1 = some a := fun p hp hfr => I.ok.has p.1 (.inl (hfree p hp hfr))
  have cmem : ∀ {x : Str} {c : Addr}, (clo X.env scope.names []).lookup x = some c → X.env.cells.lookup x = some c := fun {x c} e => by
    rcases clo_mem has _ (mem_of_look e) with q | q
    · cases q
    · exact q
  have clt : ∀ {x : Str} {c : Addr}, X.env.cells.lookup x = some c → c < s.heap.objs.size := fun {x c} e => by
    obtain ⟨v, q⟩ := I.cell x c e
    exact q.lt
  refine ⟨⟨I.ok.mod, ?_, I.ok.glob, I.ok.blt, Nat.le_refl _, fun x y c h1 h2 => I.ok.inj x y c (cmem h1) (cmem h2), fun x hx => ?_, fun x c h => (by cases h), I.ok.hd, I.ok.frames, .inl rfl, fun b hb => ⟨Nat.ne_of_lt (hfl b hb), fun x c e => (hf b hb).2.2.2.2.1 x c (cmem e)⟩,
    fun b o e => I.bs b o e, Nat.le_trans I.ok.bsz I.sz, fun b o e z => ?_, fun b hb z => ?_, I.stack, I.stkFree⟩, rfl, I.bare, Un.kept hk, ⟨_, hn, fun i x v h1 h2 h3 => ?_⟩, fun x c e => ?_, I.hok.fresh (Nat.le_refl _), fun x c e => I.freeC x c (cmem e), fun p hp => ?_, I.hok.kept hk, ?_⟩
  · show (relabel scope X.env).kind = .function
    exact hkind
  · -- a cell for each free name
    have e0 : (relabel scope X.env).names.lookup x = some .cell ∨ (relabel scope X.env).names.lookup x = some .free := hx
    rw [relabel_names] at e0
    have e1 : scope.names.lookup x = some .free := by
      cases q : scope.names.lookup x with
      | none => rw [q] at e0; simp at e0
      | some k =>
        have hk' := hcell _ (mem_of_look q)
        rw [q] at e0
        cases k with
        | free => rfl
        | cell => exact absurd rfl hk'
        | _ => simp at e0
    obtain ⟨a, ha⟩ := clo_has (env := X.env) (acc := []) (mem_of_look e1)
    exact look_of_mem ha
  · -- the base has no iterator of ours
    rcases (hf b z).2.2.2.1 with q | q
    · exact I.ok.noex b o e q
    · exact absurd (Nat.lt_of_lt_of_le (Heap.lt_size e) (Nat.le_trans I.ok.bsz q)) (Nat.lt_irrefl _)
  · rcases List.mem_cons.mp (I.stkSub b z) with q | q
    · exact (hf b hb).2.1 q
    · exact (hf b hb).2.2.1 q
  · -- captured names
    have hi : ownN.length ≤ i := by
      unfold stC at h2
      by_cases hi : ownN.length ≤ i
      · exact hi
      · rw [List.getElem?_append_left (by simp; (first | lia | omega)), List.getElem?_replicate] at h2
        split at h2 <;> cases h2
    have h1' : (ownN ++ caps.map (·.1))[i]? = some x := h1
    unfold stC at h2
    rw [List.getElem?_append_right (by simp; (first | lia | omega)), List.length_replicate, List.getElem?_map, List.getElem?_map] at h2
    rw [List.getElem?_append_right hi, List.getElem?_map] at h1'
    cases hc : caps[i - ownN.length]? with
    | none => rw [hc] at h1'; cases h1'
    | some c =>
      rw [hc] at h1' h2
      have ex : c.1 = x := Option.some.inj h1'
      have ev : (σ[c.2]?).join = some v := Option.some.inj h2
      have ev' : σ[c.2]? = some (some v) := by
        cases q : σ[c.2]? with
        | none => rw [q] at ev; cases ev
        | some z => rw [q] at ev; simp at ev; rw [ev]
      obtain ⟨k1, k2, k3⟩ := hcaps c (List.mem_of_getElem? hc)
      rw [ex] at k1 k2 k3
      obtain ⟨m, hm, hl⟩ := I.loc
      obtain ⟨u, ru, lk⟩ := hl c.2 x v k1 ev' (.inr (.inl k2))
      refine ⟨u, ru, .inr ⟨.inl ?_, ?_⟩⟩
      · show (relabel scope X.env).names.lookup x = some .cell
        rw [relabel_names, k3]
        have e1 : X.env.scope.kind = .function := I.ok.kind
        have e2 : X.env.kindOf x = some .cell := k2
        simp [e1, e2]
      · rcases lk with ⟨z, _⟩ | ⟨_, cc, e1, e2⟩
        · have z' : X.env.scope.names.lookup x = some .local := z
          rw [k2] at z'; cases z'
        · obtain ⟨a, ha⟩ := clo_has (env := X.env) (acc := []) (mem_of_look k3)
          obtain ⟨a', ha'⟩ := look_of_mem ha
          have e3 : a' = cc := Option.some.inj ((cmem ha').symm.trans e1)
          rw [e3] at ha'
          obtain ⟨o, ho, hd⟩ := e2
          exact ⟨cc, ha', o, hk _ _ ho, hd⟩
  · obtain ⟨v, o, ho, hd⟩ := I.cell x c (cmem e)
    exact ⟨v, o, hk _ _ ho, hd⟩
  · have hp' : p ∈ X.pn ++ pins := by
      have : p ∈ (X.pn ++ pins) ++ [] := hp
      simpa using this
    obtain ⟨e, n, ne, nf, d⟩ := I.pin p hp'
    refine ⟨hk _ _ e, n, Nat.ne_of_lt (Heap.lt_size e), fun z => ?_, d⟩
    rcases List.mem_cons.mp (I.stkSub p.1 z) with q | q
    · exact ne q
    · exact nf q
  · show (stC ownN.length (caps.map (·.2)) σ).length = (ownN ++ caps.map (·.1)).length
    unfold stC
    simp

theorem pe_comp (ownN : List Str) (caps : List (Str × Nat)) (hc : X.calm = true) (hi : PI X tg iter wi)
    (hg : ∀ cl C s H fp pn, PG (cxComp X (ownN ++ caps.map (·.1)) scope cl C s H fp pn) tg g)
    (ht : ∀ cl C s H fp pn, PTs (cxComp X (ownN ++ caps.map (·.1)) scope cl C s H fp pn) ifs tt)
    (he : ∀ cl C s H fp pn, PE (cxComp X (ownN ++ caps.map (·.1)) scope cl C s H fp pn) elt te)
    (hkind : scope.kind = .function := by rfl) (hcell : ∀ y ∈ scope.names, y.2 ≠ .cell := by decide)
    (hfr : (scope.names.all fun p => p.2 != .free || X.env.scope.names.lookup p.1 == some .cell) = true := by rfl)
    (hcp : (caps.all fun c => X.N[c.2]? == some c.1 && (X.env.scope.names.lookup c.1 == some .cell && scope.names.lookup c.1 == some .free)) = true := by rfl)
    (hnames : ∀ x ∈ scope.names, x.2 = .local → scope.names.lookup x.1 = some .local := by decide)
    (hs : ∀ x, foldedSetIterable iter X.env x = pure x := by intro _; rfl) :
    PE X (.ListComp elt [⟨tg, iter, ifs, 0⟩] scope pos) (tComp wi ownN.length (caps.map (·.2)) g tt te) := by
  intro pins s σ H Q I h
  have hfree : ∀ p ∈ scope.names, p.2 = .free → X.env.scope.names.lookup p.1 = some .cell := fun p hp e => by
    have z := List.all_eq_true.mp hfr p hp
    rw [e] at z
    simpa using z
  have hcaps : ∀ c ∈ caps, X.N[c.2]? = some c.1 ∧ X.env.scope.names.lookup c.1 = some .cell ∧ scope.names.lookup c.1 = some .free := fun c hc => by
    have z := List.all_eq_true.mp hcp c hc
    simpa using z
  have has : ∀ p ∈ scope.names, p.2 = .free → ∃ a, X.env.cells.lookup p.1 = some a := fun p hp hfr => I.ok.has p.1 (.inl (hfree p hp hfr))
  rw [eval_ListComp]
  refine wpAny_comprehension_free (use := none) rfl hs (closureFor_clo has) hkind hnames (thn (hi pins s σ H _ I h) fun v s1 h1 => thn h1 fun itv s2 h2 => ?_)
  obtain ⟨it, fp, tn, J, H2, rfl, I2, T, st2, f2, red⟩ := h2
  have hf2 : H2 s2.heap.objs.size = none := I2.hok.fresh (Nat.le_refl _)
  obtain ⟨W, ⟨m0, w0⟩, turn⟩ := red s2.heap.objs.size hf2
  refine wpAny_newObj_type ?_
  generalize hac : s2.heap.objs.size = ac at hf2 turn w0 ⊢
  have I3 : Inv X pins σ (upd H2 ac (.lst [])) { s2 with heap := s2.heap.push { cls := .type "list", dict := none, data := .seq ([] : List Value).toArray } } := by
    subst hac
    exact I2.laid (t' := s2.toks) (o := .lst []) (fun b u e => Heap.get?_push_of_some _ e) (Nat.le_refl _) ⟨Nat.zero_le _, [], 0, .nil, Heap.get?_push_size _ rfl⟩
  generalize hs3 : ({ s2 with heap := s2.heap.push { cls := .type "list", dict := none, data := .seq ([] : List Value).toArray } } : Shared) = s3 at I3 ⊢
  have obj2 := T.obj 0 s2.heap st2
  have fne : ∀ b ∈ fp, b ≠ ac := fun b hb z => by
    obtain ⟨o, e, _⟩ := obj2 b hb
    exact absurd (Heap.lt_size e) (by rw [z, hac]; exact Nat.lt_irrefl _)
  have f3 : ∀ b ∈ fp, FpOk X pins (upd H2 ac (.lst [])) b := fun b hb => ⟨by rw [upd_ne (fne b hb)]; exact (f2 b hb).1, (f2 b hb).2⟩
  have st3 : tn 0 s3.heap := T.keep 0 _ _ st2 fun b hb o e => by subst hs3; exact Heap.get?_push_of_some _ e
  have fl3 : ∀ b ∈ fp, b < s3.heap.objs.size := fun b hb => by
    obtain ⟨o, e, _⟩ := T.obj 0 s3.heap st3 b hb
    exact Heap.lt_size e
  have acl : ac < s3.heap.objs.size := by subst hs3; subst hac; simp [Heap.size_push]
  refine wpAny_newFunctionEnv hcell (by intro y hy; simp at hy) (fun h₁ hns₁ hsb₁ => ?_) hkind
  have old : ∀ b o, s3.heap.get? b = some o → h₁.get? b = some o := fun b o e => hsb₁.extBut b o (Nat.ne_of_lt (Heap.lt_size e)) (Heap.get?_push_of_some _ e)
  have I4 := inv_comp (ownN := ownN) (caps := caps) (tk := s3.toks + ([] : List (Str × Value)).length) I3 f3 fl3 hkind hcell hfree hcaps hns₁ old
  have st4 : tn 0 h₁ := T.keep 0 _ _ st3 fun b hb o e => old b o e
  -- behind the block
  have after : ∀ (s5 : Shared) (σ5 : St) (H5 : Hp), Inv (cxComp X (ownN ++ caps.map (·.1)) scope (clo X.env scope.names []) s3.heap.objs.size s3 (upd H2 ac (.lst [])) fp (X.pn ++ pins)) [] σ5 H5 s5 → Q (.ref ac) H5 →
      compPost (model X.prog X.w) X.A X.xe none (EP X pins σ Q) (.ref ac) s3.heap.objs.size (.ok .next) s5 := by
    intro s5 σ5 H5 J5 q
    obtain ⟨m, hm, _⟩ := J5.loc
    refine ⟨m, hm, fun h' hs' => ?_⟩
    have nC : H5 s3.heap.objs.size = none := J5.free
    refine ⟨.ref ac, H5, ?_, rfl, q⟩
    have ub := J5.base
    have u : Un (frs X.stack) fp (upd H2 ac (.lst [])) H5 s3.heap h' :=
      ⟨fun b o e n hb hx => hs'.extBut b o (Nat.ne_of_lt (Heap.lt_size e)) (ub.keep b o e n hb hx), fun b o e n hb hx => by
        obtain ⟨sl, z⟩ := ub.slot b o e n hb hx
        exact ⟨sl, hs'.extBut b _ (Nat.ne_of_lt (Heap.lt_size e)) z⟩, ub.free, fun b o e hx => by
        obtain ⟨o', z⟩ := ub.there b o e hx
        exact ⟨o', hs'.extBut b _ (Nat.ne_of_lt (Heap.lt_size e)) z⟩, ub.tups, ub.frzs, fun b ps q => ⟨(ub.tbls b ps q).1, fun c o ec x => let z := (ub.tbls b ps q).2 c o ec x; ⟨z.1, hs'.extBut c o (ne_of_none z.1 nC) z.2⟩⟩⟩
    refine I3.call' (s' := { s5 with heap := h' }) (ch := fp) J5.os u (fun b u e => ?_) J5.bare (fun b hb => ⟨(f3 b hb).2.2.2.1, (f3 b hb).2.1, (f3 b hb).2.2.2.2.1, (f3 b hb).2.2.2.2.2⟩)
    refine (J5.hok b u e).stay (fun c v hc z => hs'.extBut c v ?_ z) (fun _ z => z) fun _ _ z => z
    rintro rfl
    rcases hc with z' | z'
    · rw [z', e] at nC; cases nC
    · rw [nC] at z'; cases z'
  have loop : ∀ s4 : Shared, s4 = { s3 with heap := h₁, toks := s3.toks + ([] : List (Str × Value)).length } → codeAny (model X.prog X.w) X.A (.compLoop (.ListComp elt [⟨tg, iter, ifs, 0⟩] scope pos) 0 (.ref it) (.ref ac) (compEnvC scope (clo X.env scope.names []) s3.heap.objs.size X.env))
      (compPost (model X.prog X.w) X.A X.xe none (EP X pins σ Q) (.ref ac) s3.heap.objs.size) s4 := by
    rintro s4 rfl
    refine compLoop_go (fun n s' => ∃ i ys H', Inv (cxComp X (ownN ++ caps.map (·.1)) scope (clo X.env scope.names []) s3.heap.objs.size s3 (upd H2 ac (.lst [])) fp (X.pn ++ pins)) [] (stC ownN.length (caps.map (·.2)) σ) H' s' ∧ tn i s'.heap ∧ (∀ b ∈ fp, H' b = none) ∧ W i n ys H') ?_ m0
      ⟨0, [], _, I4, st4, fun b hb => (f3 b hb).1, w0⟩
    rintro n s6 ⟨i, ys, H6, I6, st6, fr6, w6⟩
    obtain ⟨hl6, alt⟩ := turn i n ys H6 w6
    have fpok : ∀ {H' : Hp}, (∀ b ∈ fp, H' b = none) → ∀ b ∈ fp, FpOk (cxComp X (ownN ++ caps.map (·.1)) scope (clo X.env scope.names []) s3.heap.objs.size s3 (upd H2 ac (.lst [])) fp (X.pn ++ pins)) [] H' b := fun {H'} hn b hb =>
      ⟨hn b hb, Nat.ne_of_lt (fl3 b hb), I6.ok.exfs b hb, .inl hb, (I6.ok.exf b hb).2, fun p hp z => (f3 b hb).2.2.2.2.2 p (by
        have hp' : p ∈ (X.pn ++ pins) ++ [] := hp
        simpa using hp') z⟩
    rcases alt with ⟨stop, qn⟩ | ⟨go, hsz, N, hN, step⟩
    · refine thn (T.done (cxComp X (ownN ++ caps.map (·.1)) scope (clo X.env scope.names []) s3.heap.objs.size s3 (upd H2 ac (.lst [])) fp (X.pn ++ pins)) rfl rfl rfl hc i [] s6 _ H6 _ I6 (fpok fr6) st6 stop) fun r s7 ⟨hr, I7⟩ => ?_
      subst hr
      exact after s7 _ H6 I7 qn
    · refine thn (T.item (cxComp X (ownN ++ caps.map (·.1)) scope (clo X.env scope.names []) s3.heap.objs.size s3 (upd H2 ac (.lst [])) fp (X.pn ++ pins)) rfl rfl rfl hc i [] s6 _ H6 _ I6 (fpok fr6) st6 go) fun r s7 ⟨u, hr, h7⟩ => ?_
      subst hr
      refine thn h7 fun _ s8 ⟨x, H8, I8, r8, y8, st8, fr8⟩ => ?_
      have I8' := I8.pinned (fpok fr8) (T.obj _ _ st8)
      have fin : ∀ {σ' : St} {H' : Hp} {s' : Shared}, Inv (cxComp X (ownN ++ caps.map (·.1)) scope (clo X.env scope.names []) s3.heap.objs.size s3 (upd H2 ac (.lst [])) fp (X.pn ++ pins)) ([] ++ pinsAt fp s8.heap) σ' H' s' → tn (i + 1) s'.heap ∧ ∀ b ∈ fp, H' b = none := fun {σ' H' s'} J =>
        ⟨T.keep _ _ _ st8 fun b hb o e => (J.pin (b, o) (List.mem_append_right _ (List.mem_append_right _ (mem_pinsAt hb e)))).1, fun b hb => by
          obtain ⟨o, e, _⟩ := T.obj _ _ st8 b hb
          exact (J.pin (b, o) (List.mem_append_right _ (List.mem_append_right _ (mem_pinsAt hb e)))).2.1⟩
      refine thn (hg _ _ _ _ _ _ _ s8 _ H8 x u _ I8' r8 (step x H8 y8)) fun _ s9 ⟨σ9, H9, I9, wk, q9⟩ => ?_
      refine thn (ht _ _ _ _ _ _ _ s9 σ9 H9 _ I9 q9) fun b s10 ⟨H10, I10, q10⟩ => ?_
      cases b with
      | false =>
        rw [if_neg Bool.false_ne_true] at q10 ⊢
        obtain ⟨m', hm', w'⟩ := hN _ _ q10
        obtain ⟨e1, e2⟩ := fin I10
        exact ⟨m', hm', i + 1, ys, H10, (I10.weak wk.len wk.get).unpinned, e1, e2, w'⟩
      | true =>
        rw [if_pos rfl] at q10 ⊢
        refine thn (he _ _ _ _ _ _ _ s10 σ9 H10 _ I10 q10) fun y s11 ⟨yv, H11, I11, r11, hl11, q11⟩ => ?_
        obtain ⟨m', hm', w'⟩ := hN _ _ q11
        refine thn (mt_append (X := cxComp X (ownN ++ caps.map (·.1)) scope (clo X.env scope.names []) s3.heap.objs.size s3 (upd H2 ac (.lst [])) fp (X.pn ++ pins)) (pinsAt fp s8.heap) s11 σ9 H11 (.ref ac) [yv] (.ref ac) [y] (fun v H' => H' = upd H11 ac (.lst (ys ++ [yv]))) I11 rfl (.cons r11 .nil) ⟨ac, ys, yv, rfl, rfl, hl11, hsz, rfl⟩) fun _ s12 ⟨v12, H12, I12, _, e12⟩ => ?_
        subst e12
        obtain ⟨e1, e2⟩ := fin I12
        exact ⟨m', hm', i + 1, _, _, (I12.weak wk.len wk.get).unpinned, e1, e2, w'⟩
  exact codeAny_compStart_list (loop _ rfl) (T.self _ 0 _ _ _ st4 (loop _ rfl))

theorem ps_setComp {i : Nat} {x : Str} {pos' spos : Pos} (hN : X.N.Nodup) (hix : X.N[i]? = some x) (hxl : Loc X.env.scope x) (ownN : List Str) (caps : List (Str × Nat)) (hc : X.calm = true) (hi : PI X tg iter wi)
    (hg : ∀ cl C s H fp pn, PG (cxComp X (ownN ++ caps.map (·.1)) scope cl C s H fp pn) tg g)
    (ht : ∀ cl C s H fp pn, PTs (cxComp X (ownN ++ caps.map (·.1)) scope cl C s H fp pn) ifs tt)
    (he : ∀ cl C s H fp pn, PE (cxComp X (ownN ++ caps.map (·.1)) scope cl C s H fp pn) elt te)
    (hkind : scope.kind = .function := by rfl) (hcell : ∀ y ∈ scope.names, y.2 ≠ .cell := by decide)
    (hfr : (scope.names.all fun p => p.2 != .free || X.env.scope.names.lookup p.1 == some .cell) = true := by rfl)
    (hcp : (caps.all fun c => X.N[c.2]? == some c.1 && (X.env.scope.names.lookup c.1 == some .cell && scope.names.lookup c.1 == some .free)) = true := by rfl)
    (hnames : ∀ x ∈ scope.names, x.2 = .local → scope.names.lookup x.1 = some .local := by decide)
    (hs : ∀ x, foldedSetIterable iter X.env x = pure x := by intro _; rfl)
    (hsw : swapsWith (.ListComp elt [⟨tg, iter, ifs, 0⟩] scope pos) (some (.Name x pos')) spos.line X.env = pure true := by rfl)
    (hf : X.fn x = true ∨ X.env.scope.names.lookup x = some .local := by first | exact .inl rfl | exact .inr rfl | assumption) :
    PS X (.Assign [.Name x pos'] (.ListComp elt [⟨tg, iter, ifs, 0⟩] scope pos) spos) (tAsg (tComp wi ownN.length (caps.map (·.2)) g tt te) (gName i)) := by
  intro pins s σ H D I h
  let Q : VK := fun v H' => D.nx (σ.set i (some v)) H'
  have hfree : ∀ p ∈ scope.names, p.2 = .free → X.env.scope.names.lookup p.1 = some .cell := fun p hp e => by
    have z := List.all_eq_true.mp hfr p hp
    rw [e] at z
    simpa using z
  have hcaps : ∀ c ∈ caps, X.N[c.2]? = some c.1 ∧ X.env.scope.names.lookup c.1 = some .cell ∧ scope.names.lookup c.1 = some .free := fun c hc => by
    have z := List.all_eq_true.mp hcp c hc
    simpa using z
  have has : ∀ p ∈ scope.names, p.2 = .free → ∃ a, X.env.cells.lookup p.1 = some a := fun p hp hfr => I.ok.has p.1 (.inl (hfree p hp hfr))
  rw [exec_Assign_Name_used _ _ _ _ hsw]
  refine wpAny_bind (wpAny_standAt (wpAny_bind ?_))
  show wpAny _ X.A (do let _ ← comprehension (.ListComp elt [⟨tg, iter, ifs, 0⟩] scope pos) scope X.env _ (newList []) false (eval iter X.env) (some (assign (.Name x pos') X.env))) _ _ s
  refine wpAny_bind (thn (Q := fun _ s' => ∃ σ' H', Inv X pins σ' H' s' ∧ D.nx σ' H') (wpAny_comprehension_free (use := some (assign (.Name x pos') X.env)) rfl hs (closureFor_clo has) hkind hnames (thn (hi pins s σ H _ I h) fun v s1 h1 => thn h1 fun itv s2 h2 => ?_)) fun _ s' hq => wpAny_pure (wpAny_pure hq))
  obtain ⟨it, fp, tn, J, H2, rfl, I2, T, st2, f2, red⟩ := h2
  have hf2 : H2 s2.heap.objs.size = none := I2.hok.fresh (Nat.le_refl _)
  obtain ⟨W, ⟨m0, w0⟩, turn⟩ := red s2.heap.objs.size hf2
  refine wpAny_newObj_type ?_
  generalize hac : s2.heap.objs.size = ac at hf2 turn w0 ⊢
  have I3 : Inv X pins σ (upd H2 ac (.lst [])) { s2 with heap := s2.heap.push { cls := .type "list", dict := none, data := .seq ([] : List Value).toArray } } := by
    subst hac
    exact I2.laid (t' := s2.toks) (o := .lst []) (fun b u e => Heap.get?_push_of_some _ e) (Nat.le_refl _) ⟨Nat.zero_le _, [], 0, .nil, Heap.get?_push_size _ rfl⟩
  generalize hs3 : ({ s2 with heap := s2.heap.push { cls := .type "list", dict := none, data := .seq ([] : List Value).toArray } } : Shared) = s3 at I3 ⊢
  have obj2 := T.obj 0 s2.heap st2
  have fne : ∀ b ∈ fp, b ≠ ac := fun b hb z => by
    obtain ⟨o, e, _⟩ := obj2 b hb
    exact absurd (Heap.lt_size e) (by rw [z, hac]; exact Nat.lt_irrefl _)
  have f3 : ∀ b ∈ fp, FpOk X pins (upd H2 ac (.lst [])) b := fun b hb => ⟨by rw [upd_ne (fne b hb)]; exact (f2 b hb).1, (f2 b hb).2⟩
  have st3 : tn 0 s3.heap := T.keep 0 _ _ st2 fun b hb o e => by subst hs3; exact Heap.get?_push_of_some _ e
  have fl3 : ∀ b ∈ fp, b < s3.heap.objs.size := fun b hb => by
    obtain ⟨o, e, _⟩ := T.obj 0 s3.heap st3 b hb
    exact Heap.lt_size e
  have acl : ac < s3.heap.objs.size := by subst hs3; subst hac; simp [Heap.size_push]
  refine wpAny_newFunctionEnv hcell (by intro y hy; simp at hy) (fun h₁ hns₁ hsb₁ => ?_) hkind
  have old : ∀ b o, s3.heap.get? b = some o → h₁.get? b = some o := fun b o e => hsb₁.extBut b o (Nat.ne_of_lt (Heap.lt_size e)) (Heap.get?_push_of_some _ e)
  have I4 := inv_comp (ownN := ownN) (caps := caps) (tk := s3.toks + ([] : List (Str × Value)).length) I3 f3 fl3 hkind hcell hfree hcaps hns₁ old
  have st4 : tn 0 h₁ := T.keep 0 _ _ st3 fun b hb o e => old b o e
  -- behind the block
  have after : ∀ (s5 : Shared) (σ5 : St) (H5 : Hp), Inv (cxComp X (ownN ++ caps.map (·.1)) scope (clo X.env scope.names []) s3.heap.objs.size s3 (upd H2 ac (.lst [])) fp (X.pn ++ pins)) [] σ5 H5 s5 → Q (.ref ac) H5 →
      compPost (model X.prog X.w) X.A X.xe (some (assign (.Name x pos') X.env)) (fun _ s' => ∃ σ' H', Inv X pins σ' H' s' ∧ D.nx σ' H') (.ref ac) s3.heap.objs.size (.ok .next) s5 := by
    intro s5 σ5 H5 J5 q
    obtain ⟨m, hm, _⟩ := J5.loc
    have nC : H5 s3.heap.objs.size = none := J5.free
    have I5 : Inv X pins σ H5 s5 := I3.call' (s' := s5) (ch := fp) J5.os J5.base J5.hok J5.bare (fun b hb => ⟨(f3 b hb).2.2.2.1, (f3 b hb).2.1, (f3 b hb).2.2.2.2.1, (f3 b hb).2.2.2.2.2⟩)
    have fC := I3.fpOk (Nat.le_refl _) nC
    show wpAny _ X.A (assign (.Name x pos') X.env (.ref ac)) _ _ s5
    refine wpAny_assign_Name (store_ok2 I5 hN hix hxl (v := .ref ac) rfl (fun s6 I6 ⟨a, sb, ha⟩ => ?_) hf)
    have aC : s3.heap.objs.size ≠ a := by
      rcases ha with z | z
      · rw [z]; exact fC.2.1
      · exact Ne.symm (fC.2.2.2.2.1 x a z)
    refine ⟨m, hm.sameBut sb aC, fun h' hs' => ?_⟩
    exact ⟨_, H5, I6.turned (it := s3.heap.objs.size) (t' := s6.toks) (fun b o hb e => hs'.extBut b o hb e) nC fC.2.1 fC.2.2.2.1 fC.2.2.2.2.1 fC.2.2.2.2.2, q⟩
  have loop : ∀ s4 : Shared, s4 = { s3 with heap := h₁, toks := s3.toks + ([] : List (Str × Value)).length } → codeAny (model X.prog X.w) X.A (.compLoop (.ListComp elt [⟨tg, iter, ifs, 0⟩] scope pos) 0 (.ref it) (.ref ac) (compEnvC scope (clo X.env scope.names []) s3.heap.objs.size X.env))
      (compPost (model X.prog X.w) X.A X.xe (some (assign (.Name x pos') X.env)) (fun _ s' => ∃ σ' H', Inv X pins σ' H' s' ∧ D.nx σ' H') (.ref ac) s3.heap.objs.size) s4 := by
    rintro s4 rfl
    refine compLoop_go (fun n s' => ∃ i ys H', Inv (cxComp X (ownN ++ caps.map (·.1)) scope (clo X.env scope.names []) s3.heap.objs.size s3 (upd H2 ac (.lst [])) fp (X.pn ++ pins)) [] (stC ownN.length (caps.map (·.2)) σ) H' s' ∧ tn i s'.heap ∧ (∀ b ∈ fp, H' b = none) ∧ W i n ys H') ?_ m0
      ⟨0, [], _, I4, st4, fun b hb => (f3 b hb).1, w0⟩
    rintro n s6 ⟨i, ys, H6, I6, st6, fr6, w6⟩
    obtain ⟨hl6, alt⟩ := turn i n ys H6 w6
    have fpok : ∀ {H' : Hp}, (∀ b ∈ fp, H' b = none) → ∀ b ∈ fp, FpOk (cxComp X (ownN ++ caps.map (·.1)) scope (clo X.env scope.names []) s3.heap.objs.size s3 (upd H2 ac (.lst [])) fp (X.pn ++ pins)) [] H' b := fun {H'} hn b hb =>
      ⟨hn b hb, Nat.ne_of_lt (fl3 b hb), I6.ok.exfs b hb, .inl hb, (I6.ok.exf b hb).2, fun p hp z => (f3 b hb).2.2.2.2.2 p (by
        have hp' : p ∈ (X.pn ++ pins) ++ [] := hp
        simpa using hp') z⟩
    rcases alt with ⟨stop, qn⟩ | ⟨go, hsz, N, hN, step⟩
    · refine thn (T.done (cxComp X (ownN ++ caps.map (·.1)) scope (clo X.env scope.names []) s3.heap.objs.size s3 (upd H2 ac (.lst [])) fp (X.pn ++ pins)) rfl rfl rfl hc i [] s6 _ H6 _ I6 (fpok fr6) st6 stop) fun r s7 ⟨hr, I7⟩ => ?_
      subst hr
      exact after s7 _ H6 I7 qn
    · refine thn (T.item (cxComp X (ownN ++ caps.map (·.1)) scope (clo X.env scope.names []) s3.heap.objs.size s3 (upd H2 ac (.lst [])) fp (X.pn ++ pins)) rfl rfl rfl hc i [] s6 _ H6 _ I6 (fpok fr6) st6 go) fun r s7 ⟨u, hr, h7⟩ => ?_
      subst hr
      refine thn h7 fun _ s8 ⟨xv, H8, I8, r8, y8, st8, fr8⟩ => ?_
      have I8' := I8.pinned (fpok fr8) (T.obj _ _ st8)
      have fin : ∀ {σ' : St} {H' : Hp} {s' : Shared}, Inv (cxComp X (ownN ++ caps.map (·.1)) scope (clo X.env scope.names []) s3.heap.objs.size s3 (upd H2 ac (.lst [])) fp (X.pn ++ pins)) ([] ++ pinsAt fp s8.heap) σ' H' s' → tn (i + 1) s'.heap ∧ ∀ b ∈ fp, H' b = none := fun {σ' H' s'} J =>
        ⟨T.keep _ _ _ st8 fun b hb o e => (J.pin (b, o) (List.mem_append_right _ (List.mem_append_right _ (mem_pinsAt hb e)))).1, fun b hb => by
          obtain ⟨o, e, _⟩ := T.obj _ _ st8 b hb
          exact (J.pin (b, o) (List.mem_append_right _ (List.mem_append_right _ (mem_pinsAt hb e)))).2.1⟩
      refine thn (hg _ _ _ _ _ _ _ s8 _ H8 xv u _ I8' r8 (step xv H8 y8)) fun _ s9 ⟨σ9, H9, I9, wk, q9⟩ => ?_
      refine thn (ht _ _ _ _ _ _ _ s9 σ9 H9 _ I9 q9) fun b s10 ⟨H10, I10, q10⟩ => ?_
      cases b with
      | false =>
        rw [if_neg Bool.false_ne_true] at q10 ⊢
        obtain ⟨m', hm', w'⟩ := hN _ _ q10
        obtain ⟨e1, e2⟩ := fin I10
        exact ⟨m', hm', i + 1, ys, H10, (I10.weak wk.len wk.get).unpinned, e1, e2, w'⟩
      | true =>
        rw [if_pos rfl] at q10 ⊢
        refine thn (he _ _ _ _ _ _ _ s10 σ9 H10 _ I10 q10) fun y s11 ⟨yv, H11, I11, r11, hl11, q11⟩ => ?_
        obtain ⟨m', hm', w'⟩ := hN _ _ q11
        refine thn (mt_append (X := cxComp X (ownN ++ caps.map (·.1)) scope (clo X.env scope.names []) s3.heap.objs.size s3 (upd H2 ac (.lst [])) fp (X.pn ++ pins)) (pinsAt fp s8.heap) s11 σ9 H11 (.ref ac) [yv] (.ref ac) [y] (fun v H' => H' = upd H11 ac (.lst (ys ++ [yv]))) I11 rfl (.cons r11 .nil) ⟨ac, ys, yv, rfl, rfl, hl11, hsz, rfl⟩) fun _ s12 ⟨v12, H12, I12, _, e12⟩ => ?_
        subst e12
        obtain ⟨e1, e2⟩ := fin I12
        exact ⟨m', hm', i + 1, _, _, (I12.weak wk.len wk.get).unpinned, e1, e2, w'⟩
  exact codeAny_compStart_list (loop _ rfl) (T.self _ 0 _ _ _ st4 (loop _ rfl))

theorem comp_range {lo : Int} {n own : Nat} {caps : List Nat} {g : TG} {tt : TT} {te : TE} {σ : St} {R : Hp → Prop} {l : Addr} {H1 : Hp} (Pv : Nat → List V → Hp → Prop) (h0 : Pv 0 [] (upd H1 l (.lst []))) (hz : n ≤ sizeLine)
    (hl : ∀ i ys H, Pv i ys H → H l = some (.lst ys) ∧ ys.length ≤ i)
    (hs : ∀ i ys H, i < n → Pv i ys H → g (.int (lo + i)) (stC own caps σ) H fun σ2 H2 => Wk (stC own caps σ) σ2 ∧
      tt σ2 H2 fun b H3 => if b = true then te σ2 H3 fun y H4 => H4 l = some (.lst ys) ∧ Pv (i + 1) (ys ++ [y]) (upd H4 l (.lst (ys ++ [y]))) else Pv (i + 1) ys H3)
    (hd : ∀ ys H, Pv n ys H → R H) :
    ∃ W : Nat → Nat → List V → Hp → Prop, (∃ m, W 0 m [] (upd H1 l (.lst []))) ∧
      ∀ i m ys H, W i m ys H → H l = some (.lst ys) ∧ (((Itr lo n).stop i H ∧ R H) ∨ ((Itr lo n).go i H ∧ ys.length < sizeLine ∧ ∃ N : List V → Hp → Prop, (∀ ys' H', N ys' H' → ∃ m', m' < m ∧ W (i + 1) m' ys' H') ∧
        ∀ x H', (Itr lo n).yld i H x H' → g x (stC own caps σ) H' fun σ2 H2 => Wk (stC own caps σ) σ2 ∧
        tt σ2 H2 fun b H3 => if b = true then te σ2 H3 fun y H4 => H4 l = some (.lst ys) ∧ N (ys ++ [y]) (upd H4 l (.lst (ys ++ [y]))) else N ys H3)) := by
  refine ⟨fun i m ys H => m = n - i ∧ i ≤ n ∧ Pv i ys H, ⟨n, by simp, Nat.zero_le _, h0⟩, ?_⟩
  rintro i m ys H ⟨rfl, hi, p⟩
  obtain ⟨e1, e2⟩ := hl i ys H p
  refine ⟨e1, ?_⟩
  by_cases hlt : i < n
  · refine .inr ⟨hlt, by (first | lia | omega), Pv (i + 1), fun ys' H' p' => ⟨n - (i + 1), by (first | lia | omega), rfl, hlt, p'⟩, fun x H' y => ?_⟩
    obtain ⟨e, y⟩ := y
    subst e y
    exact hs i ys _ hlt p
  · have e : i = n := by (first | lia | omega)
    subst e
    exact .inl ⟨Nat.le_refl _, hd ys H p⟩
theorem comp_list {K : PySem.W.Frag} {a : Addr} {xs : List V} {own : Nat} {caps : List Nat} {g : TG} {tt : TT} {te : TE} {σ : St} {R : Hp → Prop} {l : Addr} {H1 : Hp} (Pv : Nat → List V → Hp → Prop) (h0 : Pv 0 [] (upd H1 l (.lst []))) (hz : xs.length ≤ sizeLine)
    (hl : ∀ i ys H, i ≤ xs.length → Pv i ys H → SqL K H a xs ∧ H l = some (.lst ys) ∧ ys.length ≤ i)
    (hs : ∀ i x ys H, xs[i]? = some x → Pv i ys H → g x (stC own caps σ) H fun σ2 H2 => Wk (stC own caps σ) σ2 ∧
      tt σ2 H2 fun b H3 => if b = true then te σ2 H3 fun y H4 => H4 l = some (.lst ys) ∧ Pv (i + 1) (ys ++ [y]) (upd H4 l (.lst (ys ++ [y]))) else Pv (i + 1) ys H3)
    (hd : ∀ ys H, Pv xs.length ys H → R H) :
    ∃ W : Nat → Nat → List V → Hp → Prop, (∃ m, W 0 m [] (upd H1 l (.lst []))) ∧
      ∀ i m ys H, W i m ys H → H l = some (.lst ys) ∧ (((Itl K a).stop i H ∧ R H) ∨ ((Itl K a).go i H ∧ ys.length < sizeLine ∧ ∃ N : List V → Hp → Prop, (∀ ys' H', N ys' H' → ∃ m', m' < m ∧ W (i + 1) m' ys' H') ∧
        ∀ x H', (Itl K a).yld i H x H' → g x (stC own caps σ) H' fun σ2 H2 => Wk (stC own caps σ) σ2 ∧
        tt σ2 H2 fun b H3 => if b = true then te σ2 H3 fun y H4 => H4 l = some (.lst ys) ∧ N (ys ++ [y]) (upd H4 l (.lst (ys ++ [y]))) else N ys H3)) := by
  refine ⟨fun i m ys H => m = xs.length - i ∧ i ≤ xs.length ∧ Pv i ys H, ⟨xs.length, by simp, Nat.zero_le _, h0⟩, ?_⟩
  rintro i m ys H ⟨rfl, hi, p⟩
  obtain ⟨q, e1, e2⟩ := hl i ys H hi p
  refine ⟨e1, ?_⟩
  by_cases hlt : i < xs.length
  · refine .inr ⟨⟨xs, xs[i], q, by simp [hlt]⟩, by (first | lia | omega), Pv (i + 1), fun ys' H' p' => ⟨xs.length - (i + 1), by (first | lia | omega), rfl, hlt, p'⟩, fun x H' y => ?_⟩
    obtain ⟨e, y⟩ := y
    subst e
    exact hs i x ys _ (y xs q) p
  · have e : i = xs.length := by (first | lia | omega)
    subst e
    exact .inl ⟨⟨xs, q, Nat.le_refl _⟩, hd ys H p⟩
theorem comp_tup {K : PySem.W.Frag} {a : Addr} {xs : List V} {own : Nat} {caps : List Nat} {g : TG} {tt : TT} {te : TE} {σ : St} {R : Hp → Prop} {l : Addr} {H1 : Hp} (Pv : Nat → List V → Hp → Prop) (h0 : Pv 0 [] (upd H1 l (.lst []))) (hz : xs.length ≤ sizeLine)
    (hl : ∀ i ys H, i ≤ xs.length → Pv i ys H → SqT K H a xs ∧ H l = some (.lst ys) ∧ ys.length ≤ i)
    (hs : ∀ i x ys H, xs[i]? = some x → Pv i ys H → g x (stC own caps σ) H fun σ2 H2 => Wk (stC own caps σ) σ2 ∧
      tt σ2 H2 fun b H3 => if b = true then te σ2 H3 fun y H4 => H4 l = some (.lst ys) ∧ Pv (i + 1) (ys ++ [y]) (upd H4 l (.lst (ys ++ [y]))) else Pv (i + 1) ys H3)
    (hd : ∀ ys H, Pv xs.length ys H → R H) :
    ∃ W : Nat → Nat → List V → Hp → Prop, (∃ m, W 0 m [] (upd H1 l (.lst []))) ∧
      ∀ i m ys H, W i m ys H → H l = some (.lst ys) ∧ (((Itt K a).stop i H ∧ R H) ∨ ((Itt K a).go i H ∧ ys.length < sizeLine ∧ ∃ N : List V → Hp → Prop, (∀ ys' H', N ys' H' → ∃ m', m' < m ∧ W (i + 1) m' ys' H') ∧
        ∀ x H', (Itt K a).yld i H x H' → g x (stC own caps σ) H' fun σ2 H2 => Wk (stC own caps σ) σ2 ∧
        tt σ2 H2 fun b H3 => if b = true then te σ2 H3 fun y H4 => H4 l = some (.lst ys) ∧ N (ys ++ [y]) (upd H4 l (.lst (ys ++ [y]))) else N ys H3)) := by
  refine ⟨fun i m ys H => m = xs.length - i ∧ i ≤ xs.length ∧ Pv i ys H, ⟨xs.length, by simp, Nat.zero_le _, h0⟩, ?_⟩
  rintro i m ys H ⟨rfl, hi, p⟩
  obtain ⟨q, e1, e2⟩ := hl i ys H hi p
  refine ⟨e1, ?_⟩
  by_cases hlt : i < xs.length
  · refine .inr ⟨⟨xs, xs[i], q, by simp [hlt]⟩, by (first | lia | omega), Pv (i + 1), fun ys' H' p' => ⟨xs.length - (i + 1), by (first | lia | omega), rfl, hlt, p'⟩, fun x H' y => ?_⟩
    obtain ⟨e, y⟩ := y
    subst e
    exact hs i x ys _ (y xs q) p
  · have e : i = xs.length := by (first | lia | omega)
    subst e
    exact .inl ⟨⟨xs, q, Nat.le_refl _⟩, hd ys H p⟩
end
end L2

namespace L2
open PySem PySem.Spec PyProof.Rows

section
variable {X : Cx}
def rEqL (K : PySem.W.Frag) (neg : Bool) : R2 := fun x y H Q => ∃ (a b : Addr) (ns ms : List Int), x = .ref a ∧ y = .ref b ∧ SqL K H a (ns.map V.int) ∧ SqL K H b (ms.map V.int) ∧ Q (.bl (if neg then !decide (ns = ms) else decide (ns = ms))) H
theorem op_eqL (hu : X.A.units + 64 < cLine) : OpR X (compareOp .Eq) (rEqL X.K false) := by
  intro pins s σ H x y v u Q I rx ry h
  obtain ⟨a, b, ns, ms, rfl, rfl, ha, hb, q⟩ := h
  cases rx
  cases ry
  obtain ⟨its, r1, p1, _⟩ := I.list ha
  obtain ⟨its2, r2, p2, _⟩ := I.list hb
  exact PySem.W.eq_intsK p1.isList (intsAre_of r1) p2.isList (intsAre_of r2) hu ⟨.bl _, H, I, rfl, q⟩
theorem op_neL (hu : X.A.units + 64 < cLine) : OpR X (compareOp .NotEq) (rEqL X.K true) := by
  intro pins s σ H x y v u Q I rx ry h
  obtain ⟨a, b, ns, ms, rfl, rfl, ha, hb, q⟩ := h
  cases rx
  cases ry
  obtain ⟨its, r1, p1, _⟩ := I.list ha
  obtain ⟨its2, r2, p2, _⟩ := I.list hb
  exact PySem.W.ne_intsK p1.isList (intsAre_of r1) p2.isList (intsAre_of r2) hu ⟨.bl _, H, I, rfl, q⟩
def rEqNil (K : PySem.W.Frag) : R2 := fun x y H Q => ∃ (a b : Addr) (xs : List V), x = .ref a ∧ y = .ref b ∧ SqL K H a xs ∧ SqL K H b [] ∧ Q (.bl (decide (xs = []))) H
theorem op_eqNil (hu : X.A.units < cLine) : OpR X (compareOp .Eq) (rEqNil X.K) := by
  intro pins s σ H x y v u Q I rx ry h
  obtain ⟨a, b, xs, rfl, rfl, ha, hb, q⟩ := h
  cases rx
  cases ry
  obtain ⟨its, r1, p1, _⟩ := I.list ha
  obtain ⟨its2, r2, p2, _⟩ := I.list hb
  cases r2
  cases r1 with
  | nil => exact SeqAt.eq_listAt (e := fun _ => true) p1.isList p2.isList rfl hu (fun j h1 h2 => absurd h1 (by simp)) ⟨.bl true, H, I, rfl, by simpa using q⟩
  | cons r rr => exact SeqAt.eq_list_lengthsAt p1.isList p2.isList (by simp) hu ⟨.bl false, H, I, rfl, by simpa using q⟩

inductive P_call_isinst (K : PySem.W.Frag) (xs : List V) (H : Hp) (Q : VK) : Prop
  | mk (x : _) (T : _) (t : _) (b : _) (h1 : xs = [x, .ty T]) (h2 : TyOf K H x t) (h3 : PySem.W.kitOne K t (.type T) = some b) (h4 : Q (.bl b) H) : P_call_isinst K xs H Q
theorem call_isinst : CallR X (.builtin "isinstance") (P_call_isinst X.K) := by
  intro pins s σ H xs us Q I r h
  obtain ⟨x, T, t, b, rfl, ty, e, q⟩ := h
  obtain ⟨u, v, rfl, ru, rv⟩ := r.two
  cases rv
  exact isinst_ok I ru ty e fun tk => ⟨.bl b, H, I.tok tk, rfl, q⟩

end
end L2

namespace L2
open PySem PySem.Spec PyProof.Rows

structure Callee (P : Program) (w : World) (K : PySem.W.Frag) (mg : Str → Option Value) (base : Heap) (x : Str) (k : Nat) (ps : List Str) (sp : Sp) : Prop where
  ex : ∃ (f : Addr) (fd : FuncData), FnOk P w K mg base CX0 k f fd ps sp ∧ Binds K fd ps [] ∧ PySem.W.keepIn K (.ref f) = true ∧ mg x = some (.ref f)
theorem Callee.mono {P : Program} {w : World} {K : PySem.W.Frag} {mg : Str → Option Value} {base : Heap} {x : Str} {k j : Nat} {ps : List Str} {sp : Sp} (C : Callee P w K mg base x k ps sp) (h : k ≤ j) : Callee P w K mg base x j ps sp :=
  let ⟨f, fd, a, b, c, d⟩ := C.ex
  ⟨f, fd, a.mono h, b, c, d⟩
theorem pe_callC {X : Cx} {x : Str} {k : Nat} {ps : List Str} {sp : Sp} {e : Expr} {es : List Expr} {t : TA} {p pos : Pos} (C : Callee X.prog X.w X.K X.mg X.base x k ps sp) (hr : Room k X.A) (hg : Gl X x) (ha : PA X (e :: es) t)
    (hdb : (x == ("__debug__" : Str)) = false := by decide) (he : starEach (e :: es) X.env = (false, eval e X.env) :: starEach es X.env := by rfl) (hpl : (backTo pos (starEach es X.env)).any (·.1) = false := by rfl) :
    PE X (.Call (.Name x p) (e :: es) [] pos) (tCall sp [] E0 t) := by
  obtain ⟨f, fd, F, hb, hk, hm⟩ := C.ex
  exact pe_call F hr hg hm hk hb .nil pass0 ha hdb he hpl
structure Here (K : PySem.W.Frag) (mg : Str → Option Value) (x : Str) (st : Stmt) (f : Addr) (fd : FuncData) : Prop where
  fn : Fun K x x st f fd
  at_ : mg x = some (.ref f)
theorem Here.callee {P : Program} {w : World} {K : PySem.W.Frag} {mg : Str → Option Value} {base : Heap} {x : Str} {st : Stmt} {f : Addr} {fd : FuncData} {k : Nat} {ps : List Str} {sp : Sp} (h : Here K mg x st f fd) (F : FnOk P w K mg base CX0 k f fd ps sp)
    (hb : ∀ (kV doc pm : Value) (an : Option Addr) (cdv ct : Value) (us : List Value), us.length = ps.length → bindArgs (PySem.W.fnOf x x (defArgs st) (defBody st) (defScope st) .none kV doc pm an cdv ct) ⟨us, []⟩ = pure (ps.zip us)) : Callee P w K mg base x k ps sp :=
  ⟨f, fd, F, h.fn.binds hb, h.fn.kp, h.at_⟩

theorem boot_intT : bootBuiltins "int" = some (.type "int") := by decide +kernel
theorem boot_listT : bootBuiltins "list" = some (.type "list") := by decide +kernel
theorem boot_tupleT : bootBuiltins "tuple" = some (.type "tuple") := by decide +kernel
theorem boot_isinstance : bootBuiltins "isinstance" = some (.builtin "isinstance") := by decide +kernel
section
variable {X : Cx} (K : PySem.W.Frag) (hK : X.K = K)
include hK
theorem ix_tupK : IxR X (rIxT K) := by subst hK; exact ix_tup
theorem pg_tupK {es : List Expr} {k : Nat} {t : TGs} {n : Nat} {pos : Pos} (hc : X.calm = true) (h : PGs X es t)
    (hn : (assignEach es X.env).length = n := by rfl) (hst : (assignEach es X.env).findIdx? (·.1) = none := by rfl) : PG X (.Tuple es k pos) (gTup K n t) := by subst hK; exact pg_tup hc h hn hst
end

theorem same_new {H : Hp} {p : Addr} (h : H p = none) (o : HO) : Same H (upd H p o) := fun b u q => by rw [upd_ne (ne_of_none q h)]; exact q
def Kp (m : Addr) (H H' : Hp) : Prop := ∀ b o, H b = some o → b ≠ m → H' b = some o
theorem Kp.refl (m : Addr) (H : Hp) : Kp m H H := fun _ _ h _ => h
theorem Kp.trans {m : Addr} {H H1 H2 : Hp} (a : Kp m H H1) (b : Kp m H1 H2) : Kp m H H2 := fun c o h n => b c o (a c o h n) n
theorem Kp.same {m : Addr} {H H' : Hp} (h : Same H H') : Kp m H H' := fun b o e _ => h b o e
theorem Kp.upd {m : Addr} {H : Hp} {o : HO} : Kp m H (upd H m o) := fun b u e n => by rw [upd_ne n]; exact e
theorem Kp.tup {m : Addr} {H H' : Hp} {xs ys : List V} (k : Kp m H H') (hm : H m = some (.lst xs)) {b : Addr} (h : H b = some (.tup ys)) : H' b = some (.tup ys) :=
  k b _ h (ne_of h hm (by intro z; cases z))
theorem Kp.none {m : Addr} {H H' : Hp} {xs : List V} (k : Kp m H H') (hm : H m = some (.lst xs)) {b : Addr} (h : H' b = Option.none) (hm' : ∃ ys, H' m = some (.lst ys)) : H b = Option.none := by
  cases q : H b with
  | none => rfl
  | some o =>
    by_cases e : b = m
    · subst e
      obtain ⟨ys, z⟩ := hm'
      rw [z] at h; cases h
    · rw [k b o q e] at h; cases h
def Pen (H : Hp) (p : Addr) : Prop := ∃ a b c : Int, H p = some (.lst [.int a, .int b, .int c])
def Refs (H : Hp) : List V → List (Int × Int) → Prop := Paired fun r w => ∃ t, r = .ref t ∧ H t = some (.tup [.int w.1, .int w.2])
theorem Refs.mono {H H' : Hp} (k : ∀ b xs, H b = some (.tup xs) → H' b = some (.tup xs)) : ∀ {rs : List V} {ws : List (Int × Int)}, Refs H rs ws → Refs H' rs ws
  | _, _, .nil => .nil
  | _, _, .cons ⟨t, e, h⟩ r => .cons ⟨t, e, k t _ h⟩ (Refs.mono k r)
theorem Refs.same {H H' : Hp} (k : Same H H') {rs : List V} {ws : List (Int × Int)} (h : Refs H rs ws) : Refs H' rs ws := h.mono fun b xs e => k b _ e
theorem Refs.kp {m : Addr} {H H' : Hp} {xs : List V} (k : Kp m H H') (hm : H m = some (.lst xs)) {rs : List V} {ws : List (Int × Int)} (h : Refs H rs ws) : Refs H' rs ws := h.mono fun b xs e => k.tup hm e
theorem Refs.len {H : Hp} {rs : List V} {ws : List (Int × Int)} (h : Refs H rs ws) : rs.length = ws.length := Paired.length h
theorem Refs.app {H : Hp} : ∀ {rs qs : List V} {ws us : List (Int × Int)}, Refs H rs ws → Refs H qs us → Refs H (rs ++ qs) (ws ++ us)
  | _, _, _, _, .nil, s => s
  | _, _, _, _, .cons r t, s => .cons r (Refs.app t s)
theorem Refs.get {H : Hp} : ∀ {rs : List V} {ws : List (Int × Int)} {i : Nat} {r : V}, Refs H rs ws → rs[i]? = some r → ∃ w t, ws[i]? = some w ∧ r = .ref t ∧ H t = some (.tup [.int w.1, .int w.2])
  | _, _, _, _, .nil, e => by simp at e
  | _, _, 0, _, .cons ⟨t, e1, h⟩ _, e => by simp at e; subst e; exact ⟨_, t, rfl, e1, h⟩
  | _, _, i + 1, r, .cons _ q, e => by
    obtain ⟨w, t, a, b⟩ := Refs.get (i := i) (r := r) q (by simpa using e)
    exact ⟨w, t, by simpa using a, b⟩
theorem Refs.take {H : Hp} : ∀ {rs : List V} {ws : List (Int × Int)} (n : Nat), Refs H rs ws → Refs H (rs.take n) (ws.take n)
  | _, _, 0, _ => .nil
  | _, _, _ + 1, .nil => .nil
  | _, _, n + 1, .cons r t => .cons r (Refs.take n t)
theorem Refs.drop {H : Hp} : ∀ {rs : List V} {ws : List (Int × Int)} (n : Nat), Refs H rs ws → Refs H (rs.drop n) (ws.drop n)
  | _, _, 0, r => r
  | _, _, _ + 1, .nil => .nil
  | _, _, n + 1, .cons _ t => Refs.drop n t
theorem Refs.rep {H : Hp} {rs : List V} {ws : List (Int × Int)} (h : Refs H rs ws) : ∀ k : Nat, Refs H (List.replicate k rs).flatten (List.replicate k ws).flatten
  | 0 => .nil
  | k + 1 => by
    rw [List.replicate_succ, List.replicate_succ, List.flatten_cons, List.flatten_cons]
    exact h.app (Refs.rep h k)
def WsL (H : Hp) (l : Addr) (ws : List (Int × Int)) : Prop := ∃ rs, H l = some (.lst rs) ∧ Refs H rs ws
theorem WsL.same {H H' : Hp} (k : Same H H') {l : Addr} {ws : List (Int × Int)} (h : WsL H l ws) : WsL H' l ws := let ⟨rs, a, b⟩ := h; ⟨rs, k l _ a, b.same k⟩
theorem WsL.kp {m : Addr} {H H' : Hp} {xs : List V} (k : Kp m H H') (hm : H m = some (.lst xs)) {l : Addr} (n : l ≠ m) {ws : List (Int × Int)} (h : WsL H l ws) : WsL H' l ws := let ⟨rs, a, b⟩ := h; ⟨rs, k l _ a n, b.kp k hm⟩
def WOk (wide : Int) (ws : List (Int × Int)) : Prop := ∀ w ∈ ws, 0 ≤ w.1 ∧ w.1 < wide ∧ 0 ≤ w.2 ∧ w.2 < wide ∧ w.1 ≠ w.2
theorem WOk.nil {wide : Int} : WOk wide [] := fun _ h => nomatch h
theorem WOk.app {wide : Int} {a b : List (Int × Int)} (x : WOk wide a) (y : WOk wide b) : WOk wide (a ++ b) := fun w h => (List.mem_append.mp h).elim (x w) (y w)
theorem WOk.one {wide a b : Int} (h : 0 ≤ a ∧ a < wide ∧ 0 ≤ b ∧ b < wide ∧ a ≠ b) : WOk wide [(a, b)] := fun w hw => by
  have : w = (a, b) := by simpa using hw
  subst this
  exact h
theorem WOk.rep {wide : Int} {a : List (Int × Int)} (x : WOk wide a) (k : Nat) : WOk wide (List.replicate k a).flatten := fun w h => by
  obtain ⟨l, h1, h2⟩ := List.mem_flatten.mp h
  rw [(List.mem_replicate.mp h1).2] at h2
  exact x w h2
def Net (H : Hp) (v : V) (wide : Int) (ws : List (Int × Int)) : Prop := ∃ n t rs, v = .ref n ∧ H n = some (.tup [.int wide, .ref t]) ∧ H t = some (.tup rs) ∧ Refs H rs ws
theorem Net.mono {H H' : Hp} (k : ∀ b xs, H b = some (.tup xs) → H' b = some (.tup xs)) {v : V} {wide : Int} {ws : List (Int × Int)} (h : Net H v wide ws) : Net H' v wide ws :=
  let ⟨n, t, rs, a, b, c, d⟩ := h
  ⟨n, t, rs, a, k _ _ b, k _ _ c, d.mono k⟩
theorem lenLine {n : Nat} (h : n ≤ 100000) : n ≤ sizeLine := Nat.le_trans h (by rw [sizeLine_eq]; decide)
theorem lenLt {n : Nat} (h : n < 100000) : n < sizeLine := Nat.lt_of_lt_of_le h (by rw [sizeLine_eq]; decide)
theorem not_dec {c : Prop} [Decidable c] (h : ¬ decide c = true) : ¬ c := fun z => h (decide_eq_true z)
end L2

namespace Ep
open PySem L2
structure Bn (mg : Str → Option Value) : Prop where
  n_len : mg "len" = none
  n_max : mg "max" = none
  n_min : mg "min" = none
  n_int : mg "int" = none
  n_bool : mg "bool" = none
  n_list : mg "list" = none
  n_tuple : mg "tuple" = none
  n_str : mg "str" = none
  n_dict : mg "dict" = none
  n_range : mg "range" = none
  n_isinstance : mg "isinstance" = none
  n_all : mg "all" = none
  n_any : mg "any" = none
  n_enumerate : mg "enumerate" = none
  n_sum : mg "sum" = none
  n_abs : mg "abs" = none
  n_sorted : mg "sorted" = none
  n_reversed : mg "reversed" = none
  n_zip : mg "zip" = none
  n_ord : mg "ord" = none
  n_repr : mg "repr" = none
  n_set : mg "set" = none
  n_divmod : mg "divmod" = none
  n_ValueError : mg "ValueError" = none
  n_KeyError : mg "KeyError" = none
def CDivB (i j : Int) : Prop := 0 < j ∧ j < 2 ^ 250
theorem op_fdivB {X : Cx} : OpR X (binaryOp .FloorDiv) (rI CDivB fun i j => .int (i / j)) := opI fun i j _ _ _ _ _ hc q => by
  have h1 : (0 : Int) < j := hc.1
  have h2 : j.natAbs < 2 ^ 250 := by have := hc.2; (first | lia | omega)
  refine PyProof.Rows.floordiv_int (by (first | lia | omega)) (by rw [Int.fdiv_eq_ediv_of_nonneg i (by (first | lia | omega))]; exact q) (.inl (PyProof.noPylong_of_log2 ?_))
  have h3 : j.natAbs.log2 < 250 := (Nat.log2_lt (by (first | lia | omega))).mpr h2
  (first | lia | omega)
theorem _root_.L2.Kp.put {m l : Addr} {H H1 : Hp} {o : HO} (hl : H l = none) (k : Kp m H H1) : Kp m H (upd H1 l o) := fun b u e n => by rw [upd_ne (ne_of_none e hl)]; exact k b u e n
theorem _root_.L2.Same.put {l : Addr} {H H1 : Hp} {o : HO} (hl : H l = none) (k : Same H H1) : Same H (upd H1 l o) := fun b u e => by rw [upd_ne (ne_of_none e hl)]; exact k b u e
theorem atI_int {ns : List Int} {i : Int} (h0 : 0 ≤ i) (h1 : i < ns.length) : atI (ns.map V.int) i = some (.int (ns.getD i.toNat 0)) := by
  obtain ⟨j, rfl⟩ : ∃ j : Nat, i = (j : Int) := ⟨i.toNat, by (first | lia | omega)⟩
  have h2 : j < ns.length := by (first | lia | omega)
  refine atI_nat ?_
  rw [List.getElem?_map, Int.toNat_natCast]
  simp [List.getD, h2]
theorem iteFd {c A B : Prop} [Decidable c] (h : ¬ c) (b : B) : if c then A else B := by rw [if_neg h]; exact b
theorem iteTd {c A B : Prop} [Decidable c] (h : c) (a : A) : if c then A else B := by rw [if_pos h]; exact a
theorem veq {a b : Int} (g : decide (V.int a = V.int b) = true) : a = b := V.int.inj (of_decide_eq_true g)
theorem vne {a b : Int} (g : ¬ decide (V.int a = V.int b) = true) : a ≠ b := fun z => g (decide_eq_true (by rw [z]))
def CompW (H3 : Hp) (l : Addr) (good : Int × Int → Prop) (i : Nat) (ys : List V) (Hc : Hp) : Prop := Same H3 Hc ∧ Hc l = some (.lst ys) ∧ ∃ us, Refs Hc ys us ∧ (∀ w ∈ us, good w) ∧ us.length ≤ i
theorem CompW.start {H3 : Hp} {l : Addr} {good : Int × Int → Prop} (fl : H3 l = none) : CompW H3 l good 0 [] (upd H3 l (.lst [])) := ⟨Same.put fl (Same.refl H3), upd_same, [], .nil, (fun _ h => nomatch h), Nat.le_refl _⟩
theorem CompW.len {H3 : Hp} {l : Addr} {good : Int × Int → Prop} {i : Nat} {ys : List V} {Hc : Hp} (h : CompW H3 l good i ys Hc) : Hc l = some (.lst ys) ∧ ys.length ≤ i :=
  let ⟨_, b, us, r, _, le⟩ := h
  ⟨b, by rw [r.len]; exact le⟩
theorem CompW.skip {H3 : Hp} {l : Addr} {good : Int × Int → Prop} {i : Nat} {ys : List V} {Hc : Hp} (h : CompW H3 l good i ys Hc) : CompW H3 l good (i + 1) ys Hc :=
  let ⟨a, b, us, r, g, le⟩ := h
  ⟨a, b, us, r, g, Nat.le_succ_of_le le⟩
theorem CompW.more {H3 : Hp} {l u : Addr} {good : Int × Int → Prop} {i : Nat} {ys : List V} {Hc : Hp} {a b : Int} (fl : H3 l = none) (h : CompW H3 l good i ys Hc) (hu : Hc u = none) (g : good (a, b)) :
    (upd Hc u (.tup [.int a, .int b])) l = some (.lst ys) ∧ CompW H3 l good (i + 1) (ys ++ [.ref u]) (upd (upd Hc u (.tup [.int a, .int b])) l (.lst (ys ++ [.ref u]))) := by
  obtain ⟨s1, e1, us, r1, g1, le⟩ := h
  have nul : u ≠ l := fun z => by rw [z, e1] at hu; cases hu
  refine ⟨by rw [upd_ne (Ne.symm nul)]; exact e1, Same.put fl (Same.trans s1 (same_new hu _)), upd_same, us ++ [(a, b)], ?_, fun w hw => ?_, by simp; (first | lia | omega)⟩
  · have r2 : Refs (upd Hc u (HO.tup [V.int a, V.int b])) (ys ++ [V.ref u]) (us ++ [(a, b)]) := (r1.same (same_new hu _)).app (.cons ⟨u, rfl, upd_same⟩ .nil)
    refine r2.mono fun c xs e => ?_
    rw [upd_ne (fun z => ?_)]
    · exact e
    · subst z
      rw [upd_ne (Ne.symm nul), e1] at e
      cases e
  · rcases List.mem_append.mp hw with z | z
    · exact g1 w z
    · have e : w = (a, b) := by simpa using z
      subst e
      exact g
theorem fresh_step {p u : Addr} {H : Hp} {xs : List V} (hp : H p = some (.lst xs)) (fu : H u = none) (o : HO) : Kp p H (upd H u o) ∧ (upd H u o) p = some (.lst xs) ∧ (upd H u o) u = some o ∧ u ≠ p :=
  ⟨Kp.same (same_new fu o), (same_new fu o) _ _ hp, upd_same, Ne.symm (ne_of_none hp fu)⟩
theorem _root_.L2.Refs.cut {H : Hp} {rs : List V} {ws : List (Int × Int)} (h : Refs H rs ws) (lo hi : Option Int) : ∃ us, Refs H (cutV rs lo hi) us ∧ (∀ w ∈ us, w ∈ ws) ∧ us.length ≤ ws.length :=
  ⟨_, (h.drop _).take _, fun w hw => List.mem_of_mem_drop (List.mem_of_mem_take hw), by rw [List.length_take, List.length_drop]; (first | lia | omega)⟩
theorem _root_.L2.WOk.sub {wide : Int} {us ws : List (Int × Int)} (h : WOk wide ws) (s : ∀ w ∈ us, w ∈ ws) : WOk wide us := fun w hw => h w (s w hw)
theorem atI_ref {H : Hp} {rs : List V} {ws : List (Int × Int)} (h : Refs H rs ws) {i : Int} (h0 : 0 ≤ i) (h1 : i < rs.length) : ∃ t w, atI rs i = some (.ref t) ∧ w ∈ ws ∧ ws[i.toNat]? = some w ∧ H t = some (.tup [.int w.1, .int w.2]) := by
  obtain ⟨j, rfl⟩ : ∃ j : Nat, i = (j : Int) := ⟨i.toNat, by (first | lia | omega)⟩
  have hj : j < rs.length := by (first | lia | omega)
  have e : rs[j]? = some rs[j] := by simp [hj]
  obtain ⟨w, t, hw, et, ht⟩ := h.get e
  rw [et] at e
  exact ⟨t, w, atI_nat e, List.mem_of_getElem? hw, by simpa using hw, ht⟩
inductive SpPenP (K : PySem.W.Frag) (vs : List V) (H : Hp) (Q : VK) : Prop
  | mk (a : Addr) (ns : List Int) (k : Int) (h1 : vs = [.ref a, .int k]) (h2 : SqL K H a (ns.map V.int)) (h3 : ns.length ≤ 63) (h4 : 0 ≤ k) (h5 : k < 100) (h6 : ∀ (p : Addr) (a' b' c' : Int), H p = none → Q (.ref p) (upd H p (.lst [.int a', .int b', .int c']))) : SpPenP K vs H Q
def spPen (K : PySem.W.Frag) : Sp := fun vs H Q _ => SpPenP K vs H Q
inductive SpTakeP (vs : List V) (H : Hp) (Q : VK) : Prop
  | mk (p : Addr) (a b c n : Int) (h1 : vs = [.ref p, .int n]) (h2 : H p = some (.lst [.int a, .int b, .int c])) (h3 : 0 < n) (h4 : n < 2 ^ 250) (h5 : ∀ (v a' b' c' : Int), 0 ≤ v → v < n → Q (.int v) (upd H p (.lst [.int a', .int b', .int c']))) : SpTakeP vs H Q
def spTake : Sp := fun vs H Q _ => SpTakeP  vs H Q
inductive SpWicketsP (vs : List V) (H : Hp) (Q : VK) : Prop
  | mk (p : Addr) (wide many : Int) (h1 : vs = [.ref p, .int wide, .int many]) (h2 : Pen H p) (h3 : 1 ≤ wide) (h4 : wide ≤ 8) (h5 : 0 ≤ many) (h6 : many ≤ 41) (h7 : ∀ (l : Addr) (ws : List (Int × Int)) (H' : Hp), H l = none → Kp p H H' → Pen H' p → WsL H' l ws → WOk wide ws → (ws.length : Int) ≤ many → Q (.ref l) H') : SpWicketsP vs H Q
def spWickets : Sp := fun vs H Q _ => SpWicketsP  vs H Q
def lift (by_ : Int) (w : Int × Int) : Int × Int := (w.1 + by_, w.2 + by_)
inductive SpLiftedP (vs : List V) (H : Hp) (Q : VK) : Prop
  | mk (a : Addr) (ws : List (Int × Int)) (k : Int) (h1 : vs = [.ref a, .int k]) (h2 : WsL H a ws) (h3 : ws.length ≤ 1000) (h4 : ∀ (l : Addr) (H' : Hp), H l = none → Same H H' → WsL H' l (ws.map (lift k)) → Q (.ref l) H') : SpLiftedP vs H Q
def spLifted : Sp := fun vs H Q _ => SpLiftedP  vs H Q
def pow2 (wide : Int) : Prop := wide = 1 ∨ wide = 2 ∨ wide = 4 ∨ wide = 8
inductive SpBuiltP (n : Nat) (vs : List V) (H : Hp) (Q : VK) : Prop
  | mk (wide : Int) (h1 : vs = [.int wide]) (h2 : pow2 wide) (h3 : wide < 2 ^ n) (h4 : ∀ (l : Addr) (ws : List (Int × Int)) (H' : Hp), H l = none → Same H H' → WsL H' l ws → WOk wide ws → (ws.length : Int) ≤ wide * wide → Q (.ref l) H') : SpBuiltP n vs H Q
def spBuilt (n : Nat) : Sp := fun vs H Q _ => SpBuiltP n vs H Q
inductive SpBrickP (vs : List V) (H : Hp) (Q : VK) : Prop
  | mk (wide : Int) (h1 : vs = [.int wide]) (h2 : 1 ≤ wide) (h3 : wide ≤ 8) (h4 : ∀ (l : Addr) (ws : List (Int × Int)) (H' : Hp), H l = none → Same H H' → WsL H' l ws → WOk wide ws → ws.length ≤ 200 → Q (.ref l) H') : SpBrickP vs H Q
def spBrick : Sp := fun vs H Q _ => SpBrickP  vs H Q
inductive SpRoundsP (vs : List V) (H : Hp) (Q : VK) : Prop
  | mk (wide : Int) (h1 : vs = [.int wide]) (h2 : pow2 wide) (h3 : ∀ (l : Addr) (ws : List (Int × Int)) (H' : Hp), H l = none → Same H H' → WsL H' l ws → WOk wide ws → ws.length ≤ 200 → Q (.ref l) H') : SpRoundsP vs H Q
def spRounds : Sp := fun vs H Q _ => SpRoundsP  vs H Q
inductive SpBentP (vs : List V) (H : Hp) (Q : VK) : Prop
  | mk (p : Addr) (wide : Int) (a : Addr) (ws : List (Int × Int)) (h1 : vs = [.ref p, .int wide, .ref a]) (h2 : Pen H p) (h3 : 1 ≤ wide) (h4 : wide ≤ 8) (h5 : a ≠ p) (h6 : WsL H a ws) (h7 : WOk wide ws) (h8 : ws.length ≤ 200) (h9 : ∀ (l : Addr) (us : List (Int × Int)) (H' : Hp), l ≠ p → Kp p H H' → Pen H' p → WsL H' l us → WOk wide us → us.length ≤ 500 → Q (.ref l) H') : SpBentP vs H Q
def spBent : Sp := fun vs H Q _ => SpBentP  vs H Q
inductive SpNetP (vs : List V) (H : Hp) (Q : VK) : Prop
  | mk (p : Addr) (h1 : vs = [.ref p]) (h2 : Pen H p) (h3 : ∀ (v : V) (wide : Int) (ws : List (Int × Int)) (H' : Hp), Kp p H H' → Pen H' p → Net H' v wide ws → 1 ≤ wide → wide ≤ 8 → WOk wide ws → ws.length ≤ 41 → Q v H') : SpNetP vs H Q
def spNet : Sp := fun vs H Q _ => SpNetP  vs H Q
theorem ne1 {H : Hp} {a b : Addr} {o : HO} (n : H b = none) (h : H a = some o) : a ≠ b := ne_of_none h n
theorem ne2 {H : Hp} {a b : Addr} {o : HO} (n : H a = none) (h : H b = some o) : a ≠ b := Ne.symm (ne_of_none h n)
theorem ne3 {H : Hp} {a b : Addr} {xs ys : List V} (h1 : H a = some (.tup xs)) (h2 : H b = some (.lst ys)) : a ≠ b := ne_of h1 h2 (by intro z; cases z)
theorem ne4 {H : Hp} {a b : Addr} {xs ys : List V} (h1 : H a = some (.lst xs)) (h2 : H b = some (.tup ys)) : a ≠ b := ne_of h1 h2 (by intro z; cases z)
theorem free2 {H H' : Hp} {l : Addr} (n : H' l = none) (s : Same H H') : H l = none := s.free n
theorem trans2 {H H1 H2 : Hp} (b : Same H1 H2) (a : Same H H1) : Same H H2 := Same.trans a b
def KT (H H' : Hp) : Prop := ∀ b xs, H b = some (.tup xs) → H' b = some (.tup xs)
theorem KT.refl (H : Hp) : KT H H := fun _ _ h => h
theorem KT.trans {H H1 H2 : Hp} (a : KT H H1) (b : KT H1 H2) : KT H H2 := fun c xs h => b c xs (a c xs h)
theorem KT.same {G H H' : Hp} (s : Same H H') (k : KT G H) : KT G H' := fun b xs h => s b _ (k b xs h)
theorem KT.lst {G H : Hp} {l : Addr} {o : HO} {ys : List V} (n : H l = some (.lst ys)) (k : KT G H) : KT G (upd H l o) := fun b xs h => by rw [upd_ne (ne3 (k b xs h) n)]; exact k b xs h
theorem _root_.L2.Net.kt {H H' : Hp} {v : V} {wide : Int} {ws : List (Int × Int)} (n : Net H v wide ws) (k : KT H H') : Net H' v wide ws := n.mono k
end Ep

namespace Ep
open PySem L2
theorem in_pair (a b c : Int) : inV (.int a) [.int b, .int c] = (decide (a = b) || decide (a = c)) := by
  show (eqV (.int b) (.int a) || (eqV (.int c) (.int a) || false)) = _
  have e : ∀ u v : Int, eqV (.int u) (.int v) = decide (v = u) := fun u v => by
    show _ = _
    simp [eqV]
    by_cases h : u = v
    · subst h; simp
    · have h' : ¬ v = u := fun z => h z.symm
      simp [h, h']
  rw [e, e, Bool.or_false]
def maxI (a b : Int) : Int := if b ≤ a then a else b
def layT (st : List Int × List Int) (w : Int × Int) : List Int × List Int :=
  let layer := 1 + maxI (st.1.getD w.1.toNat 0) (st.1.getD w.2.toNat 0)
  ((st.1.set w.1.toNat layer).set w.2.toNat layer, st.2 ++ [layer])
def layS (wide : Int) (ws : List (Int × Int)) : List Int × List Int := ws.foldl layT (List.replicate wide.toNat 0, [])
theorem ixN_of {n : Nat} {i : Int} (h0 : 0 ≤ i) (h1 : i < n) : ixN n i = some i.toNat := by
  unfold ixN
  rw [if_pos h0, if_pos h1]
def wAt (ws : List (Int × Int)) (j : Nat) : Int × Int := ws.getD j (0, 0)
theorem getD_app {d : List Int} {z : Int} {j : Nat} (h : j < d.length) : (d ++ [z]).getD j 0 = d.getD j 0 := by simp [List.getD, List.getElem?_append_left h]
theorem getD_last {d : List Int} {z : Int} : (d ++ [z]).getD d.length 0 = z := by simp [List.getD]
theorem getD_set {l : List Int} {i j : Nat} {z : Int} (hi : i < l.length) : (l.set i z).getD j 0 = if j = i then z else l.getD j 0 := by
  by_cases h : j = i
  · subst h
    simp [List.getD, hi]
  · have h' : ¬ i = j := fun q => h q.symm
    simp [List.getD, h, h']
inductive SpLawP (K : PySem.W.Frag) (vs : List V) (H : Hp) (Q : VK) : Prop
  | mk (a : Addr) (ns : List Int) (h1 : vs = [.ref a]) (h2 : SqL K H a (ns.map V.int)) (h3 : ns.length ≤ 63) (h4 : ∀ H', Q (.bl true) H') : SpLawP K vs H Q
def spLaw (K : PySem.W.Frag) : Sp := fun vs H Q _ => SpLawP K vs H Q
end Ep

namespace L2
open PySem PySem.Spec PyProof.Rows
section
variable {P : Program} {w : World} {A : Around} {s : Shared}
end
def Ite (sq : Hp → List V → Prop) : It :=
  ⟨fun i H => ∃ xs x, sq H xs ∧ xs[i]? = some x, fun i H x H' => ∃ T v, H T = none ∧ x = .ref T ∧ H' = upd H T (.tup [.int i, v]) ∧ ∀ xs, sq H xs → xs[i]? = some v, fun i H => ∃ xs, sq H xs ∧ xs.length = i⟩
theorem Inv.turned2 {X : Cx} {pins : List (Addr × Obj)} {σ : St} {H : Hp} {s : Shared} {h' : Heap} {t' : Nat} {e it : Addr} {ys : List V} (I : Inv X pins σ H s) (k : ∀ b o, b ≠ e → b ≠ it → s.heap.get? b = some o → h'.get? b = some o)
    (fe : FpOk X pins H e) (fi : FpOk X pins H it) (new : ObjOk X.prog X.w (upd H s.heap.objs.size (.tup ys)) h' s.heap.objs.size (.tup ys)) : Inv X pins σ (upd H s.heap.objs.size (.tup ys)) { s with heap := h', toks := t' } := by
  have hT : H s.heap.objs.size = none := I.hok.fresh (Nat.le_refl _)
  have nT : ∀ b o, s.heap.get? b = some o → b ≠ s.heap.objs.size := fun b o q => Nat.ne_of_lt (Heap.lt_size q)
  have nc : ∀ b, b ∉ [e, it] → b ≠ e ∧ b ≠ it := fun b hb => ⟨fun z => hb (by simp [z]), fun z => hb (by simp [z])⟩
  have ntr : ∀ b u, H b = some u → b ≠ e ∧ b ≠ it := fun b u q => ⟨(fun z => by rw [z, fe.1] at q; cases q), (fun z => by rw [z, fi.1] at q; cases q)⟩
  have up : ∀ b u, H b = some u → upd H s.heap.objs.size (.tup ys) b = some u := fun b u q => by rw [upd_ne (ne_of_none q hT)]; exact q
  refine I.step (g' := s.gens) (d' := s.drawn) (ch := [e, it]) (fun b hb => ?_) (fun b o _ _ hc q _ => k b o (nc b hc).1 (nc b hc).2 q) (fun b o _ _ hc q _ => ⟨o.slots, k b o (nc b hc).1 (nc b hc).2 q⟩) (fun b o _ q n => by rw [upd_ne (nT b o q)]; exact n)
    (fun b o hc q => ⟨o, k b o (nc b hc).1 (nc b hc).2 q⟩) (fun b xs q => up b _ q) (fun b o u q => up b _ q) (fun b ps q => ⟨up b _ q, fun c o ec x => ⟨up c _ ec, k c o (ntr c _ ec).1 (ntr c _ ec).2 x⟩⟩) (fun m hm => ?_) (fun b u q => ?_) I.bare
  · have z : b = e ∨ b = it := by simpa using hb
    rcases z with rfl | rfl
    · exact ⟨fe.2.2.2.1, fe.2.1, fe.2.2.2.2.1, fe.2.2.2.2.2⟩
    · exact ⟨fi.2.2.2.1, fi.2.1, fi.2.2.2.2.1, fi.2.2.2.2.2⟩
  · obtain ⟨o, es, ep, ho, r⟩ := hm
    exact ⟨o, es, ep, k _ o (Ne.symm fe.2.1) (Ne.symm fi.2.1) ho, r⟩
  · by_cases hb : b = s.heap.objs.size
    · subst hb
      rw [upd_same] at q
      cases q
      exact new
    · rw [upd_ne hb] at q
      refine (I.hok b u q).stay (fun c v hc z => ?_) (fun c z => up c _ z) fun c xs z => up c _ z
      have hc' : c ≠ e ∧ c ≠ it := by
        rcases hc with z | z
        · rw [z]; exact ntr b u q
        · exact ntr c _ z
      exact k c v hc'.1 hc'.2 z
section
variable {X : Cx} {elts : List Expr} {kk : Nat} {ps : Pos}
theorem turn_enumL {P : Program} {w : World} {K : PySem.W.Frag} (a e it : Addr) (hei : e ≠ it) : Turn P w K (.Tuple elts kk ps) (Ite (fun H xs => SqL K H a xs)) [e, it] e (fun i h => (∃ old, IsEnum h e it i old) ∧ h.IsListIter it a i) where
  mem := by simp
  obj := fun i h st b hb => by
    obtain ⟨⟨old, he⟩, o, e1, c, d⟩ := st
    have z : b = e ∨ b = it := by simpa using hb
    rcases z with rfl | rfl
    · exact ⟨_, he, fun v z => by have z' : Data.fields _ = Data.cell v := z; cases z'⟩
    · exact ⟨o, e1, fun v z => by rw [d] at z; cases z⟩
  keep := fun i h h' st k => by
    obtain ⟨⟨old, he⟩, o, e1, r⟩ := st
    exact ⟨⟨old, k e (by simp) _ he⟩, o, k it (by simp) o e1, r⟩
  item := by
    intro X hP hw hK hc i pins s σ H E I hf st hg
    subst hP hw hK
    obtain ⟨⟨old, he⟩, hit⟩ := st
    obtain ⟨xs, x, hq, hx⟩ := hg
    obtain ⟨its, rv, p, hz⟩ := I.list hq
    obtain ⟨u, hu, ru⟩ := rv.get hx
    have pT := p.isList
    have nai : a ≠ it := fun z => by
      obtain ⟨o1, q1, c1, _⟩ := pT
      obtain ⟨o2, q2, c2, _⟩ := hit
      rw [z, q2] at q1; cases q1; rw [c2] at c1; exact absurd (Value.type.inj c1) (by decide)
    have nae : e ≠ a := fun z => by
      obtain ⟨o1, q1, c1, _⟩ := pT
      rw [← z, he] at q1; cases q1; exact absurd (Value.type.inj c1) (by decide)
    have il : i < its.toArray.size := by
      have := (List.getElem?_eq_some_iff.mp hu).1
      simpa using this
    refine wpAny_pyNext_enum_itemD (Draws.list (A := X.A.in1) (I.ok.hd hc) it a nai its.toArray) he ⟨hit, pT⟩ il hei (by simp [hei, nae]) fun x' h1 tk hP ho hs hT hsz hk => ?_
    have ex : x' = u := by
      have : its[i]? = some x' := by simpa using hP
      rw [hu] at this; cases this; rfl
    subst ex
    refine ⟨_, rfl, wpAny_letOwnedTupleGo_enum ho fun h2 he2 sb => ?_⟩
    have eT : e < s.heap.objs.size := Heap.lt_size he
    have k2 : ∀ b o, b ≠ e → b ≠ it → s.heap.get? b = some o → h2.get? b = some o := fun b o n1 n2 q => sb.extBut b o n1 (hk b o n1 n2 q)
    have new : ObjOk X.prog X.w (upd H s.heap.objs.size (.tup [.int i, x])) h2 s.heap.objs.size (.tup [.int i, x]) := ⟨by show 2 ≤ sizeLine; rw [sizeLine_eq]; decide, [.int i tk, x'], .cons ⟨tk, rfl⟩ (.cons ru .nil), _, sb.extBut _ _ (Nat.ne_of_gt eT) hT, rfl, _, rfl, rfl⟩
    have I2 : Inv X pins σ (upd H s.heap.objs.size (.tup [.int i, x])) { s with heap := h2, toks := tk + 1 } := Inv.turned2 I k2 (hf e (by simp)) (hf it (by simp)) new
    refine ⟨.ref s.heap.objs.size, _, I2, rfl, ⟨s.heap.objs.size, x, I.hok.fresh (Nat.le_refl _), rfl, rfl, fun zs hzs => by rw [I.list_inj hzs hq]; exact hx⟩, ⟨⟨x', by simpa using he2⟩, ?_⟩, fun b hb => ?_⟩
    · obtain ⟨⟨o2, q2, r2⟩, _⟩ := hs
      exact ⟨o2, sb.extBut it o2 (Ne.symm hei) q2, r2⟩
    · have bl : b < s.heap.objs.size := by
        have z : b = e ∨ b = it := by simpa using hb
        rcases z with rfl | rfl
        · exact eT
        · obtain ⟨o2, q2, _⟩ := hit
          exact Heap.lt_size q2
      rw [upd_ne (Nat.ne_of_lt bl)]
      exact (hf b hb).1
  done := by
    intro X hP hw hK hc i pins s σ H E I hf st hg
    subst hP hw hK
    obtain ⟨⟨old, he⟩, hit⟩ := st
    obtain ⟨xs, hq, hx⟩ := hg
    obtain ⟨its, rv, p, hz⟩ := I.list hq
    obtain ⟨f0, f1, f2, f3, f4, f5⟩ := hf it (by simp)
    have pT := p.isList
    have hl := rv.length
    have nai : a ≠ it := fun z => by
      obtain ⟨o1, q1, c1, _⟩ := pT
      obtain ⟨o2, q2, c2, _⟩ := hit
      rw [z, q2] at q1; cases q1; rw [c2] at c1; exact absurd (Value.type.inj c1) (by decide)
    have ei : its.toArray.size = i := by simp; (first | lia | omega)
    exact wpAny_pyNext_enum_endD (Draws.list (A := X.A.in1) (I.ok.hd hc) it a nai its.toArray) he (by rw [ei]; exact ⟨hit, pT⟩) fun h' eb => ⟨rfl, I.turned (t' := s.toks) (fun b o hb q => eb b o hb q) f0 f1 f3 f4 f5⟩
  self := fun _ _ _ _ _ st h => wpAny_pyIter_enum st.1.choose_spec h
def iEnumL (K : PySem.W.Frag) (ta : TA) : TI := fun σ H R => ta σ H fun vs H1 => ∃ a, vs = [.ref a] ∧ (∃ xs, SqL K H1 a xs) ∧ R (Ite (fun H xs => SqL K H a xs)) H1
theorem pi_enumL {l : Expr} {ta : TA} {p pos : Pos} (hg : Gl X "enumerate") (hm : X.mg "enumerate" = none) (ha : PA X [l] ta) (hs : starEach [l] X.env = [(false, eval l X.env)] := by rfl) : PI X (.Tuple elts kk ps) (.Call (.Name "enumerate" p) [l] [] pos) (iEnumL X.K ta) := by
  intro pins s σ H R I h
  refine Call_ (ld_blt I hg hm boot_enumerate (PyProof.Rows.callWith_type1 (thn (ha pos pins s σ H _ I h) fun us s1 ⟨vs, H1, I1, r1, q1⟩ => ?_) hs rfl))
  obtain ⟨a, e, ⟨xs, hq⟩, q⟩ := q1
  subst e
  obtain ⟨u, rfl, ru⟩ := Vals.one r1
  cases ru
  obtain ⟨its, rv, pp, hz⟩ := I1.list hq
  refine call_enumerate_list pp.isList fun h' ge gi sz kk => ?_
  refine wpAny_pyIter_enum (by simpa using ge) ?_
  refine ⟨s1.heap.objs.size + 1, [s1.heap.objs.size + 1, s1.heap.objs.size], _, _, H1, rfl, I1.kept (t' := s1.toks) kk, turn_enumL a _ _ (Nat.succ_ne_self _), ⟨⟨_, by simpa using ge⟩, gi⟩, fun b hb => ?_, q⟩
  have z : b = s1.heap.objs.size + 1 ∨ b = s1.heap.objs.size := by simpa using hb
  rcases z with rfl | rfl
  · exact I1.fpOk (Nat.le_succ _) (I1.hok.fresh (Nat.le_succ _))
  · exact I1.fpOk (Nat.le_refl _) (I1.hok.fresh (Nat.le_refl _))
end
end L2

namespace L2
open PySem PySem.Spec PyProof.Rows HT
section
variable {prog : Program} {w : World} {A : Around} {E : Value → Shared → Prop} {s : Shared}
theorem item_tuple_all {t sl : Addr} {ys : Array Value} {vl vu : Value} {lo hi : Option Int} {Q : Value → Shared → Prop} (gt : IsTup s.heap t ys) (gs : s.heap.IsSliceOf sl vl vu .none) (pl : IsPart vl lo) (pu : IsPart vu hi)
    (yes : sIx ys.size 0 lo = 0 ∧ sIx ys.size ys.size hi = ys.size) (q : Q (.ref t) s) : wpAny (model prog w) A (getItem (.ref t) (.ref sl)) Q E s := by
  obtain ⟨os, g1, g2, g3⟩ := id gs
  have gT : s.TypeIs (.ref sl) "slice" := ⟨os, g1, g2⟩
  unfold getItem
  try with_reducible refine wpAny_holding ?_
  first | refine wpAny_bind (wpAny_pure ?_) | skip
  refine wpAny_bind (wpAny_sequenceKey gt.typeIs (by decide) (wpAny_bind (wpAny_callSpecial?_slot (name := Str.ofString "__getitem__") gt.typeIs PyProof.Rows.slot_tuple_getitem (wpAny_call_entry PyProof.Rows.slot_tuple_getitem gt.typeIs entry_tuple_getitem ?_ (args_tuple_getitem _ _)))))
  show wpAny _ A.in1 (Builtin.Tuple.tupleItemsOf (.ref t) >>= _) _ _ s
  refine wpAny_bind (tupleItemsOf_ gt (wpAny_bind (wpAny_typeOf gT ?_)))
  rw [if_pos (by decide)]
  refine wpAny_bind (sliceApplied_gen gs pl pu ?_)
  have yy : (((sIx ys.size 0 lo : Nat) : Int) == 0 && (1 : Int) == 1 && (sIx ys.size ys.size hi - sIx ys.size 0 lo) == ys.size) = true := by
    rw [yes.1, yes.2]
    simp
  show wpAny _ A.in1 (if (((sIx ys.size 0 lo : Nat) : Int) == 0 && (1 : Int) == 1 && (sIx ys.size ys.size hi - sIx ys.size 0 lo) == ys.size) = true then _ else _) _ _ s
  rw [if_pos yy]
  unfold Builtin.Tuple.tupleIsExact
  refine wpAny_bind (wpAny_bind (wpAny_typeOf gt.typeIs (wpAny_pure ?_)))
  rw [if_pos (by decide)]
  exact wpAny_bind (wpAny_rule (wpAny_pure ⟨_, rfl, wpAny_pure q⟩))
end
section
variable {X : Cx}
def whole (n : Nat) (lo hi : Option Int) : Prop := sIx n 0 lo = 0 ∧ sIx n n hi = n
def rSlW (K : PySem.W.Frag) : V → Option Int → Option Int → Hp → VK → Prop := fun x lo hi H Q => ∃ a xs, x = .ref a ∧ SqT K H a xs ∧ (whole xs.length lo hi → Q (.ref a) H) ∧ (¬ whole xs.length lo hi → ∀ p, H p = none → Q (.ref p) (upd H p (.tup (cutV xs lo hi))))
theorem sl_tupW : SlR X (rSlW X.K) := by
  intro pins s σ H x v vl vu lo hi sl Q I rx hs pl pu h
  obtain ⟨a, xs, rfl, hx, q1, q2⟩ := h
  by_cases hw : whole xs.length lo hi
  · cases rx
    obtain ⟨its, r, ht, hz⟩ := I.tuple hx
    have el : its.toArray.size = xs.length := by rw [List.size_toArray]; exact r.length.symm
    refine ⟨"tuple", _, PyProof.Rows.slot_tuple_getitem.lookup, ht.typeIs, item_tuple_all ht hs pl pu (by rw [el]; exact hw) ⟨.ref a, H, I, rfl, q1 hw⟩⟩
  · exact sl_tup pins s σ H (.ref a) v vl vu lo hi sl Q I rx hs pl pu ⟨a, xs, rfl, hx, hw, q2 hw⟩
theorem cut_whole {xs : List V} {lo hi : Option Int} (h : whole xs.length lo hi) : cutV xs lo hi = xs := by
  unfold cutV
  rw [h.1, h.2]
  simp
def rSlU : V → Option Int → Option Int → Hp → VK → Prop := fun x lo hi H Q => ∃ a xs, x = .ref a ∧ H a = some (.tup xs) ∧ ∀ p H', Same H H' → H' p = some (.tup (cutV xs lo hi)) → Q (.ref p) H'
theorem sl_tupU : SlR X rSlU := by
  intro pins s σ H x v vl vu lo hi sl Q I rx hs pl pu h
  obtain ⟨a, xs, rfl, hx, q⟩ := h
  exact sl_tupW pins s σ H (.ref a) v vl vu lo hi sl Q I rx hs pl pu ⟨a, xs, rfl, SqT.of hx, fun z => q a H (Same.refl H) (by rw [cut_whole z]; exact hx), fun _ p fp => q p _ (fun b o e => by rw [upd_ne (ne_of_none e fp)]; exact e) upd_same⟩
end
end L2

namespace Ep
open PySem L2
def both (cs : List Int) (w : Int × Int) : Int := cs.getD w.1.toNat 0 + cs.getD w.2.toNat 0
def letM (cs : List Int) (w : Int × Int) : List Int := (cs.set w.1.toNat ((both cs w + 1) / 2)).set w.2.toNat (both cs w / 2)
def thruM (cs : List Int) (ws : List (Int × Int)) : List Int := ws.foldl letM cs
theorem letM_len (cs : List Int) (w : Int × Int) : (letM cs w).length = cs.length := by unfold letM; rw [List.length_set, List.length_set]
theorem thruM_len (ws : List (Int × Int)) : ∀ cs : List Int, (thruM cs ws).length = cs.length := by
  unfold thruM
  induction ws with
  | nil => intro cs; rfl
  | cons w r ih => intro cs; rw [List.foldl_cons, ih, letM_len]
theorem thruM_snoc (cs : List Int) (ws : List (Int × Int)) (w : Int × Int) : thruM cs (ws ++ [w]) = letM (thruM cs ws) w := by
  unfold thruM
  rw [List.foldl_append]
  rfl
theorem take_snoc {α : Type} {ws : List α} {i : Nat} {w : α} (h : ws[i]? = some w) : ws.take (i + 1) = ws.take i ++ [w] := by rw [List.take_add_one, h]; rfl
theorem set_map (cs : List Int) (i : Nat) (z : Int) : (cs.map V.int).set i (V.int z) = (cs.set i z).map V.int := by rw [List.map_set]
theorem WOk.mem {wide : Int} {ws : List (Int × Int)} (h : WOk wide ws) {i : Nat} {x : Int × Int} (e : ws[i]? = some x) : 0 ≤ x.1 ∧ x.1 < wide ∧ 0 ≤ x.2 ∧ x.2 < wide ∧ x.1 ≠ x.2 := h x (List.mem_of_getElem? e)
theorem getD_lt {cs : List Int} {i : Nat} (h : i < cs.length) : cs[i]? = some (cs.getD i 0) := by simp [List.getD, h]
theorem letM_first {wide : Int} {cs : List Int} {w : Int × Int} (hl : cs.length = wide.toNat) (h : 0 ≤ w.1 ∧ w.1 < wide ∧ 0 ≤ w.2 ∧ w.2 < wide ∧ w.1 ≠ w.2) : (letM cs w).getD w.1.toNat 0 = (both cs w + 1) / 2 := by
  unfold letM
  rw [getD_set (by rw [List.length_set]; (first | lia | omega)), if_neg (by (first | lia | omega)), getD_set (by (first | lia | omega)), if_pos rfl]
theorem letM_second {wide : Int} {cs : List Int} {w : Int × Int} (hl : cs.length = wide.toNat) (h : 0 ≤ w.1 ∧ w.1 < wide ∧ 0 ≤ w.2 ∧ w.2 < wide ∧ w.1 ≠ w.2) : (letM cs w).getD w.2.toNat 0 = both cs w / 2 := by
  unfold letM
  rw [getD_set (by rw [List.length_set]; (first | lia | omega)), if_pos rfl]
theorem letM_other {wide : Int} {cs : List Int} {w : Int × Int} (hl : cs.length = wide.toNat) (h : 0 ≤ w.1 ∧ w.1 < wide ∧ 0 ≤ w.2 ∧ w.2 < wide ∧ w.1 ≠ w.2) {j : Nat} (h1 : j ≠ w.1.toNat) (h2 : j ≠ w.2.toNat) : (letM cs w).getD j 0 = cs.getD j 0 := by
  unfold letM
  rw [getD_set (by rw [List.length_set]; (first | lia | omega)), if_neg h2, getD_set (by (first | lia | omega)), if_neg h1]
end Ep

namespace L2
open PySem PySem.Spec PyProof.Rows
section
variable {X : Cx} {elts : List Expr} {kk : Nat} {ps : Pos}
end
end L2

namespace L2
open PySem PySem.Spec PyProof.Rows
section
variable {X : Cx}
end
end L2

namespace Ep
open PySem L2
end Ep
namespace Ep
open PySem L2
def mxL (L : List Int) : Int := L.foldl maxI 0
def depM (wide : Int) (ws : List (Int × Int)) : Nat := (mxL (layS wide ws).2).toNat
abbrev whole (wide : Int) (ws : List (Int × Int)) : Int := ((2 ^ depM wide ws : Nat) : Int)
def Rows (H : Hp) : List V → List (List Int) → Prop := Paired fun r w => ∃ t, r = .ref t ∧ H t = some (.lst (w.map V.int))
end Ep
namespace Ep
open PySem L2
end Ep

namespace Ep
open PySem L2
end Ep
namespace Ep
open PySem L2
end Ep

namespace L2
open PySem PySem.Spec PyProof.Rows PyProof.V PySem.SeqAt
mutual
inductive Dat (H : Hp) : V → PyData → Prop
  | non : Dat H .non .none
  | bl (b : Bool) : Dat H (.bl b) (.bool b)
  | int (i : Int) : Dat H (.int i) (.int i)
  | str (x : Str) : Dat H (.str x) (.str x)
  | lst {a : Addr} {xs : List V} {ds : List PyData} : H a = some (.lst xs) → Dats H xs ds → Dat H (.ref a) (.list ds)
  | tup {a : Addr} {xs : List V} {ds : List PyData} : H a = some (.tup xs) → Dats H xs ds → Dat H (.ref a) (.tuple ds)
inductive Dats (H : Hp) : List V → List PyData → Prop
  | nil : Dats H [] []
  | cons {v : V} {vs : List V} {d : PyData} {ds : List PyData} : Dat H v d → Dats H vs ds → Dats H (v :: vs) (d :: ds)
end
theorem Dats.ints (H : Hp) : ∀ ns : List Int, Dats H (ns.map V.int) (ns.map PyData.int)
  | [] => .nil
  | n :: r => .cons (.int n) (Dats.ints H r)
theorem Dat.ints {H : Hp} {a : Addr} {ns : List Int} (h : H a = some (.lst (ns.map V.int))) : Dat H (.ref a) (.list (ns.map PyData.int)) := .lst h (Dats.ints H ns)
theorem Dat.reads {X : Cx} {pins : List (Addr × Obj)} {σ : St} {H : Hp} {s : Shared} (I : Inv X pins σ H s) {v : V} {d : PyData} (h : Dat H v d) : ∀ u, RelV v u → ∃ as, Reads s.heap u d as := by
  refine Dat.rec (H := H) (motive_1 := fun v d _ => ∀ u, RelV v u → ∃ as, Reads s.heap u d as) (motive_2 := fun vs ds _ => ∀ us, Vals vs us → ∃ as, ReadsAll s.heap us ds as) ?_ ?_ ?_ ?_ ?_ ?_ ?_ ?_ h
  · intro u r; cases r; exact ⟨_, .none⟩
  · intro b u r; cases r; exact ⟨_, .bool b⟩
  · intro i u r; obtain ⟨t, rfl⟩ := r; exact ⟨_, .int i t⟩
  · intro x u r; obtain ⟨t, rfl⟩ := r; exact ⟨_, .str x t⟩
  · intro a xs ds e _ ih u r
    cases r
    obtain ⟨its, rv, pl, _⟩ := I.list (SqL.of (K := X.K) e)
    obtain ⟨as, ra⟩ := ih its rv
    obtain ⟨o, ho, hc, n, hd⟩ := pl.isList
    exact ⟨_, .list ho hc hd (by simpa using ra)⟩
  · intro a xs ds e _ ih u r
    cases r
    obtain ⟨its, rv, pl, _⟩ := I.tuple (SqT.of (K := X.K) e)
    obtain ⟨as, ra⟩ := ih its rv
    obtain ⟨o, ho, hc, n, hd⟩ := (show s.heap.IsTuple a its.toArray from pl)
    exact ⟨_, .tuple ho hc hd (by simpa using ra)⟩
  · intro us r; cases r; exact ⟨_, .nil⟩
  · intro v vs d ds _ _ ih1 ih2 us r
    cases r with
    | cons r1 r2 =>
      obtain ⟨as, ra⟩ := ih1 _ r1
      obtain ⟨bs, rb⟩ := ih2 _ r2
      exact ⟨_, .cons ra rb⟩
section
variable {X : Cx}
def rEqD (neg : Bool) : R2 := fun x y H Q => ∃ dx dy, Dat H x dx ∧ Dat H y dy ∧ shaped dx = true ∧ shaped dy = true ∧ noMix dx dy = true ∧ Q (.bl (if neg then !same dx dy else same dx dy)) H
theorem op_eqD (hu : X.A.units + 64 < cLine) : OpR X (compareOp .Eq) (rEqD false) := by
  intro pins s σ H x y v u Q I rx ry h
  obtain ⟨dx, dy, d1, d2, s1, s2, nm, q⟩ := h
  obtain ⟨as, r1⟩ := d1.reads I v rx
  obtain ⟨bs, r2⟩ := d2.reads I u ry
  exact eq_dataH_same r1 r2 s1 s2 hu nm ⟨.bl _, H, I, rfl, q⟩
theorem op_neD (hu : X.A.units + 64 < cLine) : OpR X (compareOp .NotEq) (rEqD true) := by
  intro pins s σ H x y v u Q I rx ry h
  obtain ⟨dx, dy, d1, d2, s1, s2, nm, q⟩ := h
  obtain ⟨as, r1⟩ := d1.reads I v rx
  obtain ⟨bs, r2⟩ := d2.reads I u ry
  exact ne_dataH_same r1 r2 s1 s2 hu nm ⟨.bl _, H, I, rfl, q⟩
end
end L2

namespace Ep
open PySem L2 PySem.SeqAt
end Ep

namespace L2
open PySem PySem.Spec PyProof.Rows PyProof.V PySem.SeqAt
section
variable {X : Cx} {a : Expr} {ta : TE} {pos : Pos}
end
end L2

namespace L2
open PySem PySem.Spec PyProof.Rows
structure MCal (P : Program) (w : World) (K : PySem.W.Frag) (mg : Str → Option Value) (base : Heap) (C : Addr) (m : Str) (k : Nat) (ps : List Str) (sp : Sp) : Prop where
  ex : ∃ (f : Addr) (fd : FuncData), FnOk P w K mg base CX0 k f fd ps sp ∧ Binds K fd ps [] ∧ Meth K C m f
structure Maker (P : Program) (w : World) (K : PySem.W.Frag) (mg : Str → Option Value) (base : Heap) (x : Str) (C : Addr) (k : Nat) (ps : List Str) (sp : Sp) : Prop where
  ex : ∃ (f : Addr) (fd : FuncData), FnOk P w K mg base CX0 k f fd ps sp ∧ Binds K fd ps [] ∧ Mk K C f
  at_ : mg x = some (.ref C)
section
variable {X : Cx} {C : Addr} {x m : Str} {k : Nat} {ps : List Str} {sp : Sp} {o e : Expr} {es : List Expr} {ta : TE} {t : TA} {p pos apos : Pos}
theorem pe_methC {pl : Sem Bool} (he : PE X o ta) (c : Cls X.K C) (M : MCal X.prog X.w X.K X.mg X.base C m k ps sp) (hr : Room k X.A) (ha : PA X (e :: es) t)
    (hst : starEach (e :: es) X.env = (false, eval e X.env) :: starEach es X.env := by rfl) (hpl : (backTo pos (starEach es X.env)).any (·.1) = false := by rfl)
    (ht : eval (.Call (.Attribute o m apos) (e :: es) [] pos) X.env = (do
      let ov ← eval o X.env
      standAt apos.atName
      let (f, first) ← holding [ov] (getMethod ov m pl)
      callWith pos f first (backTo pos (starEach (e :: es) X.env)) (backToKw pos (keywordEach [] X.env))) := by rfl) :
    PE X (.Call (.Attribute o m apos) (e :: es) [] pos) (tMeth C m sp [] E0 ta t) := by
  obtain ⟨f, fd, F, hb, hm⟩ := M.ex
  exact pe_meth he c hm F hr hb .nil pass0 ha hst hpl ht
theorem pe_methC0 {pl : Sem Bool} (he : PE X o ta) (c : Cls X.K C) (M : MCal X.prog X.w X.K X.mg X.base C m k ps sp) (hr : Room k X.A)
    (ht : eval (.Call (.Attribute o m apos) [] [] pos) X.env = (do
      let ov ← eval o X.env
      standAt apos.atName
      let (f, first) ← holding [ov] (getMethod ov m pl)
      callWith pos f first (backTo pos (starEach [] X.env)) (backToKw pos (keywordEach [] X.env))) := by rfl) :
    PE X (.Call (.Attribute o m apos) [] [] pos) (tMeth C m sp [] E0 ta tNil) := by
  obtain ⟨f, fd, F, hb, hm⟩ := M.ex
  exact pe_meth0 he c hm F hr hb .nil pass0 ht
theorem pe_makeC (M : Maker X.prog X.w X.K X.mg X.base x C k ps sp) (hr : Room (k + 1) X.A) (hg : Gl X x) (ha : PA X (e :: es) t)
    (hdb : (x == ("__debug__" : Str)) = false := by decide) (he : starEach (e :: es) X.env = (false, eval e X.env) :: starEach es X.env := by rfl) (hpl : (backTo pos (starEach es X.env)).any (·.1) = false := by rfl) :
    PE X (.Call (.Name x p) (e :: es) [] pos) (tMake C sp [] E0 t) := by
  obtain ⟨f, fd, F, hb, hm⟩ := M.ex
  exact pe_make hm F hr hg M.at_ hb .nil pass0 ha hdb he hpl
def rGetL (K : PySem.W.Frag) : V → V → Hp → VK → Prop := fun x y H Q => ∃ p xs i v, x = .ref p ∧ y = .int i ∧ SqL K H p xs ∧ 0 ≤ i ∧ xs[i.toNat]? = some v ∧ Q v H
theorem get_list : PGet X (rGetL X.K) := by
  intro pins s σ H o i ov iv Q I ro ri h
  obtain ⟨p, xs, i, z, rfl, rfl, hq, h0, he, q⟩ := h
  cases ro
  obtain ⟨t, rfl⟩ := ri
  obtain ⟨its, r, pl, hz⟩ := I.list hq
  obtain ⟨w, ew, rw'⟩ := r.get he
  have hl := r.length
  have hn := line63
  have il := (List.getElem?_eq_some_iff.mp he).1
  exact wpAny_getItem_list pl.isList h0 (by (first | lia | omega)) (by simpa using ew) ⟨z, H, I, rw', q⟩
end
structure HereM (K : PySem.W.Frag) (mg : Str → Option Value) (C : Addr) (x q : Str) (st : Stmt) (f : Addr) (fd : FuncData) : Prop where
  fn : Fun K x q st f fd
  mt : Meth K C x f
theorem HereM.mcal {P : Program} {w : World} {K : PySem.W.Frag} {mg : Str → Option Value} {base : Heap} {C : Addr} {x q : Str} {st : Stmt} {f : Addr} {fd : FuncData} {k : Nat} {ps : List Str} {sp : Sp} (h : HereM K mg C x q st f fd) (F : FnOk P w K mg base CX0 k f fd ps sp)
    (hb : ∀ (kV doc pm : Value) (an : Option Addr) (cdv ct : Value) (us : List Value), us.length = ps.length → bindArgs (PySem.W.fnOf x q (defArgs st) (defBody st) (defScope st) .none kV doc pm an cdv ct) ⟨us, []⟩ = pure (ps.zip us)) : MCal P w K mg base C x k ps sp :=
  ⟨f, fd, F, h.fn.binds hb, h.mt⟩
end L2
namespace Ep
open PySem L2 PySem.SeqAt
inductive Place where
  | before (k : Nat) (l : Int)
  | exit (l : Int)
  | out (l n : Int)
def plV : Place → List V
  | .before k l => [.str "before", .int k, .int l]
  | .exit l => [.str "exit", .int l]
  | .out l n => [.str "out", .int l, .int n]
def PlAt (H : Hp) (r : V) (pl : Place) : Prop := ∃ t, r = .ref t ∧ H t = some (.tup (plV pl))
def hasL (w : Int × Int) (l : Int) : Bool := decide (l = w.1) || decide (l = w.2)
def placeF (ws : List (Int × Int)) (l : Int) : Nat → Nat → Place
  | 0, _ => .exit l
  | n + 1, s => if hasL (wAt ws s) l then .before s l else placeF ws l n (s + 1)
def placeM (ws : List (Int × Int)) (l : Int) (s : Nat) : Place := placeF ws l (ws.length - s) s
theorem placeF_before {ws : List (Int × Int)} {l : Int} : ∀ {n s k : Nat} {l' : Int}, placeF ws l n s = .before k l' → s ≤ k ∧ k < s + n ∧ hasL (wAt ws k) l = true ∧ l' = l
  | 0, _, _, _, h => by simp [placeF] at h
  | n + 1, s, k, l', h => by
    unfold placeF at h
    by_cases c : hasL (wAt ws s) l = true
    · rw [if_pos c] at h
      injection h with h1 h2
      exact ⟨by (first | lia | omega), by (first | lia | omega), by rw [← h1]; exact c, h2.symm⟩
    · rw [if_neg c] at h
      obtain ⟨a, b, d, e⟩ := placeF_before h
      exact ⟨by (first | lia | omega), by (first | lia | omega), d, e⟩
theorem placeM_before {ws : List (Int × Int)} {l l' : Int} {s k : Nat} (h : placeM ws l s = .before k l') : s ≤ k ∧ k < ws.length ∧ hasL (wAt ws k) l = true ∧ l' = l := by
  obtain ⟨a, b, c, d⟩ := placeF_before h
  exact ⟨a, by (first | lia | omega), c, d⟩
theorem placeF_exit {ws : List (Int × Int)} {l l' : Int} : ∀ {n s : Nat}, placeF ws l n s = .exit l' → l' = l
  | 0, _, h => by unfold placeF at h; injection h with h; exact h.symm
  | n + 1, s, h => by
    unfold placeF at h
    by_cases c : hasL (wAt ws s) l = true
    · rw [if_pos c] at h; cases h
    · rw [if_neg c] at h; exact placeF_exit h
structure PlS where
  fac : List Int
  tal : List Int
  pla : List Place
  chg : List Int
structure PlL where
  dx : Addr
  lf : Addr
  lt : Addr
  lp : Addr
  lc : Addr
def pfl (v : V) (L : PlL) : List (Str × V) := putF "changes" (.ref L.lc) (putF "places" (.ref L.lp) (putF "tally" (.ref L.lt) (putF "facing" (.ref L.lf) (putF "net" v []))))
theorem putF_len (f : Str) (v : V) : ∀ fs : List (Str × V), (putF f v fs).length ≤ fs.length + 1
  | [] => by simp [putF]
  | (g, x) :: r => by
    unfold putF
    split
    · simp
    · have := putF_len f v r
      simp
      (first | lia | omega)
theorem pfl_net (v : V) (L : PlL) : (pfl v L).lookup ("net" : Str) = some v := by
  unfold pfl
  rw [lookup_putF, if_neg (by decide +kernel), lookup_putF, if_neg (by decide +kernel), lookup_putF, if_neg (by decide +kernel), lookup_putF, if_neg (by decide +kernel), lookup_putF, if_pos rfl]
theorem pfl_facing (v : V) (L : PlL) : (pfl v L).lookup ("facing" : Str) = some (.ref L.lf) := by
  unfold pfl
  rw [lookup_putF, if_neg (by decide +kernel), lookup_putF, if_neg (by decide +kernel), lookup_putF, if_neg (by decide +kernel), lookup_putF, if_pos rfl]
theorem pfl_tally (v : V) (L : PlL) : (pfl v L).lookup ("tally" : Str) = some (.ref L.lt) := by
  unfold pfl
  rw [lookup_putF, if_neg (by decide +kernel), lookup_putF, if_neg (by decide +kernel), lookup_putF, if_pos rfl]
theorem pfl_places (v : V) (L : PlL) : (pfl v L).lookup ("places" : Str) = some (.ref L.lp) := by
  unfold pfl
  rw [lookup_putF, if_neg (by decide +kernel), lookup_putF, if_pos rfl]
theorem pfl_changes (v : V) (L : PlL) : (pfl v L).lookup ("changes" : Str) = some (.ref L.lc) := by
  unfold pfl
  rw [lookup_putF, if_pos rfl]
theorem pfl_no (v : V) (L : PlL) {m : Str} (h1 : ¬ m = "changes") (h2 : ¬ m = "places") (h3 : ¬ m = "tally") (h4 : ¬ m = "facing") (h5 : ¬ m = "net") : (pfl v L).lookup m = none := by
  unfold pfl
  rw [lookup_putF, if_neg h1, lookup_putF, if_neg h2, lookup_putF, if_neg h3, lookup_putF, if_neg h4, lookup_putF, if_neg h5]
  rfl
structure PlayAt (C : Addr) (H : Hp) (p : Addr) (v : V) (L : PlL) (st : PlS) : Prop where
  ob : H p = some (.ins C L.dx (pfl v L))
  fa : H L.lf = some (.lst (st.fac.map V.int))
  ta : H L.lt = some (.lst (st.tal.map V.int))
  pl : ∃ rs, H L.lp = some (.lst rs) ∧ Paired (PlAt H) rs st.pla
  ch : H L.lc = some (.lst (st.chg.map V.int))
  ft : L.lf ≠ L.lt
  fp : L.lf ≠ L.lp
  fc : L.lf ≠ L.lc
  tp : L.lt ≠ L.lp
  tc : L.lt ≠ L.lc
  pc : L.lp ≠ L.lc
def KpL (L : PlL) (H H' : Hp) : Prop := ∀ b o, H b = some o → b ≠ L.lf → b ≠ L.lt → b ≠ L.lp → b ≠ L.lc → H' b = some o
theorem KpL.trans {L : PlL} {H H1 H2 : Hp} (a : KpL L H H1) (b : KpL L H1 H2) : KpL L H H2 := fun c o e h1 h2 h3 h4 => b c o (a c o e h1 h2 h3 h4) h1 h2 h3 h4
theorem KpL.same {L : PlL} {H H' : Hp} (s : Same H H') : KpL L H H' := fun b o e _ _ _ _ => s b o e
theorem KpL.kt {C p : Addr} {v : V} {L : PlL} {st : PlS} {H H' : Hp} (P : PlayAt C H p v L st) (k : KpL L H H') : KT H H' := fun b xs e => by
  obtain ⟨rs, hp, _⟩ := P.pl
  exact k b _ e (ne3 e P.fa) (ne3 e P.ta) (ne3 e hp) (ne3 e P.ch)
theorem PlAt.kt {H H' : Hp} {r : V} {pl : Place} (k : KT H H') (h : PlAt H r pl) : PlAt H' r pl := let ⟨t, e, x⟩ := h; ⟨t, e, k _ _ x⟩
theorem PlayAt.same {C p : Addr} {v : V} {L : PlL} {st : PlS} {H H' : Hp} (P : PlayAt C H p v L st) (s : Same H H') : PlayAt C H' p v L st :=
  let ⟨rs, a, b⟩ := P.pl
  ⟨s _ _ P.ob, s _ _ P.fa, s _ _ P.ta, ⟨rs, s _ _ a, Paired.mapP b fun _ _ z => z.kt (KT.same s (KT.refl _))⟩, s _ _ P.ch, P.ft, P.fp, P.fc, P.tp, P.tc, P.pc⟩
theorem PlayAt.nob {C p : Addr} {v : V} {L : PlL} {st : PlS} {H : Hp} (P : PlayAt C H p v L st) : p ≠ L.lf ∧ p ≠ L.lt ∧ p ≠ L.lp ∧ p ≠ L.lc := by
  obtain ⟨rs, hp, _⟩ := P.pl
  exact ⟨ne_of P.ob P.fa (by intro z; cases z), ne_of P.ob P.ta (by intro z; cases z), ne_of P.ob hp (by intro z; cases z), ne_of P.ob P.ch (by intro z; cases z)⟩
theorem Paired.getP {α β : Type} {F : α → β → Prop} : ∀ {l : List α} {m : List β} {i : Nat} {b : β}, Paired F l m → m[i]? = some b → ∃ a, l[i]? = some a ∧ F a b
  | _, _, _, _, .nil, e => by simp at e
  | _, _, 0, _, .cons h _, e => by simp at e; subst e; exact ⟨_, rfl, h⟩
  | _, _, i + 1, b, .cons _ t, e => by
    obtain ⟨a, h1, h2⟩ := Paired.getP (i := i) (b := b) t (by simpa using e)
    exact ⟨a, by simpa using h1, h2⟩
theorem Paired.setP {α β : Type} {F : α → β → Prop} {a : α} {b : β} (h : F a b) : ∀ {l : List α} {m : List β} (i : Nat), Paired F l m → Paired F (l.set i a) (m.set i b)
  | _, _, _, .nil => .nil
  | _, _, 0, .cons _ t => .cons h t
  | _, _, i + 1, .cons g t => .cons g (Paired.setP h i t)
theorem Paired.appP {α β : Type} {F : α → β → Prop} : ∀ {l : List α} {m : List β} {l' : List α} {m' : List β}, Paired F l m → Paired F l' m' → Paired F (l ++ l') (m ++ m')
  | _, _, _, _, .nil, s => s
  | _, _, _, _, .cons r t, s => .cons r (Paired.appP t s)
structure PlayT (K : PySem.W.Frag) (C : Addr) : Prop where
  cl : Cls K C
  nN : NoAttr K C "net"
  nF : NoAttr K C "facing"
  nT : NoAttr K C "tally"
  nP : NoAttr K C "places"
  nC : NoAttr K C "changes"
structure Wf (wide : Int) (ws : List (Int × Int)) (st : PlS) : Prop where
  fl : st.fac.length = ws.length
  tl : st.tal.length = wide.toNat
  cl : st.chg.length = st.pla.length
  ml : st.pla.length ≤ 400
  fs : ∀ k w, ws[k]? = some w → st.fac.getD k 0 = w.1 ∨ st.fac.getD k 0 = w.2
  cs : ∀ i, i < st.chg.length → st.chg.getD i 0 = 1 ∨ st.chg.getD i 0 = -1
  ps : ∀ pl ∈ st.pla, match pl with | .before k l => k < ws.length ∧ 0 ≤ l ∧ l < wide | .exit l => 0 ≤ l ∧ l < wide | .out _ _ => True
def startM (wide : Int) (ws : List (Int × Int)) : PlS := ⟨ws.map (·.1), List.replicate wide.toNat 0, [], []⟩
def enterM (ws : List (Int × Int)) (st : PlS) (lane c : Int) : PlS := ⟨st.fac, st.tal, st.pla ++ [placeM ws lane 0], st.chg ++ [c]⟩
def otherL (w : Int × Int) (f : Int) : Int := if f = w.1 then w.2 else w.1
def turnM (ws : List (Int × Int)) (st : PlS) (k : Nat) : PlS := ⟨st.fac.set k (otherL (wAt ws k) (st.fac.getD k 0)), st.tal, st.pla, st.chg⟩
def passL (ws : List (Int × Int)) (st : PlS) (k : Nat) (c : Int) : Int := if c = 1 then st.fac.getD k 0 else otherL (wAt ws k) (st.fac.getD k 0)
def leaveM (st : PlS) (l c : Int) : PlS := ⟨st.fac, st.tal.set l.toNat (st.tal.getD l.toNat 0 + c), st.pla, st.chg⟩
def leaveN (wide : Int) (st : PlS) (l c : Int) : Int := l + wide * (if c = 1 then st.tal.getD l.toNat 0 else st.tal.getD l.toNat 0 + c)
def putP (st : PlS) (i : Nat) (pl : Place) : PlS := ⟨st.fac, st.tal, st.pla.set i pl, st.chg⟩
def stepP (wide : Int) (ws : List (Int × Int)) (st : PlS) (i : Nat) (pl : Place) : Place := match pl with
  | .before k _ => placeM ws (passL ws st k (st.chg.getD i 0)) (k + 1)
  | .exit l => .out l (leaveN wide st l (st.chg.getD i 0))
  | .out l n => .out l n
def stepS (wide : Int) (ws : List (Int × Int)) (st : PlS) (i : Nat) (pl : Place) : PlS := match pl with
  | .before k l => putP (turnM ws st k) i (stepP wide ws st i (.before k l))
  | .exit l => putP (leaveM st l (st.chg.getD i 0)) i (stepP wide ws st i (.exit l))
  | .out l n => st
def isOut : Place → Bool
  | .out _ _ => true
  | _ => false
def insideM : Nat → List Place → List Int
  | _, [] => []
  | i, pl :: r => (if isOut pl then [] else [(i : Int)]) ++ insideM (i + 1) r
theorem insideM_snoc (ps : List Place) (pl : Place) : ∀ i, insideM i (ps ++ [pl]) = insideM i ps ++ (if isOut pl then [] else [((i + ps.length : Nat) : Int)]) := by
  induction ps with
  | nil => intro i; simp [insideM]
  | cons q r ih =>
    intro i
    show _ ++ insideM (i + 1) (r ++ [pl]) = (_ ++ insideM (i + 1) r) ++ _
    rw [ih, List.append_assoc]
    have e : i + 1 + r.length = i + (q :: r).length := by simp; (first | lia | omega)
    rw [e]
theorem insideM_len (ps : List Place) : ∀ i, (insideM i ps).length ≤ ps.length := by
  induction ps with
  | nil => intro i; simp [insideM]
  | cons q r ih =>
    intro i
    show (_ ++ insideM (i + 1) r).length ≤ _
    rw [List.length_append, List.length_cons]
    have := ih (i + 1)
    split <;> simp <;> (first | lia | omega)
abbrev NetOk (H : Hp) (v : V) (wide : Int) (ws : List (Int × Int)) : Prop := Net H v wide ws ∧ 1 ≤ wide ∧ wide ≤ 8 ∧ WOk wide ws ∧ ws.length ≤ 41
theorem NetOk.kt {H H' : Hp} {v : V} {wide : Int} {ws : List (Int × Int)} (n : NetOk H v wide ws) (k : KT H H') : NetOk H' v wide ws := ⟨n.1.kt k, n.2⟩
inductive SpIsWholeP (vs : List V) (H : Hp) (Q : VK) : Prop
  | mk (i : Int) (h1 : vs = [.int i]) (h2 : Q (.bl true) H) : SpIsWholeP vs H Q
def spIsWhole : Sp := fun vs H Q _ => SpIsWholeP  vs H Q
inductive SpIsLaneP (vs : List V) (H : Hp) (Q : VK) : Prop
  | mk (wide i : Int) (h1 : vs = [.int wide, .int i]) (h2 : 0 ≤ i) (h3 : i < wide) (h4 : Q (.bl true) H) : SpIsLaneP vs H Q
def spIsLane : Sp := fun vs H Q _ => SpIsLaneP  vs H Q
inductive SpPlaceOnP (vs : List V) (H : Hp) (Q : VK) : Prop
  | mk (v : V) (wide : Int) (ws : List (Int × Int)) (l : Int) (s : Nat) (h1 : vs = [v, .int l, .int s]) (h2 : NetOk H v wide ws) (h3 : s ≤ ws.length) (h4 : ∀ (t : Addr) (H' : Hp), H t = none → Same H H' → H' t = some (.tup (plV (placeM ws l s))) → Q (.ref t) H') : SpPlaceOnP vs H Q
def spPlaceOn : Sp := fun vs H Q _ => SpPlaceOnP  vs H Q
inductive SpPInitP (C : Addr) (vs : List V) (H : Hp) (Q : VK) : Prop
  | mk (p dx : Addr) (v : V) (wide : Int) (ws : List (Int × Int)) (h1 : vs = [.ref p, v]) (h2 : H p = some (.ins C dx [])) (h3 : NetOk H v wide ws) (h4 : ∀ (L : PlL) (H' : Hp), H L.lf = none → H L.lt = none → H L.lp = none → H L.lc = none → PlayAt C H' p v L (startM wide ws) → (∀ b o, H b = some o → b ≠ p → H' b = some o) → Q .non H') : SpPInitP C vs H Q
def spPInit (C : Addr) : Sp := fun vs H Q _ => SpPInitP C vs H Q
inductive SpComeInP (C : Addr) (vs : List V) (H : Hp) (Q : VK) : Prop
  | mk (p : Addr) (v : V) (wide : Int) (ws : List (Int × Int)) (L : PlL) (st : PlS) (lane c : Int) (h1 : vs = [.ref p, .int lane, .int c]) (h2 : NetOk H v wide ws) (h3 : PlayAt C H p v L st) (h4 : Wf wide ws st) (h5 : 0 ≤ lane) (h6 : lane < wide) (h7 : ∀ H', PlayAt C H' p v L (enterM ws st lane c) → KpL L H H' → Q (.int st.pla.length) H') : SpComeInP C vs H Q
def spComeIn (C : Addr) : Sp := fun vs H Q _ => SpComeInP C vs H Q
inductive SpEnterP (C : Addr) (c : Int) (vs : List V) (H : Hp) (Q : VK) : Prop
  | mk (p : Addr) (v : V) (wide : Int) (ws : List (Int × Int)) (L : PlL) (st : PlS) (lane : Int) (h1 : vs = [.ref p, .int lane]) (h2 : NetOk H v wide ws) (h3 : PlayAt C H p v L st) (h4 : Wf wide ws st) (h5 : 0 ≤ lane) (h6 : lane < wide) (h7 : ∀ H', PlayAt C H' p v L (enterM ws st lane c) → KpL L H H' → Q (.int st.pla.length) H') : SpEnterP C c vs H Q
def spEnter (C : Addr) (c : Int) : Sp := fun vs H Q _ => SpEnterP C c vs H Q
inductive SpWhereP (C : Addr) (vs : List V) (H : Hp) (Q : VK) : Prop
  | mk (p : Addr) (v : V) (L : PlL) (st : PlS) (i : Nat) (pl : Place) (h1 : vs = [.ref p, .int i]) (h2 : PlayAt C H p v L st) (h3 : st.pla[i]? = some pl) (h4 : ∀ (t : Addr), H t = some (.tup (plV pl)) → Q (.ref t) H) : SpWhereP C vs H Q
def spWhere (C : Addr) : Sp := fun vs H Q _ => SpWhereP C vs H Q
inductive SpTurnP (C : Addr) (vs : List V) (H : Hp) (Q : VK) : Prop
  | mk (p : Addr) (v : V) (wide : Int) (ws : List (Int × Int)) (L : PlL) (st : PlS) (k : Nat) (h1 : vs = [.ref p, .int k]) (h2 : NetOk H v wide ws) (h3 : PlayAt C H p v L st) (h4 : st.fac.length = ws.length) (h5 : k < ws.length) (h6 : ∀ H', PlayAt C H' p v L (turnM ws st k) → KpL L H H' → Q .non H') : SpTurnP C vs H Q
def spTurn (C : Addr) : Sp := fun vs H Q _ => SpTurnP C vs H Q
inductive SpPassP (C : Addr) (vs : List V) (H : Hp) (Q : VK) : Prop
  | mk (p : Addr) (v : V) (wide : Int) (ws : List (Int × Int)) (L : PlL) (st : PlS) (k : Nat) (c : Int) (h1 : vs = [.ref p, .int k, .int c]) (h2 : NetOk H v wide ws) (h3 : PlayAt C H p v L st) (h4 : st.fac.length = ws.length) (h5 : k < ws.length) (h6 : ∀ (t : Addr) (H' : Hp), PlayAt C H' p v L (turnM ws st k) → KpL L H H' → H' t = some (.tup (plV (placeM ws (passL ws st k c) (k + 1)))) → Q (.ref t) H') : SpPassP C vs H Q
def spPass (C : Addr) : Sp := fun vs H Q _ => SpPassP C vs H Q
inductive SpLeaveP (C : Addr) (vs : List V) (H : Hp) (Q : VK) : Prop
  | mk (p : Addr) (v : V) (wide : Int) (ws : List (Int × Int)) (L : PlL) (st : PlS) (l c : Int) (h1 : vs = [.ref p, .int l, .int c]) (h2 : NetOk H v wide ws) (h3 : PlayAt C H p v L st) (h4 : st.tal.length = wide.toNat) (h5 : 0 ≤ l) (h6 : l < wide) (h7 : ∀ (t : Addr) (H' : Hp), PlayAt C H' p v L (leaveM st l c) → KpL L H H' → H' t = some (.tup (plV (.out l (leaveN wide st l c)))) → Q (.ref t) H') : SpLeaveP C vs H Q
def spLeave (C : Addr) : Sp := fun vs H Q _ => SpLeaveP C vs H Q
inductive SpStepP (C : Addr) (vs : List V) (H : Hp) (Q : VK) : Prop
  | mk (p : Addr) (v : V) (wide : Int) (ws : List (Int × Int)) (L : PlL) (st : PlS) (i : Nat) (pl : Place) (h1 : vs = [.ref p, .int i]) (h2 : NetOk H v wide ws) (h3 : PlayAt C H p v L st) (h4 : Wf wide ws st) (h5 : st.pla[i]? = some pl) (h6 : isOut pl = false) (h7 : ∀ (t : Addr) (H' : Hp), PlayAt C H' p v L (stepS wide ws st i pl) → KpL L H H' → H' t = some (.tup (plV (stepP wide ws st i pl))) → Q (.ref t) H') : SpStepP C vs H Q
def spStep (C : Addr) : Sp := fun vs H Q _ => SpStepP C vs H Q
inductive SpInsideP (C : Addr) (vs : List V) (H : Hp) (Q : VK) : Prop
  | mk (p : Addr) (v : V) (L : PlL) (st : PlS) (h1 : vs = [.ref p]) (h2 : PlayAt C H p v L st) (h3 : st.pla.length ≤ 1000) (h4 : ∀ (a : Addr) (H' : Hp), H a = none → Same H H' → H' a = some (.lst ((insideM 0 st.pla).map V.int)) → Q (.ref a) H') : SpInsideP C vs H Q
def spInside (C : Addr) : Sp := fun vs H Q _ => SpInsideP C vs H Q
inductive SpShownP (C : Addr) (vs : List V) (H : Hp) (Q : VK) : Prop
  | mk (p : Addr) (v : V) (L : PlL) (st : PlS) (h1 : vs = [.ref p]) (h2 : PlayAt C H p v L st) (h3 : ∀ (a : Addr) (H' : Hp), H a = none → Same H H' → H' a = some (.lst (st.fac.map V.int)) → Q (.ref a) H') : SpShownP C vs H Q
def spShown (C : Addr) : Sp := fun vs H Q _ => SpShownP C vs H Q
inductive SpCountsPP (C : Addr) (vs : List V) (H : Hp) (Q : VK) : Prop
  | mk (p : Addr) (v : V) (L : PlL) (st : PlS) (h1 : vs = [.ref p]) (h2 : PlayAt C H p v L st) (h3 : ∀ (a : Addr) (H' : Hp), H a = none → Same H H' → H' a = some (.lst (st.tal.map V.int)) → Q (.ref a) H') : SpCountsPP C vs H Q
def spCountsP (C : Addr) : Sp := fun vs H Q _ => SpCountsPP C vs H Q
end Ep
namespace L2
open PySem PySem.Spec PyProof.Rows
theorem comp_enum {sq : Hp → List V → Prop} {xs : List V} {own : Nat} {caps : List Nat} {g : TG} {tt : TT} {te : TE} {σ : St} {R : Hp → Prop} {l : Addr} {H1 : Hp} (Pv : Nat → List V → Hp → Prop) (h0 : Pv 0 [] (upd H1 l (.lst []))) (hz : xs.length ≤ sizeLine)
    (hl : ∀ i ys H, i ≤ xs.length → Pv i ys H → sq H xs ∧ H l = some (.lst ys) ∧ ys.length ≤ i)
    (hs : ∀ i x T ys H, xs[i]? = some x → H T = none → Pv i ys H → g (.ref T) (stC own caps σ) (upd H T (.tup [.int i, x])) fun σ2 H2 => Wk (stC own caps σ) σ2 ∧
      tt σ2 H2 fun b H3 => if b = true then te σ2 H3 fun y H4 => H4 l = some (.lst ys) ∧ Pv (i + 1) (ys ++ [y]) (upd H4 l (.lst (ys ++ [y]))) else Pv (i + 1) ys H3)
    (hd : ∀ ys H, Pv xs.length ys H → R H) :
    ∃ W : Nat → Nat → List V → Hp → Prop, (∃ m, W 0 m [] (upd H1 l (.lst []))) ∧
      ∀ i m ys H, W i m ys H → H l = some (.lst ys) ∧ (((Ite sq).stop i H ∧ R H) ∨ ((Ite sq).go i H ∧ ys.length < sizeLine ∧ ∃ N : List V → Hp → Prop, (∀ ys' H', N ys' H' → ∃ m', m' < m ∧ W (i + 1) m' ys' H') ∧
        ∀ x H', (Ite sq).yld i H x H' → g x (stC own caps σ) H' fun σ2 H2 => Wk (stC own caps σ) σ2 ∧
        tt σ2 H2 fun b H3 => if b = true then te σ2 H3 fun y H4 => H4 l = some (.lst ys) ∧ N (ys ++ [y]) (upd H4 l (.lst (ys ++ [y]))) else N ys H3)) := by
  refine ⟨fun i m ys H => m = xs.length - i ∧ i ≤ xs.length ∧ Pv i ys H, ⟨xs.length, by simp, Nat.zero_le _, h0⟩, ?_⟩
  rintro i m ys H ⟨rfl, hi, p⟩
  obtain ⟨q, e1, e2⟩ := hl i ys H hi p
  refine ⟨e1, ?_⟩
  by_cases hlt : i < xs.length
  · refine .inr ⟨⟨xs, xs[i], q, by simp [hlt]⟩, by (first | lia | omega), Pv (i + 1), fun ys' H' p' => ⟨xs.length - (i + 1), by (first | lia | omega), rfl, hlt, p'⟩, fun x H' y => ?_⟩
    obtain ⟨T, v, fT, a1, a2, y⟩ := y
    subst a1 a2
    exact hs i v T ys H (y xs q) fT p
  · have e : i = xs.length := by (first | lia | omega)
    subst e
    exact .inl ⟨⟨xs, q, rfl⟩, hd ys H p⟩
end L2
namespace Ep
open PySem L2 PySem.SeqAt
def plD : Place → PyData
  | .before k l => .tuple [.str "before", .int k, .int l]
  | .exit l => .tuple [.str "exit", .int l]
  | .out l n => .tuple [.str "out", .int l, .int n]
theorem datP {H : Hp} {a : Addr} {pl : Place} (h : H a = some (.tup (plV pl))) : Dat H (.ref a) (plD pl) := by
  cases pl with
  | before k l => exact .tup h (.cons (.str _) (.cons (.int _) (.cons (.int _) .nil)))
  | exit l => exact .tup h (.cons (.str _) (.cons (.int _) .nil))
  | out l n => exact .tup h (.cons (.str _) (.cons (.int _) (.cons (.int _) .nil)))
theorem strB : PyData.strOk "before" = true := by decide +kernel
theorem strE : PyData.strOk "exit" = true := by decide +kernel
theorem strO : PyData.strOk "out" = true := by decide +kernel
theorem shapedP (pl : Place) : shaped (plD pl) = true := by
  cases pl with
  | before k l =>
    show (PyData.canLay0 _ && decide (PyData.depth _ ≤ 64)) = true
    simp [plD, PyData.canLay0, PyData.canLayAll0, PyData.depth, PyData.depthAll]
    exact strB
  | exit l =>
    show (PyData.canLay0 _ && decide (PyData.depth _ ≤ 64)) = true
    simp [plD, PyData.canLay0, PyData.canLayAll0, PyData.depth, PyData.depthAll]
    exact strE
  | out l n =>
    show (PyData.canLay0 _ && decide (PyData.depth _ ≤ 64)) = true
    simp [plD, PyData.canLay0, PyData.canLayAll0, PyData.depth, PyData.depthAll]
    exact strO
theorem mixP (pl : Place) : noMix (plD pl) (plD pl) = true := by cases pl <;> simp [plD, noMix, noMixAll]
inductive SpLComeInP (C : Addr) (vs : List V) (H : Hp) (Q : VK) : Prop
  | mk (p : Addr) (v : V) (wide : Int) (ws : List (Int × Int)) (L : PlL) (st : PlS) (lane bk : Int) (h1 : vs = [.ref p, .int lane, .int bk]) (h2 : NetOk H v wide ws) (h3 : PlayAt C H p v L st) (h4 : Wf wide ws st) (h5 : 0 ≤ lane) (h6 : lane < wide) (h7 : (bk = 0 ∨ bk = 1)) (h8 : ∀ H', PlayAt C H' p v L (enterM ws st lane (1 - 2 * bk)) → KpL L H H' → Q (.int st.pla.length) H') : SpLComeInP C vs H Q
def spLComeIn (C : Addr) : Sp := fun vs H Q _ => SpLComeInP C vs H Q
end Ep
namespace Ep
open PySem L2 PySem.SeqAt
theorem pick2 {a b z : Int} (h : z = 0 ∨ z = 1) : atI [V.int a, V.int b] z = some (.int (if z = 0 then a else b)) := by rcases h with h | h <;> subst h <;> rfl
theorem start_wf {wide : Int} {ws : List (Int × Int)} : Wf wide ws (startM wide ws) where
  fl := by simp [startM]
  tl := by simp [startM]
  cl := rfl
  ml := by simp [startM]
  fs := fun k w h => by
    refine .inl ?_
    show (ws.map (·.1)).getD k 0 = w.1
    simp [List.getD, h]
  cs := fun i hi => absurd hi (by simp [startM])
  ps := fun pl h => by simp [startM] at h
theorem placeM_ok {wide : Int} {ws : List (Int × Int)} {l : Int} {s : Nat} (h0 : 0 ≤ l) (h1 : l < wide) : match placeM ws l s with | .before k l => k < ws.length ∧ 0 ≤ l ∧ l < wide | .exit l => 0 ≤ l ∧ l < wide | .out _ _ => True := by
  cases e : placeM ws l s with
  | before k l' =>
    obtain ⟨_, a, _, b⟩ := placeM_before e
    exact ⟨a, by (first | lia | omega), by (first | lia | omega)⟩
  | exit l' =>
    have := placeF_exit e
    exact ⟨by (first | lia | omega), by (first | lia | omega)⟩
  | out l' n' => trivial
theorem enter_wf {wide : Int} {ws : List (Int × Int)} {st : PlS} {lane c : Int} (wf : Wf wide ws st) (h0 : 0 ≤ lane) (h1 : lane < wide) (hc : c = 1 ∨ c = -1) (hm : st.pla.length < 400) : Wf wide ws (enterM ws st lane c) where
  fl := wf.fl
  tl := wf.tl
  cl := by have := wf.cl; simp [enterM]; (first | lia | omega)
  ml := by simp [enterM]; (first | lia | omega)
  fs := wf.fs
  cs := fun i hi => by
    have hi' : i < st.chg.length + 1 := by simpa [enterM] using hi
    show (st.chg ++ [c]).getD i 0 = 1 ∨ (st.chg ++ [c]).getD i 0 = -1
    by_cases z : i < st.chg.length
    · rw [getD_app z]; exact wf.cs i z
    · have e : i = st.chg.length := by (first | lia | omega)
      subst e
      rw [getD_last]; exact hc
  ps := fun pl h => by
    rcases List.mem_append.mp h with z | z
    · exact wf.ps pl z
    · have e : pl = placeM ws lane 0 := by simpa using z
      subst e
      exact placeM_ok h0 h1
theorem otherL_or {w : Int × Int} (f : Int) : otherL w f = w.1 ∨ otherL w f = w.2 := by
  unfold otherL
  split
  · exact .inr rfl
  · exact .inl rfl
theorem turn_wf {wide : Int} {ws : List (Int × Int)} {st : PlS} {k : Nat} (wf : Wf wide ws st) : Wf wide ws (turnM ws st k) where
  fl := by show (st.fac.set k _).length = _; rw [List.length_set]; exact wf.fl
  tl := wf.tl
  cl := wf.cl
  ml := wf.ml
  fs := fun j w h => by
    have jl : j < ws.length := (List.getElem?_eq_some_iff.mp h).1
    show (st.fac.set k _).getD j 0 = w.1 ∨ (st.fac.set k _).getD j 0 = w.2
    by_cases c : k < st.fac.length
    · rw [getD_set c]
      by_cases e : j = k
      · rw [if_pos e, ← e, show wAt ws j = w by simp [wAt, List.getD, h]]
        exact otherL_or _
      · rw [if_neg e]; exact wf.fs j w h
    · rw [List.set_eq_of_length_le (by (first | lia | omega))]; exact wf.fs j w h
  cs := wf.cs
  ps := wf.ps
theorem leave_wf {wide : Int} {ws : List (Int × Int)} {st : PlS} {l c : Int} (wf : Wf wide ws st) : Wf wide ws (leaveM st l c) where
  fl := wf.fl
  tl := by show (st.tal.set _ _).length = _; rw [List.length_set]; exact wf.tl
  cl := wf.cl
  ml := wf.ml
  fs := wf.fs
  cs := wf.cs
  ps := wf.ps
theorem putP_wf {wide : Int} {ws : List (Int × Int)} {st : PlS} {i : Nat} {pl : Place} (wf : Wf wide ws st) (h : match pl with | .before k l => k < ws.length ∧ 0 ≤ l ∧ l < wide | .exit l => 0 ≤ l ∧ l < wide | .out _ _ => True) : Wf wide ws (putP st i pl) where
  fl := wf.fl
  tl := wf.tl
  cl := by show _ = (st.pla.set i pl).length; rw [List.length_set]; exact wf.cl
  ml := by show (st.pla.set i pl).length ≤ _; rw [List.length_set]; exact wf.ml
  fs := wf.fs
  cs := wf.cs
  ps := fun q hq => by
    rcases List.mem_or_eq_of_mem_set hq with z | z
    · exact wf.ps q z
    · subst z; exact h
theorem pass_ok {wide : Int} {ws : List (Int × Int)} {st : PlS} {k : Nat} {c : Int} (ok : WOk wide ws) (wf : Wf wide ws st) (hk : k < ws.length) : 0 ≤ passL ws st k c ∧ passL ws st k c < wide := by
  have hw : ws[k]? = some ws[k] := by simp [hk]
  obtain ⟨o1, o2, o3, o4, o5⟩ := WOk.mem ok hw
  have ew : wAt ws k = ws[k] := by simp [wAt, List.getD, hw]
  unfold passL
  rw [ew]
  split
  · rcases wf.fs k _ hw with h | h <;> rw [h] <;> (first | lia | omega)
  · rcases otherL_or (w := ws[k]) (st.fac.getD k 0) with h | h <;> rw [h] <;> (first | lia | omega)
theorem step_wf {wide : Int} {ws : List (Int × Int)} {st : PlS} {i : Nat} {pl : Place} (ok : WOk wide ws) (wf : Wf wide ws st) (h : st.pla[i]? = some pl) : Wf wide ws (stepS wide ws st i pl) := by
  have hp := wf.ps pl (List.mem_of_getElem? h)
  cases pl with
  | before k l => exact putP_wf (turn_wf wf) (by obtain ⟨a, b⟩ := pass_ok (c := st.chg.getD i 0) ok wf hp.1; exact placeM_ok a b)
  | exit l => exact putP_wf (leave_wf wf) trivial
  | out l n => exact wf
end Ep
namespace Ep
open PySem L2
end Ep
namespace Ep
open PySem L2 PySem.SeqAt
end Ep

namespace Ep
open PySem L2 PySem.SeqAt
def KpS (S : List Addr) (H H' : Hp) : Prop := ∀ b o, H b = some o → b ∉ S → H' b = some o
theorem KpS.refl (S : List Addr) (H : Hp) : KpS S H H := fun _ _ e _ => e
theorem KpS.trans {S : List Addr} {H H1 H2 : Hp} (a : KpS S H H1) (b : KpS S H1 H2) : KpS S H H2 := fun c o e n => b c o (a c o e n) n
theorem KpS.same {S : List Addr} {H H' : Hp} (s : Same H H') : KpS S H H' := fun b o e _ => s b o e
theorem KpS.upd {S : List Addr} {H : Hp} {x : Addr} {o : HO} (h : x ∈ S) : KpS S H (upd H x o) := fun b _ e n => (upd_ne (fun z => n (by rw [z]; exact h))).trans e
theorem KpS.mono {S T : List Addr} {H H' : Hp} (k : KpS S H H') (h : ∀ x ∈ S, x ∈ T) : KpS T H H' := fun b o e n => k b o e fun z => n (h b z)
theorem KpS.kp {S : List Addr} {H H' : Hp} {p : Addr} (k : Kp p H H') (h : p ∈ S) : KpS S H H' := fun b o e n => k b o e fun z => n (z ▸ h)
theorem KpS.kpl {S : List Addr} {L : PlL} {H H' : Hp} (k : KpL L H H') (h1 : L.lf ∈ S) (h2 : L.lt ∈ S) (h3 : L.lp ∈ S) (h4 : L.lc ∈ S) : KpS S H H' := fun b o e n => k b o e (fun z => n (z ▸ h1)) (fun z => n (z ▸ h2)) (fun z => n (z ▸ h3)) (fun z => n (z ▸ h4))
structure Sts where
  sa : Addr
  a0 : Addr
  a1 : Addr
  a2 : Addr
def Sts.own (A : Sts) : List Addr := [A.sa, A.a0, A.a1, A.a2]
def PlL.own (L : PlL) (p : Addr) : List Addr := [p, L.lf, L.lt, L.lp, L.lc]
def Dj (S T : List Addr) : Prop := ∀ x ∈ S, x ∉ T
theorem Dj.symm {S T : List Addr} (h : Dj S T) : Dj T S := fun x hx hs => h x hs hx
theorem Dj.new {S T : List Addr} {H : Hp} (h : ∀ x ∈ S, H x = none) (g : ∀ x ∈ T, H x ≠ none) : Dj S T := fun x hx ht => g x ht (h x hx)
def WkAt (H : Hp) (r : V) (x : Int × Place) : Prop := ∃ t u, r = .ref t ∧ H t = some (.tup [.int x.1, .ref u]) ∧ H u = some (.tup (plV x.2))
def z1 (w : Int × Int) (f : Int) : Int := if f = w.1 then 0 else 1
def zOf (ws : List (Int × Int)) (fac : List Int) : List Int := List.zipWith z1 ws fac
structure StAt (ws : List (Int × Int)) (H : Hp) (A : Sts) (st : PlS) : Prop where
  hs : H A.sa = some (.lst [.ref A.a0, .ref A.a1, .ref A.a2])
  h0 : H A.a0 = some (.lst ((zOf ws st.fac).map V.int))
  h1 : H A.a1 = some (.lst (st.tal.map V.int))
  h2 : ∃ rs, H A.a2 = some (.lst rs) ∧ Paired (WkAt H) rs (st.chg.zip st.pla)
  s0 : A.sa ≠ A.a0
  s1 : A.sa ≠ A.a1
  s2 : A.sa ≠ A.a2
  n01 : A.a0 ≠ A.a1
  n02 : A.a0 ≠ A.a2
  n12 : A.a1 ≠ A.a2
theorem PlayAt.keep {C p : Addr} {v : V} {L : PlL} {st : PlS} {H H' : Hp} {S : List Addr} (P : PlayAt C H p v L st) (k : KpS S H H') (kt : KT H H') (d : Dj (L.own p) S) : PlayAt C H' p v L st :=
  let ⟨rs, a, b⟩ := P.pl
  ⟨k _ _ P.ob (d _ (by simp [PlL.own])), k _ _ P.fa (d _ (by simp [PlL.own])), k _ _ P.ta (d _ (by simp [PlL.own])), ⟨rs, k _ _ a (d _ (by simp [PlL.own])), Paired.mapP b fun _ _ z => z.kt kt⟩, k _ _ P.ch (d _ (by simp [PlL.own])), P.ft, P.fp, P.fc, P.tp, P.tc, P.pc⟩
theorem StAt.kt {ws : List (Int × Int)} {H H' : Hp} {A : Sts} {st : PlS} (P : StAt ws H A st) (k : KpS A.own H H') : KT H H' := fun b xs e => by
  obtain ⟨rs, a, _⟩ := P.h2
  refine k b _ e fun z => ?_
  simp only [Sts.own, List.mem_cons, List.not_mem_nil, or_false] at z
  rcases z with z | z | z | z
  · exact ne3 e P.hs z
  · exact ne3 e P.h0 z
  · exact ne3 e P.h1 z
  · exact ne3 e a z
theorem PlayAt.live {C p : Addr} {v : V} {L : PlL} {st : PlS} {H : Hp} (P : PlayAt C H p v L st) : ∀ x ∈ L.own p, H x ≠ none := fun x hx z => by
  obtain ⟨rs, a, _⟩ := P.pl
  simp only [PlL.own, List.mem_cons, List.not_mem_nil, or_false] at hx
  rcases hx with rfl | rfl | rfl | rfl | rfl
  · rw [P.ob] at z; cases z
  · rw [P.fa] at z; cases z
  · rw [P.ta] at z; cases z
  · rw [a] at z; cases z
  · rw [P.ch] at z; cases z
theorem z1_or (w : Int × Int) (f : Int) : z1 w f = 0 ∨ z1 w f = 1 := by unfold z1; split <;> simp
theorem z1_other {w : Int × Int} {f : Int} (hn : w.1 ≠ w.2) (h : f = w.1 ∨ f = w.2) : z1 w (otherL w f) = 1 - z1 w f := by
  unfold z1 otherL
  rcases h with rfl | rfl
  · rw [if_pos rfl, if_pos rfl, if_neg (Ne.symm hn)]; rfl
  · rw [if_neg (Ne.symm hn), if_neg (Ne.symm hn), if_pos rfl]; rfl
theorem z1_pick {w : Int × Int} {f : Int} (h : f = w.1 ∨ f = w.2) : (if z1 w f = 0 then w.1 else w.2) = f := by
  unfold z1
  by_cases e : f = w.1
  · rw [if_pos e, if_pos rfl, e]
  · rw [if_neg e, if_neg (by decide)]
    rcases h with h | h
    · exact absurd h e
    · exact h.symm
theorem insideM_mem {x : Int} : ∀ (ps : List Place) (j : Nat), x ∈ insideM j ps → ∃ i pl, x = ((j + i : Nat) : Int) ∧ ps[i]? = some pl ∧ isOut pl = false
  | [], j, h => by simp [insideM] at h
  | q :: r, j, h => by
    rcases List.mem_append.mp (show x ∈ (if isOut q then [] else [(j : Int)]) ++ insideM (j + 1) r from h) with z | z
    · by_cases c : isOut q = true
      · rw [if_pos c] at z; simp at z
      · rw [if_neg c] at z
        have e : x = (j : Int) := by simpa using z
        exact ⟨0, q, by simpa using e, rfl, by simpa using c⟩
    · obtain ⟨i, pl, e, h1, h2⟩ := insideM_mem r (j + 1) z
      exact ⟨i + 1, pl, by rw [e]; congr 1; (first | lia | omega), by simpa using h1, h2⟩
theorem step_len {wide : Int} {ws : List (Int × Int)} {st : PlS} {i : Nat} {pl : Place} : (stepS wide ws st i pl).pla.length = st.pla.length := by
  cases pl with
  | before k l => show (st.pla.set _ _).length = _; rw [List.length_set]
  | exit l => show (st.pla.set _ _).length = _; rw [List.length_set]
  | out l n => rfl
theorem step_at {wide : Int} {ws : List (Int × Int)} {st : PlS} {i : Nat} {pl : Place} (h : st.pla[i]? = some pl) : (stepS wide ws st i pl).pla[i]? = some (stepP wide ws st i pl) := by
  have il := (List.getElem?_eq_some_iff.mp h).1
  cases pl with
  | before k l => show (st.pla.set _ _)[i]? = _; rw [List.getElem?_set_self il]
  | exit l => show (st.pla.set _ _)[i]? = _; rw [List.getElem?_set_self il]
  | out l n => exact h
end Ep
namespace Ep
open PySem L2 PySem.SeqAt
theorem Kp.fresh {H H' : Hp} {p : Addr} {o : HO} (f : H p = none) (k : Kp p (upd H p o) H') : Same H H' := fun b x e => k b x (same_new f o b x e) (ne_of_none e f)
theorem own_mem {L : PlL} {p x : Addr} : x ∈ L.own p ↔ x = p ∨ x = L.lf ∨ x = L.lt ∨ x = L.lp ∨ x = L.lc := by simp [PlL.own]
end Ep
namespace L2
open PySem
section
variable {X : Cx} (K : PySem.W.Frag) (hK : X.K = K) {tg : Expr}
include hK
end
end L2

namespace Ep
open PySem L2 PySem.SeqAt
def Vf (ws : List (Int × Int)) (e : Int → Int) (P : Nat → Int) : Nat → Int → Int
  | 0, x => e x
  | k + 1, x => if x = (wAt ws k).1 then (P k + 1) / 2 else if x = (wAt ws k).2 then P k / 2 else Vf ws e P k x
def sumC (p : Place → Bool) : List Int → List Place → Int
  | c :: cs, pl :: ps => (if p pl then c else 0) + sumC p cs ps
  | _, _ => 0
def isB (k : Nat) : Place → Bool
  | .before j _ => decide (j = k)
  | _ => false
def isX (l : Int) : Place → Bool
  | .exit x => decide (x = l)
  | _ => false
structure Flow (wide : Int) (ws : List (Int × Int)) (st : PlS) (e : Int → Int) (P : Nat → Int) : Prop where
  fa : ∀ k w, ws[k]? = some w → st.fac.getD k 0 = if P k % 2 = 0 then w.1 else w.2
  pa : ∀ k, k < ws.length → P k = Vf ws e P k (wAt ws k).1 + Vf ws e P k (wAt ws k).2 - sumC (isB k) st.chg st.pla
  ta : ∀ l, 0 ≤ l → l < wide → st.tal.getD l.toNat 0 = Vf ws e P ws.length l - sumC (isX l) st.chg st.pla
theorem sumC_snoc (p : Place → Bool) (c : Int) (pl : Place) : ∀ (cs : List Int) (ps : List Place), cs.length = ps.length → sumC p (cs ++ [c]) (ps ++ [pl]) = sumC p cs ps + if p pl then c else 0
  | [], [], _ => by simp [sumC]
  | [], _ :: _, h => by simp at h
  | _ :: _, [], h => by simp at h
  | a :: cs, q :: ps, h => by
    show (if p q then a else 0) + sumC p (cs ++ [c]) (ps ++ [pl]) = (if p q then a else 0) + sumC p cs ps + _
    rw [sumC_snoc p c pl cs ps (by simpa using h)]
    (first | lia | omega)
theorem sumC_set (p : Place → Bool) (pl' : Place) : ∀ (cs : List Int) (ps : List Place) (i : Nat) (pl : Place), cs.length = ps.length → ps[i]? = some pl → sumC p cs (ps.set i pl') = sumC p cs ps + (if p pl' then cs.getD i 0 else 0) - (if p pl then cs.getD i 0 else 0)
  | [], [], i, pl, _, h => by simp at h
  | [], _ :: _, _, _, h, _ => by simp at h
  | _ :: _, [], _, _, h, _ => by simp at h
  | a :: cs, q :: ps, 0, pl, _, h => by
    have e : q = pl := by simpa using h
    subst e
    show (if p pl' then a else 0) + sumC p cs ps = (if p q then a else 0) + sumC p cs ps + (if p pl' then a else 0) - (if p q then a else 0)
    (first | lia | omega)
  | a :: cs, q :: ps, i + 1, pl, hl, h => by
    show (if p q then a else 0) + sumC p cs (ps.set i pl') = (if p q then a else 0) + sumC p cs ps + _ - _
    rw [sumC_set p pl' cs ps i pl (by simpa using hl) (by simpa using h)]
    have e : (a :: cs).getD (i + 1) 0 = cs.getD i 0 := by simp [List.getD]
    rw [e]
    (first | lia | omega)
theorem sumC_none (p : Place → Bool) : ∀ (cs : List Int) (ps : List Place), (∀ pl ∈ ps, p pl = false) → sumC p cs ps = 0
  | [], _, _ => rfl
  | _ :: _, [], _ => rfl
  | a :: cs, q :: ps, h => by
    show (if p q then a else 0) + sumC p cs ps = 0
    rw [h q (by simp), sumC_none p cs ps fun x hx => h x (by simp [hx])]
    rfl
def clear (ws : List (Int × Int)) (l : Int) (s k : Nat) : Prop := ∀ j, s ≤ j → j < k → hasL (wAt ws j) l = false
theorem place_spec (ws : List (Int × Int)) (l : Int) : ∀ (n s : Nat), (placeF ws l n s = .exit l ∧ clear ws l s (s + n)) ∨ ∃ k, placeF ws l n s = .before k l ∧ s ≤ k ∧ k < s + n ∧ hasL (wAt ws k) l = true ∧ clear ws l s k
  | 0, s => .inl ⟨rfl, fun j a b => by (first | lia | omega)⟩
  | n + 1, s => by
    unfold placeF
    by_cases c : hasL (wAt ws s) l = true
    · rw [if_pos c]
      exact .inr ⟨s, rfl, Nat.le_refl _, by (first | lia | omega), c, fun j a b => by (first | lia | omega)⟩
    · rw [if_neg c]
      have c' : hasL (wAt ws s) l = false := by simpa using c
      rcases place_spec ws l n (s + 1) with ⟨a, b⟩ | ⟨k, a, b, d, e, f⟩
      · refine .inl ⟨a, fun j h1 h2 => ?_⟩
        by_cases z : j = s
        · rw [z]; exact c'
        · exact b j (by (first | lia | omega)) (by (first | lia | omega))
      · refine .inr ⟨k, a, by (first | lia | omega), by (first | lia | omega), e, fun j h1 h2 => ?_⟩
        by_cases z : j = s
        · rw [z]; exact c'
        · exact f j (by (first | lia | omega)) h2
theorem placeM_spec (ws : List (Int × Int)) (l : Int) {s : Nat} (hs : s ≤ ws.length) : (placeM ws l s = .exit l ∧ clear ws l s ws.length) ∨ ∃ k, placeM ws l s = .before k l ∧ s ≤ k ∧ k < ws.length ∧ hasL (wAt ws k) l = true ∧ clear ws l s k := by
  have h := place_spec ws l (ws.length - s) s
  rw [show s + (ws.length - s) = ws.length by (first | lia | omega)] at h
  exact h
theorem Vf_congr {ws : List (Int × Int)} {e : Int → Int} {P P' : Nat → Int} : ∀ (k : Nat), (∀ j, j < k → P' j = P j) → ∀ x, Vf ws e P' k x = Vf ws e P k x
  | 0, _, _ => rfl
  | k + 1, h, x => by
    show (if x = (wAt ws k).1 then (P' k + 1) / 2 else if x = (wAt ws k).2 then P' k / 2 else Vf ws e P' k x) = (if x = (wAt ws k).1 then (P k + 1) / 2 else if x = (wAt ws k).2 then P k / 2 else Vf ws e P k x)
    rw [h k (by (first | lia | omega)), Vf_congr k (fun j hj => h j (by (first | lia | omega))) x]
open Classical in
theorem Vf_add {ws : List (Int × Int)} {e e' : Int → Int} {P P' : Nat → Int} {s : Nat} {l c : Int} (hb : ∀ x, Vf ws e' P' s x = Vf ws e P s x + if x = l then c else 0) (hP : ∀ j, s ≤ j → P' j = P j) :
    ∀ (n : Nat) (x : Int), Vf ws e' P' (s + n) x = Vf ws e P (s + n) x + if x = l ∧ clear ws l s (s + n) then c else 0
  | 0, x => by
    rw [Nat.add_zero, hb x]
    have hc : clear ws l s s := fun j a b => by (first | lia | omega)
    by_cases z : x = l
    · rw [if_pos z, if_pos ⟨z, hc⟩]
    · rw [if_neg z, if_neg fun h => z h.1]
  | n + 1, x => by
    have ih := Vf_add hb hP n x
    rw [← Nat.add_assoc]
    show (if x = (wAt ws (s + n)).1 then (P' (s + n) + 1) / 2 else if x = (wAt ws (s + n)).2 then P' (s + n) / 2 else Vf ws e' P' (s + n) x) = (if x = (wAt ws (s + n)).1 then (P (s + n) + 1) / 2 else if x = (wAt ws (s + n)).2 then P (s + n) / 2 else Vf ws e P (s + n) x) + _
    rw [hP (s + n) (by (first | lia | omega))]
    by_cases z1 : x = (wAt ws (s + n)).1
    · rw [if_pos z1, if_pos z1, if_neg, Int.add_zero]
      rintro ⟨rfl, h⟩
      have := h (s + n) (by (first | lia | omega)) (by (first | lia | omega))
      simp [hasL, ← z1] at this
    · rw [if_neg z1, if_neg z1]
      by_cases z2 : x = (wAt ws (s + n)).2
      · rw [if_pos z2, if_pos z2, if_neg, Int.add_zero]
        rintro ⟨rfl, h⟩
        have := h (s + n) (by (first | lia | omega)) (by (first | lia | omega))
        simp [hasL, ← z2] at this
      · rw [if_neg z2, if_neg z2, ih]
        congr 1
        by_cases h : x = l ∧ clear ws l s (s + n)
        · have cl : clear ws l s (s + n + 1) := fun j a b => by
            by_cases e : j = s + n
            · rw [e, ← h.1]
              simp [hasL, z1, z2]
            · exact h.2 j a (by (first | lia | omega))
          rw [if_pos h, if_pos ⟨h.1, cl⟩]
        · rw [if_neg h, if_neg fun g => h ⟨g.1, fun j a b => g.2 j a (by (first | lia | omega))⟩]
-- one more on lane l from level s on, and its place
open Classical in
theorem flow_more {wide : Int} {ws : List (Int × Int)} {e e' : Int → Int} {P P' : Nat → Int} {s : Nat} {l c : Int} (ok : WOk wide ws) (hs : s ≤ ws.length) (hb : ∀ x, Vf ws e' P' s x = Vf ws e P s x + if x = l then c else 0) (hP : ∀ j, s ≤ j → P' j = P j) :
    (∀ k, s ≤ k → k < ws.length → Vf ws e' P' k (wAt ws k).1 + Vf ws e' P' k (wAt ws k).2 = Vf ws e P k (wAt ws k).1 + Vf ws e P k (wAt ws k).2 + if isB k (placeM ws l s) then c else 0) ∧
    ∀ x, Vf ws e' P' ws.length x = Vf ws e P ws.length x + if isX x (placeM ws l s) then c else 0 := by
  have add := Vf_add (l := l) (c := c) hb hP
  constructor
  · intro k h1 h2
    obtain ⟨n, rfl⟩ : ∃ n, k = s + n := ⟨k - s, by (first | lia | omega)⟩
    have hw : ws[s + n]? = some (wAt ws (s + n)) := by simp [wAt, List.getD, h2]
    obtain ⟨o1, o2, o3, o4, o5⟩ := WOk.mem ok hw
    rw [add n, add n]
    have key : ((if (wAt ws (s + n)).1 = l ∧ clear ws l s (s + n) then c else 0) + if (wAt ws (s + n)).2 = l ∧ clear ws l s (s + n) then c else 0) = if isB (s + n) (placeM ws l s) then c else 0 := by
      rcases placeM_spec ws l hs with ⟨a, b⟩ | ⟨k, a, b, d, f, g⟩
      · rw [a]
        have nb := b (s + n) (by (first | lia | omega)) h2
        simp [hasL] at nb
        rw [if_neg fun z => nb.1 z.1.symm, if_neg fun z => nb.2 z.1.symm]
        rfl
      · rw [a]
        by_cases e1 : k = s + n
        · subst e1
          have hb' : isB (s + n) (.before (s + n) l) = true := by simp [isB]
          rw [hb', if_pos rfl]
          simp [hasL] at f
          rcases f with f | f
          · rw [if_pos ⟨f.symm, g⟩, if_neg fun z => o5 (by rw [z.1, f]), Int.add_zero]
          · rw [if_neg fun z => o5 (by rw [z.1, f]), if_pos ⟨f.symm, g⟩, Int.zero_add]
        · have hb' : isB (s + n) (.before k l) = false := by simp [isB, e1]
          rw [hb']
          have ncl : ∀ w' : Int, ((w' = (wAt ws (s + n)).1 ∨ w' = (wAt ws (s + n)).2) ∧ w' = l ∧ clear ws l s (s + n)) → False := fun w' ⟨h0, h1', h2'⟩ => by
            by_cases lt : k < s + n
            · have := h2' k b lt
              rw [f] at this; cases this
            · have := g (s + n) (by (first | lia | omega)) (by (first | lia | omega))
              simp [hasL] at this
              rcases h0 with h0 | h0
              · exact this.1 (h1' ▸ h0)
              · exact this.2 (h1' ▸ h0)
          rw [if_neg fun z => ncl _ ⟨.inl rfl, z⟩, if_neg fun z => ncl _ ⟨.inr rfl, z⟩]
          rfl
    rw [← key]
    (first | lia | omega)
  · intro x
    have h := add (ws.length - s) x
    rw [show s + (ws.length - s) = ws.length by (first | lia | omega)] at h
    rw [h]
    congr 1
    rcases placeM_spec ws l hs with ⟨a, b⟩ | ⟨k, a, b, d, f, g⟩
    · rw [a]
      by_cases z : x = l
      · have : isX x (.exit l) = true := by simp [isX, z]
        rw [this, if_pos ⟨z, b⟩]; rfl
      · have : isX x (.exit l) = false := by simp [isX]; exact fun h => z h.symm
        rw [this, if_neg fun h => z h.1]; rfl
    · rw [a, if_neg]
      · rfl
      · intro z
        have := z.2 k b d
        rw [f] at this; cases this
theorem flow_enter {wide : Int} {ws : List (Int × Int)} {st : PlS} {e e' : Int → Int} {P : Nat → Int} {l c : Int} (ok : WOk wide ws) (wf : Wf wide ws st) (F : Flow wide ws st e P) (he : ∀ x, e' x = e x + if x = l then c else 0) : Flow wide ws (enterM ws st l c) e' P := by
  obtain ⟨m1, m2⟩ := flow_more (P := P) (P' := P) ok (Nat.zero_le _) (l := l) (c := c) (s := 0) he (fun _ _ => rfl)
  refine ⟨F.fa, fun k hk => ?_, fun x h0 h1 => ?_⟩
  · show P k = _ + _ - sumC (isB k) (st.chg ++ [c]) (st.pla ++ [placeM ws l 0])
    rw [sumC_snoc _ _ _ _ _ wf.cl, m1 k (Nat.zero_le _) hk]
    have := F.pa k hk
    (first | lia | omega)
  · show st.tal.getD x.toNat 0 = _ - sumC (isX x) (st.chg ++ [c]) (st.pla ++ [placeM ws l 0])
    rw [sumC_snoc _ _ _ _ _ wf.cl, m2 x]
    have := F.ta x h0 h1
    (first | lia | omega)
theorem placeM_ge {ws : List (Int × Int)} {l : Int} {s k : Nat} (hs : s ≤ ws.length) (h : k < s) : isB k (placeM ws l s) = false := by
  rcases placeM_spec ws l hs with ⟨a, _⟩ | ⟨k', a, b, _⟩
  · rw [a]; rfl
  · rw [a]; simp [isB]; (first | lia | omega)
theorem flow_step {wide : Int} {ws : List (Int × Int)} {st : PlS} {e : Int → Int} {P : Nat → Int} {i : Nat} {pl : Place} (ok : WOk wide ws) (wf : Wf wide ws st) (F : Flow wide ws st e P) (hi : st.pla[i]? = some pl) : ∃ P', Flow wide ws (stepS wide ws st i pl) e P' := by
  have il : i < st.pla.length := (List.getElem?_eq_some_iff.mp hi).1
  have cl := wf.cl
  have hc := wf.cs i (by (first | lia | omega))
  have psm := wf.ps pl (List.mem_of_getElem? hi)
  cases pl with
  | out l n => exact ⟨P, F⟩
  | exit l =>
    refine ⟨P, F.fa, fun k hk => ?_, fun x h0 h1 => ?_⟩
    · show P k = _ + _ - sumC (isB k) st.chg (st.pla.set i (.out l (leaveN wide st l (st.chg.getD i 0))))
      rw [sumC_set _ _ _ _ _ _ cl hi]
      have := F.pa k hk
      have e1 : isB k (.out l (leaveN wide st l (st.chg.getD i 0))) = false := rfl
      have e2 : isB k (.exit l) = false := rfl
      rw [e1, e2]
      simp
      exact this
    · show (st.tal.set l.toNat (st.tal.getD l.toNat 0 + st.chg.getD i 0)).getD x.toNat 0 = _ - sumC (isX x) st.chg (st.pla.set i (.out l (leaveN wide st l (st.chg.getD i 0))))
      rw [sumC_set _ _ _ _ _ _ cl hi]
      have tl := wf.tl
      have hx := F.ta x h0 h1
      have p1 := psm.1
      have p2 := psm.2
      rw [getD_set (by (first | lia | omega))]
      have e1 : isX x (.out l (leaveN wide st l (st.chg.getD i 0))) = false := rfl
      rw [e1]
      by_cases z : x = l
      · subst z
        have e2 : isX x (.exit x) = true := by simp [isX]
        rw [e2, if_pos rfl]
        simp only [if_true, Bool.false_eq_true, if_false]
        (first | lia | omega)
      · have e2 : isX x (.exit l) = false := by simp [isX]; exact fun h => z h.symm
        rw [e2, if_neg (by (first | lia | omega))]
        simp only [Bool.false_eq_true, if_false]
        (first | lia | omega)
  | before k l =>
    have hk := psm.1
    have hw : ws[k]? = some (wAt ws k) := by simp [wAt, List.getD, hk]
    obtain ⟨o1, o2, o3, o4, o5⟩ := WOk.mem ok hw
    have fk := F.fa k _ hw
    have fl := wf.fl
    -- the count of the wicket
    have hbase : ∀ x, Vf ws e (fun j => if j = k then P k + st.chg.getD i 0 else P j) (k + 1) x = Vf ws e P (k + 1) x + if x = passL ws st k (st.chg.getD i 0) then st.chg.getD i 0 else 0 := fun x => by
      show (if x = (wAt ws k).1 then ((if k = k then P k + st.chg.getD i 0 else P k) + 1) / 2 else if x = (wAt ws k).2 then (if k = k then P k + st.chg.getD i 0 else P k) / 2 else Vf ws e (fun j => if j = k then P k + st.chg.getD i 0 else P j) k x) = (if x = (wAt ws k).1 then (P k + 1) / 2 else if x = (wAt ws k).2 then P k / 2 else Vf ws e P k x) + _
      rw [if_pos rfl, Vf_congr k (fun j hj => by show (if j = k then _ else _) = _; rw [if_neg (by (first | lia | omega))]) x]
      have pv : passL ws st k (st.chg.getD i 0) = if (P k % 2 = 0 ∧ st.chg.getD i 0 = 1) ∨ (¬ P k % 2 = 0 ∧ st.chg.getD i 0 = -1) then (wAt ws k).1 else (wAt ws k).2 := by
        unfold passL otherL
        rw [fk]
        generalize st.chg.getD i 0 = c at hc
        rcases hc with h | h <;> by_cases par : P k % 2 = 0 <;> simp [h, par, Ne.symm o5]
      rw [pv]
      generalize st.chg.getD i 0 = c at hc
      generalize (wAt ws k) = w at o5
      have hc' : ((P k % 2 = 0 ∧ c = 1) ∨ (¬ P k % 2 = 0 ∧ c = -1)) ∨ ((P k % 2 = 0 ∧ c = -1) ∨ (¬ P k % 2 = 0 ∧ c = 1)) := by (first | lia | omega)
      rcases hc' with h | h
      · rw [if_pos h]
        by_cases z1 : x = w.1
        · rw [if_pos z1, if_pos z1, if_pos z1]; (first | lia | omega)
        · rw [if_neg z1, if_neg z1, if_neg z1]
          by_cases z2 : x = w.2
          · rw [if_pos z2, if_pos z2]; (first | lia | omega)
          · rw [if_neg z2, if_neg z2]; (first | lia | omega)
      · rw [if_neg (by (first | lia | omega) : ¬ ((P k % 2 = 0 ∧ c = 1) ∨ (¬ P k % 2 = 0 ∧ c = -1)))]
        by_cases z1 : x = w.1
        · rw [if_pos z1, if_pos z1, if_neg (by rw [z1]; exact o5)]; (first | lia | omega)
        · rw [if_neg z1, if_neg z1]
          by_cases z2 : x = w.2
          · rw [if_pos z2, if_pos z2, if_pos z2]; (first | lia | omega)
          · rw [if_neg z2, if_neg z2, if_neg z2]; (first | lia | omega)
    obtain ⟨m1, m2⟩ := flow_more ok (s := k + 1) (by (first | lia | omega)) hbase (fun j hj => by show (if j = k then _ else _) = _; rw [if_neg (by (first | lia | omega))])
    refine ⟨fun j => if j = k then P k + st.chg.getD i 0 else P j, fun j w hj => ?_, fun j hj => ?_, fun x h0 h1 => ?_⟩
    · show (st.fac.set k (otherL (wAt ws k) (st.fac.getD k 0))).getD j 0 = _
      rw [getD_set (by (first | lia | omega))]
      by_cases z : j = k
      · subst z
        rw [hw] at hj
        cases hj
        rw [if_pos rfl, fk]
        unfold otherL
        show _ = if (if j = j then P j + st.chg.getD i 0 else P j) % 2 = 0 then _ else _
        rw [if_pos rfl]
        by_cases par : P j % 2 = 0
        · rw [if_pos par, if_pos rfl, if_neg (by rcases hc with h | h <;> rw [h] <;> (first | lia | omega))]
        · rw [if_neg par, if_neg (Ne.symm o5), if_pos (by rcases hc with h | h <;> rw [h] <;> (first | lia | omega))]
      · rw [if_neg z]
        show _ = if (if j = k then P k + st.chg.getD i 0 else P j) % 2 = 0 then _ else _
        rw [if_neg z]
        exact F.fa j w hj
    · show (if j = k then P k + st.chg.getD i 0 else P j) = _ + _ - sumC (isB j) st.chg (st.pla.set i (placeM ws (passL ws st k (st.chg.getD i 0)) (k + 1)))
      rw [sumC_set _ _ _ _ _ _ cl hi]
      have pj := F.pa j hj
      by_cases z : j = k
      · subst z
        have cg : ∀ x, Vf ws e (fun m => if m = j then P j + st.chg.getD i 0 else P m) j x = Vf ws e P j x := Vf_congr j (fun m hm => by show (if m = j then _ else _) = _; rw [if_neg (by (first | lia | omega))])
        rw [if_pos rfl, cg, cg]
        have e1 : isB j (.before j l) = true := by simp [isB]
        rw [e1, placeM_ge (by (first | lia | omega)) (by (first | lia | omega))]
        simp only [if_true, Bool.false_eq_true, if_false]
        (first | lia | omega)
      · rw [if_neg z]
        have e1 : isB j (.before k l) = false := by simp [isB]; exact fun h => z h.symm
        rw [e1]
        by_cases lt : k < j
        · rw [m1 j (by (first | lia | omega)) hj]
          simp only [Bool.false_eq_true, if_false]
          (first | lia | omega)
        · have cg : ∀ x, Vf ws e (fun m => if m = k then P k + st.chg.getD i 0 else P m) j x = Vf ws e P j x := Vf_congr j (fun m hm => by show (if m = k then _ else _) = _; rw [if_neg (by (first | lia | omega))])
          rw [placeM_ge (by (first | lia | omega)) (by (first | lia | omega)), cg, cg]
          simp only [Bool.false_eq_true, if_false]
          (first | lia | omega)
    · show st.tal.getD x.toNat 0 = _ - sumC (isX x) st.chg (st.pla.set i (placeM ws (passL ws st k (st.chg.getD i 0)) (k + 1)))
      rw [sumC_set _ _ _ _ _ _ cl hi, m2 x]
      have := F.ta x h0 h1
      have e1 : isX x (.before k l) = false := rfl
      rw [e1]
      simp only [Bool.false_eq_true, if_false]
      (first | lia | omega)
def eOf (cs : List Int) (x : Int) : Int := if 0 ≤ x then cs.getD x.toNat 0 else 0
theorem flow_start {wide : Int} {ws : List (Int × Int)} (h : 0 ≤ wide) : Flow wide ws (startM wide ws) (eOf (List.replicate wide.toNat 0)) (fun _ => 0) := by
  have z : ∀ k x, Vf ws (eOf (List.replicate wide.toNat 0)) (fun _ => 0) k x = 0 := fun k => by
    induction k with
    | zero =>
      intro x
      show eOf _ x = 0
      unfold eOf
      split
      · simp [List.getD, List.getElem?_replicate]; split <;> rfl
      · rfl
    | succ k ih =>
      intro x
      show (if x = (wAt ws k).1 then ((0 : Int) + 1) / 2 else if x = (wAt ws k).2 then 0 / 2 else _) = 0
      rw [ih x]
      split
      · rfl
      · split <;> rfl
  refine ⟨fun k w hw => ?_, fun k hk => ?_, fun l h0 h1 => ?_⟩
  · show (ws.map (·.1)).getD k 0 = _
    simp [List.getD, hw]
  · rw [z, z]
    rfl
  · rw [z]
    show (List.replicate wide.toNat (0 : Int)).getD l.toNat 0 = _
    simp [List.getD, List.getElem?_replicate, startM, sumC]
    split <;> rfl
theorem flow_rest {wide : Int} {ws : List (Int × Int)} {st : PlS} {cs : List Int} {P : Nat → Int} (ok : WOk wide ws) (wf : Wf wide ws st) (hl : cs.length = wide.toNat) (F : Flow wide ws st (eOf cs) P) (out : ∀ pl ∈ st.pla, isOut pl = true) :
    st.tal = thruM cs ws ∧ ∀ k w, ws[k]? = some w → st.fac.getD k 0 = if both (thruM cs (ws.take k)) w % 2 = 0 then w.1 else w.2 := by
  have nb : ∀ k, sumC (isB k) st.chg st.pla = 0 := fun k => sumC_none _ _ _ fun pl hp => by
    have := out pl hp
    cases pl <;> simp [isOut] at this <;> rfl
  have nx : ∀ l, sumC (isX l) st.chg st.pla = 0 := fun k => sumC_none _ _ _ fun pl hp => by
    have := out pl hp
    cases pl <;> simp [isOut] at this <;> rfl
  have ths : ∀ k, k ≤ ws.length → ∀ x, 0 ≤ x → x < wide → Vf ws (eOf cs) P k x = (thruM cs (ws.take k)).getD x.toNat 0 := fun k => by
    induction k with
    | zero =>
      intro _ x h0 _
      show eOf cs x = _
      unfold eOf
      rw [if_pos h0]
      rfl
    | succ k ih =>
      intro hk x h0 h1
      have hw : ws[k]? = some (wAt ws k) := by simp [wAt, List.getD, show k < ws.length by (first | lia | omega)]
      have o := WOk.mem ok hw
      obtain ⟨o1, o2, o3, o4, o5⟩ := id o
      have tl : (thruM cs (ws.take k)).length = wide.toNat := by rw [thruM_len]; exact hl
      rw [take_snoc hw, thruM_snoc]
      have pk := F.pa k (by (first | lia | omega))
      rw [nb, Int.sub_zero, ih (by (first | lia | omega)) _ o1 o2, ih (by (first | lia | omega)) _ o3 o4] at pk
      have eb : both (thruM cs (ws.take k)) (wAt ws k) = P k := pk.symm
      show (if x = (wAt ws k).1 then (P k + 1) / 2 else if x = (wAt ws k).2 then P k / 2 else Vf ws (eOf cs) P k x) = _
      by_cases z1 : x = (wAt ws k).1
      · rw [if_pos z1, z1, letM_first tl o, eb]
      · rw [if_neg z1]
        by_cases z2 : x = (wAt ws k).2
        · rw [if_pos z2, z2, letM_second tl o, eb]
        · rw [if_neg z2, letM_other tl o (by (first | lia | omega)) (by (first | lia | omega))]
          exact ih (by (first | lia | omega)) x h0 h1
  constructor
  · refine List.ext_getElem? fun j => ?_
    have tl := wf.tl
    have tl2 : (thruM cs ws).length = wide.toNat := by rw [thruM_len]; exact hl
    by_cases hj : j < wide.toNat
    · rw [getD_lt (show j < st.tal.length by (first | lia | omega)), getD_lt (show j < (thruM cs ws).length by (first | lia | omega))]
      have a := F.ta (j : Int) (by (first | lia | omega)) (by (first | lia | omega))
      rw [nx, Int.sub_zero, ths ws.length (Nat.le_refl _) _ (by (first | lia | omega)) (by (first | lia | omega)), List.take_length, Int.toNat_natCast] at a
      rw [a]
    · rw [List.getElem?_eq_none (by (first | lia | omega)), List.getElem?_eq_none (by (first | lia | omega))]
  · intro k w hw
    have hk : k < ws.length := (List.getElem?_eq_some_iff.mp hw).1
    have ew : wAt ws k = w := by simp [wAt, List.getD, hw]
    obtain ⟨o1, o2, o3, o4, o5⟩ := WOk.mem ok hw
    have pk := F.pa k hk
    rw [nb, Int.sub_zero, ew, ths k (by (first | lia | omega)) _ o1 o2, ths k (by (first | lia | omega)) _ o3 o4] at pk
    rw [F.fa k w hw, pk]
    rfl
end Ep
namespace L2
open PySem PySem.Spec PyProof.Rows
end L2
namespace Ep
open PySem L2 PySem.SeqAt
def muPl (n : Nat) : Place → Nat
  | .before k _ => n + 2 - k
  | .exit _ => 1
  | .out _ _ => 0
theorem muPl_step {wide : Int} {ws : List (Int × Int)} {st : PlS} {i : Nat} {pl : Place} (wf : Wf wide ws st) (h : st.pla[i]? = some pl) (no : isOut pl = false) : muPl ws.length (stepP wide ws st i pl) < muPl ws.length pl := by
  have hp := wf.ps pl (List.mem_of_getElem? h)
  cases pl with
  | before k l =>
    have hk := hp.1
    show muPl ws.length (placeM ws (passL ws st k (st.chg.getD i 0)) (k + 1)) < ws.length + 2 - k
    rcases placeM_spec ws (passL ws st k (st.chg.getD i 0)) (s := k + 1) (by (first | lia | omega)) with ⟨a, _⟩ | ⟨k', a, b, c, _⟩
    · rw [a]; show 1 < _; (first | lia | omega)
    · rw [a]; show ws.length + 2 - k' < _; (first | lia | omega)
  | exit l => show 0 < 1; (first | lia | omega)
  | out l n => simp [isOut] at no
inductive SpExitsLP (vs : List V) (H : Hp) (Q : VK) : Prop
  | mk (v : V) (wide : Int) (ws : List (Int × Int)) (c : Addr) (cs : List Int) (h1 : vs = [v, .ref c]) (h2 : NetOk H v wide ws) (h3 : H c = some (.lst (cs.map V.int))) (h4 : cs.length = wide.toNat) (h5 : ∀ (a : Addr) (H' : Hp), H a = none → Same H H' → H' a = some (.lst ((thruM cs ws).map V.int)) → Q (.ref a) H') : SpExitsLP vs H Q
def spExitsL : Sp := fun vs H Q _ => SpExitsLP  vs H Q
end Ep
namespace Ep
open PySem L2 PySem.SeqAt
section
variable {C : Addr} {H H' : Hp} {p : Addr} {v : V} {wide : Int} {ws : List (Int × Int)} {L : PlL} {A : Sts} {st : PlS} {en : Addr} {cs : List Int}
theorem KpL.own {H H' : Hp} {L : PlL} {p : Addr} (k : KpL L H H') : KpS (L.own p) H H' := KpS.kpl k (by simp [PlL.own]) (by simp [PlL.own]) (by simp [PlL.own]) (by simp [PlL.own])
end
end Ep

namespace L2
open PySem PySem.Spec PyProof.Rows
section
variable {prog : Program} {w : World} {A : Around} {s : Shared}
end
section
variable {X : Cx}
theorem vals_app2 : ∀ {xs ys : List V} {us vs : List Value}, Vals xs us → Vals ys vs → Vals (xs ++ ys) (us ++ vs)
  | _, _, _, _, .nil, s => s
  | _, _, _, _, .cons r t, s => .cons r (vals_app2 t s)
theorem rev_vals {xs : List V} {us : List Value} (r : Vals xs us) : Vals xs.reverse us.reverse := by
  induction r with
  | nil => exact .nil
  | cons a b ih =>
    rw [List.reverse_cons, List.reverse_cons]
    exact vals_app2 ih (.cons a .nil)
end
end L2

namespace L2
open PySem PySem.Spec PyProof.Rows
variable {X : Cx}
theorem pe_sliceRev {e st : Expr} {te ts : TE} {p2 pos : Pos} (he : PE X e te) (hs : PE X st ts) :
    PE X (.Subscript e (.Slice none none (some st) p2) pos) (fun σ H Q => te σ H fun x H1 => ts σ H1 fun y H2 => ∃ a xs, x = .ref a ∧ y = .int (-1) ∧ SqL X.K H2 a xs ∧ ∀ l, H2 l = none → Q (.ref l) (upd H2 l (.lst xs.reverse))) := by
  intro pins s σ H Q I h
  refine Subscript_ (thn (he pins s σ H _ I h) fun v s1 ⟨x, H1, I1, r1, q1⟩ => ?_)
  refine wpAny_Slice ?_
  rw [evalPart_none]
  refine wpAny_pure ?_
  refine wpAny_pure ?_
  rw [evalPart_some]
  refine thn (hs pins s1 σ H1 _ I1 q1) fun vst s3 ⟨y, H3, I3, r3, q3⟩ => ?_
  obtain ⟨a, xs, rfl, rfl, hq, q⟩ := q3
  cases r1
  obtain ⟨tk, rfl⟩ := r3
  have I4 : Inv X pins σ H3 { s3 with heap := s3.heap.push { cls := .type "slice", data := .fields #[.none, .none, .int (-1) tk] } } := I3.kept (t' := s3.toks) fun b ob q => Heap.get?_push_of_some _ q
  obtain ⟨its, r, ht, hz⟩ := I4.list hq
  have hlen := r.length
  show wpAny (model X.prog X.w) X.A (subscriptTail e (.Slice none none (some st) p2) (.ref a) (.ref s3.heap.objs.size)) (EP X pins σ Q) X.xe { s3 with heap := s3.heap.push { cls := .type "slice", data := .fields #[.none, .none, .int (-1) tk] } }
  refine tail_any (ops := [.ref a, .ref s3.heap.objs.size]) ht.isList.typeIs slot_list_getitem.lookup ?_ (by with_unfolding_all rfl)
  refine wpAny_getItem_list_slice ht.isList (Heap.IsSliceOf.new ..) .none .none (.int (-1) tk) (by simp) ?_ (by rw [List.size_toArray] <;> (first | lia | omega))
  rw [PySem.W.krv_pick]
  refine ⟨.ref _, _, I4.laid (t' := s3.toks) (o := .lst xs.reverse) (fun b ob q => Heap.get?_push_of_some _ q) (Nat.le_refl _) ?_, rfl, q _ (I4.hok.fresh (Nat.le_refl _))⟩
  exact ⟨by rw [List.length_reverse]; exact hz, _, 0, rev_vals r, Heap.get?_push_size _ rfl⟩
end L2
namespace Ep
open PySem L2 PySem.SeqAt
end Ep
namespace L2
open PySem
theorem seq_gen {a b : TS} {D : Ends} {σ : St} {H : Hp} (h : ∀ N : St → Hp → Prop, (∀ σ H, b D σ H → N σ H) → a { D with nx := N } σ H) : tSeq a b D σ H := h (b D) (fun _ _ z => z)
end L2

namespace L2
open PySem PySem.Spec PyProof.Rows
variable {X : Cx}
end L2
namespace Ep
open PySem L2 PySem.SeqAt
end Ep

namespace L2
open PySem PySem.Spec PyProof.Rows
end L2
namespace Ep
open PySem L2 PySem.SeqAt
end Ep

namespace Ep
open PySem L2 PySem.SeqAt
def meets (w o : Int × Int) : Bool := (o.1 == w.1 || o.1 == w.2) || (o.2 == w.1 || o.2 == w.2)
def lastW (p : Int × Int → Bool) (l : List (Int × Int)) : Option (Int × Int) := l.foldl (fun acc o => if p o then some o else acc) none
def idle (k : List (Int × Int)) (w : Int × Int) : Prop := lastW (meets w) k = some w
instance (k : List (Int × Int)) (w : Int × Int) : Decidable (idle k w) := by unfold idle; infer_instance
end Ep
namespace Ep
open PySem L2 PySem.SeqAt
end Ep

namespace Ep
open PySem L2 PySem.SeqAt
end Ep
namespace Ep
open PySem L2 PySem.SeqAt
end Ep

namespace Ep
open PySem L2
end Ep
namespace Ep
open PySem L2
end Ep

namespace Ep
open PySem L2 PySem.SeqAt
end Ep
namespace Ep
open PySem L2
end Ep
namespace Ep
open PySem L2 PySem.SeqAt
end Ep

namespace Ep
open PySem L2 PySem.SeqAt
end Ep

namespace L2
open PySem PySem.Spec PyProof.Rows
section
variable {P : Program} {w : World} {A : Around} {E : Value → Shared → Prop} {s : Shared}
end
section
variable {X : Cx} {elts : List Expr} {kk : Nat} {ps : Pos}
end
end L2

namespace L2
open PySem PySem.Spec PyProof.Rows
section
variable {P : Program} {w : World} {K : PySem.W.Frag} {mg : Str → Option Value} {base : Heap} {N : List Str} {qual : Str} {scope : Scope} {f : Addr} {cd : Value} {A : Around} {outer : List Env} {s₀ : Shared} {H₀ : Hp} {E : XK}
  {pins : List (Addr × Obj)} {σ : St} {H : Hp} {s : Shared}
end
end L2

namespace L2
open PySem PySem.Spec PyProof.Rows
section
variable {P : Program} {w : World} {K : PySem.W.Frag} {mg : Str → Option Value} {base : Heap} {N : List Str} {qual : Str} {scope : Scope} {f : Addr} {cd : Value} {A : Around} {outer : List Env} {s₀ : Shared} {H₀ : Hp} {E : XK}
end
section
variable {X : Cx} {pins : List (Addr × Obj)} {σ : St} {H H' : Hp} {s s' : Shared} {B h5 : Heap} {ea : Addr} {cls a0 : Value}
end
section
variable {X : Cx}
end
end L2

namespace L2
open PySem PySem.Spec PyProof.Rows PySem.W Builtin Builtin.ObjectAttr Builtin.Getset_descriptor
section
variable {prog : Program} {w : World} {A : Around} {E : Value → Shared → Prop} {K : PySem.W.Frag} {x C : Addr} {s : Shared}
end
end L2

namespace L2
open PySem PySem.Spec PyProof.Rows
section
variable {X : Cx} {pins : List (Addr × Obj)} {σ : St} {H : Hp} {s : Shared}
end
section
variable {X : Cx}
end
end L2

namespace L2
open PySem PySem.Spec PyProof.Rows
variable {X : Cx}
end L2

namespace L2
open PySem PySem.Spec PyProof.Rows
variable {X : Cx}
end L2
namespace Ep
open PySem L2 PySem.SeqAt
end Ep

namespace L2
open PySem PySem.Spec PyProof.Rows
end L2

namespace L2
open PySem PySem.Spec PyProof.Rows PyProof.V PySem.SeqAt
section
variable {X : Cx}
end
end L2
namespace Ep
open PySem L2 PySem.SeqAt PySem.Spec PyProof.Rows
end Ep

namespace L2
open PySem PySem.Spec PyProof.Rows
section
variable {X : Cx} {tg : Expr}
end
end L2

namespace L2
open PySem PySem.Spec PyProof.Rows
def n2 (a b : Int) : Nat := ((b - a + 1) / 2).toNat
section
variable {X : Cx} {tg : Expr}
end
end L2
namespace Ep
open PySem L2 PySem.SeqAt
inductive SpMakesP (vs : List V) (H : Hp) (Q : VK) : Prop
  | mk (wide : Int) (l : Addr) (ws : List (Int × Int)) (h1 : vs = [.int wide, .ref l]) (h2 : WsL H l ws) (h3 : 1 ≤ wide) (h4 : wide ≤ 8) (h5 : WOk wide ws) (h6 : ws.length ≤ 40) (h7 : ∀ H', Same H H' → Q (.bl true) H') : SpMakesP vs H Q
def spMakes : Sp := fun vs H Q _ => SpMakesP  vs H Q
end Ep
namespace L2
open PySem
end L2
namespace Ep
open PySem L2 PySem.SeqAt
end Ep

namespace L2
open PySem PySem.Spec PyProof.Rows
section
variable {P : Program} {w : World} {A : Around} {E : Value → Shared → Prop}
variable {s : Shared}
end
section
variable {X : Cx} {pos : Pos}
end
end L2

namespace Ep
open PySem L2 PySem.SeqAt
end Ep
namespace Ep
open PySem L2 PySem.SeqAt
end Ep
namespace Ep
open PySem L2 PySem.SeqAt
end Ep
namespace Ep
open PySem L2 PySem.SeqAt
end Ep
namespace Ep
open PySem L2 PySem.SeqAt
end Ep
namespace Ep
open PySem L2 PySem.SeqAt
end Ep
namespace Ep
open PySem L2 PySem.SeqAt
end Ep

namespace L2
open PySem PySem.Spec PyProof.Rows
variable {X : Cx}
end L2
namespace Ep
open PySem L2 PySem.SeqAt
end Ep

namespace L2
open PySem PySem.Spec PyProof.Rows
section
variable {X : Cx}
end
end L2
namespace Ep
open PySem L2 PySem.SeqAt
def pw (k : Nat) : Int := ((2 ^ k : Nat) : Int)
def acrossM (wide : Int) : List (Int × Int) := (List.range (wide / 2).toNat).map fun k : Nat => ((k : Int), wide - 1 - (k : Int))
def blkM : Nat → List (Int × Int)
  | 0 => []
  | k + 1 => acrossM (pw (k + 1)) ++ (blkM k ++ (blkM k).map (lift (pw k)))
def halved (i : Int) : Prop := i = 1 ∨ i = 2 ∨ i = 4 ∨ i = 8
instance (i : Int) : Decidable (halved i) := inferInstanceAs (Decidable (i = 1 ∨ i = 2 ∨ i = 4 ∨ i = 8))
def SqW (H : Hp) (l : Addr) (ws : List (Int × Int)) : Prop := ∃ rs, (H l = some (.lst rs) ∨ H l = some (.tup rs)) ∧ Refs H rs ws
inductive SpMakesGP (vs : List V) (H : Hp) (Q : VK) : Prop
  | mk (wide : Int) (l : Addr) (ws : List (Int × Int)) (h1 : vs = [.int wide, .ref l]) (h2 : SqW H l ws) (h3 : 1 ≤ wide) (h4 : wide ≤ 8) (h5 : WOk wide ws) (h6 : ws.length ≤ 40) (h7 : ∀ H', Same H H' → Q (.bl true) H') : SpMakesGP vs H Q
def spMakesG : Sp := fun vs H Q _ => SpMakesGP  vs H Q
theorem makes_of (vs : List V) (H : Hp) (Q : VK) (E : XK) (h : spMakes vs H Q E) : spMakesG vs H Q E := by
  obtain ⟨wide, l, ws, rfl, ⟨rs, hl, hr⟩, r1, r2, r3, r4, r5⟩ := h
  exact ⟨wide, l, ws, rfl, ⟨rs, .inl hl, hr⟩, r1, r2, r3, r4, r5⟩
end Ep

namespace L2
open PySem PySem.Spec PyProof.Rows
section
variable {X : Cx}
end
end L2
namespace Ep
open PySem L2 PySem.SeqAt
end Ep

namespace L2
open PySem PySem.Spec PyProof.Rows
section
variable {X : Cx} {C : Addr} {m : Str} {k : Nat} {ps : List Str} {sp : Sp} {o e : Expr} {es : List Expr} {ta : TE} {t : TA} {pos apos : Pos}
end
end L2
namespace Ep
open PySem L2 PySem.SeqAt
end Ep

namespace L2
open PySem PySem.Spec PyProof.Rows
section
variable {κ : Type} [DecidableEq κ]
def valV (kvs : List (κ × V)) (k : κ) : Option V := (kvs.find? fun kv => decide (kv.1 = k)).map (·.2)
def putK (kvs : List (κ × V)) (k : κ) (v : V) : List (κ × V) :=
  if (kvs.any fun kv => decide (kv.1 = k)) = true then kvs.map (fun kv => if kv.1 = k then (kv.1, v) else kv) else kvs ++ [(k, v)]
theorem valV_pos {p : κ × V} {r : List (κ × V)} {k : κ} (e : p.1 = k) : valV (p :: r) k = some p.2 := by simp [valV, List.find?_cons, e]
theorem valV_neg {p : κ × V} {r : List (κ × V)} {k : κ} (e : ¬ p.1 = k) : valV (p :: r) k = valV r k := by simp [valV, List.find?_cons, e]
theorem valV_any (k : κ) : ∀ kvs : List (κ × V), (kvs.any fun kv => decide (kv.1 = k)) = (valV kvs k).isSome
  | [] => rfl
  | p :: r => by
    rw [List.any_cons]
    by_cases e : p.1 = k
    · simp only [valV_pos e, decide_eq_true e, Bool.true_or, Option.isSome_some]
    · rw [valV_neg e, decide_eq_false e, Bool.false_or]; exact valV_any k r
theorem length_putK (kvs : List (κ × V)) (k : κ) (v : V) : (putK kvs k v).length ≤ kvs.length + 1 := by
  unfold putK
  split
  · rw [List.length_map]; (first | lia | omega)
  · rw [List.length_append, List.length_cons, List.length_nil]; (first | lia | omega)
theorem putK_new {kvs : List (κ × V)} {k : κ} (v : V) (h : valV kvs k = none) : putK kvs k v = kvs ++ [(k, v)] := by
  unfold putK
  rw [valV_any, h]
  exact if_neg (by decide)

theorem RelO.isSome_eq {o : Option V} {u : Option Value} (r : RelO o u) : o.isSome = u.isSome := by
  cases o with
  | none => cases u with
    | none => rfl
    | some _ => exact (show False from r).elim
  | some _ => cases u with
    | none => exact (show False from r).elim
    | some _ => rfl
theorem RelO.getD {o : Option V} {u : Option Value} {d : V} {d' : Value} (r : RelO o u) (rd : RelV d d') : RelV (o.getD d) (u.getD d') := by
  cases o with
  | none => cases u with
    | none => exact rd
    | some _ => exact (show False from r).elim
  | some _ => cases u with
    | none => exact (show False from r).elim
    | some _ => exact r

theorem KV.val {kvs : List (κ × V)} {vs : List (κ × Value)} (r : KV kvs vs) (k : κ) : RelO (valV kvs k) (valueAt vs k) := by
  unfold KV at r
  induction r with
  | nil => exact True.intro
  | @cons p q ps qs h t ih =>
    obtain ⟨h1, h2⟩ := h
    by_cases e : p.1 = k
    · have e' : q.1 = k := h1.symm.trans e
      have b : valueAt (q :: qs) k = some q.2 := by simp [valueAt, List.find?_cons, e']
      rw [valV_pos e, b]; exact h2
    · have e' : ¬ q.1 = k := fun z => e (h1.trans z)
      have b : valueAt (q :: qs) k = valueAt qs k := by simp [valueAt, List.find?_cons, e']
      rw [valV_neg e, b]; exact ih
theorem KV.any {kvs : List (κ × V)} {vs : List (κ × Value)} (r : KV kvs vs) (k : κ) : (kvs.any fun kv => decide (kv.1 = k)) = vs.any fun kv => decide (kv.1 = k) := by
  unfold KV at r
  induction r with
  | nil => rfl
  | cons h t ih => rw [List.any_cons, List.any_cons, ih, h.1]
theorem KV.repl {kvs : List (κ × V)} {vs : List (κ × Value)} (r : KV kvs vs) (k : κ) {y : V} {u : Value} (ry : RelV y u) :
    KV (kvs.map fun kv => if kv.1 = k then (kv.1, y) else kv) (vs.map fun kv => if kv.1 = k then (kv.1, u) else kv) := by
  unfold KV at r ⊢
  induction r with
  | nil => exact .nil
  | @cons p q ps qs h t ih =>
    rw [List.map_cons, List.map_cons]
    refine .cons ?_ ih
    obtain ⟨h1, h2⟩ := h
    by_cases e : p.1 = k
    · rw [if_pos e, if_pos (h1.symm.trans e)]; exact ⟨h1, ry⟩
    · rw [if_neg e, if_neg (fun z => e (h1.trans z))]; exact ⟨h1, h2⟩
theorem KV.put {kvs : List (κ × V)} {vs : List (κ × Value)} (r : KV kvs vs) (k : κ) {y : V} {u : Value} (ry : RelV y u) : KV (putK kvs k y) (stored vs k u) := by
  unfold putK stored
  rw [r.any k]
  by_cases e : (vs.any fun kv => decide (kv.1 = k)) = true
  · rw [if_pos e, if_pos e]; exact r.repl k ry
  · rw [if_neg e, if_neg e]; exact Paired.snoc r ⟨rfl, ry⟩
theorem KV.keys {kvs : List (κ × V)} {vs : List (κ × Value)} (r : KV kvs vs) : kvs.map (·.1) = vs.map (·.1) := by
  unfold KV at r
  induction r with
  | nil => rfl
  | cons h t ih => rw [List.map_cons, List.map_cons, ih, h.1]
theorem KV.length {kvs : List (κ × V)} {vs : List (κ × Value)} (r : KV kvs vs) : kvs.length = vs.length := Paired.length r
end


theorem kV_is {P : Program} {w : World} {k : Key} {u : Value} (r : RelV (kV k) u) : (mixKind P w).is k u = true := by
  cases k with
  | inl i => obtain ⟨t, e⟩ := (show ∃ t, u = Value.int i t from r); subst e; exact mixKind_int P w i t
  | inr x => obtain ⟨t, e⟩ := (show ∃ t, u = Value.str x t from r); subst e; exact mixKind_str P w x t
theorem items_are {P : Program} {w : World} : ∀ {ks : List Key} {us : List Value}, Vals (ks.map kV) us → ItemsAre (mixKind P w) ks us
  | [], _, r => by rw [List.map_nil] at r; cases r; exact .nil
  | k :: ks, _, r => by
    rw [List.map_cons] at r
    cases r with
    | cons h t => exact .cons (kV_is h) (items_are t)

abbrev KT (H : Hp) : List (List Key × V) → List (List Key × Addr × Value) → Prop := Paired fun p q => p.1 = q.1 ∧ H q.2.1 = some (.tup (p.1.map kV)) ∧ RelV p.2 q.2.2
theorem KT.val {H : Hp} {kvs : List (List Key × V)} {xs : List (List Key × Addr × Value)} (r : KT H kvs xs) (k : List Key) : RelO (valV kvs k) ((atKey xs k).map (·.2)) := by
  induction r with
  | nil => exact True.intro
  | @cons p q ps qs h t ih =>
    obtain ⟨h1, _, h2⟩ := h
    by_cases e : p.1 = k
    · have e' : q.1 = k := h1.symm.trans e
      have b : atKey (q :: qs) k = some q.2 := by simp [atKey, List.find?_cons, e']
      rw [valV_pos e, b]; exact h2
    · have e' : ¬ q.1 = k := fun z => e (h1.trans z)
      have b : atKey (q :: qs) k = atKey qs k := by simp [atKey, List.find?_cons, e']
      rw [valV_neg e, b]; exact ih
theorem KT.repl {H : Hp} {kvs : List (List Key × V)} {xs : List (List Key × Addr × Value)} (r : KT H kvs xs) (k : List Key) {y : V} {u : Value} (ry : RelV y u) :
    KT H (kvs.map fun kv => if kv.1 = k then (kv.1, y) else kv) (xs.map (putAt k u)) := by
  induction r with
  | nil => exact .nil
  | @cons p q ps qs h t ih =>
    rw [List.map_cons, List.map_cons]
    refine .cons ?_ ih
    obtain ⟨h1, h2, h3⟩ := h
    unfold putAt
    by_cases e : p.1 = k
    · rw [if_pos e, if_pos (h1.symm.trans e)]; exact ⟨h1, h2, ry⟩
    · rw [if_neg e, if_neg (fun z => e (h1.trans z))]; exact ⟨h1, h2, h3⟩
theorem KT.put {H : Hp} {kvs : List (List Key × V)} {xs : List (List Key × Addr × Value)} (r : KT H kvs xs) (k : List Key) {b : Addr} {y : V} {u : Value} (hb : H b = some (.tup (k.map kV))) (ry : RelV y u) :
    KT H (putK kvs k y) (storedH xs k b u) := by
  have e : (kvs.any fun kv => decide (kv.1 = k)) = (atKey xs k).isSome := by
    rw [valV_any, (r.val k).isSome_eq, Option.isSome_map]
  unfold putK storedH
  rw [e]
  by_cases q : (atKey xs k).isSome = true
  · rw [if_pos q, if_pos q]; exact r.repl k ry
  · rw [if_neg q, if_neg q]; exact Paired.snoc r ⟨rfl, hb, ry⟩
theorem KT.keeps {H H' : Hp} {kvs : List (List Key × V)} {xs : List (List Key × Addr × Value)} (r : KT H kvs xs) (ht : ∀ b ys, H b = some (.tup ys) → H' b = some (.tup ys)) : KT H' kvs xs :=
  Paired.mapP r fun _ _ z => ⟨z.1, ht _ _ z.2.1, z.2.2⟩

section
variable {P : Program} {w : World} {H : Hp} {h : Heap} {a : Addr}
theorem rd_of {u : HO} (ok : HOk P w H h) (e : Rd H a u) : ObjOk P w H h a u := e.ok ok
theorem dk_rd {kvs : List (Key × V)} (ok : HOk P w H h) (e : Rd H a (.dK kvs)) : kvs.length ≤ sizeLine ∧ (a == sysModules) = false ∧ ∃ vs, KV kvs vs ∧ h.DictOf (mixKind P w) a vs :=
  show ObjOk P w H h a (.dK kvs) from rd_of ok e
theorem dk_of {kvs : List (Key × V)} (ok : HOk P w H h) (e : H a = some (.dK kvs)) : kvs.length ≤ sizeLine ∧ (a == sysModules) = false ∧ ∃ vs, KV kvs vs ∧ h.DictOf (mixKind P w) a vs := dk_rd ok (.inl e)
theorem key_of {ks : List Key} (ok : HOk P w H h) (e : H a = some (.tup (ks.map kV))) : (tupleKind (mixKind P w)).is h ks a := by
  obtain ⟨_, its, r, o, h1, h2, n, h3, _⟩ := (show ObjOk P w H h a (.tup (ks.map kV)) from ok a _ e)
  exact ⟨o, its.toArray, n, h1, h2, h3, by simpa using items_are r⟩
theorem dt_rd {kvs : List (List Key × V)} (ok : HOk P w H h) (e : Rd H a (.dT kvs)) : kvs.length ≤ sizeLine ∧ (a == sysModules) = false ∧
    ∃ xs, KT H kvs xs ∧ h.DictOfH (tupleKind (mixKind P w)) a xs := by
  obtain ⟨z, y, xs, r, o, es, ep, h1, h2, h3, h4, h5⟩ := (show ObjOk P w H h a (.dT kvs) from rd_of ok e)
  refine ⟨z, y, xs, r, o, es, ep, h1, h2, h3, h4, fun x hx => ?_, h5⟩
  have all : ∀ {l : List (List Key × V)} {m : List (List Key × Addr × Value)}, KT H l m → ∀ x ∈ m, (tupleKind (mixKind P w)).is h x.1 x.2.1 := by
    intro l m q
    induction q with
    | nil => intro x hx; exact nomatch hx
    | @cons p q ps qs hq t ih =>
      intro x hx
      rcases List.mem_cons.mp hx with e | hx
      · subst e
        exact key_of ok (by rw [← hq.1]; exact hq.2.1)
      · exact ih x hx
  exact all r x hx
theorem dt_of {kvs : List (List Key × V)} (ok : HOk P w H h) (e : H a = some (.dT kvs)) : kvs.length ≤ sizeLine ∧ (a == sysModules) = false ∧
    ∃ xs, KT H kvs xs ∧ h.DictOfH (tupleKind (mixKind P w)) a xs := dt_rd ok (.inl e)
end

def DGet (H : Hp) (a : Addr) (y : V) (r : Option V) : Prop :=
  (∃ kvs k, Rd H a (.dK kvs) ∧ y = kV k ∧ r = valV kvs k) ∨ ∃ kvs k b, Rd H a (.dT kvs) ∧ y = .ref b ∧ H b = some (.tup (k.map kV)) ∧ r = valV kvs k
def DPut (H : Hp) (a : Addr) (y v : V) (H' : Hp) : Prop :=
  (∃ kvs k, H a = some (.dK kvs) ∧ y = kV k ∧ kvs.length < sizeLine ∧ H' = upd H a (.dK (putK kvs k v))) ∨
  ∃ kvs k b, H a = some (.dT kvs) ∧ y = .ref b ∧ H b = some (.tup (k.map kV)) ∧ kvs.length < sizeLine ∧ H' = upd H a (.dT (putK kvs k v))
theorem DGet.k {H : Hp} {a : Addr} {kvs : List (Key × V)} {k : Key} (e : H a = some (.dK kvs)) : DGet H a (kV k) (valV kvs k) := .inl ⟨kvs, k, .inl e, rfl, rfl⟩
theorem DPut.k {H : Hp} {a : Addr} {kvs : List (Key × V)} {k : Key} {v : V} (e : H a = some (.dK kvs)) (hl : kvs.length < sizeLine) : DPut H a (kV k) v (upd H a (.dK (putK kvs k v))) := .inl ⟨kvs, k, e, rfl, hl, rfl⟩
section
variable {X : Cx} {pins : List (Addr × Obj)} {σ : St} {H : Hp} {s : Shared} {a : Addr} {y v : V} {u r : Value} {o : Option V} {A : Around} {E : Value → Shared → Prop}

theorem Inv.big (I : Inv X pins σ H s) : sysModules < s.heap.objs.size := by
  have h : mainGlobals < s.heap.objs.size := (I.mod.glob.keeps I.bk).lt
  exact Nat.lt_trans (by decide) h

theorem d_getItem {Q : Value → Shared → Prop} (hu : A.units + 1 < cLine) (I : Inv X pins σ H s) (g : DGet H a y (some v)) (ry : RelV y u) (h : ∀ w' s', Inv X pins σ H s' → RelV v w' → Q w' s') :
    wpAny (model X.prog X.w) A (getItem (.ref a) u) Q E s := by
  rcases g with ⟨kvs, k, e, ey, l⟩ | ⟨kvs, k, b, e, ey, eb, l⟩
  · subst ey
    obtain ⟨z, hd, vs, rel, dd⟩ := dk_rd I.hok e
    obtain ⟨w', hw, rw'⟩ := RelO.some_of (v := v) (o := valueAt vs k) (by rw [l]; exact rel.val k)
    exact wpAny_getItem_of (kV_is ry) dd.mapOf hw (h w' _ (I.tok _) rw')
  · subst ey
    cases (show u = Value.ref b from ry)
    obtain ⟨z, hd, xs, rel, dd⟩ := dt_rd I.hok e
    obtain ⟨w', hw, rw'⟩ := RelO.some_of (v := v) (o := (atKey xs k).map (·.2)) (by rw [l]; exact rel.val k)
    obtain ⟨p, hp, hp2⟩ := Option.map_eq_some_iff.mp hw
    refine wpAny_getItem_heap (tupleKind_room_in1 hu) (key_of I.hok eb) dd hp ?_
    rw [hp2]
    exact h w' _ (I.tok _) rw'
theorem d_write {h' : Heap} {t' : Nat} {ob : HO} (I : Inv X pins σ H s) (mu : Mut (H a)) (hs : Heap.SameBut a s.heap h') (he : ∃ q, h'.get? a = some q) (new : ObjOk X.prog X.w (upd H a ob) h' a ob) :
    Inv X pins σ (upd H a ob) { s with heap := h', toks := t' } :=
  I.write (x := a) (e := a) mu (.inl rfl) (fun b q hb z => (hs.2 b hb).trans z) he new
theorem dk_new {P : Program} {w : World} {H' : Hp} {h' : Heap} {kvs : List (Key × V)} {vs : List (Key × Value)} (z : kvs.length ≤ sizeLine) (hd : (a == sysModules) = false) (rel : KV kvs vs) (dd : h'.DictOf (mixKind P w) a vs) :
    ObjOk P w H' h' a (.dK kvs) := ⟨z, hd, vs, rel, dd⟩
theorem d_setItem {H' : Hp} {Q : Unit → Shared → Prop} (hu : A.units + 1 < cLine) (I : Inv X pins σ H s) (g : DPut H a y v H') (ry : RelV y u) (rv : RelV v r) (h : ∀ s', Inv X pins σ H' s' → Q () s') :
    wpAny (model X.prog X.w) A (setItem (.ref a) u r) Q E s := by
  rcases g with ⟨kvs, k, e, ey, l, eH⟩ | ⟨kvs, k, b, e, ey, eb, l, eH⟩
  · subst ey eH
    obtain ⟨z, hd, vs, rel, dd⟩ := dk_of I.hok e
    have hz : vs.length ≤ sizeLine := by rw [← rel.length]; exact z
    have hl : (putK kvs k v).length ≤ sizeLine := by have := length_putK kvs k v; (first | lia | omega)
    refine wpAny_setItem_pairs (hsz := hz) (kV_is ry) dd fun h' dd' hs => h _ ?_
    have he : ∃ q, h'.get? a = some q := let ⟨q, _, _, hq, _⟩ := dd'; ⟨q, hq⟩
    exact d_write I (by rw [e]; exact True.intro) hs he (dk_new hl hd (rel.put k rv) dd')
  · subst ey eH
    cases (show u = Value.ref b from ry)
    obtain ⟨z, hd, xs, rel, dd⟩ := dt_of I.hok e
    have hz : xs.length ≤ sizeLine := by rw [← Paired.length rel]; exact z
    have hl : (putK kvs k v).length ≤ sizeLine := by have := length_putK kvs k v; (first | lia | omega)
    refine wpAny_setItem_heap (hsz := hz) (tupleKind_room_in1 hu) (key_of I.hok eb) dd fun h' dd' hs => h _ ?_
    obtain ⟨q, es, ep, hq, h2, h3, h4, _, h5⟩ := dd'
    refine d_write I (by rw [e]; exact True.intro) hs ⟨q, hq⟩ ⟨hl, hd, _, (rel.put k eb rv).keeps fun c ys ec => ?_, q, es, ep, hq, h2, h3, h4, h5⟩
    rw [upd_ne (ne_of ec e (fun z => nomatch z))]
    exact ec
end

section
variable {X : Cx} {pins : List (Addr × Obj)} {σ : St} {H : Hp} {s : Shared} {a : Addr} {kvs : List (Key × V)} {k : Key} {u : Value} {A : Around} {E : Value → Shared → Prop}
end


def NoSl (i : Expr) : Prop := ∀ ov iv, subscripted i false ov iv = operate [ov, iv] (getItem ov iv)
theorem subD_of {prog : Program} {w : World} {A : Around} {E : Value → Shared → Prop} {s : Shared} {env : Env} {value slice : Expr} {pos : Pos} {T id : String} {Q : Value → Shared → Prop}
    (hl : typeLookup (.type T) "__getitem__" = pure (some (.builtin id))) (hs : NoSl slice)
    (h : wpAny (model prog w) A (eval value env) (fun o s₁ => wpAny (model prog w) A (eval slice env) (fun i s₂ => s₂.TypeIs o T ∧ wpAny (model prog w) A (getItem o i) Q E s₂) E s₁) E s) :
    wpAny (model prog w) A (eval (.Subscript value slice pos) env) Q E s := by
  refine Subscript_ (wpAny_mono h (fun o s₁ h₁ => wpAny_mono h₁ (fun i s₂ h₂ => ?_) fun _ _ x => x) fun _ _ x => x)
  obtain ⟨hT, h₂⟩ := h₂
  unfold subscriptTail
  refine wpAny_bind ?_
  rw [getitemInPython_of_ne hT.not_modules]
  refine wpAny_bind (wpAny_specialOf hT hl ?_)
  have fin : wpAny (model prog w) A (subscripted slice false o i) (fun r s₃ => wpAny (model prog w) A (letTemporaryGo value o r >>= fun _ => pure r) Q E s₃) E s₂ := by
    rw [hs o i]
    exact wpAny_operating (wpAny_mono h₂ (fun r s₃ h₃ => wpAny_bind (wpAny_letTemporaryGo (wpAny_pure h₃))) fun _ _ x => x)
  first
    | exact wpAny_pure (wpAny_bind fin)
    | exact wpAny_bind (wpAny_pure (wpAny_bind fin))
    | exact wpAny_bind fin

theorem dict_typeIs {X : Cx} {pins : List (Addr × Obj)} {σ : St} {H : Hp} {s : Shared} {a : Addr} {y : V} {o : Option V} (I : Inv X pins σ H s) (g : DGet H a y o) : s.TypeIs (.ref a) "dict" := by
  rcases g with ⟨kvs, k, e, _, _⟩ | ⟨kvs, k, b, e, _, _, _⟩
  · obtain ⟨_, _, vs, _, dd⟩ := dk_rd I.hok e
    exact dd.typeIs
  · obtain ⟨_, _, xs, _, dd⟩ := dt_rd I.hok e
    exact dd.typeIs
def tDGet (td ty : TE) : TE := fun σ H Q => td σ H fun x H1 => ty σ H1 fun y H2 => ∃ a v, x = .ref a ∧ DGet H2 a y (some v) ∧ Q v H2
def sDPut (td ty tv : TE) : TS := fun D σ H => tv σ H fun v H1 => td σ H1 fun x H2 => ty σ H2 fun y H3 => ∃ a H4, x = .ref a ∧ DPut H3 a y v H4 ∧ D.nx σ H4
section
variable {X : Cx} {o i e value : Expr} {pos pos' tpos : Pos} {td ty tv : TE}
theorem pe_dget (hu : X.A.units + 1 < cLine) (ho : PE X o td) (hi : PE X i ty) (hs : NoSl i) : PE X (.Subscript o i pos) (tDGet td ty) := by
  intro pins s σ H Q I h
  refine subD_of PySem.F.slot_dict_getitem.lookup hs (thn (ho pins s σ H _ I h) fun u s1 ⟨x, H1, I1, rx, q1⟩ => thn (hi pins s1 σ H1 _ I1 q1) fun iv s2 ⟨y, H2, I2, ry, a, v, ex, g, q2⟩ => ?_)
  subst ex
  obtain rfl : u = Value.ref a := rx
  exact ⟨dict_typeIs I2 g, d_getItem hu I2 g ry fun w' s3 I3 rw' => ⟨v, H2, I3, rw', q2⟩⟩
theorem ps_dput (hu : X.A.units + 1 < cLine) (ho : PE X o td) (hi : PE X i ty) (hv : PE X value tv) (hs : swapsWith value (some (.Subscript o i pos')) pos.line X.env = pure false) :
    PS X (.Assign [.Subscript o i pos'] value pos) (sDPut td ty tv) := by
  intro pins s σ H D I h
  refine wpAny_Assign_Subscript (thn (hv pins s σ H _ I h) fun r s1 ⟨v, H1, I1, rv, q1⟩ => thn (ho pins s1 σ H1 _ I1 q1) fun u s2 ⟨x, H2, I2, rx, q2⟩ => thn (hi pins s2 σ H2 _ I2 q2) fun iv s3 ⟨y, H3, I3, ry, a, H4, ex, g, q3⟩ => ?_) hs
  subst ex
  obtain rfl : u = Value.ref a := rx
  exact d_setItem hu I3 g ry rv fun s4 I4 => ⟨σ, H4, I4, q3⟩
end


theorem dk_empty {P : Program} {w : World} {H : Hp} (h : Heap) (hb : sysModules < h.objs.size) : ObjOk P w H (h.push { cls := .type "dict", data := .dict #[] }) h.objs.size (.dK []) :=
  ⟨Nat.zero_le _, beq_eq_false_iff_ne.mpr (Ne.symm (Nat.ne_of_lt hb)), [], .nil, Heap.DictOf.new h⟩
def tDNewK : TE := fun _ H Q => ∀ p, H p = none → Q (.ref p) (upd H p (.dK []))
section
variable {X : Cx} {pos : Pos}
theorem pe_dnewK : PE X (.Dict [] [] pos) tDNewK := fun pins s σ H Q I h =>
  wpAny_Dict_empty ⟨.ref s.heap.objs.size, _, I.laid (a := s.heap.objs.size) (o := .dK []) (t' := s.toks) (fun _ _ q => Heap.get?_push_of_some _ q) (Nat.le_refl _) (dk_empty s.heap I.big), rfl, h _ (I.hok.fresh (Nat.le_refl _))⟩
end

def mergeK (kvs more : List (Key × V)) : List (Key × V) := more.foldl (fun acc kv => putK acc kv.1 kv.2) kvs
theorem KV.merge : ∀ {more : List (Key × V)} {rs : List (Key × Value)} {kvs : List (Key × V)} {vs : List (Key × Value)}, KV more rs → KV kvs vs → KV (mergeK kvs more) (merged vs rs) := by
  intro more rs kvs vs r
  unfold KV at r
  induction r generalizing kvs vs with
  | nil => intro q; exact q
  | @cons p q ps qs h t ih =>
    intro r0
    have e : KV (putK kvs p.1 p.2) (stored vs q.1 q.2) := by
      have := r0.put p.1 h.2
      rw [← h.1]; exact this
    exact ih e
theorem length_mergeK : ∀ (more kvs : List (Key × V)), (mergeK kvs more).length ≤ kvs.length + more.length
  | [], kvs => by show kvs.length ≤ kvs.length + 0; (first | lia | omega)
  | p :: r, kvs => by
    have h1 := length_mergeK r (putK kvs p.1 p.2)
    have h2 := length_putK kvs p.1 p.2
    show (mergeK (putK kvs p.1 p.2) r).length ≤ _
    rw [List.length_cons]; (first | lia | omega)
structure M2 (X : Cx) (o : Expr) (m : Str) (apos : Pos) (e f : Expr) (cpos : Pos) : Prop where
  base : attributeBase o m X.env (eval o X.env) = eval o X.env
  few : ((backTo cpos (starEach [e, f] X.env)).all (fun x => !x.1) && (backToKw cpos (keywordEach [] X.env)).all (fun x => x.1.isSome)
    && decide (([e, f] : List Expr).length + ([] : List Keyword).length + (if ([] : List Keyword).isEmpty then 0 else 1) < 30)) = true
  line : (apos.endLine == cpos.line) = true
  trees : backTo cpos (starEach [e, f] X.env) = [(false, eval e X.env), (false, eval f X.env)]

def IsD (H : Hp) (a : Addr) : Prop := (∃ kvs, Rd H a (.dK kvs)) ∨ ∃ kvs, Rd H a (.dT kvs)
theorem isD_at {X : Cx} {pins : List (Addr × Obj)} {σ : St} {H : Hp} {s : Shared} {a : Addr} (I : Inv X pins σ H s) (d : IsD H a) :
    s.TypeIs (.ref a) "dict" ∧ (∀ b, Value.ref a = .ref b → ∃ ob, s.heap.get? b = some ob ∧ ob.dict = none) ∧ (a == sysModules) = false := by
  rcases d with ⟨kvs, e⟩ | ⟨kvs, e⟩
  · obtain ⟨_, hd, vs, _, dd⟩ := dk_rd I.hok e
    refine ⟨dd.typeIs, fun b q => ?_, hd⟩
    cases q
    obtain ⟨ob, _, _, h1, h2, _⟩ := dd
    exact ⟨ob, h1, h2.2.1⟩
  · obtain ⟨_, hd, xs, _, dd⟩ := dt_rd I.hok e
    refine ⟨dd.typeIs, fun b q => ?_, hd⟩
    cases q
    obtain ⟨ob, _, _, h1, h2, _⟩ := dd
    exact ⟨ob, h1, h2.2.1⟩

section
variable {X : Cx} {pins : List (Addr × Obj)} {σ : St} {H : Hp} {s : Shared} {a : Addr} {y d : V} {u r : Value} {o : Option V} {A : Around} {E : Value → Shared → Prop}
theorem d_get2 {Q : Value → Shared → Prop} (hu : A.units + 1 < cLine) (I : Inv X pins σ H s) (g : DGet H a y o) (ry : RelV y u) (rd : RelV d r) (h : ∀ w' s', Inv X pins σ H s' → RelV (o.getD d) w' → Q w' s') :
    wpAny (model X.prog X.w) A (call (.builtin "dict.get") [.ref a, u, r]) Q E s := by
  rcases g with ⟨kvs, k, e, ey, l⟩ | ⟨kvs, k, b, e, ey, eb, l⟩
  · subst ey
    obtain ⟨z, hd, vs, rel, dd⟩ := dk_rd I.hok e
    refine call_meetsIn PySem.F.slot_dict_get dd.typeIs PySem.F.entry_dict_get (PySem.F.args_dict_get_3 _ _ _) (meets_dict_get_default (mixKind X.prog X.w) a (kV_is ry) hd r) ⟨_, dd.mapOf, h _ _ (I.tok _) ?_⟩
    rw [l]
    exact (rel.val k).getD rd
  · subst ey
    cases (show u = Value.ref b from ry)
    obtain ⟨z, hd, xs, rel, dd⟩ := dt_rd I.hok e
    refine call_meetsIn PySem.F.slot_dict_get dd.typeIs PySem.F.entry_dict_get (PySem.F.args_dict_get_3 _ _ _) (meetsH_dict_get_default (tupleKind (mixKind X.prog X.w)) a b hd r) ⟨tupleKind_room_in1 hu, k, xs, key_of I.hok eb, dd, h _ _ (I.tok _) ?_⟩
    rw [l]
    exact (rel.val k).getD rd
end

def tDGet2 (td ty tx : TE) : TE := fun σ H Q => td σ H fun x H1 => ∃ a, x = .ref a ∧ IsD H1 a ∧ ty σ H1 fun y H2 => tx σ H2 fun z H3 => ∃ o, DGet H3 a y o ∧ Q (o.getD z) H3
section
variable {X : Cx} {o e f : Expr} {apos cpos : Pos} {td ty tx : TE}
theorem pe_dget2 (hu : X.A.units + 1 < cLine) (ho : PE X o td) (he : PE X e ty) (hf : PE X f tx) (m : M2 X o "get" apos e f cpos) : PE X (.Call (.Attribute o "get" apos) [e, f] [] cpos) (tDGet2 td ty tx) := by
  intro pins s σ H Q I h
  refine wpAny_Call_method m.base m.few m.line PySem.F.plainAttrs_dict PySem.F.slot_dict_get PySem.F.type_dict_get (thn (ho pins s σ H _ I h) fun u s1 ⟨x, H1, I1, rx, a, ex, d, q1⟩ => ?_)
  subst ex
  obtain rfl : u = Value.ref a := rx
  obtain ⟨t1, t2, _⟩ := isD_at I1 d
  refine ⟨t1, t2, ?_⟩
  rw [m.trees]
  refine Calls.callWith_builtin rfl (Calls.evalArgs_plain (Calls.spliced_cons (thn (he pins s1 σ H1 _ I1 q1) fun iv s2 ⟨y, H2, I2, ry, q2⟩ =>
    Calls.spliced_cons (thn (hf pins s2 σ H2 _ I2 q2) fun fv s3 ⟨z, H3, I3, rz, ov, g, q3⟩ => Calls.spliced_nil ?_))))
  exact d_get2 hu I3 g ry rz fun w' s4 I4 rw' => ⟨_, H3, I4, rw', q3⟩
end

section
variable {X : Cx} {pins : List (Addr × Obj)} {σ : St} {H : Hp} {s : Shared} {a : Addr} {kvs : List (Key × V)} {A : Around} {E : Value → Shared → Prop}
end


section
variable {X : Cx} {pins : List (Addr × Obj)} {σ : St} {H : Hp} {s : Shared} {a : Addr} {y : V} {u : Value} {A : Around} {E : Value → Shared → Prop}
end
end L2

namespace Ep
open PySem L2 PySem.SeqAt
def shM (q : Int) (c : List Int) : List Int := c.map fun x => x + q
theorem eb2 : blkM 1 = [(0, 1)] := by decide
end Ep

namespace Ep
open PySem L2 PySem.SeqAt
theorem sh2 (q a b : Int) : shM q [a, b] = [a + q, b + q] := rfl
end Ep

namespace L2
open PySem PySem.Spec PyProof.Rows
open AutoSeq1 (wpAny_loadPart')
section
variable {prog : Program} {w : World} {A : Around} {E : Value → Shared → Prop} {s : Shared}
end
section
variable {prog : Program} {w : World} {A : Around} {E : Value → Shared → Prop} {s : Shared}
end
variable {X : Cx}
end L2

namespace Ep
open PySem L2 PySem.SeqAt
theorem at0 (y : V) (ys : List V) : atI (y :: ys) 0 = some y := by
  unfold atI ixN
  simp
end Ep

namespace L2
open PySem PySem.Spec PyProof.Rows
section
variable {prog : Program} {w : World} {A : Around} {E : Value → Shared → Prop} {s : Shared}
end
variable {X : Cx}
end L2

namespace L2
open PySem PySem.Spec PyProof.Rows
open PySem.W (CodeHd tabObj kla_fn kla_obj envX)
section
variable {X : Cx} {pins : List (Addr × Obj)} {σ : St} {H : Hp} {s : Shared} {A : Around} {E : Value → Shared → Prop} {Q : Value → Shared → Prop} {c P : Addr} {params : Arguments} {body : Expr} {scope : Scope} {pos : Pos} {clos : List (Str × Addr)}
end
section
variable {X : Cx} {pins : List (Addr × Obj)} {σ : St} {H : Hp} {s : Shared} {A : Around} {params : Arguments} {body : Expr} {scope : Scope} {x y qual : Str} {j : Nat} {f c' cy P : Addr} {pm ctv u : Value} {v wv : V} {tb : TE} {Q : VK} {q : Str × Int × Int}
end
section
variable {X : Cx} {pins : List (Addr × Obj)} {σ : St} {rows : List V} {l q S It : Addr} {J : Hp → Heap → Prop} {kf : Nat → Int}
end
end L2

namespace L2
open PySem PySem.Spec PyProof.Rows
open AutoSeq1 (wpAny_loadPart')
variable {X : Cx}
end L2

namespace Ep
open PySem L2 PySem.SeqAt PyProof.Rows
end Ep

namespace Ep
open PySem L2
end Ep
namespace L2
open PySem PySem.Spec PyProof.Rows
variable {X : Cx}
end L2

namespace Ep
open PySem L2 PySem.SeqAt
end Ep

namespace L2
end L2
namespace Ep
open PySem L2 PySem.SeqAt
end Ep

namespace L2
open PySem PySem.Spec PyProof.Rows
section
variable {X : Cx} (K : PySem.W.Frag) (hK : X.K = K)
include hK
end
end L2
namespace Ep
open PySem L2 PySem.SeqAt
def numsM (wide lane low : Int) (n : Nat) : List Int := (List.range n).map fun (j : Nat) => lane + wide * (low + (j : Int))
def numsD (wide lane : Int) (n : Nat) : List Int := (List.range n).map fun (j : Nat) => lane - wide * (1 + (j : Int))
def standG (wide : Int) : Nat → List Int → List Int
  | _, [] => []
  | i, c :: r => numsM wide i 0 c.toNat ++ standG wide (i + 1) r
def owedG (wide : Int) : Nat → List Int → List Int
  | _, [] => []
  | i, c :: r => numsM wide i c (-c).toNat ++ owedG wide (i + 1) r
def owedD (wide : Int) : Nat → List Int → List Int
  | _, [] => []
  | i, c :: r => numsD wide i (-c).toNat ++ owedD wide (i + 1) r
def absS : List Int → Nat
  | [] => 0
  | c :: r => c.natAbs + absS r
theorem numsM_len (wide lane low : Int) (n : Nat) : (numsM wide lane low n).length = n := by simp [numsM]
theorem numsD_len (wide lane : Int) (n : Nat) : (numsD wide lane n).length = n := by simp [numsD]
theorem numsD_rev (wide lane c : Int) : (numsD wide lane (-c).toNat) = (numsM wide lane c (-c).toNat).reverse := by
  refine List.ext_getElem? fun j => ?_
  by_cases h : j < (-c).toNat
  · rw [List.getElem?_reverse (by rw [numsM_len]; exact h), numsM_len]
    unfold numsD numsM
    rw [List.getElem?_map, List.getElem?_map, List.getElem?_range h, List.getElem?_range (by (first | lia | omega))]
    show some (lane - wide * (1 + (j : Int))) = some (lane + wide * (c + (((-c).toNat - 1 - j : Nat) : Int)))
    rw [show c + (((-c).toNat - 1 - j : Nat) : Int) = -(1 + (j : Int)) by (first | lia | omega), Int.mul_neg]
    rfl
  · rw [List.getElem?_eq_none (by rw [numsD_len]; (first | lia | omega)), List.getElem?_eq_none (by rw [List.length_reverse, numsM_len]; (first | lia | omega))]
theorem owed_perm (wide : Int) : ∀ (i : Nat) (t : List Int), (owedD wide i t).Perm (owedG wide i t)
  | _, [] => .nil
  | i, c :: r => by
    refine List.Perm.append ?_ (owed_perm wide (i + 1) r)
    rw [numsD_rev]
    exact List.reverse_perm _
theorem standG_snoc (wide c : Int) : ∀ (i : Nat) (t : List Int), standG wide i (t ++ [c]) = standG wide i t ++ numsM wide ((i + t.length : Nat) : Int) 0 c.toNat
  | i, [] => by simp [standG]
  | i, d :: r => by
    show numsM wide i 0 d.toNat ++ standG wide (i + 1) (r ++ [c]) = (numsM wide i 0 d.toNat ++ standG wide (i + 1) r) ++ _
    rw [standG_snoc wide c (i + 1) r, List.append_assoc]
    have e : i + 1 + r.length = i + (d :: r).length := by simp; (first | lia | omega)
    rw [e]
theorem owedD_snoc (wide c : Int) : ∀ (i : Nat) (t : List Int), owedD wide i (t ++ [c]) = owedD wide i t ++ numsD wide ((i + t.length : Nat) : Int) (-c).toNat
  | i, [] => by simp [owedD]
  | i, d :: r => by
    show numsD wide i (-d).toNat ++ owedD wide (i + 1) (r ++ [c]) = (numsD wide i (-d).toNat ++ owedD wide (i + 1) r) ++ _
    rw [owedD_snoc wide c (i + 1) r, List.append_assoc]
    have e : i + 1 + r.length = i + (d :: r).length := by simp; (first | lia | omega)
    rw [e]
theorem numsM_mem {wide lane low x : Int} {n : Nat} : x ∈ numsM wide lane low n ↔ ∃ j : Nat, j < n ∧ x = lane + wide * (low + (j : Int)) := by
  unfold numsM
  rw [List.mem_map]
  constructor
  · rintro ⟨j, hj, e⟩
    exact ⟨j, List.mem_range.mp hj, e.symm⟩
  · rintro ⟨j, hj, e⟩
    exact ⟨j, List.mem_range.mpr hj, e.symm⟩
theorem standG_mem {wide x : Int} : ∀ {i : Nat} {t : List Int}, x ∈ standG wide i t ↔ ∃ (l j : Nat), l < t.length ∧ (j : Int) < t.getD l 0 ∧ x = ((i + l : Nat) : Int) + wide * (j : Int)
  | i, [] => by simp [standG]
  | i, c :: r => by
    show x ∈ numsM wide i 0 c.toNat ++ standG wide (i + 1) r ↔ _
    rw [List.mem_append, numsM_mem, standG_mem (i := i + 1) (t := r)]
    constructor
    · rintro (⟨j, hj, e⟩ | ⟨l, j, hl, hj, e⟩)
      · exact ⟨0, j, by simp, by simp; (first | lia | omega), by rw [e]; simp⟩
      · refine ⟨l + 1, j, by simp; (first | lia | omega), by simpa using hj, ?_⟩
        rw [e, show i + 1 + l = i + (l + 1) by (first | lia | omega)]
    · rintro ⟨l, j, hl, hj, e⟩
      cases l with
      | zero => exact .inl ⟨j, by simp at hj; (first | lia | omega), by rw [e]; simp⟩
      | succ l =>
        refine .inr ⟨l, j, by simp at hl; (first | lia | omega), by simpa using hj, ?_⟩
        rw [e, show i + 1 + l = i + (l + 1) by (first | lia | omega)]
theorem stand_iff {wide : Int} {t : List Int} (w1 : 1 ≤ wide) (hl : t.length = wide.toNat) {n : Int} (hn : 0 ≤ n) : n ∈ standG wide 0 t ↔ n / wide < t.getD (n % wide).toNat 0 := by
  rw [standG_mem]
  have m0 := Int.emod_nonneg n (show wide ≠ 0 by (first | lia | omega))
  have m1 := Int.emod_lt_of_pos n (show 0 < wide by (first | lia | omega))
  have d0 := Int.ediv_nonneg hn (show 0 ≤ wide by (first | lia | omega))
  have dm := Int.emod_add_mul_ediv n wide
  constructor
  · rintro ⟨l, j, h1, h2, e⟩
    have l1 : (l : Int) < wide := by (first | lia | omega)
    have em : n % wide = (l : Int) := by
      rw [e, Nat.zero_add, Int.add_mul_emod_self_left]
      exact Int.emod_eq_of_lt (by (first | lia | omega)) l1
    have ed : n / wide = (j : Int) := by
      rw [e, Nat.zero_add, Int.add_mul_ediv_left _ _ (by (first | lia | omega)), Int.ediv_eq_zero_of_lt (by (first | lia | omega)) l1]
      (first | lia | omega)
    rw [em, ed, Int.toNat_natCast]
    exact h2
  · intro h
    refine ⟨(n % wide).toNat, (n / wide).toNat, by (first | lia | omega), ?_, ?_⟩
    · rw [Int.toNat_of_nonneg d0]; exact h
    · rw [Nat.zero_add, Int.toNat_of_nonneg m0, Int.toNat_of_nonneg d0]; exact dm.symm
theorem absS_take : ∀ (t : List Int) (i : Nat), absS (t.take i) ≤ absS t
  | [], i => by simp
  | c :: r, 0 => Nat.zero_le _
  | c :: r, i + 1 => by
    have := absS_take r i
    show c.natAbs + absS (r.take i) ≤ c.natAbs + absS r
    (first | lia | omega)
theorem numsM_succ (wide lane low : Int) (n : Nat) : numsM wide lane low (n + 1) = numsM wide lane low n ++ [lane + wide * (low + (n : Int))] := by
  unfold numsM
  rw [List.range_succ, List.map_append]
  rfl
theorem numsD_succ (wide lane : Int) (n : Nat) : numsD wide lane (n + 1) = numsD wide lane n ++ [lane - wide * (1 + (n : Int))] := by
  unfold numsD
  rw [List.range_succ, List.map_append]
  rfl
theorem absS_ge {t : List Int} : ∀ (l : Nat), (t.getD l 0).natAbs ≤ absS t := by
  induction t with
  | nil => intro l; simp
  | cons c r ih =>
    intro l
    show _ ≤ c.natAbs + absS r
    cases l with
    | zero => simp
    | succ l =>
      have := ih l
      simp only [List.getD_cons_succ]
      (first | lia | omega)
theorem stand_nonneg {wide : Int} {t : List Int} (w1 : 1 ≤ wide) {x : Int} (h : x ∈ standG wide 0 t) : 0 ≤ x := by
  obtain ⟨l, j, _, _, e⟩ := standG_mem.mp h
  have : 0 ≤ wide * (j : Int) := Int.mul_nonneg (by (first | lia | omega)) (by (first | lia | omega))
  (first | lia | omega)
def outN : List Place → Nat
  | [] => 0
  | pl :: r => (if isOut pl then 1 else 0) + outN r
theorem outN_le : ∀ ps : List Place, outN ps ≤ ps.length
  | [] => Nat.le_refl _
  | pl :: r => by
    have := outN_le r
    show (if isOut pl then 1 else 0) + outN r ≤ r.length + 1
    split <;> (first | lia | omega)
theorem outN_snoc (pl : Place) : ∀ ps : List Place, outN (ps ++ [pl]) = outN ps + if isOut pl then 1 else 0
  | [] => by simp [outN]
  | q :: r => by
    show (if isOut q then 1 else 0) + outN (r ++ [pl]) = (if isOut q then 1 else 0) + outN r + _
    rw [outN_snoc pl r]
    (first | lia | omega)
theorem outN_set (pl' : Place) : ∀ (ps : List Place) (i : Nat) (pl : Place), ps[i]? = some pl → outN (ps.set i pl') + (if isOut pl then 1 else 0) = outN ps + if isOut pl' then 1 else 0
  | [], i, pl, h => by simp at h
  | q :: r, 0, pl, h => by
    have e : q = pl := by simpa using h
    subst e
    show (if isOut pl' then 1 else 0) + outN r + _ = (if isOut q then 1 else 0) + outN r + _
    (first | lia | omega)
  | q :: r, i + 1, pl, h => by
    have := outN_set pl' r i pl (by simpa using h)
    show (if isOut q then 1 else 0) + outN (r.set i pl') + _ = (if isOut q then 1 else 0) + outN r + _
    (first | lia | omega)
theorem absS_set {x c : Int} (hc : c = 1 ∨ c = -1) : ∀ (t : List Int) (l : Nat), x = t.getD l 0 + c → absS (t.set l x) ≤ absS t + 1
  | [], l, _ => by simp [absS]
  | d :: r, 0, h => by
    show x.natAbs + absS r ≤ d.natAbs + absS r + 1
    simp at h
    (first | lia | omega)
  | d :: r, l + 1, h => by
    have := absS_set hc r l (by simpa using h)
    show d.natAbs + absS (r.set l x) ≤ d.natAbs + absS r + 1
    (first | lia | omega)
theorem absS_rep (n : Nat) : absS (List.replicate n 0) = 0 := by
  induction n with
  | zero => rfl
  | succ n ih => rw [List.replicate_succ]; show Int.natAbs 0 + _ = 0; rw [ih]; rfl
def Few (st : PlS) : Prop := absS st.tal ≤ outN st.pla
theorem Few.start (wide : Int) (ws : List (Int × Int)) : Few (startM wide ws) := by
  show absS (List.replicate wide.toNat 0) ≤ outN []
  rw [absS_rep]
  exact Nat.le_refl _
theorem Few.enter {ws : List (Int × Int)} {st : PlS} {lane c : Int} (h : Few st) : Few (enterM ws st lane c) := by
  show absS st.tal ≤ outN (st.pla ++ [placeM ws lane 0])
  rw [outN_snoc]
  have : absS st.tal ≤ outN st.pla := h
  (first | lia | omega)
theorem Few.step {wide : Int} {ws : List (Int × Int)} {st : PlS} {i : Nat} {pl : Place} (h : Few st) (wf : Wf wide ws st) (hi : st.pla[i]? = some pl) : Few (stepS wide ws st i pl) := by
  have h' : absS st.tal ≤ outN st.pla := h
  have il : i < st.pla.length := (List.getElem?_eq_some_iff.mp hi).1
  have cl := wf.cl
  cases pl with
  | out l n => exact h
  | before k l =>
    show absS st.tal ≤ outN (st.pla.set i (stepP wide ws st i (.before k l)))
    have := outN_set (stepP wide ws st i (.before k l)) st.pla i _ hi
    have e : isOut (.before k l) = false := rfl
    rw [e, if_neg (by decide), Nat.add_zero] at this
    rw [this]
    (first | lia | omega)
  | exit l =>
    show absS (st.tal.set l.toNat (st.tal.getD l.toNat 0 + st.chg.getD i 0)) ≤ outN (st.pla.set i (.out l (leaveN wide st l (st.chg.getD i 0))))
    have a := absS_set (x := st.tal.getD l.toNat 0 + st.chg.getD i 0) (wf.cs i (by (first | lia | omega))) st.tal l.toNat rfl
    have b := outN_set (.out l (leaveN wide st l (st.chg.getD i 0))) st.pla i _ hi
    have e1 : isOut (.exit l) = false := rfl
    have e2 : isOut (.out l (leaveN wide st l (st.chg.getD i 0))) = true := rfl
    rw [e1, e2, if_neg (by decide), if_pos rfl, Nat.add_zero] at b
    rw [b]
    (first | lia | omega)
theorem Few.le {st : PlS} (h : Few st) : absS st.tal ≤ st.pla.length := Nat.le_trans h (outN_le _)
theorem mk_play {C : Addr} {Hd : Hp} {v : V} {wide : Int} {ws : List (Int × Int)} (nt : NetOk Hd v wide ws) (x dx : Addr) (fx : Hd x = none) (fdx : Hd dx = none) {R : Hp → Prop} (h : ∀ (L : PlL) (H' : Hp), (∀ b ∈ L.own x, Hd b = none) → PlayAt C H' x v L (startM wide ws) → Same Hd H' → R H') :
    spPInit C (.ref x :: ([v] ++ [])) (upd (upd Hd dx (.own x)) x (.ins C dx [])) (fun v2 H2 => v2 = .non ∧ R H2) E0 := by
  have s0 : Same Hd (upd (upd Hd dx (HO.own x)) x (HO.ins C dx [])) := Same.put fx (Same.put fdx (Same.refl Hd))
  have x0 : (upd (upd Hd dx (HO.own x)) x (HO.ins C dx [])) x = some (.ins C dx []) := upd_same
  generalize upd (upd Hd dx (HO.own x)) x (HO.ins C dx []) = H0 at s0 x0
  refine ⟨x, dx, v, wide, ws, rfl, x0, nt.kt (KT.same s0 (KT.refl _)), fun L H1 f1 f2 f3 f4 pa1 kp1 => ⟨rfl, ?_⟩⟩
  refine h L H1 (fun b hb => ?_) pa1 (fun b o e => kp1 b o (s0 b o e) (ne_of_none e fx))
  rcases own_mem.mp hb with rfl | rfl | rfl | rfl | rfl
  · exact fx
  · exact s0.free f1
  · exact s0.free f2
  · exact s0.free f3
  · exact s0.free f4
end Ep
namespace Ep
open PySem L2 PySem.SeqAt
structure One where
  p : Addr
  L : PlL
  A : Sts
section
variable {C : Addr} {H H' : Hp} {v : V} {wide : Int} {ws : List (Int × Int)} {b c : Nat} {x : One} {S : List Addr}
end
section
variable {C : Addr} {G H H' : Hp} {v : V} {wide : Int} {ws : List (Int × Int)} {b c : Nat} {xs : List One} {x : One} {lp ls pn : Addr}
theorem pair_at {α : Type} {R : α → α → Prop} (hs : ∀ a b, R a b → R b a) {l : List α} (h : l.Pairwise R) {i j : Nat} {a b : α} (ha : l[i]? = some a) (hb : l[j]? = some b) (n : i ≠ j) : R a b := by
  obtain ⟨hi, ea⟩ := List.getElem?_eq_some_iff.mp ha
  obtain ⟨hj, eb⟩ := List.getElem?_eq_some_iff.mp hb
  rw [List.pairwise_iff_getElem] at h
  rcases Nat.lt_or_gt_of_ne n with z | z
  · rw [← ea, ← eb]; exact h i j hi hj z
  · rw [← ea, ← eb]; exact hs _ _ (h j i hj hi z)
end
end Ep

namespace L2
open PySem PySem.Spec PyProof.Rows
section
variable {X : Cx} {pins : List (Addr × Obj)} {σ : St} {H : Hp} {s : Shared} {a : Addr} {kvs : List (Key × V)}
theorem upd_id {a : Addr} {o : HO} (h : H a = some o) : upd H a o = H := by
  funext b
  unfold upd
  by_cases e : b = a
  · rw [if_pos e, e, h]
  · rw [if_neg e]
theorem Inv.freeze (I : Inv X pins σ H s) (e : Rd H a (.dK kvs)) : ∃ o, s.heap.get? a = some o ∧ Inv X pins σ (upd H a (.frz o (.dK kvs))) s := by
  rcases e with e | ⟨o, e⟩
  · obtain ⟨z, hd, vs, r, o, es, ep, h1, h2⟩ := dk_of I.hok e
    refine ⟨o, h1, ?_⟩
    exact I.write (h' := s.heap) (t' := s.toks) (o := .frz o (.dK kvs)) (e := a) (by rw [e]; exact True.intro) (.inl rfl) (fun _ _ _ q => q) ⟨o, h1⟩ ⟨h1, z, hd, vs, r, o, es, ep, h1, h2⟩
  · obtain ⟨h1, _⟩ := (show ObjOk X.prog X.w H s.heap a (.frz o (.dK kvs)) from I.hok a _ e)
    exact ⟨o, h1, by rw [upd_id e]; exact I⟩
end
def Itk (a : Addr) (o : Obj) (kvs : List (Key × V)) : It :=
  ⟨fun i H => H a = some (.frz o (.dK kvs)) ∧ i < kvs.length, fun i H x H' => H' = H ∧ ∃ kv, kvs[i]? = some kv ∧ x = kV kv.1, fun i H => H a = some (.frz o (.dK kvs)) ∧ kvs.length ≤ i⟩
def epOf (o : Obj) : Nat := match o.data with
  | .dict _ ep => ep
  | _ => 0
theorem relKey {k : Key} {v : Value} (h : keyIs k v = true) : RelV (kV k) v := by
  rcases keyIs_shape h with ⟨i, t, rfl, rfl⟩ | ⟨x, t, rfl, rfl⟩
  · exact ⟨t, rfl⟩
  · exact ⟨t, rfl⟩
theorem dict_frz {P : Program} {w : World} {H : Hp} {h : Heap} {a : Addr} {o : Obj} {kvs : List (Key × V)} (x : ObjOk P w H h a (.frz o (.dK kvs))) : ∃ vs, KV kvs vs ∧ h.DictAt (mixKind P w) a vs (epOf o) ∧ (a == sysModules) = false := by
  obtain ⟨h1, z, hd, vs, r, o', es, ep, h2, h3, h4, h5⟩ := x
  rw [h1] at h2
  cases h2
  refine ⟨vs, r, ⟨o, es, h1, h3, ?_, h5⟩, hd⟩
  have : epOf o = ep := by unfold epOf; rw [h4]
  rw [this]
  exact h4
theorem turn_keys {P : Program} {w : World} {K : PySem.W.Frag} {tg : Expr} (a it : Addr) (o : Obj) (kvs : List (Key × V)) : Turn P w K tg (Itk a o kvs) [it] it (fun i h => h.IsKeyIter it a i kvs.length (epOf o)) where
  mem := by simp
  obj := fun i h st b hb => by
    have e : b = it := by simpa using hb
    subst e
    obtain ⟨o, e, c, d⟩ := st
    exact ⟨o, e, fun v z => by rw [d] at z; cases z⟩
  keep := fun i h h' st k => st.at fun o e => k it (by simp) o e
  item := by
    intro X hP hw hK hc i pins s σ H E I hf st hg
    subst hP hw hK
    obtain ⟨ha, hi⟩ := hg
    obtain ⟨vs, r, dd, _⟩ := dict_frz (I.hok a _ ha)
    have hl := r.length
    obtain ⟨f0, f1, f2, f3, f4, f5⟩ := hf it (by simp)
    have hx : vs[i]? = some (vs[i]'(by (first | lia | omega))) := by simp [show i < vs.length by (first | lia | omega)]
    have hk : kvs[i]? = some kvs[i] := by simp [hi]
    have hkey : kvs[i].1 = (vs[i]'(by (first | lia | omega))).1 := by
      have e := r.keys
      have e1 : (kvs.map (·.1))[i]? = some kvs[i].1 := by rw [List.getElem?_map, hk]; rfl
      rw [e, List.getElem?_map, hx] at e1
      exact (Option.some.inj e1).symm
    rw [hl] at st
    refine wpAny_pyNext_dict_item st dd (k := (vs[i]'(by (first | lia | omega))).1) (v := (vs[i]'(by (first | lia | omega))).2) hx fun key h' hkk st' sb => ?_
    have I1 : Inv X pins σ H { s with heap := h' } := I.turned (t' := s.toks) (fun b o hb e => sb.extBut b o hb e) f0 f1 f3 f4 f5
    obtain ⟨o1, e1, c1, d1⟩ := id st'
    rw [← hl] at st'
    exact ⟨key, rfl, go_of (s := { s with heap := h' }) e1 c1 d1 (by decide) ⟨kV kvs[i].1, H, I1, by rw [hkey]; exact relKey hkk, ⟨rfl, _, hk, rfl⟩, st', fun b hb => (hf b hb).1⟩⟩
  done := by
    intro X hP hw hK hc i pins s σ H E I hf st hg
    subst hP hw hK
    obtain ⟨ha, hi⟩ := hg
    obtain ⟨vs, r, dd, _⟩ := dict_frz (I.hok a _ ha)
    have hl := r.length
    obtain ⟨f0, f1, f2, f3, f4, f5⟩ := hf it (by simp)
    rw [hl] at st
    exact wpAny_pyNext_dict_end (I.ok.hd hc) st dd (by simp; (first | lia | omega)) fun h' eb => ⟨rfl, I.turned (t' := s.toks) (fun b o hb e => eb b o hb e) f0 f1 f3 f4 f5⟩
  self := fun _ _ _ _ _ st h => wpAny_pyIter_keyiter st h
def iDict (td : TE) : TI := fun σ H R => td σ H fun x H1 => ∃ a kvs, x = .ref a ∧ Rd H1 a (.dK kvs) ∧ ∀ o, R (Itk a o kvs) (upd H1 a (.frz o (.dK kvs)))
section
variable {X : Cx} {tg : Expr}
theorem pi_dict {l : Expr} {tl : TE} (hl : PE X l tl) : PI X tg l (iDict tl) := by
  intro pins s σ H R I h
  refine thn (hl pins s σ H _ I h) fun v s1 ⟨x, H1, I1, r1, q1⟩ => ?_
  obtain ⟨a, kvs, e, hq, q⟩ := q1
  subst e
  cases r1
  obtain ⟨o, ho, I2⟩ := I1.freeze hq
  obtain ⟨vs, r, dd, hd⟩ := dict_frz (I2.hok a _ upd_same)
  have hln := r.length
  refine wpAny_pyIter_dict hd dd ?_
  rw [← hln]
  refine ⟨s1.heap.objs.size, [s1.heap.objs.size], _, _, upd H1 a (.frz o (.dK kvs)), rfl, I2.kept (t' := s1.toks) fun b o e => Heap.get?_push_of_some _ e, turn_keys a _ o kvs, ⟨_, Heap.get?_push_size _ rfl, rfl, rfl⟩, fun b hb => ?_, q o⟩
  have e : b = s1.heap.objs.size := by simpa using hb
  subst e
  exact I2.fpOk (Nat.le_refl _) (I2.hok.fresh (Nat.le_refl _))
theorem comp_keys {a : Addr} {o : Obj} {kvs : List (Key × V)} {own : Nat} {caps : List Nat} {g : TG} {tt : TT} {te : TE} {σ : St} {R : Hp → Prop} {l : Addr} {H1 : Hp} (Pv : Nat → List V → Hp → Prop) (h0 : Pv 0 [] (upd H1 l (.lst []))) (hz : kvs.length ≤ sizeLine)
    (hl : ∀ i ys H, i ≤ kvs.length → Pv i ys H → H a = some (.frz o (.dK kvs)) ∧ H l = some (.lst ys) ∧ ys.length ≤ i)
    (hs : ∀ i kv ys H, kvs[i]? = some kv → Pv i ys H → g (kV kv.1) (stC own caps σ) H fun σ2 H2 => Wk (stC own caps σ) σ2 ∧
      tt σ2 H2 fun b H3 => if b = true then te σ2 H3 fun y H4 => H4 l = some (.lst ys) ∧ Pv (i + 1) (ys ++ [y]) (upd H4 l (.lst (ys ++ [y]))) else Pv (i + 1) ys H3)
    (hd : ∀ ys H, Pv kvs.length ys H → R H) :
    ∃ W : Nat → Nat → List V → Hp → Prop, (∃ m, W 0 m [] (upd H1 l (.lst []))) ∧
      ∀ i m ys H, W i m ys H → H l = some (.lst ys) ∧ (((Itk a o kvs).stop i H ∧ R H) ∨ ((Itk a o kvs).go i H ∧ ys.length < sizeLine ∧ ∃ N : List V → Hp → Prop, (∀ ys' H', N ys' H' → ∃ m', m' < m ∧ W (i + 1) m' ys' H') ∧
        ∀ x H', (Itk a o kvs).yld i H x H' → g x (stC own caps σ) H' fun σ2 H2 => Wk (stC own caps σ) σ2 ∧
        tt σ2 H2 fun b H3 => if b = true then te σ2 H3 fun y H4 => H4 l = some (.lst ys) ∧ N (ys ++ [y]) (upd H4 l (.lst (ys ++ [y]))) else N ys H3)) := by
  refine ⟨fun i m ys H => m = kvs.length - i ∧ i ≤ kvs.length ∧ Pv i ys H, ⟨kvs.length, by simp, Nat.zero_le _, h0⟩, ?_⟩
  rintro i m ys H ⟨rfl, hi, p⟩
  obtain ⟨q, e1, e2⟩ := hl i ys H hi p
  refine ⟨e1, ?_⟩
  by_cases hlt : i < kvs.length
  · refine .inr ⟨⟨q, hlt⟩, by (first | lia | omega), Pv (i + 1), fun ys' H' p' => ⟨kvs.length - (i + 1), by (first | lia | omega), rfl, hlt, p'⟩, fun x H' y => ?_⟩
    obtain ⟨e, kv, hk, rfl⟩ := y
    subst e
    exact hs i kv ys _ hk p
  · have e : i = kvs.length := by (first | lia | omega)
    subst e
    exact .inl ⟨⟨q, Nat.le_refl _⟩, hd ys H p⟩
end
end L2

namespace L2
open PySem
end L2
namespace Ep
open PySem L2 PySem.SeqAt
def gainOf : List (Int × Int) → Int → Int
  | [], _ => 0
  | t :: r, n => (if t.1 = n then t.2 else 0) + gainOf r n
theorem gainOf_snoc (m g n : Int) : ∀ ts : List (Int × Int), gainOf (ts ++ [(m, g)]) n = gainOf ts n + if m = n then g else 0
  | [] => by simp [gainOf]
  | t :: r => by
    show (if t.1 = n then t.2 else 0) + gainOf (r ++ [(m, g)]) n = (if t.1 = n then t.2 else 0) + gainOf r n + _
    rw [gainOf_snoc m g n r]
    (first | lia | omega)
theorem gainOf_none {n : Int} : ∀ {ts : List (Int × Int)}, (∀ t ∈ ts, t.1 ≠ n) → gainOf ts n = 0
  | [], _ => rfl
  | t :: r, h => by
    show (if t.1 = n then t.2 else 0) + gainOf r n = 0
    rw [if_neg (h t (by simp)), gainOf_none fun x hx => h x (by simp [hx])]
    rfl
def mk1 (d q : Int) : Int := if 0 ≤ q ∧ q < d then 1 else if d ≤ q ∧ q < 0 then -1 else 0
theorem mk1_up (d q : Int) : mk1 d q + (if d = q then 1 else 0) = mk1 (d + 1) q := by
  unfold mk1
  by_cases e : d = q
  · rw [if_pos e]
    by_cases h : 0 ≤ q
    · rw [if_neg (show ¬ (0 ≤ q ∧ q < d) by (first | lia | omega)), if_neg (show ¬ (d ≤ q ∧ q < 0) by (first | lia | omega)), if_pos (show 0 ≤ q ∧ q < d + 1 by (first | lia | omega))]; rfl
    · rw [if_neg (show ¬ (0 ≤ q ∧ q < d) by (first | lia | omega)), if_pos (show d ≤ q ∧ q < 0 by (first | lia | omega)), if_neg (show ¬ (0 ≤ q ∧ q < d + 1) by (first | lia | omega)), if_neg (show ¬ (d + 1 ≤ q ∧ q < 0) by (first | lia | omega))]; rfl
  · rw [if_neg e, Int.add_zero]
    by_cases h : 0 ≤ q ∧ q < d
    · rw [if_pos h, if_pos (show 0 ≤ q ∧ q < d + 1 by (first | lia | omega))]
    · rw [if_neg h, if_neg (show ¬ (0 ≤ q ∧ q < d + 1) by (first | lia | omega))]
      by_cases g : d ≤ q ∧ q < 0
      · rw [if_pos g, if_pos (show d + 1 ≤ q ∧ q < 0 by (first | lia | omega))]
      · rw [if_neg g, if_neg (show ¬ (d + 1 ≤ q ∧ q < 0) by (first | lia | omega))]
theorem mk1_down (d q : Int) : mk1 d q + (if d + -1 = q then -1 else 0) = mk1 (d + -1) q := by
  have h := mk1_up (d + -1) q
  rw [show d + -1 + 1 = d by (first | lia | omega)] at h
  by_cases e : d + -1 = q
  · rw [if_pos e] at h ⊢; (first | lia | omega)
  · rw [if_neg e] at h ⊢; (first | lia | omega)
def markM (wide : Int) (t : List Int) (n : Int) : Int := mk1 (t.getD (n % wide).toNat 0) (n / wide)
def Acc (wide : Int) (t : List Int) (ts : List (Int × Int)) : Prop := ∀ n, gainOf ts n = markM wide t n
theorem Acc.start (wide : Int) : Acc wide (List.replicate wide.toNat 0) [] := fun n => by
  have e : (List.replicate wide.toNat (0 : Int)).getD (n % wide).toNat 0 = 0 := by
    rw [List.getD_eq_getElem?_getD, List.getElem?_replicate]
    split <;> rfl
  unfold markM
  rw [e]
  show (0 : Int) = mk1 0 _
  unfold mk1
  rw [if_neg (by (first | lia | omega)), if_neg (by (first | lia | omega))]
theorem num_at {wide l q : Int} (w1 : 1 ≤ wide) (l0 : 0 ≤ l) (l1 : l < wide) : (l + wide * q) % wide = l ∧ (l + wide * q) / wide = q := by
  constructor
  · rw [Int.add_mul_emod_self_left]
    exact Int.emod_eq_of_lt l0 l1
  · rw [Int.add_mul_ediv_left _ _ (by (first | lia | omega)), Int.ediv_eq_zero_of_lt l0 l1]
    (first | lia | omega)
theorem Acc.leave {wide : Int} {t : List Int} {ts : List (Int × Int)} {l c : Int} (w1 : 1 ≤ wide) (hl : t.length = wide.toNat) (A : Acc wide t ts) (l0 : 0 ≤ l) (l1 : l < wide) (hc : c = 1 ∨ c = -1) :
    Acc wide (t.set l.toNat (t.getD l.toNat 0 + c)) (ts ++ [(l + wide * (if c = 1 then t.getD l.toNat 0 else t.getD l.toNat 0 + c), c)]) := fun n => by
  rw [gainOf_snoc, A n]
  have m0 := Int.emod_nonneg n (show wide ≠ 0 by (first | lia | omega))
  have m1 := Int.emod_lt_of_pos n (show 0 < wide by (first | lia | omega))
  have dm := Int.emod_add_mul_ediv n wide
  have key : ∀ q : Int, l + wide * q = n ↔ n % wide = l ∧ n / wide = q := fun q => by
    constructor
    · rintro rfl
      exact num_at w1 l0 l1
    · rintro ⟨a, b⟩
      rw [← a, ← b]
      exact dm
  unfold markM
  rw [getD_set (by (first | lia | omega))]
  by_cases e : n % wide = l
  · have e1 : (n % wide).toNat = l.toNat := by rw [e]
    rw [if_pos e1, e1]
    rcases hc with rfl | rfl
    · rw [if_pos rfl, ← mk1_up]
      congr 1
      by_cases g : t.getD l.toNat 0 = n / wide
      · rw [if_pos ((key _).mpr ⟨e, g.symm⟩), if_pos g]
      · rw [if_neg (fun z => g ((key _).mp z).2.symm), if_neg g]
    · rw [if_neg (show ¬ (-1 : Int) = 1 by decide), ← mk1_down]
      congr 1
      by_cases g : t.getD l.toNat 0 + -1 = n / wide
      · rw [if_pos ((key _).mpr ⟨e, g.symm⟩), if_pos g]
      · rw [if_neg (fun z => g ((key _).mp z).2.symm), if_neg g]
  · rw [if_neg (show ¬ (n % wide).toNat = l.toNat by (first | lia | omega)), if_neg (fun z => e ((key _).mp z).1), Int.add_zero]
theorem owedG_mem {wide x : Int} : ∀ {i : Nat} {t : List Int}, x ∈ owedG wide i t ↔ ∃ (l : Nat) (q : Int), l < t.length ∧ t.getD l 0 ≤ q ∧ q < 0 ∧ x = ((i + l : Nat) : Int) + wide * q
  | i, [] => by simp [owedG]
  | i, c :: r => by
    show x ∈ numsM wide i c (-c).toNat ++ owedG wide (i + 1) r ↔ _
    rw [List.mem_append, numsM_mem, owedG_mem (i := i + 1) (t := r)]
    constructor
    · rintro (⟨j, hj, e⟩ | ⟨l, q, hl, h1, h2, e⟩)
      · exact ⟨0, c + j, by simp, by show c ≤ _; (first | lia | omega), by (first | lia | omega), by rw [e]; simp⟩
      · refine ⟨l + 1, q, by simp; (first | lia | omega), by simpa using h1, h2, ?_⟩
        rw [e, show i + 1 + l = i + (l + 1) by (first | lia | omega)]
    · rintro ⟨l, q, hl, h1, h2, e⟩
      cases l with
      | zero =>
        have h1' : c ≤ q := by simpa using h1
        exact .inl ⟨(q - c).toNat, by (first | lia | omega), by rw [e, Int.toNat_of_nonneg (by (first | lia | omega))]; simp; congr 1; (first | lia | omega)⟩
      | succ l =>
        refine .inr ⟨l, q, by simp at hl; (first | lia | omega), by simpa using h1, h2, ?_⟩
        rw [e, show i + 1 + l = i + (l + 1) by (first | lia | omega)]
theorem owed_iff {wide : Int} {t : List Int} (w1 : 1 ≤ wide) (hl : t.length = wide.toNat) {n : Int} : n ∈ owedG wide 0 t ↔ t.getD (n % wide).toNat 0 ≤ n / wide ∧ n / wide < 0 := by
  rw [owedG_mem]
  have m0 := Int.emod_nonneg n (show wide ≠ 0 by (first | lia | omega))
  have m1 := Int.emod_lt_of_pos n (show 0 < wide by (first | lia | omega))
  have dm := Int.emod_add_mul_ediv n wide
  constructor
  · rintro ⟨l, q, h1, h2, h3, e⟩
    obtain ⟨e1, e2⟩ := num_at (wide := wide) (l := (l : Int)) (q := q) w1 (by (first | lia | omega)) (by (first | lia | omega))
    rw [Nat.zero_add] at e
    rw [e, e1, e2, Int.toNat_natCast]
    exact ⟨h2, h3⟩
  · rintro ⟨h1, h2⟩
    refine ⟨(n % wide).toNat, n / wide, by (first | lia | omega), h1, h2, ?_⟩
    rw [Nat.zero_add, Int.toNat_of_nonneg m0]
    exact dm.symm
theorem stand_iff' {wide : Int} {t : List Int} (w1 : 1 ≤ wide) (hl : t.length = wide.toNat) {n : Int} : n ∈ standG wide 0 t ↔ 0 ≤ n / wide ∧ n / wide < t.getD (n % wide).toNat 0 := by
  by_cases hn : 0 ≤ n
  · rw [stand_iff w1 hl hn]
    have := Int.ediv_nonneg hn (show 0 ≤ wide by (first | lia | omega))
    constructor
    · exact fun h => ⟨this, h⟩
    · exact fun h => h.2
  · constructor
    · intro h
      exact absurd (stand_nonneg w1 h) hn
    · rintro ⟨h, _⟩
      have := Int.ediv_neg_of_neg_of_pos (show n < 0 by (first | lia | omega)) (show 0 < wide by (first | lia | omega))
      (first | lia | omega)
theorem Acc.pos {wide : Int} {t : List Int} {ts : List (Int × Int)} (w1 : 1 ≤ wide) (hl : t.length = wide.toNat) (A : Acc wide t ts) (n : Int) : 0 < gainOf ts n ↔ n ∈ standG wide 0 t := by
  rw [A n, stand_iff' w1 hl]
  unfold markM mk1
  split
  · rename_i h; exact ⟨fun _ => h, fun _ => by decide⟩
  · rename_i h
    constructor
    · intro z; split at z <;> (first | lia | omega)
    · exact fun z => absurd z h
theorem Acc.neg {wide : Int} {t : List Int} {ts : List (Int × Int)} (w1 : 1 ≤ wide) (hl : t.length = wide.toNat) (A : Acc wide t ts) (n : Int) : gainOf ts n < 0 ↔ n ∈ owedG wide 0 t := by
  rw [A n, owed_iff w1 hl]
  unfold markM mk1
  split
  · rename_i h
    constructor
    · intro z; (first | lia | omega)
    · intro z; (first | lia | omega)
  · split
    · rename_i h; exact ⟨fun _ => h, fun _ => by decide⟩
    · rename_i h
      constructor
      · intro z; (first | lia | omega)
      · exact fun z => absurd z h
structure LeftIs (ts : List (Int × Int)) (kvs : List (Key × V)) : Prop where
  nd : (kvs.map (·.1)).Nodup
  ev : ∀ kv ∈ kvs, ∃ n, kv = (Sum.inl n, V.int (gainOf ts n))
  al : ∀ t ∈ ts, (Sum.inl t.1 : Key) ∈ kvs.map (·.1)
  ln : kvs.length ≤ ts.length
theorem valV_none_of {kvs : List (Key × V)} {k : Key} (h : k ∉ kvs.map (·.1)) : valV kvs k = none := by
  induction kvs with
  | nil => rfl
  | cons p r ih =>
    rw [List.map_cons] at h
    rw [valV_neg (fun z => h (by rw [z]; simp))]
    exact ih fun z => h (List.mem_cons_of_mem _ z)
theorem LeftIs.val {ts : List (Int × Int)} {kvs : List (Key × V)} (L : LeftIs ts kvs) (n : Int) : (valV kvs (Sum.inl n)).getD (.int 0) = .int (gainOf ts n) := by
  by_cases h : (Sum.inl n : Key) ∈ kvs.map (·.1)
  · have ev := L.ev
    clear L
    induction kvs with
    | nil => simp at h
    | cons p r ih =>
      by_cases e : p.1 = Sum.inl n
      · rw [valV_pos e]
        obtain ⟨m, hm⟩ := ev p (by simp)
        rw [hm] at e ⊢
        have e' : m = n := Sum.inl.inj e
        rw [e']
        rfl
      · rw [valV_neg e]
        rw [List.map_cons, List.mem_cons] at h
        exact ih (h.resolve_left fun z => e z.symm) fun kv hkv => ev kv (List.mem_cons_of_mem _ hkv)
  · rw [valV_none_of h, gainOf_none fun t ht z => h (by rw [← z]; exact L.al t ht)]
    rfl
theorem LeftIs.has {ts : List (Int × Int)} {kvs : List (Key × V)} (L : LeftIs ts kvs) {kv : Key × V} (h : kv ∈ kvs) : ∃ n, kv.1 = Sum.inl n ∧ valV kvs (Sum.inl n) = some (.int (gainOf ts n)) := by
  obtain ⟨n, e⟩ := L.ev kv h
  refine ⟨n, by rw [e], ?_⟩
  have v := L.val n
  cases q : valV kvs (Sum.inl n) with
  | some x => rw [q] at v; exact congrArg some v
  | none =>
    have a := valV_any (κ := Key) (Sum.inl n) kvs
    rw [q, Option.isSome_none] at a
    have : (kvs.any fun kv => decide (kv.1 = Sum.inl n)) = true := List.any_eq_true.mpr ⟨kv, h, by rw [e]; simp⟩
    rw [this] at a
    cases a
theorem LeftIs.nil : LeftIs [] [] := ⟨List.nodup_nil, fun _ h => (nomatch h), fun _ h => (nomatch h), Nat.le_refl _⟩
theorem LeftIs.put {ts : List (Int × Int)} {kvs : List (Key × V)} (L : LeftIs ts kvs) (n g : Int) : LeftIs (ts ++ [(n, g)]) (putK kvs (Sum.inl n) (.int (gainOf ts n + g))) := by
  have key : ∀ m, gainOf (ts ++ [(n, g)]) m = gainOf ts m + if n = m then g else 0 := fun m => gainOf_snoc n g m ts
  have len := length_putK kvs (Sum.inl n) (V.int (gainOf ts n + g))
  have ln := L.ln
  by_cases a : (kvs.any fun kv => decide (kv.1 = Sum.inl n)) = true
  · have e : putK kvs (Sum.inl n) (.int (gainOf ts n + g)) = kvs.map (fun kv => if kv.1 = Sum.inl n then (kv.1, V.int (gainOf ts n + g)) else kv) := by unfold putK; rw [if_pos a]
    rw [e] at len ⊢
    have ek : (kvs.map (fun kv => if kv.1 = Sum.inl n then (kv.1, V.int (gainOf ts n + g)) else kv)).map (·.1) = kvs.map (·.1) := by
      rw [List.map_map]
      refine List.map_congr_left fun kv _ => ?_
      show (if kv.1 = Sum.inl n then (kv.1, V.int (gainOf ts n + g)) else kv).1 = kv.1
      split <;> rfl
    refine ⟨by rw [ek]; exact L.nd, fun kv hkv => ?_, fun t ht => ?_, Nat.le_trans len (by rw [List.length_append, List.length_singleton]; exact Nat.add_le_add_right ln 1)⟩
    · obtain ⟨p, hp, rfl⟩ := List.mem_map.mp hkv
      obtain ⟨m, rfl⟩ := L.ev p hp
      refine ⟨m, ?_⟩
      by_cases z : m = n
      · subst z
        rw [if_pos rfl, key, if_pos rfl]
      · rw [if_neg (fun h => z (Sum.inl.inj h)), key, if_neg (Ne.symm z), Int.add_zero]
    · rw [ek]
      rcases List.mem_append.mp ht with h | h
      · exact L.al t h
      · rw [List.mem_singleton.mp h]
        obtain ⟨kv, h1, h2⟩ := List.any_eq_true.mp a
        exact List.mem_map.mpr ⟨kv, h1, of_decide_eq_true h2⟩
  · have no : (Sum.inl n : Key) ∉ kvs.map (·.1) := fun h => by
      obtain ⟨kv, h1, h2⟩ := List.mem_map.mp h
      exact a (List.any_eq_true.mpr ⟨kv, h1, decide_eq_true h2⟩)
    have e : putK kvs (Sum.inl n) (.int (gainOf ts n + g)) = kvs ++ [(Sum.inl n, V.int (gainOf ts n + g))] := by unfold putK; rw [if_neg a]
    rw [e] at len ⊢
    refine ⟨?_, fun kv hkv => ?_, fun t ht => ?_, Nat.le_trans len (by rw [List.length_append, List.length_singleton]; exact Nat.add_le_add_right ln 1)⟩
    · rw [List.map_append]
      refine List.nodup_append.mpr ⟨L.nd, by simp, fun x hx y hy z => no ?_⟩
      have : y = Sum.inl n := by simpa using hy
      rw [← this, ← z]
      exact hx
    · rcases List.mem_append.mp hkv with h | h
      · obtain ⟨m, rfl⟩ := L.ev kv h
        refine ⟨m, ?_⟩
        have z : n ≠ m := fun z => no (by rw [z]; exact List.mem_map.mpr ⟨_, h, rfl⟩)
        rw [key, if_neg z, Int.add_zero]
      · rw [List.mem_singleton.mp h]
        refine ⟨n, ?_⟩
        rw [key, if_pos rfl]
    · rw [List.map_append]
      rcases List.mem_append.mp ht with h | h
      · exact List.mem_append_left _ (L.al t h)
      · rw [List.mem_singleton.mp h]
        exact List.mem_append_right _ (by simp)
def keyI : Key → Int
  | .inl n => n
  | .inr _ => 0
def keysI (kvs : List (Key × V)) : List Int := kvs.map fun kv => keyI kv.1
theorem LeftIs.keys_nodup {ts : List (Int × Int)} {kvs : List (Key × V)} (L : LeftIs ts kvs) : (keysI kvs).Nodup := by
  have nd := L.nd
  have ev := L.ev
  clear L
  induction kvs with
  | nil => exact List.nodup_nil
  | cons p r ih =>
    rw [List.map_cons, List.nodup_cons] at nd
    show (keyI p.1 :: keysI r).Nodup
    refine List.nodup_cons.mpr ⟨fun h => nd.1 ?_, ih nd.2 fun kv hkv => ev kv (List.mem_cons_of_mem _ hkv)⟩
    obtain ⟨kv, h1, h2⟩ := List.mem_map.mp h
    obtain ⟨m, em⟩ := ev kv (List.mem_cons_of_mem _ h1)
    obtain ⟨n, en⟩ := ev p (by simp)
    have e1 : kv.1 = Sum.inl m := by rw [em]
    have e2 : p.1 = Sum.inl n := by rw [en]
    have : m = n := by
      have h2' : keyI kv.1 = keyI p.1 := h2
      rw [e1, e2] at h2'
      exact h2'
    exact List.mem_map.mpr ⟨kv, h1, by rw [e1, e2, this]⟩
theorem LeftIs.mem {ts : List (Int × Int)} {kvs : List (Key × V)} (L : LeftIs ts kvs) {n : Int} (h : gainOf ts n ≠ 0) : n ∈ keysI kvs := by
  by_cases g : ∃ t ∈ ts, t.1 = n
  · obtain ⟨t, ht, rfl⟩ := g
    obtain ⟨kv, h1, h2⟩ := List.mem_map.mp (L.al t ht)
    exact List.mem_map.mpr ⟨kv, h1, by rw [h2]; rfl⟩
  · exact absurd (gainOf_none fun t ht z => g ⟨t, ht, z⟩) h
end Ep
namespace L2
open PySem
theorem while_d {c : TT} {tb : TS} {D : Ends} {σ : St} {H : Hp} (Pv : Nat → St → Hp → Prop) (m0 : Nat) (h0 : Pv m0 σ H)
    (hs : ∀ m σ H, Pv m σ H → c σ H fun b H1 => if b = true then ∃ N : St → Hp → Prop, (∀ σ' H', N σ' H' → ∃ m', m' < m ∧ Pv m' σ' H') ∧ tb { D with nx := N, ct := N, bk := D.nx } σ H1 else D.nx σ H1) : tWhile c tb D σ H := ⟨Pv, ⟨m0, h0⟩, hs⟩
end L2
namespace Ep
open PySem L2 PySem.SeqAt
section
variable {C : Addr} {G H H' : Hp} {p : Addr} {v : V} {wide : Int} {ws : List (Int × Int)} {L : PlL} {st : PlS} {lt li pn : Addr} {ts is : List (Int × Int)}
theorem WsL.put {a : Addr} {xs : List V} {o : HO} {l : Addr} {us : List (Int × Int)} (h : WsL H l us) (ha : H a = some (.lst xs)) (n : l ≠ a) : WsL (upd H a o) l us := WsL.kp Kp.upd ha n h
theorem one_dj {S : List Addr} {y : Addr} (h : y ∉ S) : Dj S [y] := fun a ha hm => h (by simp at hm; rw [← hm]; exact ha)
end
end Ep

namespace L2
open PySem PySem.Spec PyProof.Rows
section
variable {prog : Program} {w : World} {A : Around} {E : Value → Shared → Prop} {s : Shared}
theorem miss_keys : typeLookup (.type "list") "keys" = pure none := by rw [typeLookup_type, builtinLookup_eq_fast]; kernel_rfl
theorem getAttrQ_miss {a : Addr} {xs : Array Value} {k : Nat} {name : Str} {Q : Option Value → Shared → Prop}
    (hx : s.heap.get? a = some { cls := .type "list", data := .seq xs k }) (hmiss : typeLookup (.type "list") name = pure none) (hname : (["__module__", "__name__", "__qualname__", "__doc__", "__annotations__"] : List Str).contains name = false) (hA : A.handled = none)
    (h : ∀ h' tk, (∀ b ob, s.heap.get? b = some ob → h'.get? b = some ob) → Q none { s with heap := h', toks := tk }) (hsz : name.length + 100 ≤ sizeLine) :
    wpAny (model prog w) A (getAttr? (.ref a) name) Q E s := by
  obtain ⟨hp, g, d, tk, os⟩ := s
  have hT : ∀ tk', (⟨hp, g, d, tk', os⟩ : Shared).TypeIs (.ref a) "list" := fun _ => ⟨_, hx, rfl⟩
  have f1 := sub_AttributeError
  have f3 := F.slot_list_getattribute.lookup
  have f4 := F.slot_list_getattribute.bind (.ref a)
  have f5 := am_list_getattr_none
  unfold getAttr? getAttrBy? getAttrBy
  repeat (any_goals (first | assumption | exact hT _ | ((with_reducible show wpAny _ _ (call (Value.builtin "list.__getattribute__") _ _) _ _ _); refine call_meets F.slot_list_getattribute (hT _) am_entry_list_getattribute (F.args_list_getattribute_2 _ _) (meets_getattribute_miss_list a xs k _ name _ hmiss hname hsz) ⟨hx, hA, fun h' tk' e hx' => ?_⟩) | wp_step))
  obtain ⟨t', u', he⟩ := hx'.there
  show wpAny _ _ (getattributeRaised _ _ _ _ _ _ _) _ _ _
  unfold getattributeRaised
  repeat (any_goals (first | assumption | wp_step))
  exact h _ _ hx'.keeps
end
end L2
namespace L2
open PySem PySem.Spec PyProof.Rows
theorem entry_upd : entryFor table "dict.update.loop" = some Builtin.«dict.update.loop» := entryFor_of_tree (by kernel_rfl)
theorem plain_upd : plainId "dict.update.loop" = true := by decide +kernel
section
variable {P : Program} {w : World}
theorem dl_turns {A : Around} {R : Result → Shared → Prop} {it l d : Addr} {vals : List Value} {prs : List (Key × Value)} (hh : A.handled = none) (h1 : l ≠ it) (h2 : d ≠ it) (h3 : l ≠ d) (hl : vals.length = prs.length) :
    ∀ (k j : Nat) (s : Shared) (kvs : List (Key × Value)), prs.length - j = k → j ≤ prs.length → s.heap.IsListIter it l j → s.heap.IsList l vals.toArray →
      (∀ (i : Nat) (p : Key × Value), prs[i]? = some p → ∃ (t : Addr) (key : Value), vals[i]? = some (.ref t) ∧ keyIs p.1 key = true ∧ s.heap.IsTuple t #[key, p.2] ∧ t ≠ it ∧ t ≠ d) →
      s.heap.DictOf (mixKind P w) d kvs → kvs.length + (prs.length - j) ≤ sizeLine →
      (∀ h' tk, h'.DictOf (mixKind P w) d (merged kvs (prs.drop j)) → (∀ b o, b ≠ it → b ≠ d → s.heap.get? b = some o → h'.get? b = some o) → R (.ok (.ret .none)) { s with heap := h', toks := tk }) →
      codeAny (model P w) A (.builtin "dict.update.loop" ⟨[.ref d, .ref it, rawInt (j : Int), .none], []⟩) R s := by
  intro k
  induction k with
  | zero =>
    intro j s kvs hk hj st sl tp dd sz done
    have ej : j = prs.length := by (first | lia | omega)
    subst ej
    refine codeAny_builtin entry_upd ?_
    rw [Around.under_plainId plain_upd _]
    show wpAny (model P w) A.in1 (pyNext (.ref it) >>= _) _ _ s
    refine wpAny_bind (wpAny_pyNext_list_end hh st sl (by simp; (first | lia | omega)) fun h' ek => ?_)
    show wpAny (model P w) A.in1 (Builtin.Dict.addKeywords d [] >>= _) _ _ _
    refine wpAny_bind (wpAny_pure (wpAny_pure ?_))
    rw [List.drop_length] at done
    refine done h' s.toks (dd.extBut ek h2) fun b o n1 n2 e => ek b o n1 e
  | succ k ih =>
    intro j s kvs hk hj st sl tp dd sz done
    have lt : j < prs.length := by (first | lia | omega)
    have hp : prs[j]? = some prs[j] := by simp [lt]
    obtain ⟨t, key, hv, hkey, ht, nt1, nt2⟩ := tp j _ hp
    refine codeAny_builtin entry_upd ?_
    rw [Around.under_plainId plain_upd _]
    show wpAny (model P w) A.in1 (pyNext (.ref it) >>= _) _ _ s
    refine wpAny_bind (wpAny_pyNext_list_item st sl (x := .ref t) (by simpa using hv) fun h' st' sb => ?_)
    have keep : ∀ b o, b ≠ it → s.heap.get? b = some o → h'.get? b = some o := fun b o n e => (sb.2 b n).trans e
    have ht' : h'.IsTuple t #[key, prs[j].2] := ht.at fun o e => keep t o nt1 e
    have dd' : h'.DictOf (mixKind P w) d kvs := dd.extBut sb.extBut h2
    refine wpAny_bind (wpAny_holding (wpAny_bind (wpAny_tryCatch ?_)))
    obtain ⟨o, ho, hc, n, hd⟩ := id ht'
    show wpAny (model P w) A.in1 (typeOf (.ref t) >>= _) _ _ _
    refine wpAny_bind (wpAny_typeOf (T := "tuple") ⟨o, ho, hc⟩ ?_)
    rw [if_pos (by decide)]
    refine wpAny_bind (wpAny_seqItems ho hd (wpAny_pure ?_))
    show wpAny (model P w) A.in1 (holding [key, prs[j].2] (dictSet d key prs[j].2)) _ _ _
    refine wpAny_holding (wpAny_dictSet_pairs (knd := mixKind P w) (k := prs[j].1) hkey dd' (fun h'' dd'' sb' => ?_) (by (first | lia | omega)))
    have keep2 : ∀ b o, b ≠ it → b ≠ d → s.heap.get? b = some o → h''.get? b = some o := fun b o n1 n2 e => (sb'.2 b n2).trans (keep b o n1 e)
    have ls : (stored kvs prs[j].1 prs[j].2).length ≤ kvs.length + 1 := by
      unfold stored
      split
      · rw [List.length_map]; (first | lia | omega)
      · rw [List.length_append, List.length_singleton]; (first | lia | omega)
    refine wpAny_pure ⟨plainId_quiet plain_upd _, ?_⟩
    refine ih (j + 1) _ (stored kvs prs[j].1 prs[j].2) (by (first | lia | omega)) lt (st'.at fun o e => (sb'.2 it (Ne.symm h2)).trans e) (sl.at fun o e => keep2 l o h1 h3 e) (fun i p hi => ?_) dd'' (by (first | lia | omega)) fun h3' tk hd' hk' => ?_
    · obtain ⟨t', key', a1, a2, a3, a4, a5⟩ := tp i p hi
      exact ⟨t', key', a1, a2, a3.at fun o e => keep2 t' o a4 a5 e, a4, a5⟩
    · refine done h3' tk ?_ fun b o n1 n2 e => hk' b o n1 n2 (keep2 b o n1 n2 e)
      have ed : prs.drop j = prs[j] :: prs.drop (j + 1) := List.drop_eq_getElem_cons lt
      rw [ed]
      exact hd'
theorem call_dict_list {A : Around} {E Q : Value → Shared → Prop} {s : Shared} {l : Addr} {vals : List Value} {n : Nat} {prs : List (Key × Value)} (hh : A.handled = none) (hl : s.heap.get? l = some { cls := .type "list", data := .seq vals.toArray n }) (hln : vals.length = prs.length) (hsz : prs.length ≤ sizeLine)
    (tp : ∀ (i : Nat) (p : Key × Value), prs[i]? = some p → ∃ (t : Addr) (key : Value), vals[i]? = some (.ref t) ∧ keyIs p.1 key = true ∧ s.heap.IsTuple t #[key, p.2])
    (h : ∀ h' tk, h'.DictOf (mixKind P w) s.heap.objs.size (merged [] prs) → (∀ b o, s.heap.get? b = some o → h'.get? b = some o) → Q (.ref s.heap.objs.size) { s with heap := h', toks := tk }) :
    wpAny (model P w) A (call (.type "dict") [.ref l]) Q E s := by
  refine callType_codes (Q₁ := fun obj s₁ => obj = .ref s.heap.objs.size ∧ s₁ = { s with heap := s.heap.push { cls := .type "dict", data := .dict #[] } }) PySem.F.kt_called_dict (PySem.F.kt_typeCall_dict_1 _) PySem.F.entry_dict_init (kt_code_dict_new _ ⟨rfl, rfl⟩) ?_
  rintro obj s₁ ⟨rfl, rfl⟩
  have hnew : (s.heap.push { cls := .type "dict", data := .dict #[] }).DictOf (mixKind P w) s.heap.objs.size [] := Heap.DictOf.new s.heap
  have hl' : (s.heap.push { cls := .type "dict", data := .dict #[] }).get? l = some { cls := .type "list", data := .seq vals.toArray n } := Heap.get?_push_of_some _ hl
  refine ⟨hnew.typeIs, PySem.F.args_dict_init_2 _ _, ?_⟩
  unfold Builtin.«dict.__init__»
  refine wpAny_bind ?_
  unfold Builtin.Dict.selfAndRest
  refine wpAny_bind (wpAny_notOrdered_dict hnew.typeIs ?_)
  show wpAny _ _ (pure (s.heap.objs.size, [Value.ref l])) _ _ _
  refine wpAny_pure ?_
  show wpAny _ _ (Builtin.Dict.updateFrom "dict.__init__" s.heap.objs.size (.ref l) [] .none) _ _ _
  unfold Builtin.Dict.updateFrom
  refine wpAny_bind (wpAny_typeOf (T := "list") ⟨_, hl', rfl⟩ ?_)
  rw [if_pos (by decide)]
  refine wpAny_bind (getAttrQ_miss hl' miss_keys (by decide +kernel) hh (fun h1 tk1 k1 => ?_) (by rw [sizeLine_eq]; decide +kernel))
  rw [if_pos (by rfl)]
  refine wpAny_bind (wpAny_rule ?_)
  have hl1 : h1.get? l = some { cls := .type "list", data := .seq vals.toArray n } := k1 _ _ hl'
  have il1 : h1.IsList l vals.toArray := ⟨_, hl1, rfl, n, rfl⟩
  refine wpAny_bind (wpAny_pyIter_list il1 ?_)
  have dlt : s.heap.objs.size < h1.objs.size := by
    obtain ⟨o, _, _, e, _⟩ := hnew
    exact Heap.lt_size (k1 _ _ e)
  have llt : l < s.heap.objs.size := Heap.lt_size hl
  have grow : ∀ b o, s.heap.get? b = some o → (h1.push { cls := .type "list_iterator", data := .fields #[.ref l, .int 0 0] }).get? b = some o := fun b o e => Heap.get?_push_of_some _ (k1 _ _ (Heap.get?_push_of_some _ e))
  have dd1 : (h1.push { cls := .type "list_iterator", data := .fields #[.ref l, .int 0 0] }).DictOf (mixKind P w) s.heap.objs.size [] := by
    obtain ⟨o, es, ep, e, r⟩ := hnew
    exact ⟨o, es, ep, Heap.get?_push_of_some _ (k1 _ _ e), r⟩
  refine wpAny_pure ⟨plainId_quiet plain_upd _, ?_⟩
  refine dl_turns (P := P) (w := w) (A := A.in1) (it := h1.objs.size) (l := l) (d := s.heap.objs.size) (vals := vals) (prs := prs) hh (Nat.ne_of_lt (Nat.lt_trans llt dlt)) (Nat.ne_of_lt dlt) (Nat.ne_of_lt llt) hln _ 0 _ ([] : List (Key × Value)) rfl (Nat.zero_le _) ?_ ?_ ?_ ?_ ?_ ?_
  · exact ⟨_, Heap.get?_push_size _ rfl, rfl, rfl⟩
  · exact il1.push _
  · intro i p hi
    obtain ⟨t, key, a1, a2, a3⟩ := tp i p hi
    have tl : t < s.heap.objs.size := let ⟨_, e, _⟩ := a3; Heap.lt_size e
    exact ⟨t, key, a1, a2, a3.at fun o e => grow t o e, Nat.ne_of_lt (Nat.lt_trans tl dlt), Nat.ne_of_lt tl⟩
  · exact dd1
  · simpa using hsz
  · intro h' tk hd' hk'
    exact ⟨rfl, h h' tk hd' fun b o e => hk' b o (Nat.ne_of_lt (Nat.lt_trans (Heap.lt_size e) dlt)) (Nat.ne_of_lt (Heap.lt_size e)) (grow b o e)⟩
end
abbrev PrsAt (H : Hp) : List V → List (Key × V) → Prop := Paired fun r kv => ∃ t, r = .ref t ∧ H t = some (.tup [kV kv.1, kv.2])
inductive P_call_dictL (K : PySem.W.Frag) (xs : List V) (H : Hp) (Q : VK) : Prop
  | mk (p : Addr) (rs : List V) (kvs : List (Key × V)) (h1 : xs = [.ref p]) (h2 : H p = some (.lst rs)) (h3 : PrsAt H rs kvs) (h4 : ∀ d, H d = none → Q (.ref d) (upd H d (.dK (mergeK [] kvs)))) : P_call_dictL K xs H Q
section
variable {X : Cx}
theorem prs_read {P : Program} {w : World} {H : Hp} {h : Heap} (ok : HOk P w H h) : ∀ {rs : List V} {kvs : List (Key × V)} {its : List Value}, PrsAt H rs kvs → Vals rs its → ∃ prs : List (Key × Value), KV kvs prs ∧ prs.length = its.length ∧ ∀ (i : Nat) (p : Key × Value), prs[i]? = some p → ∃ (t : Addr) (key : Value), its[i]? = some (.ref t) ∧ keyIs p.1 key = true ∧ h.IsTuple t #[key, p.2]
  | _, _, _, .nil, .nil => ⟨[], .nil, rfl, fun i p e => by simp at e⟩
  | _, _, _, @Paired.cons _ _ _ r kv rs kvs hr tr, .cons hv tv => by
    obtain ⟨prs, a, b, c⟩ := prs_read ok tr tv
    obtain ⟨t, rfl, ht⟩ := hr
    cases hv
    obtain ⟨_, its, rv, hit⟩ := (show ObjOk P w H h t (.tup [kV kv.1, kv.2]) from ok t _ ht)
    cases rv with
    | @cons x1 u1 xs1 us1 hk rv =>
      cases rv with
      | @cons x2 u2 xs2 us2 hv2 rv =>
        cases rv
        refine ⟨(kv.1, u2) :: prs, .cons ⟨rfl, hv2⟩ a, by simp [b], fun i p e => ?_⟩
        cases i with
        | zero =>
          cases e
          exact ⟨t, u1, rfl, kV_is (P := P) (w := w) hk, hit.tup⟩
        | succ i =>
          obtain ⟨t', key, z1, z2, z3⟩ := c i p (by simpa using e)
          exact ⟨t', key, by simpa using z1, z2, z3⟩
theorem call_dictL (hc : X.calm = true) : CallR X (.type "dict") (P_call_dictL X.K) := by
  intro pins s σ H xs us Q I r h
  obtain ⟨p, rs, kvs, rfl, hp, hpr, q⟩ := h
  obtain ⟨u, rfl, ru⟩ := r.one
  cases ru
  obtain ⟨hz, its, n, rv, hg⟩ := (show ObjOk X.prog X.w H s.heap p (.lst rs) from I.hok p _ hp)
  obtain ⟨prs, kv, hl, tp⟩ := prs_read I.hok hpr rv
  have hlen := rv.length
  refine call_dict_list (I.ok.hd hc) hg hl.symm (by (first | lia | omega)) tp fun h' tk dd kk => ?_
  have hn := I.hok.fresh (Nat.le_refl s.heap.objs.size)
  have lm := length_mergeK kvs []
  rw [List.length_nil] at lm
  have lk := Paired.length hpr
  refine ⟨.ref s.heap.objs.size, _, I.laid (a := s.heap.objs.size) (o := .dK (mergeK [] kvs)) (t' := tk) kk (Nat.le_refl _) (dk_new (by (first | lia | omega)) (beq_eq_false_iff_ne.mpr (Ne.symm (Nat.ne_of_lt I.big))) (kv.merge .nil) dd), rfl, q _ hn⟩
inductive REqDKP (x y : V) (H : Hp) (Q : VK) : Prop
  | mk (a b : Addr) (ka kb : List (Key × V)) (h1 : x = .ref a) (h2 : y = .ref b) (h3 : Rd H a (.dK ka)) (h4 : Rd H b (.dK kb)) (h5 : ka.length = kb.length) (h6 : ∀ kv ∈ ka, ∃ i, kv.2 = .int i ∧ valV kb kv.1 = some (.int i)) (h7 : Q (.bl true) H) : REqDKP x y H Q
def rEqDK : R2 := fun x y H Q => REqDKP x y H Q
theorem hits_of {A : Around} {s : Shared} {kb : List (Key × V)} {vb : List (Key × Value)} (rb : KV kb vb) : ∀ {ka : List (Key × V)} {va : List (Key × Value)}, KV ka va → (∀ kv ∈ ka, ∃ i, kv.2 = .int i ∧ valV kb kv.1 = some (.int i)) → PySem.W.KeqHits A s vb va true
  | _, _, .nil, _ => .nil
  | _, _, @Paired.cons _ _ _ p q ps qs h t, hv => by
    obtain ⟨i, e1, e2⟩ := hv p (by simp)
    obtain ⟨h1, h2⟩ := h
    rw [e1] at h2
    obtain ⟨t1, e3⟩ := h2
    have r := rb.val p.1
    rw [e2] at r
    cases ev : valueAt vb p.1 with
    | none => rw [ev] at r; exact (show False from r).elim
    | some y =>
      rw [ev] at r
      obtain ⟨t2, rfl⟩ := (show ∃ t, y = Value.int i t from r)
      obtain ⟨k, v⟩ := q
      have h1' : p.1 = k := h1
      subst h1'
      have e3' : v = Value.int i t1 := e3
      subst e3'
      have := PySem.W.KeqHits.hit (A := A) (s := s) (kb := vb) (e := true) ev (show SeqAt.EqAt A s (Value.int i t1) (Value.int i t2) true by have := SeqAt.EqAt.int_int (A := A) (s := s) i t1 i t2; rw [beq_self_eq_true] at this; exact this) (hits_of rb t fun kv hkv => hv kv (List.mem_cons_of_mem _ hkv))
      simpa using this
theorem op_eqDK (hu : X.A.units < cLine) : OpR X (compareOp .Eq) rEqDK := by
  intro pins s σ H x y v u Q I rx ry h
  obtain ⟨a, b, ka, kb, rfl, rfl, ha, hb, hl, hv, q⟩ := h
  cases rx
  cases ry
  obtain ⟨_, la, va, ra, da⟩ := dk_rd I.hok ha
  obtain ⟨_, lb, vb, rb, db⟩ := dk_rd I.hok hb
  have l1 := ra.length
  have l2 := rb.length
  refine PySem.W.keq_eq (r := true) la lb da db hu (fun _ => hits_of rb ra hv) ?_
  rw [show (va.length == vb.length) = true by rw [beq_iff_eq]; (first | lia | omega)]
  exact ⟨.bl true, H, I, rfl, q⟩
end
end L2

namespace L2
open PySem PySem.Spec PyProof.Rows
theorem boot_dictT : bootBuiltins "dict" = some (.type "dict") := by decide +kernel
theorem mergeK_app : ∀ (l acc : List (Key × V)), (l.map (·.1)).Nodup → (∀ k ∈ l.map (·.1), k ∉ acc.map (·.1)) → mergeK acc l = acc ++ l
  | [], acc, _, _ => by simp [mergeK]
  | p :: r, acc, nd, h => by
    rw [List.map_cons, List.nodup_cons] at nd
    have e : putK acc p.1 p.2 = acc ++ [p] := putK_new p.2 (Ep.valV_none_of (h p.1 (by simp)))
    show mergeK (putK acc p.1 p.2) r = acc ++ p :: r
    rw [e, mergeK_app r (acc ++ [p]) nd.2 fun k hk hm => ?_]
    · simp
    · rw [List.map_append, List.mem_append] at hm
      rcases hm with hm | hm
      · exact h k (by simp [hk]) hm
      · have : k = p.1 := by simpa using hm
        exact nd.1 (this ▸ hk)
end L2
namespace Ep
open PySem L2 PySem.SeqAt
theorem gainOf_perm {n : Int} {a b : List (Int × Int)} (h : a.Perm b) : gainOf a n = gainOf b n := by
  induction h with
  | nil => rfl
  | cons x _ ih => show _ + gainOf _ n = _ + gainOf _ n; rw [ih]
  | swap x y l => show _ + (_ + gainOf l n) = _ + (_ + gainOf l n); (first | lia | omega)
  | trans _ _ i1 i2 => rw [i1, i2]
structure SeenAt (H : Hp) (ls lp d : Addr) (as : List Addr) (ps : List (Int × Int)) (kvs : List (Key × V)) : Prop where
  hs : H ls = some (.lst [.ref lp, .ref d])
  hp : H lp = some (.lst (as.map V.ref))
  hi : ∀ (k : Nat) (a : Addr) (q : Int × Int), as[k]? = some a → ps[k]? = some q → H a = some (.lst [.int q.1, .int q.2])
  ln : as.length = ps.length
  nd : as.Nodup
  hd : H d = some (.dK kvs)
def ownS (ls lp d : Addr) (as : List Addr) : List Addr := ls :: lp :: d :: as
theorem SeenAt.keep {H H' : Hp} {ls lp d : Addr} {as : List Addr} {ps : List (Int × Int)} {kvs : List (Key × V)} {S : List Addr} (h : SeenAt H ls lp d as ps kvs) (k : KpS S H H') (dj : Dj (ownS ls lp d as) S) : SeenAt H' ls lp d as ps kvs :=
  ⟨k _ _ h.hs (dj _ (by simp [ownS])), k _ _ h.hp (dj _ (by simp [ownS])), fun j a q ha hq => k _ _ (h.hi j a q ha hq) (dj _ (by simp [ownS, List.mem_of_getElem? ha])), h.ln, h.nd, k _ _ h.hd (dj _ (by simp [ownS]))⟩
theorem SeenAt.same {H H' : Hp} {ls lp d : Addr} {as : List Addr} {ps : List (Int × Int)} {kvs : List (Key × V)} (h : SeenAt H ls lp d as ps kvs) (s : Same H H') : SeenAt H' ls lp d as ps kvs := h.keep (S := []) (KpS.same s) (fun _ _ z => by cases z)
theorem SeenAt.put {H : Hp} {ls lp d : Addr} {as : List Addr} {ps : List (Int × Int)} {kvs : List (Key × V)} (h : SeenAt H ls lp d as ps kvs) {j : Nat} {a : Addr} {q : Int × Int} (ha : as[j]? = some a) (hq : ps[j]? = some q) (x y : Int) : SeenAt (upd H a (.lst [.int x, .int y])) ls lp d as (ps.set j (x, y)) kvs := by
  have e := h.hi j a q ha hq
  have ne : as ≠ [] := fun z => by rw [z] at ha; simp at ha
  have n1 : ls ≠ a := ne_of h.hs e (by intro z; injection z with z; injection z with z _; cases z)
  have n2 : lp ≠ a := ne_of h.hp e (by
    intro z
    cases as with
    | nil => exact ne rfl
    | cons b r => injection z with z; rw [List.map_cons] at z; injection z with z _; cases z)
  have n3 : d ≠ a := ne_of h.hd e (by intro z; cases z)
  have jl : j < ps.length := (List.getElem?_eq_some_iff.mp hq).1
  refine ⟨(upd_ne n1).trans h.hs, (upd_ne n2).trans h.hp, fun k b r hb hr => ?_, by rw [List.length_set]; exact h.ln, h.nd, (upd_ne n3).trans h.hd⟩
  by_cases z : k = j
  · subst z
    rw [ha] at hb
    cases hb
    rw [List.getElem?_set_self jl] at hr
    cases hr
    exact upd_same
  · rw [List.getElem?_set_ne (Ne.symm z)] at hr
    have nb : b ≠ a := pair_at (R := fun a b : Addr => a ≠ b) (fun _ _ h => Ne.symm h) h.nd hb ha z
    exact (upd_ne nb).trans (h.hi k b r hb hr)
theorem SeenAt.live {H : Hp} {ls lp d : Addr} {as : List Addr} {ps : List (Int × Int)} {kvs : List (Key × V)} (h : SeenAt H ls lp d as ps kvs) : ∀ x ∈ ownS ls lp d as, H x ≠ none := fun x hx z => by
  unfold ownS at hx
  simp only [List.mem_cons] at hx
  rcases hx with rfl | rfl | rfl | hx
  · rw [h.hs] at z; cases z
  · rw [h.hp] at z; cases z
  · rw [h.hd] at z; cases z
  · obtain ⟨j, hj⟩ := List.getElem?_of_mem hx
    have jl : j < as.length := (List.getElem?_eq_some_iff.mp hj).1
    have ln := h.ln
    have hq : ps[j]? = some (ps[j]'(by (first | lia | omega))) := by simp [show j < ps.length by (first | lia | omega)]
    rw [h.hi j x _ hj hq] at z
    cases z
def PassOk (ws : List (Int × Int)) (fac : List Int) (ps : List (Int × Int)) : Prop := ps.length = ws.length ∧ ∀ (k : Nat) (w q : Int × Int), ws[k]? = some w → ps[k]? = some q → q.1 - q.2 = z1 w (fac.getD k 0)
theorem PassOk.turn {ws : List (Int × Int)} {fac : List Int} {ps : List (Int × Int)} {k : Nat} {w q : Int × Int} {x y : Int} (h : PassOk ws fac ps) (fl : fac.length = ws.length) (hw : ws[k]? = some w) (hq : ps[k]? = some q) (e : x - y = 1 - (q.1 - q.2)) (hn : w.1 ≠ w.2) (hf : fac.getD k 0 = w.1 ∨ fac.getD k 0 = w.2) : PassOk ws (fac.set k (otherL w (fac.getD k 0))) (ps.set k (x, y)) := by
  refine ⟨by rw [List.length_set]; exact h.1, fun j u r hu hr => ?_⟩
  have kl : k < ps.length := (List.getElem?_eq_some_iff.mp hq).1
  have kf : k < fac.length := by have := h.1; (first | lia | omega)
  by_cases z : j = k
  · subst z
    rw [hw] at hu
    cases hu
    rw [List.getElem?_set_self kl] at hr
    cases hr
    rw [getD_set kf, if_pos rfl, z1_other hn hf, ← h.2 j w q hw hq]
    exact e
  · rw [List.getElem?_set_ne (Ne.symm z)] at hr
    rw [getD_set kf, if_neg z]
    exact h.2 j u r hu hr
structure S27 (C : Addr) (H : Hp) (p : Addr) (v : V) (wide : Int) (ws : List (Int × Int)) (L : PlL) (st : PlS) (ls lp d : Addr) (as : List Addr) (ps : List (Int × Int)) (kvs : List (Key × V)) (ts : List (Int × Int)) : Prop where
  pl : PlayAt C H p v L st
  wf : Wf wide ws st
  few : Few st
  sn : SeenAt H ls lp d as ps kvs
  po : PassOk ws st.fac ps
  lf : LeftIs ts kvs
  ac : Acc wide st.tal ts
  nt : ts.length ≤ outN st.pla
  dj : Dj (L.own p) (ownS ls lp d as)
section
variable {C : Addr} {H H' : Hp} {p : Addr} {v : V} {wide : Int} {ws : List (Int × Int)} {L : PlL} {st : PlS} {ls lp d : Addr} {as : List Addr} {ps : List (Int × Int)} {kvs : List (Key × V)} {ts : List (Int × Int)}
theorem S27.same (W : S27 C H p v wide ws L st ls lp d as ps kvs ts) (s : Same H H') : S27 C H' p v wide ws L st ls lp d as ps kvs ts := ⟨W.pl.same s, W.wf, W.few, W.sn.same s, W.po, W.lf, W.ac, W.nt, W.dj⟩
theorem S27.keep {S : List Addr} (W : S27 C H p v wide ws L st ls lp d as ps kvs ts) (k : KpS S H H') (kt : KT H H') (d1 : Dj (L.own p) S) (d2 : Dj (ownS ls lp d as) S) : S27 C H' p v wide ws L st ls lp d as ps kvs ts := ⟨W.pl.keep k kt d1, W.wf, W.few, W.sn.keep k d2, W.po, W.lf, W.ac, W.nt, W.dj⟩
theorem S27.kt (W : S27 C H p v wide ws L st ls lp d as ps kvs ts) (k : KpS (L.own p ++ ownS ls lp d as) H H') : KT H H' := fun b xs e => by
  refine k b _ e fun hx => ?_
  rcases List.mem_append.mp hx with z | z
  · obtain ⟨rs, hp, _⟩ := W.pl.pl
    rcases own_mem.mp z with rfl | rfl | rfl | rfl | rfl
    · rw [W.pl.ob] at e; cases e
    · rw [W.pl.fa] at e; cases e
    · rw [W.pl.ta] at e; cases e
    · rw [hp] at e; cases e
    · rw [W.pl.ch] at e; cases e
  · unfold ownS at z
    simp only [List.mem_cons] at z
    rcases z with rfl | rfl | rfl | z
    · rw [W.sn.hs] at e; cases e
    · rw [W.sn.hp] at e; cases e
    · rw [W.sn.hd] at e; cases e
    · obtain ⟨j, hj⟩ := List.getElem?_of_mem z
      have jl : j < as.length := (List.getElem?_eq_some_iff.mp hj).1
      have ln := W.sn.ln
      have hq : ps[j]? = some (ps[j]'(by (first | lia | omega))) := by simp [show j < ps.length by (first | lia | omega)]
      rw [W.sn.hi j b _ hj hq] at e
      cases e
end
inductive Stp (wide : Int) (ws : List (Int × Int)) : PlS → PlS → Prop
  | nil {st : PlS} : Stp wide ws st st
  | more {st st' : PlS} {i : Nat} {pl : Place} : Stp wide ws st st' → st'.pla[i]? = some pl → isOut pl = false → Stp wide ws st (stepS wide ws st' i pl)
def muS (n : Nat) : List Place → Nat
  | [] => 0
  | pl :: r => muPl n pl + muS n r
theorem muS_set (n : Nat) (pl' : Place) : ∀ (ps : List Place) (i : Nat) (pl : Place), ps[i]? = some pl → muS n (ps.set i pl') + muPl n pl = muS n ps + muPl n pl'
  | [], i, pl, h => by simp at h
  | q :: r, 0, pl, h => by
    have e : q = pl := by simpa using h
    subst e
    show muPl n pl' + muS n r + muPl n q = muPl n q + muS n r + muPl n pl'
    (first | lia | omega)
  | q :: r, i + 1, pl, h => by
    have := muS_set n pl' r i pl (by simpa using h)
    show muPl n q + muS n (r.set i pl') + muPl n pl = muPl n q + muS n r + muPl n pl'
    (first | lia | omega)
theorem muS_step {wide : Int} {ws : List (Int × Int)} {st : PlS} {i : Nat} {pl : Place} (wf : Wf wide ws st) (h : st.pla[i]? = some pl) (no : isOut pl = false) : muS ws.length (stepS wide ws st i pl).pla < muS ws.length st.pla := by
  have m := muPl_step wf h no
  have e : (stepS wide ws st i pl).pla = st.pla.set i (stepP wide ws st i pl) := by cases pl <;> first | rfl | cases no
  have s := muS_set ws.length (stepP wide ws st i pl) st.pla i pl h
  rw [e]
  (first | lia | omega)
theorem step_chg {wide : Int} {ws : List (Int × Int)} {st : PlS} {i : Nat} {pl : Place} : (stepS wide ws st i pl).chg = st.chg := by cases pl <;> rfl
theorem Stp.chg {wide : Int} {ws : List (Int × Int)} {st st' : PlS} (h : Stp wide ws st st') : st'.chg = st.chg := by
  induction h with
  | nil => rfl
  | more _ _ _ ih => rw [step_chg, ih]
theorem Stp.len {wide : Int} {ws : List (Int × Int)} {st st' : PlS} (h : Stp wide ws st st') : st'.pla.length = st.pla.length := by
  induction h with
  | nil => rfl
  | more _ _ _ ih => rw [step_len, ih]
theorem Stp.wf {wide : Int} {ws : List (Int × Int)} {st st' : PlS} (ok : WOk wide ws) (h : Stp wide ws st st') (w : Wf wide ws st) : Wf wide ws st' := by
  induction h with
  | nil => exact w
  | more _ e _ ih => exact step_wf ok ih e
theorem Stp.flow {wide : Int} {ws : List (Int × Int)} {st st' : PlS} {e : Int → Int} (ok : WOk wide ws) (h : Stp wide ws st st') (w : Wf wide ws st) (f : ∃ P, Flow wide ws st e P) : ∃ P, Flow wide ws st' e P := by
  induction h with
  | nil => exact f
  | more h' e _ ih => obtain ⟨P, F⟩ := ih; exact flow_step ok (h'.wf ok w) F e
theorem out_of_none : ∀ (ps : List Place) (j : Nat), insideM j ps = [] → ∀ pl ∈ ps, isOut pl = true
  | [], _, _, _, h => by cases h
  | q :: r, j, h, pl, hp => by
    have h' : (if isOut q then [] else [(j : Int)]) ++ insideM (j + 1) r = [] := h
    rw [List.append_eq_nil_iff] at h'
    rcases List.mem_cons.mp hp with e | e
    · rw [e]
      by_cases c : isOut q = true
      · exact c
      · rw [if_neg c] at h'; cases h'.1
    · exact out_of_none r (j + 1) h'.2 pl e
structure DueIs (S : List Int) (f : Int → Int) (kvs : List (Key × V)) : Prop where
  nd : (kvs.map (·.1)).Nodup
  ev : ∀ kv ∈ kvs, ∃ n, kv = (Sum.inl n, V.int (f n)) ∧ n ∈ S
  al : ∀ n ∈ S, (Sum.inl n : Key) ∈ kvs.map (·.1)
  ln : kvs.length ≤ S.length
theorem DueIs.nil (f : Int → Int) : DueIs [] f [] := ⟨List.nodup_nil, fun _ h => (nomatch h), fun _ h => (nomatch h), Nat.le_refl _⟩
theorem DueIs.put {S : List Int} {f : Int → Int} {kvs : List (Key × V)} (D : DueIs S f kvs) (n : Int) : DueIs (S ++ [n]) f (putK kvs (Sum.inl n) (.int (f n))) := by
  have len := length_putK kvs (Sum.inl n) (V.int (f n))
  have ln := D.ln
  by_cases a : (kvs.any fun kv => decide (kv.1 = Sum.inl n)) = true
  · have e : putK kvs (Sum.inl n) (.int (f n)) = kvs.map (fun kv => if kv.1 = Sum.inl n then (kv.1, V.int (f n)) else kv) := by unfold putK; rw [if_pos a]
    have e2 : kvs.map (fun kv => if kv.1 = Sum.inl n then (kv.1, V.int (f n)) else kv) = kvs := by
      conv => rhs; rw [← List.map_id kvs]
      refine List.map_congr_left fun kv hkv => ?_
      obtain ⟨m, em, _⟩ := D.ev kv hkv
      by_cases z : kv.1 = Sum.inl n
      · rw [if_pos z]
        rw [em] at z ⊢
        have : m = n := Sum.inl.inj z
        subst this
        rfl
      · rw [if_neg z]; rfl
    rw [e, e2]
    refine ⟨D.nd, fun kv hkv => ?_, fun m hm => ?_, by rw [List.length_append]; (first | lia | omega)⟩
    · obtain ⟨m, em, hm⟩ := D.ev kv hkv
      exact ⟨m, em, List.mem_append_left _ hm⟩
    · rcases List.mem_append.mp hm with h | h
      · exact D.al m h
      · rw [List.mem_singleton.mp h]
        obtain ⟨kv, h1, h2⟩ := List.any_eq_true.mp a
        exact List.mem_map.mpr ⟨kv, h1, of_decide_eq_true h2⟩
  · have no : (Sum.inl n : Key) ∉ kvs.map (·.1) := fun h => by
      obtain ⟨kv, h1, h2⟩ := List.mem_map.mp h
      exact a (List.any_eq_true.mpr ⟨kv, h1, decide_eq_true h2⟩)
    have e : putK kvs (Sum.inl n) (.int (f n)) = kvs ++ [(Sum.inl n, V.int (f n))] := by unfold putK; rw [if_neg a]
    rw [e]
    refine ⟨?_, fun kv hkv => ?_, fun m hm => ?_, by rw [List.length_append, List.length_append]; simp; exact ln⟩
    · rw [List.map_append]
      refine List.nodup_append.mpr ⟨D.nd, by simp, fun x hx y hy z => no ?_⟩
      have : y = Sum.inl n := by simpa using hy
      rw [← this, ← z]
      exact hx
    · rcases List.mem_append.mp hkv with h | h
      · obtain ⟨m, em, hm⟩ := D.ev kv h
        exact ⟨m, em, List.mem_append_left _ hm⟩
      · rw [List.mem_singleton.mp h]
        exact ⟨n, rfl, by simp⟩
    · rw [List.map_append]
      rcases List.mem_append.mp hm with h | h
      · exact List.mem_append_left _ (D.al m h)
      · rw [List.mem_singleton.mp h]
        exact List.mem_append_right _ (by simp)
theorem DueIs.left {S : List Int} {f : Int → Int} {kvs : List (Key × V)} (D : DueIs S f kvs) {n : Int} (h : n ∈ S) : valV kvs (Sum.inl n) = some (.int (f n)) := by
  have ev := D.ev
  have al := D.al n h
  clear D
  induction kvs with
  | nil => simp at al
  | cons p r ih =>
    by_cases e : p.1 = Sum.inl n
    · rw [valV_pos e]
      obtain ⟨m, hm, _⟩ := ev p (by simp)
      rw [hm] at e ⊢
      have : m = n := Sum.inl.inj e
      rw [this]
    · rw [valV_neg e]
      rw [List.map_cons, List.mem_cons] at al
      exact ih (fun kv hkv => ev kv (List.mem_cons_of_mem _ hkv)) (al.resolve_left fun z => e z.symm)
theorem DueIs.keys_nodup {S : List Int} {f : Int → Int} {kvs : List (Key × V)} (D : DueIs S f kvs) : (keysI kvs).Nodup := by
  have nd := D.nd
  have ev := D.ev
  clear D
  induction kvs with
  | nil => exact List.nodup_nil
  | cons p r ih =>
    rw [List.map_cons, List.nodup_cons] at nd
    show (keyI p.1 :: keysI r).Nodup
    refine List.nodup_cons.mpr ⟨fun h => nd.1 ?_, ih nd.2 fun kv hkv => ev kv (List.mem_cons_of_mem _ hkv)⟩
    obtain ⟨kv, h1, h2⟩ := List.mem_map.mp h
    obtain ⟨m, em, _⟩ := ev kv (List.mem_cons_of_mem _ h1)
    obtain ⟨n, en, _⟩ := ev p (by simp)
    have e1 : kv.1 = Sum.inl m := by rw [em]
    have e2 : p.1 = Sum.inl n := by rw [en]
    have : m = n := by
      have h2' : keyI kv.1 = keyI p.1 := h2
      rw [e1, e2] at h2'
      exact h2'
    exact List.mem_map.mpr ⟨kv, h1, by rw [e1, e2, this]⟩
theorem DueIs.keys_mem {S : List Int} {f : Int → Int} {kvs : List (Key × V)} (D : DueIs S f kvs) {n : Int} : n ∈ keysI kvs ↔ n ∈ S := by
  constructor
  · intro h
    obtain ⟨kv, h1, h2⟩ := List.mem_map.mp h
    obtain ⟨m, em, hm⟩ := D.ev kv h1
    have e1 : kv.1 = Sum.inl m := by rw [em]
    rw [e1] at h2
    have : m = n := h2
    rw [← this]
    exact hm
  · intro h
    obtain ⟨kv, h1, h2⟩ := List.mem_map.mp (D.al n h)
    exact List.mem_map.mpr ⟨kv, h1, by rw [h2]; rfl⟩
def pairsI (f : Int → Int) (ns : List Int) : List (Key × V) := ns.map fun n => (Sum.inl n, V.int (f n))
theorem pairsI_nodup {f : Int → Int} {ns : List Int} (h : ns.Nodup) : ((pairsI f ns).map (·.1)).Nodup := by
  unfold pairsI
  rw [List.map_map]
  exact List.Pairwise.map _ (R := fun a b : Int => a ≠ b) (fun a b hab z => hab (Sum.inl.inj z)) h
inductive SpLetBy27P (C : Addr) (vs : List V) (H : Hp) (Q : VK) : Prop
  | mk (p : Addr) (v : V) (wide : Int) (ws : List (Int × Int)) (L : PlL) (st st' : PlS) (lp tp tt : Addr) (as : List Addr) (a : Addr) (k : Nat) (l0 c x y : Int) (w : Int × Int) (h1 : vs = [.ref p, v, .ref lp, .ref tp, .ref tt, .int c]) (h2 : NetOk H v wide ws) (h3 : PlayAt C H p v L st') (h4 : Wf wide ws st) (h5 : ws[k]? = some w) (h6 : st'.fac = st.fac.set k (otherL w (st.fac.getD k 0)))
      (h7 : H tp = some (.tup (plV (.before k l0)))) (h8 : H tt = some (.tup (plV (placeM ws (passL ws st k c) (k + 1))))) (h9 : c = 1 ∨ c = -1) (h10 : H lp = some (.lst (as.map V.ref))) (h11 : as[k]? = some a) (h12 : H a = some (.lst [.int x, .int y])) (h13 : x - y = z1 w (st.fac.getD k 0)) (h14 : a ∉ L.own p) (h15 : ∀ (x' y' : Int) (H' : Hp), x' - y' = 1 - (x - y) → H' a = some (.lst [.int x', .int y']) → Kp a H H' → Q (.bl true) H') : SpLetBy27P C vs H Q
def spLetBy27 (C : Addr) : Sp := fun vs H Q _ => SpLetBy27P C vs H Q
inductive SpLeft27P (C : Addr) (vs : List V) (H : Hp) (Q : VK) : Prop
  | mk (p : Addr) (v : V) (wide : Int) (ws : List (Int × Int)) (L : PlL) (st st' : PlS) (lc tp tt d : Addr) (l c : Int) (kvs : List (Key × V)) (ts : List (Int × Int)) (h1 : vs = [.ref p, v, .ref lc, .ref tp, .ref tt, .int c, .ref d]) (h2 : NetOk H v wide ws) (h3 : PlayAt C H p v L st') (h4 : Wf wide ws st) (h5 : 0 ≤ l) (h6 : l < wide) (h7 : st'.tal = st.tal.set l.toNat (st.tal.getD l.toNat 0 + c)) (h8 : H lc = some (.lst (st.tal.map V.int)))
      (h9 : H tp = some (.tup (plV (.exit l)))) (h10 : H tt = some (.tup (plV (.out l (leaveN wide st l c))))) (h11 : c = 1 ∨ c = -1) (h12 : H d = some (.dK kvs)) (h13 : LeftIs ts kvs) (h14 : ts.length ≤ 1000) (h15 : d ∉ L.own p) (h16 : ∀ (kvs' : List (Key × V)) (H' : Hp), LeftIs (ts ++ [(leaveN wide st l c, c)]) kvs' → H' d = some (.dK kvs') → Kp d H H' → Q (.bl true) H') : SpLeft27P C vs H Q
def spLeft27 (C : Addr) : Sp := fun vs H Q _ => SpLeft27P C vs H Q
inductive SpStep27P (C : Addr) (vs : List V) (H : Hp) (Q : VK) : Prop
  | mk (p : Addr) (v : V) (wide : Int) (ws : List (Int × Int)) (L : PlL) (st : PlS) (ls lp d : Addr) (as : List Addr) (ps : List (Int × Int)) (kvs : List (Key × V)) (ts : List (Int × Int)) (i : Nat) (pl : Place) (h1 : vs = [.ref p, v, .ref ls, .int i, .int (st.chg.getD i 0)]) (h2 : NetOk H v wide ws) (h3 : S27 C H p v wide ws L st ls lp d as ps kvs ts) (h4 : st.pla[i]? = some pl) (h5 : isOut pl = false)
      (h6 : ∀ (ps' : List (Int × Int)) (kvs' : List (Key × V)) (ts' : List (Int × Int)) (H' : Hp), S27 C H' p v wide ws L (stepS wide ws st i pl) ls lp d as ps' kvs' ts' → KpS (L.own p ++ ownS ls lp d as) H H' → Q (.bl true) H') : SpStep27P C vs H Q
def spStep27 (C : Addr) : Sp := fun vs H Q _ => SpStep27P C vs H Q
inductive SpSteps27P (C : Addr) (vs : List V) (H : Hp) (Q : VK) : Prop
  | mk (p : Addr) (v : V) (wide : Int) (ws : List (Int × Int)) (L : PlL) (st : PlS) (ls lp d : Addr) (as : List Addr) (ps : List (Int × Int)) (kvs : List (Key × V)) (ts : List (Int × Int)) (lg pn : Addr) (many : Int) (h1 : vs = [.ref p, v, .ref ls, .ref lg, .ref pn, .int many]) (h2 : NetOk H v wide ws) (h3 : S27 C H p v wide ws L st ls lp d as ps kvs ts) (h4 : H lg = some (.lst (st.chg.map V.int))) (h5 : Pen H pn) (h6 : 0 ≤ many) (h7 : many ≤ 1000) (h8 : lg ∉ L.own p ++ ownS ls lp d as) (h9 : pn ∉ L.own p ++ ownS ls lp d as) (h10 : pn ≠ lg)
      (h11 : ∀ (st' : PlS) (ps' : List (Int × Int)) (kvs' : List (Key × V)) (ts' : List (Int × Int)) (H' : Hp), Stp wide ws st st' → (0 < many → insideM 0 st.pla ≠ [] → muS ws.length st'.pla < muS ws.length st.pla) → S27 C H' p v wide ws L st' ls lp d as ps' kvs' ts' → Pen H' pn → KpS (pn :: (L.own p ++ ownS ls lp d as)) H H' → Q (.bl true) H') : SpSteps27P C vs H Q
def spSteps27 (C : Addr) : Sp := fun vs H Q _ => SpSteps27P C vs H Q
def cntE (wide : Int) (es : List (Int × Int)) : List Int := (List.range wide.toNat).map fun (l : Nat) => gainOf es (l : Int)
inductive SpPlayed27P (vs : List V) (H : Hp) (Q : VK) : Prop
  | mk (v : V) (wide : Int) (ws : List (Int × Int)) (le : Addr) (es : List (Int × Int)) (pn : Addr) (often : Int) (h1 : vs = [v, .ref le, .ref pn, .int often]) (h2 : NetOk H v wide ws) (h3 : WsL H le es) (h4 : es.length ≤ 24) (h5 : ∀ e ∈ es, 0 ≤ e.1 ∧ e.1 < wide ∧ (e.2 = 1 ∨ e.2 = -1)) (h6 : Pen H pn) (h7 : 1 ≤ often) (h8 : often ≤ 10) (h9 : le ≠ pn)
      (h10 : ∀ (t lc lf d : Addr) (sh : List Int) (kvs : List (Key × V)) (ts : List (Int × Int)) (H' : Hp), H t = none → H d = none → H lc = none → H lf = none → H' t = some (.tup [.ref lc, .ref lf, .ref d]) → H' lc = some (.lst ((thruM (cntE wide es) ws).map V.int)) → H' lf = some (.lst (sh.map V.int)) → sh.length = ws.length → (∀ (k : Nat) (w : Int × Int), ws[k]? = some w → sh.getD k 0 = if both (thruM (cntE wide es) (ws.take k)) w % 2 = 0 then w.1 else w.2) → H' d = some (.dK kvs) → LeftIs ts kvs → Acc wide (thruM (cntE wide es) ws) ts → ts.length ≤ 24 → absS (thruM (cntE wide es) ws) ≤ 24 → Kp pn H H' → Pen H' pn → Q (.ref t) H') : SpPlayed27P vs H Q
def spPlayed27 : Sp := fun vs H Q _ => SpPlayed27P vs H Q
inductive SpNumR27P (vs : List V) (H : Hp) (Q : VK) : Prop
  | mk (v : V) (wide : Int) (ws : List (Int × Int)) (c d : Addr) (t : List Int) (kvs : List (Key × V)) (ts : List (Int × Int)) (h1 : vs = [v, .ref c, .ref d]) (h2 : NetOk H v wide ws) (h3 : H c = some (.lst (t.map V.int))) (h4 : H d = some (.dK kvs)) (h5 : LeftIs ts kvs) (h6 : Acc wide t ts) (h7 : t.length = wide.toNat) (h8 : absS t ≤ 24) (h9 : ts.length ≤ 24) (h10 : ∀ H', Kp d H H' → Q (.bl true) H') : SpNumR27P vs H Q
def spNumR27 : Sp := fun vs H Q _ => SpNumR27P vs H Q
end Ep
namespace Ep
open PySem L2 PySem.SeqAt
theorem place_last (ws : List (Int × Int)) (l : Int) {s : Nat} (hs : s ≤ ws.length) : atI (plV (placeM ws l s)) (-1) = some (.int l) := by
  rcases placeM_spec ws l hs with ⟨e, _⟩ | ⟨k, e, _⟩
  · rw [e]; rfl
  · rw [e]; rfl
theorem pass_in {ws : List (Int × Int)} {st : PlS} {k : Nat} {c : Int} {w : Int × Int} (hw : ws[k]? = some w) (hf : st.fac.getD k 0 = w.1 ∨ st.fac.getD k 0 = w.2) : passL ws st k c = w.1 ∨ passL ws st k c = w.2 := by
  have ew : wAt ws k = w := by simp [wAt, List.getD, hw]
  unfold passL otherL
  rw [ew]
  by_cases h : c = 1
  · rw [if_pos h]; exact hf
  · rw [if_neg h]
    by_cases g : st.fac.getD k 0 = w.1
    · rw [if_pos g]; exact .inr rfl
    · rw [if_neg g]; exact .inl rfl
theorem pass_diff {ws : List (Int × Int)} {st : PlS} {k : Nat} {c x y : Int} {w : Int × Int} (hw : ws[k]? = some w) (hn : w.1 ≠ w.2) (hf : st.fac.getD k 0 = w.1 ∨ st.fac.getD k 0 = w.2) (hc : c = 1 ∨ c = -1) (e : x - y = z1 w (st.fac.getD k 0)) :
    (passL ws st k c = w.1 → x + c - y = 1 - (x - y)) ∧ (passL ws st k c = w.2 → x - (y + c) = 1 - (x - y)) := by
  have ew : wAt ws k = w := by simp [wAt, List.getD, hw]
  unfold passL otherL z1 at *
  rw [ew]
  rcases hc with rfl | rfl <;> rcases hf with h | h <;> rw [h] at e ⊢
  · rw [if_pos rfl] at e ⊢
    exact ⟨fun _ => by (first | lia | omega), fun z => absurd z hn⟩
  · rw [if_neg (Ne.symm hn)] at e
    rw [if_pos rfl]
    exact ⟨fun z => absurd z.symm hn, fun _ => by (first | lia | omega)⟩
  · rw [if_pos rfl] at e
    rw [if_neg (show ¬ (-1 : Int) = 1 by decide), if_pos rfl]
    exact ⟨fun z => absurd z.symm hn, fun _ => by (first | lia | omega)⟩
  · rw [if_neg (Ne.symm hn)] at e
    rw [if_neg (show ¬ (-1 : Int) = 1 by decide), if_neg (Ne.symm hn)]
    exact ⟨fun _ => by (first | lia | omega), fun z => absurd z hn⟩
end Ep
namespace Ep
open PySem L2 PySem.SeqAt
structure P27 (C : Addr) (G H : Hp) (p : Addr) (v : V) (wide : Int) (ws : List (Int × Int)) (L : PlL) (st : PlS) (ls lp d : Addr) (as : List Addr) (ps : List (Int × Int)) (kvs : List (Key × V)) (ts : List (Int × Int)) (lg pn : Addr) (es : List (Int × Int)) : Prop where
  s : S27 C H p v wide ws L st ls lp d as ps kvs ts
  k : Kp pn G H
  g : H lg = some (.lst (st.chg.map V.int))
  pe : Pen H pn
  fr : ∀ a ∈ L.own p ++ ownS ls lp d as, G a = none
  fg : G lg = none
  ng : lg ∉ L.own p ++ ownS ls lp d as
  np : pn ∉ L.own p ++ ownS ls lp d as
  npg : pn ≠ lg
  fl : ∃ P, Flow wide ws st (gainOf es) P
section
variable {C : Addr} {G H H' : Hp} {p : Addr} {v : V} {wide : Int} {ws : List (Int × Int)} {L : PlL} {st st' : PlS} {ls lp d : Addr} {as : List Addr} {ps ps' : List (Int × Int)} {kvs kvs' : List (Key × V)} {ts ts' : List (Int × Int)} {lg pn : Addr} {es : List (Int × Int)}
theorem P27.same (W : P27 C G H p v wide ws L st ls lp d as ps kvs ts lg pn es) (s : Same H H') : P27 C G H' p v wide ws L st ls lp d as ps kvs ts lg pn es :=
  ⟨W.s.same s, Kp.trans W.k (Kp.same s), s _ _ W.g, let ⟨_, _, _, h⟩ := W.pe; ⟨_, _, _, s _ _ h⟩, W.fr, W.fg, W.ng, W.np, W.npg, W.fl⟩
theorem P27.take (W : P27 C G H p v wide ws L st ls lp d as ps kvs ts lg pn es) (i j k : Int) : P27 C G (upd H pn (.lst [.int i, .int j, .int k])) p v wide ws L st ls lp d as ps kvs ts lg pn es := by
  obtain ⟨_, _, _, hp⟩ := W.pe
  exact ⟨W.s.keep (S := [pn]) (KpS.upd (by simp)) (KT.lst hp (KT.refl _)) (one_dj fun z => W.np (List.mem_append_left _ z)) (one_dj fun z => W.np (List.mem_append_right _ z)), Kp.trans W.k Kp.upd, (upd_ne (Ne.symm W.npg)).trans W.g, ⟨_, _, _, upd_same⟩, W.fr, W.fg, W.ng, W.np, W.npg, W.fl⟩
theorem P27.steps (ok : WOk wide ws) (W : P27 C G H p v wide ws L st ls lp d as ps kvs ts lg pn es) (stp : Stp wide ws st st') (s' : S27 C H' p v wide ws L st' ls lp d as ps' kvs' ts') (pe' : Pen H' pn) (k : KpS (pn :: (L.own p ++ ownS ls lp d as)) H H') : P27 C G H' p v wide ws L st' ls lp d as ps' kvs' ts' lg pn es := by
  refine ⟨s', fun b o e n => k b o (W.k b o e n) fun z => ?_, ?_, pe', W.fr, W.fg, W.ng, W.np, W.npg, stp.flow ok W.s.wf W.fl⟩
  · rcases List.mem_cons.mp z with z | z
    · exact n z
    · rw [W.fr b z] at e; cases e
  · rw [stp.chg]
    refine k _ _ W.g fun z => ?_
    rcases List.mem_cons.mp z with z | z
    · exact W.npg z.symm
    · exact W.ng z
theorem P27.enter {lane c : Int} (W : P27 C G H p v wide ws L st ls lp d as ps kvs ts lg pn es) (ok : WOk wide ws) (l0 : 0 ≤ lane) (l1 : lane < wide) (hc : c = 1 ∨ c = -1) (ml : st.pla.length < 400) (pl' : PlayAt C H' p v L (enterM ws st lane c)) (k : KpL L H H') (e : H' lg = some (.lst (st.chg.map V.int))) : P27 C G (upd H' lg (.lst (st.chg.map V.int ++ [.int c]))) p v wide ws L (enterM ws st lane c) ls lp d as ps kvs ts lg pn (es ++ [(lane, c)]) := by
  have ks : KpS (L.own p) H H' := k.own
  have sn' := W.s.sn.keep ks W.s.dj.symm
  obtain ⟨_, _, _, hp⟩ := W.pe
  have hp' := ks _ _ hp (fun z => W.np (List.mem_append_left _ z))
  have kt : KT H' (upd H' lg (.lst (st.chg.map V.int ++ [.int c]))) := KT.lst e (KT.refl _)
  obtain ⟨P, F⟩ := W.fl
  have nt : ts.length ≤ outN (st.pla ++ [placeM ws lane 0]) := by
    rw [outN_snoc]
    have := W.s.nt
    (first | lia | omega)
  refine ⟨⟨pl'.keep (S := [lg]) (KpS.upd (by simp)) kt (one_dj fun z => W.ng (List.mem_append_left _ z)), enter_wf W.s.wf l0 l1 hc ml, W.s.few.enter, sn'.keep (S := [lg]) (KpS.upd (by simp)) (one_dj fun z => W.ng (List.mem_append_right _ z)), W.s.po, W.s.lf, W.s.ac, nt, W.s.dj⟩, fun b o eb n => ?_, ?_, ⟨_, _, _, (upd_ne W.npg).trans hp'⟩, W.fr, W.fg, W.ng, W.np, W.npg, ⟨P, flow_enter ok W.s.wf F fun x => ?_⟩⟩
  · have n1 : b ≠ lg := fun z => by rw [z, W.fg] at eb; cases eb
    exact (upd_ne n1).trans (ks _ _ (W.k b o eb n) fun z => by rw [W.fr b (List.mem_append_left _ z)] at eb; cases eb)
  · rw [upd_same]
    show _ = some (HO.lst ((st.chg ++ [c]).map V.int))
    rw [List.map_append]
    rfl
  · rw [gainOf_snoc]
    congr 1
    by_cases z : x = lane
    · rw [if_pos z, if_pos z.symm]
    · rw [if_neg z, if_neg (Ne.symm z)]
theorem cntE_of {wide : Int} {es : List (Int × Int)} (h : ∀ e ∈ es, 0 ≤ e.1 ∧ e.1 < wide) : gainOf es = eOf (cntE wide es) := funext fun x => by
  unfold eOf
  by_cases h0 : 0 ≤ x
  · rw [if_pos h0]
    by_cases h1 : x < wide
    · unfold cntE
      rw [List.getD_eq_getElem?_getD, List.getElem?_map, List.getElem?_range (by (first | lia | omega))]
      show _ = gainOf es ((x.toNat : Nat) : Int)
      rw [Int.toNat_of_nonneg h0]
    · rw [gainOf_none fun t ht z => by have := h t ht; (first | lia | omega), List.getD_eq_getElem?_getD, List.getElem?_eq_none (by unfold cntE; simp; (first | lia | omega))]
      rfl
  · rw [if_neg h0]
    exact gainOf_none fun t ht z => by have := h t ht; (first | lia | omega)
theorem cntE_len (wide : Int) (es : List (Int × Int)) : (cntE wide es).length = wide.toNat := by simp [cntE]
theorem cntE_perm {wide : Int} {a b : List (Int × Int)} (h : a.Perm b) : cntE wide a = cntE wide b := by
  unfold cntE
  exact List.map_congr_left fun l _ => gainOf_perm h
theorem flow_start0 {wide : Int} {ws : List (Int × Int)} (h : 0 ≤ wide) : ∃ P, Flow wide ws (startM wide ws) (gainOf []) P := by
  refine ⟨fun _ => 0, ?_⟩
  have e : gainOf [] = eOf (List.replicate wide.toNat 0) := funext fun x => by
    unfold eOf
    show (0 : Int) = _
    split
    · rw [List.getD_eq_getElem?_getD, List.getElem?_replicate]
      split <;> rfl
    · rfl
  rw [e]
  exact flow_start h
end
end Ep
namespace Ep
open PySem L2 PySem.SeqAt
theorem Refs.rev {H : Hp} : ∀ {rs : List V} {ws : List (Int × Int)}, Refs H rs ws → Refs H rs.reverse ws.reverse
  | _, _, .nil => .nil
  | _, _, .cons h t => by
    rw [List.reverse_cons, List.reverse_cons]
    exact Refs.app (Refs.rev t) (.cons h .nil)
theorem cntE_snoc {wide l g : Int} (es : List (Int × Int)) (l0 : 0 ≤ l) (l1 : l < wide) : cntE wide (es ++ [(l, g)]) = (cntE wide es).set l.toNat ((cntE wide es).getD l.toNat 0 + g) := by
  refine List.ext_getElem? fun j => ?_
  by_cases hj : j < wide.toNat
  · have e1 : (cntE wide (es ++ [(l, g)]))[j]? = some (gainOf (es ++ [(l, g)]) (j : Int)) := by
      unfold cntE
      rw [List.getElem?_map, List.getElem?_range hj]; rfl
    have e2 : (cntE wide es)[j]? = some (gainOf es (j : Int)) := by
      unfold cntE
      rw [List.getElem?_map, List.getElem?_range hj]; rfl
    rw [e1, gainOf_snoc]
    by_cases z : l.toNat = j
    · subst z
      rw [List.getElem?_set_self (by rw [cntE_len]; (first | lia | omega)), List.getD_eq_getElem?_getD, e2, if_pos (by (first | lia | omega))]
      rfl
    · rw [List.getElem?_set_ne z, e2, if_neg (by (first | lia | omega)), Int.add_zero]
  · rw [List.getElem?_eq_none (by rw [cntE_len]; (first | lia | omega)), List.getElem?_eq_none (by rw [List.length_set, cntE_len]; (first | lia | omega))]
theorem cntE_nil (wide : Int) : cntE wide [] = List.replicate wide.toNat 0 := by
  unfold cntE
  show (List.range wide.toNat).map (fun _ => (0 : Int)) = _
  rw [List.map_const', List.length_range]
def twoD (a b : List Int) : PyData := .tuple [.list (a.map PyData.int), .list (b.map PyData.int)]
theorem lay_intsW (a : List Int) : PyData.canLayAll0 (a.map PyData.int) = true := by
  induction a with
  | nil => rfl
  | cons x r ih => simp [PyData.canLayAll0, PyData.canLay0, ih]
theorem dep_intsW (a : List Int) : PyData.depthAll (a.map PyData.int) ≤ 1 := by
  induction a with
  | nil => simp [PyData.depthAll]
  | cons x r ih => simp [PyData.depthAll, PyData.depth]; (first | lia | omega)
theorem shaped_two (a b : List Int) : shaped (twoD a b) = true := by
  show (PyData.canLay0 _ && decide (PyData.depth _ ≤ 64)) = true
  rw [Bool.and_eq_true]
  have h1 := dep_intsW a
  have h2 := dep_intsW b
  constructor
  · simp [twoD, PyData.canLay0, PyData.canLayAll0, lay_intsW]
  · refine decide_eq_true ?_
    simp [twoD, PyData.depth, PyData.depthAll]
    (first | lia | omega)
theorem mix_two (a b : List Int) : noMix (twoD a b) (twoD a b) = true := by
  have h : ∀ c : List Int, noMixAll (c.map PyData.int) (c.map PyData.int) = true := fun c => by
    induction c with
    | nil => rfl
    | cons x r ih => simp [noMixAll, noMix, ih]
  simp [twoD, noMix, noMixAll, h]
end Ep

namespace L2
open PySem PySem.Spec PyProof.Rows
variable {X : Cx}
end L2


namespace Ep
open PySem L2
def top (i : Nat) : Stmt := PySem.Challenge.pw_evenpass_k27_whole_in_whatever_weaving.main.body.getD i (.Pass ⟨0, 0, 0, 0⟩)
abbrev s_is_whole : Stmt := top 6
abbrev s_is_lane : Stmt := top 7
abbrev s_place_on : Stmt := top 9
abbrev s_Play_init : Stmt := inClass (top 10) 0
abbrev s_Play_enter : Stmt := inClass (top 10) 1
abbrev s_Play_enter_back : Stmt := inClass (top 10) 2
abbrev s_Play_come_in : Stmt := inClass (top 10) 3
abbrev s_Play_where : Stmt := inClass (top 10) 4
abbrev s_Play_step : Stmt := inClass (top 10) 5
abbrev s_Play_leave : Stmt := inClass (top 10) 6
abbrev s_Play_pass_wicket : Stmt := inClass (top 10) 7
abbrev s_Play_turn : Stmt := inClass (top 10) 8
abbrev s_Play_inside : Stmt := inClass (top 10) 9
abbrev s_Play_shown : Stmt := inClass (top 10) 10
abbrev s_Play_counts : Stmt := inClass (top 10) 11
abbrev s_Play_standing : Stmt := inClass (top 10) 12
abbrev s_Play_owed : Stmt := inClass (top 10) 13
abbrev s_Play_lacking : Stmt := inClass (top 10) 14
abbrev s_Play_rest : Stmt := inClass (top 10) 15
abbrev s_Play_twin : Stmt := inClass (top 10) 16
abbrev s_pen : Stmt := top 12
abbrev s_take : Stmt := top 13
abbrev s_wickets : Stmt := top 14
abbrev s_lifted : Stmt := top 15
abbrev s_folded : Stmt := top 16
abbrev s_block : Stmt := top 17
abbrev s_brick : Stmt := top 18
abbrev s_rounds : Stmt := top 19
abbrev s_bent : Stmt := top 20
abbrev s_net : Stmt := top 21
abbrev s_before : Stmt := top 22
abbrev s_exits : Stmt := top 23
abbrev s_let_by : Stmt := top 24
abbrev s_left : Stmt := top 25
abbrev s_step : Stmt := top 26
abbrev s_steps : Stmt := top 27
abbrev s_come_in : Stmt := top 28
abbrev s_played : Stmt := top 29
abbrev s_numbers_right : Stmt := top 30
abbrev s_law : Stmt := top 31
end Ep

namespace Ep
open PySem L2 PySem.SeqAt
local macro_rules | `(tactic| walk_at "cm") => `(tactic| first | exact .inr ⟨by decide, by decide⟩ | exact .inl ⟨by decide, by decide⟩ | exact .inl ⟨by omega, by omega⟩ | exact .inr ⟨by omega, by omega⟩)
local macro_rules | `(tactic| walk_at "side") => `(tactic| first
  | (show (0 : Int) < _; first | decide | omega)
  | (show CMul _ _; walk_at "cm")
  | (show List.length _ ≤ sizeLine; exact lenLine (by simp only [List.length_cons, List.length_nil] <;> omega))
  | (show tyV _ _ _ _; exact .inl ⟨rfl, _, SqL.of (by walk_at "hh")⟩)
  | (show CPow _ _; exact ⟨by decide, by decide, by decide⟩)
  | (show _ ∧ _; exact ⟨by first | decide | omega, by first | decide | omega⟩)
  | omega)
local macro_rules | `(tactic| walk_at "rd1") => `(tactic| first
  | refine ⟨_, rfl, ?_⟩
  | refine ⟨_, _, rfl, rfl, ?_⟩
  | refine ⟨_, _, _, _, rfl, rfl, SqL.of (by assumption), by first | rfl | assumption, ?_⟩
  | refine ⟨_, _, _, _, rfl, rfl, SqT.of (by assumption), by first | rfl | assumption, ?_⟩
  | refine ⟨_, _, rfl, rfl, by walk_at "side", ?_⟩
  | refine REqP.mk rfl ?_
  | refine RNeP.mk rfl ?_
  | refine NewOb.mk (by walk_at "side") ?_
  | refine And.intro rfl ?_
  | refine And.intro (by walk_at "side") ?_
  | refine Or.inr ⟨_, rfl, ?_⟩)
local macro_rules | `(tactic| walk_at "rd") => `(tactic| repeat walk_at "rd1")
local macro_rules | `(tactic| walk_at "ne") => `(tactic| first
  | assumption
  | exact Ne.symm (by assumption)
  | exact ne1 (by assumption) (by walk_at "hh")
  | exact ne2 (by assumption) (by walk_at "hh")
  | exact ne3 (by assumption) (by walk_at "hh")
  | exact ne4 (by assumption) (by walk_at "hh"))
local macro_rules | `(tactic| walk_at "hh") => `(tactic| first
  | assumption
  | exact upd_same
  | exact (upd_ne (by walk_at "ne")).trans (by walk_at "hh")
  | exact (by assumption : Same _ _) _ _ (by walk_at "hh")
  | exact (by assumption : Kp _ _ _) _ _ (by walk_at "hh") (by walk_at "ne"))
local macro_rules | `(tactic| walk_at "fr") => `(tactic| first
  | assumption
  | exact free2 (by assumption) (by walk_at "sm"))
local macro_rules | `(tactic| walk_at "sm") => `(tactic| first
  | assumption
  | exact Same.refl _
  | exact Same.put (by walk_at "fr") (by walk_at "sm")
  | exact trans2 (by assumption) (by walk_at "sm"))
local macro_rules | `(tactic| walk_at "kt") => `(tactic| first
  | exact KT.refl _
  | assumption
  | exact KT.new (by assumption) (by walk_at "kt")
  | exact KT.lst (by walk_at "hh") (by walk_at "kt")
  | exact KT.same (by assumption) (by walk_at "kt")
  | exact KT.kp (by assumption) (by walk_at "hh") (by walk_at "kt"))

section
variable {P : Program} {w : World} {K : PySem.W.Frag} {mg : Str → Option Value} {base : Heap} {f : Addr} {fd : FuncData}
theorem sc_take : FnScope ["_law_pen_here", "_law_size", "_law_found", "_law_number"] ["_law_pen_here", "_law_size"] (defScope s_take) := ⟨rfl, rfl, rfl, by decide +kernel, rfl, by decide +kernel, by decide +kernel⟩
theorem ok_take (F : Here K mg "_law_take" s_take f fd) : FnOk P w K mg base CX0 1 f fd ["_law_pen_here", "_law_size"] spTake := by
  refine F.fn.ok sc_take (fun vs H Q E h => ?_) (fun cdv A outer s H vs Q E hr h => ?_)
  · obtain ⟨p, a, b, c, n, rfl, _⟩ := h
    rfl
  · obtain ⟨p, a, b, c, n, rfl, hp, h0, h1, k⟩ := h
    refine ⟨_, (pss_cons (ps_if (pt_cmpR op_gt (pe_ix ix_list (pv 0) pe_int (fun _ _ => rfl)) pe_int (nomark _))
    (pss_cons (ps_set (i := 2) sc_take.nd rfl (by first | exact Or.inl rfl | exact Or.inr rfl) (pe_op op_mod (pe_ix ix_list (pv 0) pe_int (fun _ _ => rfl)) (pv 1)))
    (pss_cons (ps_asg (pe_op op_fdivB (pe_ix ix_list (pv 0) pe_int (fun _ _ => rfl)) (pv 1)) (pg_sub (pv 0) pe_int set_list))
    (pss_one (ps_ret (pv 2)))))
    pss_nil)
    (pss_cons (ps_asg (pe_op op_add (pe_ix ix_list (pv 0) pe_int (fun _ _ => rfl)) pe_int) (pg_sub (pv 0) pe_int set_list))
    (pss_cons (ps_set (i := 3) sc_take.nd rfl (by first | exact Or.inl rfl | exact Or.inr rfl) (pe_op op_mod (pe_op op_mul (pe_op op_add (pe_ix ix_list (pv 0) pe_int (fun _ _ => rfl)) (pe_op op_mul pe_int (pe_ix ix_list (pv 0) pe_int (fun _ _ => rfl)))) pe_int) pe_int))
    (pss_cons (ps_set (i := 3) sc_take.nd rfl (by first | exact Or.inl rfl | exact Or.inr rfl) (pe_op op_mod (pe_op op_add (pe_op op_mul (pv 3) (pv 3)) (pe_op op_mul pe_int (pe_ix ix_list (pv 0) pe_int (fun _ _ => rfl)))) pe_int))
    (pss_cons (ps_set (i := 3) sc_take.nd rfl (by first | exact Or.inl rfl | exact Or.inr rfl) (pe_op op_mod (pe_op op_mul (pv 3) (pe_op op_add (pe_op op_mod (pv 3) pe_int) (pe_ix ix_list (pv 0) pe_int (fun _ _ => rfl)))) pe_int))
    (pss_one (ps_ret (pe_op op_mod (pe_op op_fdivB (pv 3) pe_int) (pv 1))))))))), ?_⟩
    walk_at "rd"
    refine ite2 (fun g => ?_) (fun g => ?_)
    · walk_at "rd"
      refine ⟨p, _, _, _, rfl, rfl, hp, rfl, ?_⟩
      walk_at "rd"
      exact k _ _ _ _ (Int.emod_nonneg _ (by (first | lia | omega))) (Int.emod_lt_of_pos _ h0)
    · walk_at "rd"
      refine ⟨p, _, _, _, rfl, rfl, hp, rfl, ?_⟩
      have hp2 : (upd H p (HO.lst [V.int a, V.int (b + 1), V.int c])) p = some (.lst [V.int a, V.int (b + 1), V.int c]) := upd_same
      walk_at "rd"
      exact k _ _ _ _ (Int.emod_nonneg _ (by (first | lia | omega))) (Int.emod_lt_of_pos _ h0)
end
section
variable {P : Program} {w : World} {K : PySem.W.Frag} {mg : Str → Option Value} {base : Heap} {f : Addr} {fd : FuncData}
theorem sc_pen : FnScope ["_law_script", "_law_k", "_law_cell"] ["_law_script", "_law_k"] (defScope s_pen) := ⟨rfl, rfl, rfl, by decide +kernel, rfl, by decide +kernel, by decide +kernel⟩
theorem ok_pen (T : Bn mg) (F : Here K mg "_law_pen" s_pen f fd) : FnOk P w K mg base CX0 1 f fd ["_law_script", "_law_k"] (spPen K) := by
  refine F.fn.ok sc_pen (fun vs H Q E h => ?_) (fun cdv A outer s H vs Q E hr h => ?_)
  · obtain ⟨a, ns, k, rfl, _⟩ := h
    rfl
  · obtain ⟨a, ns, k, rfl, hS, h63, h0, h1, q⟩ := h
    refine ⟨_, (pss_cons (ps_set (i := 2) sc_pen.nd rfl (by first | exact Or.inl rfl | exact Or.inr rfl) (pe_op op_add (pe_op op_mul pe_int (pv 1)) pe_int))
    (pss_cons (ps_if (pt_cmpR op_gt (pe_callB call_len_seq rfl T.n_len PySem.boot_len (pa_cons (pv 0) pa_nil)) pe_int (nomark _))
    (pss_cons (ps_set (i := 2) sc_pen.nd rfl (by first | exact Or.inl rfl | exact Or.inr rfl) (pe_ix ix_list (pv 0) (pe_op op_mod (pv 1) (pe_callB call_len_seq rfl T.n_len PySem.boot_len (pa_cons (pv 0) pa_nil))) (fun _ _ => rfl)))
    (pss_one (ps_if (pt_cmpR op_ge (pv 1) (pe_callB call_len_seq rfl T.n_len PySem.boot_len (pa_cons (pv 0) pa_nil)) (nomark _))
    (pss_one (ps_set (i := 2) sc_pen.nd rfl (by first | exact Or.inl rfl | exact Or.inr rfl) (pe_op op_add (pe_op op_mod (pv 2) pe_int) (pe_op op_mul pe_int (pv 1)))))
    pss_nil)))
    pss_nil)
    (pss_cons (ps_if (pt_cmpR op_ge (pv 2) (pe_op op_pow pe_int pe_int) (nomark _))
    (pss_one (ps_ret (pe_lst (pa_cons (pe_op op_sub (pv 2) (pe_op op_pow pe_int pe_int)) (pa_cons pe_int (pa_cons (pe_op op_add (pe_op op_mod (pv 2) pe_int) (pv 1)) pa_nil))))))
    pss_nil)
    (pss_one (ps_ret (pe_lst (pa_cons pe_int (pa_cons pe_int (pa_cons (pe_op op_add (pe_op op_mod (pv 2) pe_int) (pe_op op_mul pe_int (pv 1))) pa_nil))))))))), ?_⟩
    have hl : (ns.map V.int).length = ns.length := List.length_map _
    walk_at "rd"
    refine ⟨_, _, rfl, .inl hS, ?_⟩
    walk_at "rd"
    refine ite2 (fun g => ?_) (fun g => ?_)
    · have g' := of_decide_eq_true g
      rw [hl] at g'
      walk_at "rd"
      refine ⟨_, _, rfl, .inl hS, ?_⟩
      walk_at "rd"
      refine ⟨a, _, _, _, rfl, rfl, hS, atI_int (Int.emod_nonneg _ (by (first | lia | omega))) (by rw [hl]; exact Int.emod_lt_of_pos _ (by (first | lia | omega))), ?_⟩
      walk_at "rd"
      refine ⟨_, _, rfl, .inl hS, ?_⟩
      walk_at "rd"
      refine ite2 (fun g => ?_) (fun g => ?_)
      all_goals
        walk_at "rd"
        refine ite2 (fun g => ?_) (fun g => ?_)
        · walk_at "rd"
          intro p hp
          exact q p _ _ _ hp
        · walk_at "rd"
          intro p hp
          exact q p _ _ _ hp
    · walk_at "rd"
      refine ite2 (fun g => ?_) (fun g => ?_)
      · walk_at "rd"
        intro p hp
        exact q p _ _ _ hp
      · walk_at "rd"
        intro p hp
        exact q p _ _ _ hp
end
section
variable {P : Program} {w : World} {K : PySem.W.Frag} {mg : Str → Option Value} {base : Heap} {f : Addr} {fd : FuncData}
theorem sc_wickets : FnScope ["_law_pen_here", "_law_wide", "_law_many", "_law_found", "_law_k", "_law_first"] ["_law_pen_here", "_law_wide", "_law_many"] (defScope s_wickets) := ⟨rfl, rfl, rfl, by decide +kernel, rfl, by decide +kernel, by decide +kernel⟩
theorem ok_wickets (T : Bn mg) (F : Here K mg "_law_wickets" s_wickets f fd) (C_law_take : Callee P w K mg base "_law_take" 1 ["_law_pen_here", "_law_size"] spTake) :
    FnOk P w K mg base CX0 2 f fd ["_law_pen_here", "_law_wide", "_law_many"] spWickets := by
  refine F.fn.ok sc_wickets (fun vs H Q E h => ?_) (fun cdv A outer s H vs Q E hr h => ?_)
  · obtain ⟨p, wide, many, rfl, _⟩ := h
    rfl
  · obtain ⟨p, wide, many, rfl, ⟨a0, b0, c0, hp0⟩, w1, w8, m0, m41, q⟩ := h
    refine ⟨_, (pss_cons (ps_set (i := 3) sc_wickets.nd rfl (by first | exact Or.inl rfl | exact Or.inr rfl) (pe_lst pa_nil))
    (pss_cons (ps_for PassesOwn.never rfl  (pi_range1 rfl T.n_range (pa_cons (pe_op op_mul (pv 2) (pe_callTy call_int1 rfl T.n_int boot_intT (pa_cons (pe_cmpR op_gt (pv 1) pe_int (nomark _)) pa_nil))) pa_nil)) (pg_name (i := 4) sc_wickets.nd rfl (by first | exact Or.inl rfl | exact Or.inr rfl))
    (pss_cons (ps_set (i := 5) sc_wickets.nd rfl (by first | exact Or.inl rfl | exact Or.inr rfl) (pe_callC C_law_take (hr.mono (by first | decide | (first | lia | omega))) rfl (pa_cons (pv 0) (pa_cons (pv 1) pa_nil))))
    (pss_one (ps_expr (pe_bm PySem.F.plainAttrs_list PySem.F.slot_list_append PySem.F.type_list_append mt_append (pv 3) (pa_cons (pe_tup (pa_cons (pv 5) (pa_cons (pe_op op_mod (pe_op op_add (pe_op op_add (pv 5) pe_int) (pe_callC C_law_take (hr.mono (by first | decide | (first | lia | omega))) rfl (pa_cons (pv 0) (pa_cons (pe_op op_sub (pv 1) pe_int) pa_nil)))) (pv 1)) pa_nil))) pa_nil))))))
    (pss_one (ps_ret (pv 3))))), ?_⟩
    walk_at "rd"
    intro l hl
    have npl : p ≠ l := ne_of_none hp0 hl
    walk_at "rd"
    have hj : ∃ j : Nat, many * (if decide (1 < wide) = true then (1 : Int) else 0) = (j : Int) ∧ (j : Int) ≤ many ∧ (0 < j → 1 < wide) := by
      by_cases hw : 1 < wide
      · exact ⟨many.toNat, by rw [if_pos (decide_eq_true hw)]; (first | lia | omega), by (first | lia | omega), fun _ => hw⟩
      · exact ⟨0, by rw [if_neg (by simpa using hw)]; (first | lia | omega), by (first | lia | omega), fun z => absurd z (by (first | lia | omega))⟩
    obtain ⟨j, ej, jm, jw⟩ := hj
    show -(2 ^ 62) ≤ many * (if decide (1 < wide) = true then (1 : Int) else 0) ∧ _
    rw [ej]
    refine ⟨by (first | lia | omega), by (first | lia | omega), ?_⟩
    refine for_range (n := (j : Int).toNat) (fun i σ Hc => ∃ (v4 v5 : Option V) (ws : List (Int × Int)), σ = [some (.ref p), some (.int wide), some (.int many), some (.ref l), v4, v5] ∧ Kp p H Hc ∧ Pen Hc p ∧ WsL Hc l ws ∧ WOk wide ws ∧ ws.length = i)
      ⟨none, none, [], rfl, Kp.put hl (Kp.refl _ _), ⟨a0, b0, c0, by rw [upd_ne npl]; exact hp0⟩, ⟨[], upd_same, .nil⟩, WOk.nil, rfl⟩ ?_ ?_
    · rintro i σ Hc hlt ⟨v4, v5, ws, rfl, kp, ⟨a, b, c, hp⟩, ⟨rs, hls, hrs⟩, ok, len⟩
      have hw : 1 < wide := jw (by (first | lia | omega))
      walk_at "rd"
      refine ⟨p, a, b, c, wide, rfl, hp, by (first | lia | omega), by (first | lia | omega), fun v a' b' c' v0 vw => ?_⟩
      have hl1 : (upd Hc p (HO.lst [V.int a', V.int b', V.int c'])) l = some (.lst rs) := by rw [upd_ne (Ne.symm npl)]; exact hls
      walk_at "rd"
      refine ⟨p, a', b', c', wide - 1, rfl, upd_same, by (first | lia | omega), by (first | lia | omega), fun u a2 b2 c2 u0 uw => ?_⟩
      walk_at "rd"
      intro t ht
      have kp2 : Kp p Hc (upd (upd (upd Hc p (HO.lst [V.int a', V.int b', V.int c'])) p (HO.lst [V.int a2, V.int b2, V.int c2])) t (HO.tup [V.int v, V.int ((v + 1 + u) % wide)])) :=
        Kp.trans (Kp.trans Kp.upd Kp.upd) (Kp.same (same_new ht _))
      have ntl : t ≠ l := fun z => by
        rw [z, upd_ne (Ne.symm npl), upd_ne (Ne.symm npl), hls] at ht
        cases ht
      have ntp : t ≠ p := fun z => by
        rw [z, upd_same] at ht
        cases ht
      refine ⟨l, rs, _, rfl, rfl, kp2 l _ hls (Ne.symm npl), lenLt (by have := hrs.len; (first | lia | omega)), ?_⟩
      have hv : (v + 1 + u) % wide ≠ v ∧ 0 ≤ (v + 1 + u) % wide ∧ (v + 1 + u) % wide < wide := by
        refine ⟨fun z => ?_, Int.emod_nonneg _ (by (first | lia | omega)), Int.emod_lt_of_pos _ (by (first | lia | omega))⟩
        by_cases hh : v + 1 + u < wide
        · rw [Int.emod_eq_of_lt (by (first | lia | omega)) hh] at z
          (first | lia | omega)
        · have e2 : (v + 1 + u) % wide = v + 1 + u - wide := by
            rw [Int.emod_eq_emod_iff_emod_sub_eq_zero.mpr (show (v + 1 + u - (v + 1 + u - wide)) % wide = 0 by rw [show v + 1 + u - (v + 1 + u - wide) = wide by (first | lia | omega)]; exact Int.emod_self)]
            exact Int.emod_eq_of_lt (by (first | lia | omega)) (by (first | lia | omega))
          rw [e2] at z
          (first | lia | omega)
      refine ⟨_, _, ws ++ [(v, (v + 1 + u) % wide)], rfl, Kp.put hl (Kp.trans kp kp2), ?_, ?_, ok.app (WOk.one ⟨v0, vw, hv.2.1, hv.2.2, Ne.symm hv.1⟩), by simp [len]⟩
      · exact ⟨a2, b2, c2, by rw [upd_ne npl, upd_ne (Ne.symm ntp), upd_same]⟩
      · refine ⟨_, upd_same, ?_⟩
        have hr2 := hrs.kp kp2 hp
        refine (hr2.app (.cons ⟨t, rfl, upd_same⟩ .nil)).mono fun b xs e => ?_
        rw [upd_ne (fun z => ?_)]
        · exact e
        · subst z
          rw [kp2 _ _ hls (Ne.symm npl)] at e
          cases e
    · rintro σ Hc ⟨v4, v5, ws, rfl, kp, pn, wl, ok, len⟩
      walk_at "rd"
      exact q l ws Hc hl kp pn wl ok (by (first | lia | omega))
end
section
variable {P : Program} {w : World} {K : PySem.W.Frag} {mg : Str → Option Value} {base : Heap} {f : Addr} {fd : FuncData}
theorem sc_lifted : FnScope ["_law_wickets_here", "_law_by"] ["_law_wickets_here", "_law_by"] (defScope s_lifted) := ⟨rfl, rfl, rfl, by decide +kernel, rfl, by decide +kernel, by decide +kernel⟩
theorem ok_lifted (F : Here K mg "_law_lifted" s_lifted f fd) : FnOk P w K mg base CX0 1 f fd ["_law_wickets_here", "_law_by"] spLifted := by
  refine F.fn.ok sc_lifted (fun vs H Q E h => ?_) (fun cdv A outer s H vs Q E hr h => ?_)
  · obtain ⟨a, ws, k, rfl, _⟩ := h
    rfl
  · obtain ⟨a, ws, k, rfl, ⟨rs, ha, hrs⟩, hlen, q⟩ := h
    have el := hrs.len
    refine ⟨_, (pss_one (ps_ret (pe_comp ["_law_first", "_law_second"] [("_law_by", 1)] rfl (pi_list (pv 0)) (fun _ _ _ _ _ _ => by exact (pg_tupK K rfl (n := 2) rfl (pgs_cons (pg_name (i := 0) (show List.Nodup (["_law_first", "_law_second", "_law_by"] : List Str) by decide +kernel) rfl (by first | exact Or.inl rfl | exact Or.inr rfl)) (pgs_cons (pg_name (i := 1) (show List.Nodup (["_law_first", "_law_second", "_law_by"] : List Str) by decide +kernel) rfl (by first | exact Or.inl rfl | exact Or.inr rfl)) pgs_nil)))) (fun _ _ _ _ _ _ => by exact pts_nil) (fun _ _ _ _ _ _ => by exact (pe_tup (pa_cons (pe_op op_add (pv 0) (pv 2)) (pa_cons (pe_op op_add (pv 1) (pv 2)) pa_nil))))))), ?_⟩
    walk_at "rd"
    refine ⟨⟨_, SqL.of ha⟩, fun l hl => ?_⟩
    refine comp_list (xs := rs) (fun i ys Hc => Same H Hc ∧ Hc l = some (.lst ys) ∧ Refs Hc ys ((ws.take i).map (lift k))) ⟨Same.put hl (Same.refl H), upd_same, .nil⟩ (lenLine (by (first | lia | omega))) (fun i ys Hc hi ⟨s1, e1, r1⟩ => ⟨SqL.of (s1 a _ ha), e1, by have := r1.len; simp at this; (first | lia | omega)⟩) ?_ ?_
    · rintro i x ys Hc hx ⟨s1, e1, r1⟩
      obtain ⟨w1, t, hw1, rfl, ht⟩ := hrs.get hx
      have ht1 := s1 t _ ht
      refine ⟨t, _, rfl, SqT.of ht1, rfl, ?_⟩
      refine ⟨_, _, rfl, _, _, rfl, rfl, ?_⟩
      refine ⟨⟨.inl rfl, .inl rfl, .inr rfl, trivial⟩, ?_⟩
      refine tru_if ?_
      walk_at "rd"
      intro u hu
      have nul : u ≠ l := fun z => by rw [z, e1] at hu; cases hu
      refine ⟨by rw [upd_ne (Ne.symm nul)]; exact e1, Same.put hl (Same.trans s1 (same_new hu _)), upd_same, ?_⟩
      have et : (ws.take (i + 1)).map (lift k) = (ws.take i).map (lift k) ++ [lift k w1] := by
        rw [List.take_add_one, hw1]; simp
      rw [et]
      have r2 : Refs (upd Hc u (HO.tup [V.int (w1.1 + k), V.int (w1.2 + k)])) (ys ++ [V.ref u]) ((ws.take i).map (lift k) ++ [lift k w1]) :=
        (r1.same (same_new hu _)).app (.cons ⟨u, rfl, upd_same⟩ .nil)
      refine r2.mono fun b xs e => ?_
      rw [upd_ne (fun z => ?_)]
      · exact e
      · subst z
        rw [upd_ne (Ne.symm nul), e1] at e
        cases e
    · rintro ys Hc ⟨s1, e1, r1⟩
      rw [el, List.take_length] at r1
      exact q l Hc hl s1 ⟨ys, e1, r1⟩
end
section
variable {P : Program} {w : World} {K : PySem.W.Frag} {mg : Str → Option Value} {base : Heap} {f : Addr} {fd : FuncData}
theorem sc_folded : FnScope ["_law_wide", "_law_half", "_law_below", "_law_found", "_law_gap"] ["_law_wide"] (defScope s_folded) := ⟨rfl, rfl, rfl, by decide +kernel, rfl, by decide +kernel, by decide +kernel⟩
def gapOf (σ : St) : Nat := match σ[4]? with
  | some (some (V.int g)) => g.toNat
  | _ => 0
theorem ok_folded0 : FnOk P w K mg base CX0 1 f fd ["_law_wide"] (spBuilt 0) :=
  ⟨fun vs H Q E ⟨wide, _, h1, h2, _⟩ => absurd h2 (by rcases h1 with h | h | h | h <;> subst h <;> decide), fun A outer s H args us vs Q E _ _ _ _ ⟨wide, _, h1, h2, _⟩ => absurd h2 (by rcases h1 with h | h | h | h <;> subst h <;> decide)⟩
theorem ok_folded1 {n m : Nat} (T : Bn mg) (F : Here K mg "_law_folded" s_folded f fd) (C_law_lifted : Callee P w K mg base "_law_lifted" 1 ["_law_wickets_here", "_law_by"] spLifted)
    (C_law_folded : Callee P w K mg base "_law_folded" (m + 1) ["_law_wide"] (spBuilt n)) : FnOk P w K mg base CX0 (m + 2) f fd ["_law_wide"] (spBuilt (n + 1)) := by
  refine F.fn.ok sc_folded (fun vs H Q E h => ?_) (fun cdv A outer s H vs Q E hr h => ?_)
  · obtain ⟨wide, rfl, _⟩ := h
    rfl
  · obtain ⟨wide, rfl, hp2, hn, q⟩ := h
    refine ⟨_, (pss_cons (ps_if (pt_cmpR op_eq (pv 0) pe_int (nomark _))
    (pss_one (ps_ret (pe_lst pa_nil)))
    pss_nil)
    (pss_cons (ps_set (i := 1) sc_folded.nd rfl (by first | exact Or.inl rfl | exact Or.inr rfl) (pe_op op_fdiv (pv 0) pe_int))
    (pss_cons (ps_set (i := 2) sc_folded.nd rfl (by first | exact Or.inl rfl | exact Or.inr rfl) (pe_callC C_law_folded (hr.mono (by first | decide | (first | lia | omega))) rfl (pa_cons (pv 1) pa_nil)))
    (pss_cons (ps_set (i := 3) sc_folded.nd rfl (by first | exact Or.inl rfl | exact Or.inr rfl) (pe_op op_cat (pe_op op_cat (pv 2) (pe_callC C_law_lifted (hr.mono (by first | decide | (first | lia | omega))) rfl (pa_cons (pv 2) (pa_cons (pv 1) pa_nil)))) (pe_comp ["_law_k"] [("_law_wide", 0)] rfl (pi_range1 rfl T.n_range (pa_cons (pv 1) pa_nil)) (fun _ _ _ _ _ _ => by exact (pg_name (i := 0) (show List.Nodup (["_law_k", "_law_wide"] : List Str) by decide +kernel) rfl (by first | exact Or.inl rfl | exact Or.inr rfl))) (fun _ _ _ _ _ _ => by exact pts_nil) (fun _ _ _ _ _ _ => by exact (pe_tup (pa_cons (pv 0) (pa_cons (pe_op op_sub (pe_op op_sub (pv 1) pe_int) (pv 0)) pa_nil)))))))
    (pss_cons (ps_set (i := 4) sc_folded.nd rfl (by first | exact Or.inl rfl | exact Or.inr rfl) (pe_op op_fdiv (pv 1) pe_int))
    (pss_cons (ps_while PassesOwn.never  (pt_cmpR op_gt (pv 4) pe_int (nomark _))
    (pss_cons (ps_set (i := 3) sc_folded.nd rfl (by first | exact Or.inl rfl | exact Or.inr rfl) (pe_op op_cat (pv 3) (pe_comp ["_law_k"] [("_law_gap", 4)] rfl (pi_range1 rfl T.n_range (pa_cons (pv 0) pa_nil)) (fun _ _ _ _ _ _ => by exact (pg_name (i := 0) (show List.Nodup (["_law_k", "_law_gap"] : List Str) by decide +kernel) rfl (by first | exact Or.inl rfl | exact Or.inr rfl))) (fun _ _ _ _ _ _ => by exact (pts_one (pt_cmpR op_eq (pe_op op_mod (pe_op op_fdiv (pv 0) (pv 1)) pe_int) pe_int (nomark _)))) (fun _ _ _ _ _ _ => by exact (pe_tup (pa_cons (pv 0) (pa_cons (pe_op op_add (pv 0) (pv 1)) pa_nil)))))))
    (pss_one (ps_set (i := 4) sc_folded.nd rfl (by first | exact Or.inl rfl | exact Or.inr rfl) (pe_op op_fdiv (pv 4) pe_int)))))
    (pss_one (ps_ret (pv 3))))))))), ?_⟩
    walk_at "rd"
    refine ite2 (fun g => ?_) (fun g => ?_)
    · walk_at "rd"
      intro l hl
      exact q l [] _ hl (same_new hl _) ⟨[], upd_same, .nil⟩ WOk.nil (by rcases hp2 with h | h | h | h <;> subst h <;> decide)
    · have hw : wide ≠ 1 := vne g
      obtain ⟨half, eh, hp3, hh⟩ : ∃ half, wide = 2 * half ∧ pow2 half ∧ half ≤ 4 := by
        rcases hp2 with h | h | h | h
        · exact absurd h hw
        · exact ⟨1, by (first | lia | omega), .inl rfl, by decide⟩
        · exact ⟨2, by (first | lia | omega), .inr (.inl rfl), by decide⟩
        · exact ⟨4, by (first | lia | omega), .inr (.inr (.inl rfl)), by decide⟩
      have e2 : wide / 2 = half := by (first | lia | omega)
      have hhn : half < 2 ^ n := by
        have e3 : (2 : Int) ^ (n + 1) = 2 * 2 ^ n := by rw [Int.pow_succ]; (first | lia | omega)
        (first | lia | omega)
      walk_at "rd"
      refine ⟨_, rfl, by rw [e2]; exact hp3, by rw [e2]; exact hhn, fun bl ws1 H1 fb s1 wl1 ok1 len1 => ?_⟩
      rw [e2] at ok1 len1
      obtain ⟨rs1, hb1, hr1⟩ := wl1
      have lr1 := hr1.len
      have half0 : 0 < half := by rcases hp3 with h | h | h | h <;> (first | lia | omega)
      have b64 : half * half ≤ 16 := by rcases hp3 with h | h | h | h <;> subst h <;> first | decide | (first | lia | omega)
      walk_at "rd"
      refine ⟨bl, ws1, wide / 2, rfl, ⟨rs1, hb1, hr1⟩, by (first | lia | omega), fun ll H2 fl2 s2 wl2 => ?_⟩
      obtain ⟨rs2, hb2, hr2⟩ := wl2
      have lr2 := hr2.len
      rw [List.length_map] at lr2
      refine ⟨bl, ll, rs1, rs2, rfl, rfl, s2 _ _ hb1, hb2, lenLine (by (first | lia | omega)), fun c1 fc1 => ?_⟩
      have okl : WOk wide (ws1 ++ ws1.map (lift (wide / 2))) := by
        refine WOk.app (fun w hw => ?_) (fun w hw => ?_)
        · have := ok1 w hw; (first | lia | omega)
        · obtain ⟨u, hu, rfl⟩ := List.mem_map.mp hw
          have := ok1 u hu
          show 0 ≤ u.1 + wide / 2 ∧ u.1 + wide / 2 < wide ∧ 0 ≤ u.2 + wide / 2 ∧ u.2 + wide / 2 < wide ∧ u.1 + wide / 2 ≠ u.2 + wide / 2
          (first | lia | omega)
      have rf1 : Refs (upd H2 c1 (HO.lst (rs1 ++ rs2))) (rs1 ++ rs2) (ws1 ++ ws1.map (lift (wide / 2))) := ((hr1.same s2).app hr2).same (same_new fc1 _)
      have sc1 : Same H (upd H2 c1 (HO.lst (rs1 ++ rs2))) := Same.trans (Same.trans s1 s2) (same_new fc1 _)
      generalize hH3 : upd H2 c1 (HO.lst (rs1 ++ rs2)) = H3 at rf1 sc1
      have hc1 : H3 c1 = some (.lst (rs1 ++ rs2)) := by rw [← hH3]; exact upd_same
      walk_at "rd"
      intro l3 fl3
      refine comp_range (n := (wide / 2).toNat) (CompW H3 l3 fun w => 0 ≤ w.1 ∧ w.1 < wide ∧ 0 ≤ w.2 ∧ w.2 < wide ∧ w.1 ≠ w.2) (CompW.start fl3) (lenLine (by (first | lia | omega))) (fun i ys Hc h => h.len) ?_ ?_
      · intro i ys Hc hi cw
        refine ⟨⟨.inl rfl, .inr rfl, trivial⟩, tru_if ?_⟩
        walk_at "rd"
        intro u hu
        exact cw.more fl3 hu (by show 0 ≤ 0 + (i : Int) ∧ 0 + (i : Int) < wide ∧ 0 ≤ wide - 1 - (0 + (i : Int)) ∧ wide - 1 - (0 + (i : Int)) < wide ∧ 0 + (i : Int) ≠ wide - 1 - (0 + (i : Int)); (first | lia | omega))
      rintro ys H4 ⟨s4, e4, us4, r4, g4, le4⟩
      have l4 := r4.len
      have lw : (rs1 ++ rs2).length = ws1.length + ws1.length := by rw [List.length_append]; (first | lia | omega)
      refine ⟨c1, l3, _, _, rfl, rfl, s4 _ _ hc1, e4, lenLine (by (first | lia | omega)), fun c5 fc5 => ?_⟩
      have rf5 : Refs (upd H4 c5 (HO.lst ((rs1 ++ rs2) ++ ys))) ((rs1 ++ rs2) ++ ys) ((ws1 ++ ws1.map (lift (wide / 2))) ++ us4) := ((rf1.same s4).app r4).same (same_new fc5 _)
      have sc5 : Same H (upd H4 c5 (HO.lst ((rs1 ++ rs2) ++ ys))) := Same.trans (Same.trans sc1 s4) (same_new fc5 _)
      have fr5 : H c5 = none := (Same.trans sc1 s4).free fc5
      walk_at "rd"
      refine while_by (fun σ Hc => ∃ (gap : Int) (fl : Addr) (ws : List (Int × Int)), σ = [some (.int wide), some (.int (wide / 2)), some (.ref bl), some (.ref fl), some (.int gap)] ∧ H fl = none ∧ Same H Hc ∧ WsL Hc fl ws ∧ WOk wide ws ∧ 0 ≤ gap ∧ gap ≤ 2 ∧ (gap = 2 → wide = 8) ∧ (1 ≤ gap → 4 ≤ wide) ∧ (ws.length : Int) + wide * gap ≤ wide * wide)
        (fun σ _ => gapOf σ) ⟨wide / 2 / 2, c5, _, rfl, fr5, sc5, ⟨_, upd_same, rf5⟩, okl.app g4, by (first | lia | omega), by (first | lia | omega), by (first | lia | omega), by (first | lia | omega), ?_⟩ ?_ ?_
      · rw [List.length_append, List.length_append, List.length_map]
        rcases hp3 with h | h | h | h <;> subst h <;> subst eh <;> simp at len1 le4 ⊢ <;> (first | lia | omega)
      · rintro σ Hc ⟨gap, fl, ws, rfl, frl, sc, ⟨rs, hfl, hrs⟩, ok, g0, g2, g8, g4', hlen⟩
        have lrs := hrs.len
        walk_at "rd"
        refine ite2 (fun g => ?_) (fun g => ?_)
        · have gp : 0 < gap := of_decide_eq_true g
          walk_at "rd"
          intro l6 fl6
          refine comp_range (n := wide.toNat) (CompW Hc l6 fun w => 0 ≤ w.1 ∧ w.1 < wide ∧ 0 ≤ w.2 ∧ w.2 < wide ∧ w.1 ≠ w.2) (CompW.start fl6) (lenLine (by (first | lia | omega))) (fun i ys Hc h => h.len) ?_ ?_
          · intro i ys Hd hi cw
            refine ⟨⟨.inl rfl, .inr rfl, trivial⟩, ?_⟩
            walk_at "rd"
            refine ite2 (fun g => ?_) (fun g => ?_)
            · have ge := veq g
              walk_at "rd"
              intro u hu
              refine cw.more fl6 hu ?_
              show 0 ≤ 0 + (i : Int) ∧ 0 + (i : Int) < wide ∧ 0 ≤ 0 + (i : Int) + gap ∧ 0 + (i : Int) + gap < wide ∧ 0 + (i : Int) ≠ 0 + (i : Int) + gap
              have g12 : gap = 1 ∨ gap = 2 := by (first | lia | omega)
              rcases g12 with h | h
              · subst h
                rcases hp3 with h | h | h | h <;> (first | lia | omega)
              · subst h
                (first | lia | omega)
            · exact cw.skip
          rintro ys H7 ⟨s7, e7, us7, r7, g7, le7⟩
          have l7 := r7.len
          have w64 : wide * wide ≤ 64 ∧ 0 ≤ wide * gap := ⟨by rcases hp3 with h | h | h | h <;> subst h <;> subst eh <;> first | decide | (first | lia | omega), Int.mul_nonneg (by (first | lia | omega)) (by (first | lia | omega))⟩
          refine ⟨fl, l6, _, _, rfl, rfl, s7 _ _ hfl, e7, lenLine (by (first | lia | omega)), fun c8 fc8 => ?_⟩
          walk_at "rd"
          refine ⟨⟨gap / 2, c8, ws ++ us7, rfl, (Same.trans sc s7).free fc8, Same.trans (Same.trans sc s7) (same_new fc8 _), ⟨_, upd_same, ((hrs.same s7).app r7).same (same_new fc8 _)⟩, ok.app g7, by (first | lia | omega), by (first | lia | omega), by (first | lia | omega), by (first | lia | omega), ?_⟩, ?_⟩
          · rw [List.length_append]
            have g12 : gap = 1 ∨ gap = 2 := by (first | lia | omega)
            rcases g12 with h | h <;> subst h
            · have : (1 : Int) / 2 = 0 := by decide
              rw [this]; (first | lia | omega)
            · have : (2 : Int) / 2 = 1 := by decide
              rw [this]; (first | lia | omega)
          · show (gap / 2).toNat < gap.toNat
            (first | lia | omega)
        · walk_at "rd"
          exact q fl ws Hc frl sc ⟨rs, hfl, hrs⟩ ok (by
            have : 0 ≤ wide * gap := Int.mul_nonneg (by (first | lia | omega)) g0
            (first | lia | omega))
      · rintro σ Hc Q1 Q2 hm ⟨v, e, h⟩
        refine ⟨v, e, ?_⟩
        obtain ⟨i, j, e1, e2, b, e3, h⟩ := h
        exact ⟨i, j, e1, e2, b, e3, hm _ _ h⟩
end
section
variable {P : Program} {w : World} {K : PySem.W.Frag} {mg : Str → Option Value} {base : Heap} {f : Addr} {fd : FuncData}
theorem sc_block : FnScope ["_law_wide", "_law_half", "_law_below"] ["_law_wide"] (defScope s_block) := ⟨rfl, rfl, rfl, by decide +kernel, rfl, by decide +kernel, by decide +kernel⟩
theorem ok_block0 : FnOk P w K mg base CX0 1 f fd ["_law_wide"] (spBuilt 0) :=
  ⟨fun vs H Q E ⟨wide, _, h1, h2, _⟩ => absurd h2 (by rcases h1 with h | h | h | h <;> subst h <;> decide), fun A outer s H args us vs Q E _ _ _ _ ⟨wide, _, h1, h2, _⟩ => absurd h2 (by rcases h1 with h | h | h | h <;> subst h <;> decide)⟩
theorem ok_block1 {n m : Nat} (T : Bn mg) (F : Here K mg "_law_block" s_block f fd) (C_law_lifted : Callee P w K mg base "_law_lifted" 1 ["_law_wickets_here", "_law_by"] spLifted)
    (C_law_block : Callee P w K mg base "_law_block" (m + 1) ["_law_wide"] (spBuilt n)) : FnOk P w K mg base CX0 (m + 2) f fd ["_law_wide"] (spBuilt (n + 1)) := by
  refine F.fn.ok sc_block (fun vs H Q E h => ?_) (fun cdv A outer s H vs Q E hr h => ?_)
  · obtain ⟨wide, rfl, _⟩ := h
    rfl
  · obtain ⟨wide, rfl, hp2, hn, q⟩ := h
    refine ⟨_, (pss_cons (ps_if (pt_cmpR op_eq (pv 0) pe_int (nomark _))
    (pss_one (ps_ret (pe_lst pa_nil)))
    pss_nil)
    (pss_cons (ps_set (i := 1) sc_block.nd rfl (by first | exact Or.inl rfl | exact Or.inr rfl) (pe_op op_fdiv (pv 0) pe_int))
    (pss_cons (ps_set (i := 2) sc_block.nd rfl (by first | exact Or.inl rfl | exact Or.inr rfl) (pe_callC C_law_block (hr.mono (by first | decide | (first | lia | omega))) rfl (pa_cons (pv 1) pa_nil)))
    (pss_one (ps_ret (pe_op op_cat (pe_op op_cat (pe_comp ["_law_k"] [("_law_wide", 0)] rfl (pi_range1 rfl T.n_range (pa_cons (pv 1) pa_nil)) (fun _ _ _ _ _ _ => by exact (pg_name (i := 0) (show List.Nodup (["_law_k", "_law_wide"] : List Str) by decide +kernel) rfl (by first | exact Or.inl rfl | exact Or.inr rfl))) (fun _ _ _ _ _ _ => by exact pts_nil) (fun _ _ _ _ _ _ => by exact (pe_tup (pa_cons (pv 0) (pa_cons (pe_op op_sub (pe_op op_sub (pv 1) pe_int) (pv 0)) pa_nil))))) (pv 2)) (pe_callC C_law_lifted (hr.mono (by first | decide | (first | lia | omega))) rfl (pa_cons (pv 2) (pa_cons (pv 1) pa_nil))))))))), ?_⟩
    walk_at "rd"
    refine ite2 (fun g => ?_) (fun g => ?_)
    · walk_at "rd"
      intro l hl
      exact q l [] _ hl (same_new hl _) ⟨[], upd_same, .nil⟩ WOk.nil (by rcases hp2 with h | h | h | h <;> subst h <;> decide)
    · have hw : wide ≠ 1 := vne g
      obtain ⟨half, eh, hp3, hh⟩ : ∃ half, wide = 2 * half ∧ pow2 half ∧ half ≤ 4 := by
        rcases hp2 with h | h | h | h
        · exact absurd h hw
        · exact ⟨1, by (first | lia | omega), .inl rfl, by decide⟩
        · exact ⟨2, by (first | lia | omega), .inr (.inl rfl), by decide⟩
        · exact ⟨4, by (first | lia | omega), .inr (.inr (.inl rfl)), by decide⟩
      have e2 : wide / 2 = half := by (first | lia | omega)
      have hhn : half < 2 ^ n := by
        have e3 : (2 : Int) ^ (n + 1) = 2 * 2 ^ n := by rw [Int.pow_succ]; (first | lia | omega)
        (first | lia | omega)
      walk_at "rd"
      refine ⟨_, rfl, by rw [e2]; exact hp3, by rw [e2]; exact hhn, fun bl ws1 H1 fb s1 wl1 ok1 len1 => ?_⟩
      rw [e2] at ok1 len1
      obtain ⟨rs1, hb1, hr1⟩ := wl1
      have lr1 := hr1.len
      have half0 : 0 < half := by rcases hp3 with h | h | h | h <;> (first | lia | omega)
      have b64 : half * half ≤ 16 := by rcases hp3 with h | h | h | h <;> subst h <;> first | decide | (first | lia | omega)
      walk_at "rd"
      intro l3 fl3
      refine comp_range (n := (wide / 2).toNat) (CompW H1 l3 fun w => 0 ≤ w.1 ∧ w.1 < wide ∧ 0 ≤ w.2 ∧ w.2 < wide ∧ w.1 ≠ w.2) (CompW.start fl3) (lenLine (by (first | lia | omega))) (fun i ys Hc h => h.len) ?_ ?_
      · intro i ys Hc hi cw
        refine ⟨⟨.inl rfl, .inr rfl, trivial⟩, tru_if ?_⟩
        walk_at "rd"
        intro u hu
        exact cw.more fl3 hu (by show 0 ≤ 0 + (i : Int) ∧ 0 + (i : Int) < wide ∧ 0 ≤ wide - 1 - (0 + (i : Int)) ∧ wide - 1 - (0 + (i : Int)) < wide ∧ 0 + (i : Int) ≠ wide - 1 - (0 + (i : Int)); (first | lia | omega))
      rintro ys H4 ⟨s4, e4, us4, r4, g4, le4⟩
      have l4 := r4.len
      walk_at "rd"
      refine ⟨l3, bl, _, _, rfl, rfl, e4, s4 _ _ hb1, lenLine (by (first | lia | omega)), fun c5 fc5 => ?_⟩
      have rf5 : Refs (upd H4 c5 (HO.lst (ys ++ rs1))) (ys ++ rs1) (us4 ++ ws1) := (r4.app (hr1.same s4)).same (same_new fc5 _)
      have sc5 : Same H1 (upd H4 c5 (HO.lst (ys ++ rs1))) := Same.trans s4 (same_new fc5 _)
      walk_at "rd"
      refine ⟨bl, ws1, wide / 2, rfl, ⟨rs1, sc5 _ _ hb1, hr1.same sc5⟩, by (first | lia | omega), fun ll H6 fl6 s6 wl6 => ?_⟩
      obtain ⟨rs6, hb6, hr6⟩ := wl6
      have lr6 := hr6.len
      rw [List.length_map] at lr6
      have le5 : (ys ++ rs1).length = us4.length + ws1.length := by rw [List.length_append]; (first | lia | omega)
      refine ⟨c5, ll, _, _, rfl, rfl, s6 _ _ upd_same, hb6, lenLine (by (first | lia | omega)), fun c7 fc7 => ?_⟩
      have okl : WOk wide ((us4 ++ ws1) ++ ws1.map (lift (wide / 2))) := by
        refine WOk.app (WOk.app g4 (fun w hw => ?_)) (fun w hw => ?_)
        · have := ok1 w hw; (first | lia | omega)
        · obtain ⟨u, hu, rfl⟩ := List.mem_map.mp hw
          have := ok1 u hu
          show 0 ≤ u.1 + wide / 2 ∧ u.1 + wide / 2 < wide ∧ 0 ≤ u.2 + wide / 2 ∧ u.2 + wide / 2 < wide ∧ u.1 + wide / 2 ≠ u.2 + wide / 2
          (first | lia | omega)
      refine q c7 _ _ ((Same.trans s1 (Same.trans sc5 s6)).free fc7) (Same.trans (Same.trans s1 (Same.trans sc5 s6)) (same_new fc7 _)) ⟨_, upd_same, ((rf5.same s6).app hr6).same (same_new fc7 _)⟩ okl ?_
      rw [List.length_append, List.length_append, List.length_map]
      rcases hp3 with h | h | h | h <;> subst h <;> subst eh <;> simp at len1 le4 ⊢ <;> (first | lia | omega)
end
section
variable {P : Program} {w : World} {K : PySem.W.Frag} {mg : Str → Option Value} {base : Heap} {f : Addr} {fd : FuncData}
theorem sc_brick : FnScope ["_law_wide", "_law_found", "_law_row"] ["_law_wide"] (defScope s_brick) := ⟨rfl, rfl, rfl, by decide +kernel, rfl, by decide +kernel, by decide +kernel⟩
theorem ok_brick (T : Bn mg) (F : Here K mg "_law_brick" s_brick f fd) : FnOk P w K mg base CX0 1 f fd ["_law_wide"] spBrick := by
  refine F.fn.ok sc_brick (fun vs H Q E h => ?_) (fun cdv A outer s H vs Q E hr h => ?_)
  · obtain ⟨wide, rfl, _⟩ := h
    rfl
  · obtain ⟨wide, rfl, w1, w8, q⟩ := h
    refine ⟨_, (pss_cons (ps_set (i := 1) sc_brick.nd rfl (by first | exact Or.inl rfl | exact Or.inr rfl) (pe_lst pa_nil))
    (pss_cons (ps_for PassesOwn.never rfl  (pi_range1 rfl T.n_range (pa_cons (pv 0) pa_nil)) (pg_name (i := 2) sc_brick.nd rfl (by first | exact Or.inl rfl | exact Or.inr rfl))
    (pss_one (ps_set (i := 1) sc_brick.nd rfl (by first | exact Or.inl rfl | exact Or.inr rfl) (pe_op op_cat (pv 1) (pe_comp ["_law_k"] [("_law_row", 2)] rfl (pi_range1 rfl T.n_range (pa_cons (pe_op op_sub (pv 0) pe_int) pa_nil)) (fun _ _ _ _ _ _ => by exact (pg_name (i := 0) (show List.Nodup (["_law_k", "_law_row"] : List Str) by decide +kernel) rfl (by first | exact Or.inl rfl | exact Or.inr rfl))) (fun _ _ _ _ _ _ => by exact (pts_one (pt_cmpR op_eq (pe_op op_mod (pv 0) pe_int) (pe_op op_mod (pv 1) pe_int) (nomark _)))) (fun _ _ _ _ _ _ => by exact (pe_tup (pa_cons (pv 0) (pa_cons (pe_op op_add (pv 0) pe_int) pa_nil)))))))))
    (pss_one (ps_ret (pv 1))))), ?_⟩
    walk_at "rd"
    intro l hl
    walk_at "rd"
    refine for_range (n := wide.toNat) (fun i σ Hc => ∃ (v2 : Option V) (fl : Addr) (ws : List (Int × Int)), σ = [some (.int wide), some (.ref fl), v2] ∧ H fl = none ∧ Same H Hc ∧ WsL Hc fl ws ∧ WOk wide ws ∧ ws.length ≤ i * 8)
      ⟨none, l, [], rfl, hl, Same.put hl (Same.refl H), ⟨[], upd_same, .nil⟩, WOk.nil, Nat.zero_le _⟩ ?_ ?_
    · rintro i σ Hc hlt ⟨v2, fl, ws, rfl, frl, sc, ⟨rs, hfl, hrs⟩, ok, len⟩
      have lrs := hrs.len
      walk_at "rd"
      intro l3 fl3
      refine comp_range (n := (wide - 1).toNat) (CompW Hc l3 fun w => 0 ≤ w.1 ∧ w.1 < wide ∧ 0 ≤ w.2 ∧ w.2 < wide ∧ w.1 ≠ w.2) (CompW.start fl3) (lenLine (by (first | lia | omega))) (fun i ys Hc h => h.len) ?_ ?_
      · intro j ys Hd hj cw
        refine ⟨⟨.inl rfl, .inr rfl, trivial⟩, ?_⟩
        walk_at "rd"
        refine ite2 (fun g => ?_) (fun g => ?_)
        · walk_at "rd"
          intro u hu
          exact cw.more fl3 hu (by show 0 ≤ 0 + (j : Int) ∧ 0 + (j : Int) < wide ∧ 0 ≤ 0 + (j : Int) + 1 ∧ 0 + (j : Int) + 1 < wide ∧ 0 + (j : Int) ≠ 0 + (j : Int) + 1; (first | lia | omega))
        · exact cw.skip
      rintro ys H7 ⟨s7, e7, us7, r7, g7, le7⟩
      have l7 := r7.len
      refine ⟨fl, l3, _, _, rfl, rfl, s7 _ _ hfl, e7, lenLine (by (first | lia | omega)), fun c8 fc8 => ?_⟩
      exact ⟨_, c8, ws ++ us7, rfl, (Same.trans sc s7).free fc8, Same.trans (Same.trans sc s7) (same_new fc8 _), ⟨_, upd_same, ((hrs.same s7).app r7).same (same_new fc8 _)⟩, ok.app g7, by rw [List.length_append]; (first | lia | omega)⟩
    · rintro σ Hc ⟨v2, fl, ws, rfl, frl, sc, wl, ok, len⟩
      walk_at "rd"
      exact q fl ws Hc frl sc wl ok (by (first | lia | omega))
end
section
variable {P : Program} {w : World} {K : PySem.W.Frag} {mg : Str → Option Value} {base : Heap} {f : Addr} {fd : FuncData}
theorem sc_rounds : FnScope ["_law_wide"] ["_law_wide"] (defScope s_rounds) := ⟨rfl, rfl, rfl, by decide +kernel, rfl, by decide +kernel, by decide +kernel⟩
theorem ok_rounds (F : Here K mg "_law_rounds" s_rounds f fd) (C_law_block : Callee P w K mg base "_law_block" 6 ["_law_wide"] (spBuilt 4)) : FnOk P w K mg base CX0 7 f fd ["_law_wide"] spRounds := by
  refine F.fn.ok sc_rounds (fun vs H Q E h => ?_) (fun cdv A outer s H vs Q E hr h => ?_)
  · obtain ⟨wide, rfl, _⟩ := h
    rfl
  · obtain ⟨wide, rfl, hp2, q⟩ := h
    refine ⟨_, (pss_one (ps_ret (pe_op op_rep (pe_callC C_law_block (hr.mono (by first | decide | (first | lia | omega))) rfl (pa_cons (pv 0) pa_nil)) (pe_ix ix_list (pe_lst (pa_cons pe_int (pa_cons pe_int (pa_cons pe_int (pa_cons pe_int (pa_cons pe_int (pa_cons pe_int (pa_cons pe_int (pa_cons pe_int (pa_cons pe_int pa_nil)))))))))) (pv 0) (fun _ _ => rfl))))), ?_⟩
    walk_at "rd"
    have wb : 0 ≤ wide ∧ wide < 9 ∧ wide * wide ≤ 64 := by rcases hp2 with h | h | h | h <;> subst h <;> decide
    refine ⟨_, rfl, hp2, by rcases hp2 with h | h | h | h <;> subst h <;> decide, fun bl ws1 H1 fb s1 wl1 ok1 len1 => ?_⟩
    obtain ⟨rs1, hb1, hr1⟩ := wl1
    have lr1 := hr1.len
    walk_at "rd"
    intro l2 fl2
    walk_at "rd"
    obtain ⟨k, ek, k0, k3⟩ : ∃ k : Int, atI [V.int 0, V.int 0, V.int 1, V.int 0, V.int 2, V.int 0, V.int 0, V.int 0, V.int 3] wide = some (.int k) ∧ 0 ≤ k ∧ k ≤ 3 := by
      rcases hp2 with h | h | h | h <;> subst h
      · exact ⟨0, rfl, by decide, by decide⟩
      · exact ⟨1, rfl, by decide, by decide⟩
      · exact ⟨2, rfl, by decide, by decide⟩
      · exact ⟨3, rfl, by decide, by decide⟩
    refine ⟨l2, _, wide, _, rfl, rfl, SqL.of upd_same, ek, ?_⟩
    have le : rs1.length * k.toNat ≤ 192 := by
      have : rs1.length ≤ 64 := by (first | lia | omega)
      calc rs1.length * k.toNat ≤ 64 * 3 := Nat.mul_le_mul this (by (first | lia | omega))
        _ = 192 := rfl
    refine ⟨bl, k, rs1, rfl, rfl, (same_new fl2 _) _ _ hb1, by (first | lia | omega), by (first | lia | omega), lenLine (by (first | lia | omega)), fun l3 fl3 => ?_⟩
    have sc : Same H (upd (upd H1 l2 (HO.lst [V.int 0, V.int 0, V.int 1, V.int 0, V.int 2, V.int 0, V.int 0, V.int 0, V.int 3])) l3 (HO.lst (List.replicate k.toNat rs1).flatten)) := Same.trans (Same.trans s1 (same_new fl2 _)) (same_new fl3 _)
    refine q l3 (List.replicate k.toNat ws1).flatten _ ((Same.trans s1 (same_new fl2 _)).free fl3) sc ⟨_, upd_same, ((hr1.same (same_new fl2 _)).same (same_new fl3 _)).rep _⟩ (ok1.rep _) ?_
    rw [len_rep, ← lr1, Nat.mul_comm]
    (first | lia | omega)
end
section
variable {P : Program} {w : World} {K : PySem.W.Frag} {mg : Str → Option Value} {base : Heap} {f : Addr} {fd : FuncData}
theorem sc_bent : FnScope ["_law_pen_here", "_law_wide", "_law_wickets_here", "_law_at", "_law_first", "_law_second", "_law_way", "_law_put"] ["_law_pen_here", "_law_wide", "_law_wickets_here"] (defScope s_bent) := ⟨rfl, rfl, rfl, by decide +kernel, rfl, by decide +kernel, by decide +kernel⟩
theorem ok_bent (T : Bn mg) (F : Here K mg "_law_bent" s_bent f fd) (C_law_take : Callee P w K mg base "_law_take" 1 ["_law_pen_here", "_law_size"] spTake)
    (C_law_wickets : Callee P w K mg base "_law_wickets" 2 ["_law_pen_here", "_law_wide", "_law_many"] spWickets) : FnOk P w K mg base CX0 3 f fd ["_law_pen_here", "_law_wide", "_law_wickets_here"] spBent := by
  refine F.fn.ok sc_bent (fun vs H Q E h => ?_) (fun cdv A outer s H vs Q E hr h => ?_)
  · obtain ⟨p, wide, a, ws, rfl, _⟩ := h
    rfl
  · obtain ⟨p, wide, a, ws, rfl, ⟨a0, b0, c0, hp0⟩, w1, w8, nap, ⟨rs, ha, hrs⟩, ok, len, q⟩ := h
    have lrs := hrs.len
    refine ⟨_, (pss_cons (ps_if (pt_cmpR (op_eqNil hr.units0) (pv 2) (pe_lst pa_nil) (nomark _))
    (pss_one (ps_ret (pv 2)))
    pss_nil)
    (pss_cons (ps_set (i := 3) sc_bent.nd rfl (by first | exact Or.inl rfl | exact Or.inr rfl) (pe_callC C_law_take (hr.mono (by first | decide | (first | lia | omega))) rfl (pa_cons (pv 0) (pa_cons (pe_callB call_len_seq rfl T.n_len PySem.boot_len (pa_cons (pv 2) pa_nil)) pa_nil))))
    (pss_cons (ps_asg (pe_ix ix_list (pv 2) (pv 3) (fun _ _ => rfl)) (pg_tup rfl (pgs_cons (pg_name (i := 4) sc_bent.nd rfl (by first | exact Or.inl rfl | exact Or.inr rfl)) (pgs_cons (pg_name (i := 5) sc_bent.nd rfl (by first | exact Or.inl rfl | exact Or.inr rfl)) pgs_nil))))
    (pss_cons (ps_set (i := 6) sc_bent.nd rfl (by first | exact Or.inl rfl | exact Or.inr rfl) (pe_callC C_law_take (hr.mono (by first | decide | (first | lia | omega))) rfl (pa_cons (pv 0) (pa_cons pe_int pa_nil))))
    (pss_cons (ps_set (i := 7) sc_bent.nd rfl (by first | exact Or.inl rfl | exact Or.inr rfl) (pe_ix ix_list (pe_lst (pa_cons (pe_lst pa_nil) (pa_cons (pe_lst (pa_cons (pe_tup (pa_cons (pv 5) (pa_cons (pv 4) pa_nil))) pa_nil)) (pa_cons (pe_op op_rep (pe_lst (pa_cons (pe_tup (pa_cons (pv 4) (pa_cons (pv 5) pa_nil))) pa_nil)) pe_int) (pa_cons (pe_op op_cat (pe_callC C_law_wickets (hr.mono (by first | decide | (first | lia | omega))) rfl (pa_cons (pv 0) (pa_cons (pv 1) (pa_cons pe_int pa_nil)))) (pe_lst (pa_cons (pe_tup (pa_cons (pv 4) (pa_cons (pv 5) pa_nil))) pa_nil))) pa_nil))))) (pv 6) (fun _ _ => rfl)))
    (pss_one (ps_ret (pe_op op_cat (pe_op op_cat (pe_slice sl_list (pv 2) po_none (po_some (pv 3))) (pv 7)) (pe_slice sl_list (pv 2) (po_some (pe_op op_add (pv 3) pe_int)) po_none))))))))), ?_⟩
    walk_at "rd"
    intro l0 f0
    obtain ⟨k1, hp1, x1, n1⟩ := fresh_step hp0 f0 (.lst [])
    generalize hH1 : upd H l0 (HO.lst []) = H1 at k1 hp1 x1
    refine ⟨a, l0, rs, rfl, rfl, SqL.of (k1 a _ ha nap), SqL.of x1, _, rfl, ?_⟩
    refine ite2 (fun g => ?_) (fun g => ?_)
    · walk_at "rd"
      exact q a ws H1 nap k1 ⟨a0, b0, c0, hp1⟩ ⟨rs, k1 a _ ha nap, hrs.kp k1 hp0⟩ ok (by (first | lia | omega))
    · have ne : rs ≠ [] := not_dec g
      have lpos : 0 < rs.length := List.length_pos_iff.mpr ne
      walk_at "rd"
      refine ⟨_, _, rfl, .inl (SqL.of (k1 a _ ha nap)), ?_⟩
      walk_at "rd"
      refine ⟨p, a0, b0, c0, rs.length, rfl, hp1, by (first | lia | omega), by (first | lia | omega), fun at_ a2 b2 c2 at0 atl => ?_⟩
      have k2 : Kp p H (upd H1 p (.lst [.int a2, .int b2, .int c2])) := Kp.trans k1 Kp.upd
      have hp2 : (upd H1 p (.lst [.int a2, .int b2, .int c2])) p = some (.lst [.int a2, .int b2, .int c2]) := upd_same
      generalize hH2 : upd H1 p (HO.lst [V.int a2, V.int b2, V.int c2]) = H2 at k2 hp2
      walk_at "rd"
      obtain ⟨t, w0, et, mw0, _, ht⟩ := atI_ref hrs at0 atl
      refine ⟨a, _, _, _, rfl, rfl, SqL.of (k2 a _ ha nap), et, ?_⟩
      refine ⟨t, _, rfl, SqT.of (k2.tup hp0 ht), rfl, ?_⟩
      refine ⟨_, _, rfl, _, _, rfl, rfl, ?_⟩
      obtain ⟨o1, o2, o3, o4, o5⟩ := ok w0 mw0
      walk_at "rd"
      refine ⟨p, a2, b2, c2, 4, rfl, hp2, by decide, by decide, fun way a3 b3 c3 way0 way4 => ?_⟩
      have k3 : Kp p H (upd H2 p (.lst [.int a3, .int b3, .int c3])) := Kp.trans k2 Kp.upd
      have hp3 : (upd H2 p (.lst [.int a3, .int b3, .int c3])) p = some (.lst [.int a3, .int b3, .int c3]) := upd_same
      generalize hH3 : upd H2 p (HO.lst [V.int a3, V.int b3, V.int c3]) = H3 at k3 hp3
      walk_at "rd"
      intro e0 f0'
      obtain ⟨k4, hp4, x4, n4⟩ := fresh_step hp3 f0' (.lst [])
      generalize hH4 : upd H3 e0 (HO.lst []) = H4 at k4 hp4 x4
      walk_at "rd"
      intro t1 f1
      obtain ⟨k5, hp5, x5, n5⟩ := fresh_step hp4 f1 (.tup [.int w0.2, .int w0.1])
      generalize hH5 : upd H4 t1 (HO.tup [V.int w0.2, V.int w0.1]) = H5 at k5 hp5 x5
      walk_at "rd"
      intro e1 f1'
      obtain ⟨k6, hp6, x6, n6⟩ := fresh_step hp5 f1' (.lst [.ref t1])
      generalize hH6 : upd H5 e1 (HO.lst [V.ref t1]) = H6 at k6 hp6 x6
      walk_at "rd"
      intro t2 f2
      obtain ⟨k7, hp7, x7, n7⟩ := fresh_step hp6 f2 (.tup [.int w0.1, .int w0.2])
      generalize hH7 : upd H6 t2 (HO.tup [V.int w0.1, V.int w0.2]) = H7 at k7 hp7 x7
      walk_at "rd"
      intro e2 f2'
      obtain ⟨k8, hp8, x8, n8⟩ := fresh_step hp7 f2' (.lst [.ref t2])
      generalize hH8 : upd H7 e2 (HO.lst [V.ref t2]) = H8 at k8 hp8 x8
      walk_at "rd"
      refine ⟨e2, 2, _, rfl, rfl, x8, by decide, by decide, lenLine (by show 1 * 2 ≤ 100000; decide), fun e3 f3 => ?_⟩
      obtain ⟨k9, hp9, x9, n9⟩ := fresh_step hp8 f3 (.lst [.ref t2, .ref t2])
      show tCons _ _ _ (upd H8 e3 (HO.lst [V.ref t2, V.ref t2])) _
      generalize hH9 : upd H8 e3 (HO.lst [V.ref t2, V.ref t2]) = H9 at k9 hp9 x9
      walk_at "rd"
      refine ⟨p, wide, 1, rfl, ⟨_, _, _, hp9⟩, w1, w8, by decide, by decide, fun e4 us4 H10 f4 k10 ⟨a10, b10, c10, hp10⟩ ⟨rs4, x10, hr10⟩ ok4 len4 => ?_⟩
      have n10 : e4 ≠ p := Ne.symm (ne_of_none hp9 f4)
      have l4 := hr10.len
      walk_at "rd"
      intro t3 f3'
      obtain ⟨k11, hp11, x11, n11⟩ := fresh_step hp10 f3' (.tup [.int w0.1, .int w0.2])
      generalize hH11 : upd H10 t3 (HO.tup [V.int w0.1, V.int w0.2]) = H11 at k11 hp11 x11
      walk_at "rd"
      intro e5 f5
      obtain ⟨k12, hp12, x12, n12⟩ := fresh_step hp11 f5 (.lst [.ref t3])
      generalize hH12 : upd H11 e5 (HO.lst [V.ref t3]) = H12 at k12 hp12 x12
      walk_at "rd"
      refine ⟨e4, e5, rs4, [.ref t3], rfl, rfl, k12 _ _ (k11 _ _ x10 n10) n10, x12, lenLine (by simp; (first | lia | omega)), fun e6 f6 => ?_⟩
      obtain ⟨k13, hp13, x13, n13⟩ := fresh_step hp12 f6 (.lst (rs4 ++ [.ref t3]))
      generalize hH13 : upd H12 e6 (HO.lst (rs4 ++ [V.ref t3])) = H13 at k13 hp13 x13
      walk_at "rd"
      intro e7 f7
      obtain ⟨k14, hp14, x14, n14⟩ := fresh_step hp13 f7 (.lst [.ref e0, .ref e1, .ref e3, .ref e6])
      generalize hH14 : upd H13 e7 (HO.lst [V.ref e0, V.ref e1, V.ref e3, V.ref e6]) = H14 at k14 hp14 x14
      -- all that was made stands at H14
      have kk13 : Kp p H12 H14 := Kp.trans k13 k14
      have kk12 : Kp p H11 H14 := Kp.trans k12 kk13
      have kk11 : Kp p H10 H14 := Kp.trans k11 kk12
      have kk10 : Kp p H9 H14 := Kp.trans k10 kk11
      have kk9 : Kp p H8 H14 := Kp.trans k9 kk10
      have kk8 : Kp p H7 H14 := Kp.trans k8 kk9
      have kk7 : Kp p H6 H14 := Kp.trans k7 kk8
      have kk6 : Kp p H5 H14 := Kp.trans k6 kk7
      have kk5 : Kp p H4 H14 := Kp.trans k5 kk6
      have kk4 : Kp p H H14 := Kp.trans k3 (Kp.trans k4 kk5)
      have put : ∃ (e : Addr) (qs : List V) (us : List (Int × Int)), atI [V.ref e0, V.ref e1, V.ref e3, V.ref e6] way = some (.ref e) ∧ e ≠ p ∧ H14 e = some (.lst qs) ∧ Refs H14 qs us ∧ WOk wide us ∧ us.length ≤ 3 := by
        have wc : way = 0 ∨ way = 1 ∨ way = 2 ∨ way = 3 := by (first | lia | omega)
        rcases wc with h | h | h | h <;> subst h
        · exact ⟨e0, [], [], rfl, n4, kk5 _ _ x4 n4, .nil, WOk.nil, by decide⟩
        · exact ⟨e1, [.ref t1], [(w0.2, w0.1)], rfl, n6, kk7 _ _ x6 n6, .cons ⟨t1, rfl, kk6 _ _ x5 n5⟩ .nil, WOk.one ⟨o3, o4, o1, o2, Ne.symm o5⟩, by simp⟩
        · exact ⟨e3, [.ref t2, .ref t2], [(w0.1, w0.2), (w0.1, w0.2)], rfl, n9, kk10 _ _ x9 n9, .cons ⟨t2, rfl, kk8 _ _ x7 n7⟩ (.cons ⟨t2, rfl, kk8 _ _ x7 n7⟩ .nil),
            WOk.app (WOk.one ⟨o1, o2, o3, o4, o5⟩) (WOk.one ⟨o1, o2, o3, o4, o5⟩), by simp⟩
        · exact ⟨e6, rs4 ++ [.ref t3], us4 ++ [(w0.1, w0.2)], rfl, n13, k14 _ _ x13 n13, (hr10.kp kk11 hp10).app (.cons ⟨t3, rfl, kk12 _ _ x11 n11⟩ .nil), ok4.app (WOk.one ⟨o1, o2, o3, o4, o5⟩), by simp; (first | lia | omega)⟩
      obtain ⟨e, qs, us, ee, ne', xe, hq, okq, lq⟩ := put
      have lqs := hq.len
      refine ⟨_, rfl, ?_⟩
      refine ⟨e7, _, _, _, rfl, rfl, SqL.of x14, ee, ?_⟩
      have ha14 := kk4 a _ ha nap
      have hr14 := hrs.kp kk4 hp0
      refine ⟨_, rfl, _, rfl, _, rfl, ?_⟩
      refine ⟨a, rs, rfl, SqL.of ha14, fun s1 fs1 => ?_⟩
      obtain ⟨us1, hc1, sub1, len1⟩ := hr14.cut none (some at_)
      obtain ⟨k15, hp15, x15, n15⟩ := fresh_step hp14 fs1 (.lst (cutV rs none (some at_)))
      generalize hH15 : upd H14 s1 (HO.lst (cutV rs none (some at_))) = H15 at k15 hp15 x15
      have lc1 := hc1.len
      walk_at "rd"
      refine ⟨s1, e, _, _, rfl, rfl, x15, k15 _ _ xe ne', lenLine (by (first | lia | omega)), fun s2 fs2 => ?_⟩
      obtain ⟨k16, hp16, x16, n16⟩ := fresh_step hp15 fs2 (.lst (cutV rs none (some at_) ++ qs))
      generalize hH16 : upd H15 s2 (HO.lst (cutV rs none (some at_) ++ qs)) = H16 at k16 hp16 x16
      refine ⟨_, rfl, _, rfl, _, _, rfl, rfl, _, rfl, ?_⟩
      refine ⟨a, rs, rfl, SqL.of (k16 _ _ (k15 _ _ ha14 nap) nap), fun s3 fs3 => ?_⟩
      obtain ⟨us3, hc3, sub3, len3⟩ := hr14.cut (some (at_ + 1)) none
      obtain ⟨k17, hp17, x17, n17⟩ := fresh_step hp16 fs3 (.lst (cutV rs (some (at_ + 1)) none))
      generalize hH17 : upd H16 s3 (HO.lst (cutV rs (some (at_ + 1)) none)) = H17 at k17 hp17 x17
      have lc3 := hc3.len
      refine ⟨s2, s3, _, _, rfl, rfl, k17 _ _ x16 n16, x17, lenLine (by rw [List.length_append]; (first | lia | omega)), fun s4 fs4 => ?_⟩
      obtain ⟨k18, hp18, x18, n18⟩ := fresh_step hp17 fs4 (.lst ((cutV rs none (some at_) ++ qs) ++ cutV rs (some (at_ + 1)) none))
      have kk14 : Kp p H14 _ := Kp.trans k15 (Kp.trans k16 (Kp.trans k17 k18))
      refine q s4 ((us1 ++ us) ++ us3) _ n18 (Kp.trans kk4 kk14) ⟨_, _, _, hp18⟩ ⟨_, x18, (((hc1.app hq).app hc3).kp kk14 hp14)⟩ (WOk.app (WOk.app (ok.sub sub1) okq) (ok.sub sub3)) ?_
      rw [List.length_append, List.length_append]
      (first | lia | omega)
end
section
variable {P : Program} {w : World} {K : PySem.W.Frag} {mg : Str → Option Value} {base : Heap} {f : Addr} {fd : FuncData}
theorem sc_net : FnScope ["_law_pen_here", "_law_way", "_law_wide", "_law_found"] ["_law_pen_here"] (defScope s_net) := ⟨rfl, rfl, rfl, by decide +kernel, rfl, by decide +kernel, by decide +kernel⟩
theorem ok_net (T : Bn mg) (F : Here K mg "_law_net" s_net f fd) (C_law_take : Callee P w K mg base "_law_take" 1 ["_law_pen_here", "_law_size"] spTake)
    (C_law_wickets : Callee P w K mg base "_law_wickets" 2 ["_law_pen_here", "_law_wide", "_law_many"] spWickets) (C_law_folded : Callee P w K mg base "_law_folded" 6 ["_law_wide"] (spBuilt 4))
    (C_law_rounds : Callee P w K mg base "_law_rounds" 7 ["_law_wide"] spRounds) (C_law_brick : Callee P w K mg base "_law_brick" 1 ["_law_wide"] spBrick)
    (C_law_bent : Callee P w K mg base "_law_bent" 3 ["_law_pen_here", "_law_wide", "_law_wickets_here"] spBent) : FnOk P w K mg base CX0 8 f fd ["_law_pen_here"] spNet := by
  refine F.fn.ok sc_net (fun vs H Q E h => ?_) (fun cdv A outer s H vs Q E hr h => ?_)
  · obtain ⟨p, rfl, _⟩ := h
    rfl
  · obtain ⟨p, rfl, ⟨a0, b0, c0, hp0⟩, q⟩ := h
    -- the last row
    have fin : ∀ (way wide : Int) (fl : Addr) (ws : List (Int × Int)) (Hc : Hp), Kp p H Hc → Pen Hc p → WsL Hc fl ws → 1 ≤ wide → wide ≤ 8 → WOk wide ws →
        tRet (tTup (tCons (tVar 2) (tCons (tCB (P_call_tuple_of K) (tCons (tSl (rSlL K) (tVar 3) tNoPart (tPart (tC (.int 40)))) tNil)) tNil))) { nx := fun _ H' => Q .non H', rt := Q } [some (.ref p), some (.int way), some (.int wide), some (.ref fl)] Hc := by
      rintro way wide fl ws Hc kp ⟨a1, b1, c1, hp1⟩ ⟨rs, hfl, hrs⟩ w1 w8 ok
      refine ⟨_, rfl, _, rfl, _, rfl, ?_⟩
      refine ⟨fl, rs, rfl, SqL.of hfl, fun s1 fs1 => ?_⟩
      have hc1 : Refs Hc (cutV rs none (some 40)) ((ws.drop (HT.sIx rs.length 0 none)).take (HT.sIx rs.length rs.length (some 40) - HT.sIx rs.length 0 none)) := (hrs.drop _).take _
      have sub1 : ∀ w ∈ (ws.drop (HT.sIx rs.length 0 none)).take (HT.sIx rs.length rs.length (some 40) - HT.sIx rs.length 0 none), w ∈ ws := fun w hw => List.mem_of_mem_drop (List.mem_of_mem_take hw)
      have le1 : ((ws.drop (HT.sIx rs.length 0 none)).take (HT.sIx rs.length rs.length (some 40) - HT.sIx rs.length 0 none)).length ≤ 40 := by
        rw [List.length_take]
        have e : HT.sIx rs.length rs.length (some ((40 : Nat) : Int)) = min 40 rs.length := HT.sIx_nat _ _ 40
        have e' : HT.sIx rs.length rs.length (some 40) = min 40 rs.length := e
        rw [e']
        (first | lia | omega)
      generalize (ws.drop (HT.sIx rs.length 0 none)).take (HT.sIx rs.length rs.length (some 40) - HT.sIx rs.length 0 none) = us at hc1 sub1 le1
      obtain ⟨k2, hp2, x2, n2⟩ := fresh_step hp1 fs1 (.lst (cutV rs none (some 40)))
      generalize hH2 : upd Hc s1 (HO.lst (cutV rs none (some 40))) = H2 at k2 hp2 x2
      refine ⟨s1, _, rfl, .inl ⟨SqL.of x2, fun t3 ft3 => ?_⟩⟩
      obtain ⟨k3, hp3, x3, n3⟩ := fresh_step hp2 ft3 (.tup (cutV rs none (some 40)))
      generalize hH3 : upd H2 t3 (HO.tup (cutV rs none (some 40))) = H3 at k3 hp3 x3
      refine ⟨lenLine (by show 2 ≤ 100000; decide), fun n4 fn4 => ?_⟩
      obtain ⟨k4, hp4, x4, m4⟩ := fresh_step hp3 fn4 (.tup [.int wide, .ref t3])
      exact q (.ref n4) wide us _ (Kp.trans kp (Kp.trans k2 (Kp.trans k3 k4))) ⟨_, _, _, hp4⟩ ⟨n4, t3, _, rfl, x4, k4 _ _ x3 n3, hc1.kp (Kp.trans k2 (Kp.trans k3 k4)) hp1⟩ w1 w8 (ok.sub sub1) (by (first | lia | omega))
    refine ⟨_, (pss_cons (ps_set (i := 1) sc_net.nd rfl (by first | exact Or.inl rfl | exact Or.inr rfl) (pe_callC C_law_take (hr.mono (by first | decide | (first | lia | omega))) rfl (pa_cons (pv 0) (pa_cons pe_int pa_nil))))
    (pss_cons (ps_if (pt_cmpR op_lt (pv 1) pe_int (nomark _))
    (pss_cons (ps_set (i := 2) sc_net.nd rfl (by first | exact Or.inl rfl | exact Or.inr rfl) (pe_op op_add pe_int (pe_callC C_law_take (hr.mono (by first | decide | (first | lia | omega))) rfl (pa_cons (pv 0) (pa_cons pe_int pa_nil)))))
    (pss_one (ps_ret (pe_tup (pa_cons (pv 2) (pa_cons (pe_callTy call_tuple_of rfl T.n_tuple boot_tupleT (pa_cons (pe_callC C_law_wickets (hr.mono (by first | decide | (first | lia | omega))) rfl (pa_cons (pv 0) (pa_cons (pv 2) (pa_cons (pe_callC C_law_take (hr.mono (by first | decide | (first | lia | omega))) rfl (pa_cons (pv 0) (pa_cons (pe_ix ix_list (pe_lst (pa_cons pe_int (pa_cons pe_int (pa_cons pe_int pa_nil)))) (pv 1) (fun _ _ => rfl)) pa_nil))) pa_nil)))) pa_nil)) pa_nil))))))
    pss_nil)
    (pss_cons (ps_set (i := 2) sc_net.nd rfl (by first | exact Or.inl rfl | exact Or.inr rfl) (pe_ix ix_list (pe_lst (pa_cons pe_int (pa_cons pe_int (pa_cons pe_int (pa_cons pe_int (pa_cons pe_int pa_nil)))))) (pe_callC C_law_take (hr.mono (by first | decide | (first | lia | omega))) rfl (pa_cons (pv 0) (pa_cons pe_int pa_nil))) (fun _ _ => rfl)))
    (pss_cons (ps_set (i := 3) sc_net.nd rfl (by first | exact Or.inl rfl | exact Or.inr rfl) (pe_ix ix_list (pe_lst (pa_cons (pe_callC C_law_folded (hr.mono (by first | decide | (first | lia | omega))) rfl (pa_cons (pv 2) pa_nil)) (pa_cons (pe_callC C_law_rounds (hr.mono (by first | decide | (first | lia | omega))) rfl (pa_cons (pv 2) pa_nil)) pa_nil))) (pe_callC C_law_take (hr.mono (by first | decide | (first | lia | omega))) rfl (pa_cons (pv 0) (pa_cons pe_int pa_nil))) (fun _ _ => rfl)))
    (pss_cons (ps_if (pt_cmpR op_eq (pv 1) pe_int (nomark _))
    (pss_cons (ps_set (i := 2) sc_net.nd rfl (by first | exact Or.inl rfl | exact Or.inr rfl) (pe_op op_add pe_int (pe_callC C_law_take (hr.mono (by first | decide | (first | lia | omega))) rfl (pa_cons (pv 0) (pa_cons pe_int pa_nil)))))
    (pss_one (ps_set (i := 3) sc_net.nd rfl (by first | exact Or.inl rfl | exact Or.inr rfl) (pe_callC C_law_brick (hr.mono (by first | decide | (first | lia | omega))) rfl (pa_cons (pv 2) pa_nil)))))
    pss_nil)
    (pss_cons (ps_if (pt_cmpR op_eq (pv 1) pe_int (nomark _))
    (pss_one (ps_set (i := 3) sc_net.nd rfl (by first | exact Or.inl rfl | exact Or.inr rfl) (pe_callC C_law_bent (hr.mono (by first | decide | (first | lia | omega))) rfl (pa_cons (pv 0) (pa_cons (pv 2) (pa_cons (pv 3) pa_nil))))))
    pss_nil)
    (pss_cons (ps_if (pt_cmpR op_eq (pv 1) pe_int (nomark _))
    (pss_one (ps_set (i := 3) sc_net.nd rfl (by first | exact Or.inl rfl | exact Or.inr rfl) (pe_op op_cat (pe_callC C_law_wickets (hr.mono (by first | decide | (first | lia | omega))) rfl (pa_cons (pv 0) (pa_cons (pv 2) (pa_cons (pe_callC C_law_take (hr.mono (by first | decide | (first | lia | omega))) rfl (pa_cons (pv 0) (pa_cons pe_int pa_nil))) pa_nil)))) (pv 3))))
    pss_nil)
    (pss_cons (ps_if (pt_cmpR op_eq (pv 1) pe_int (nomark _))
    (pss_one (ps_set (i := 3) sc_net.nd rfl (by first | exact Or.inl rfl | exact Or.inr rfl) (pe_op op_cat (pv 3) (pe_callC C_law_wickets (hr.mono (by first | decide | (first | lia | omega))) rfl (pa_cons (pv 0) (pa_cons (pv 2) (pa_cons (pe_callC C_law_take (hr.mono (by first | decide | (first | lia | omega))) rfl (pa_cons (pv 0) (pa_cons pe_int pa_nil))) pa_nil)))))))
    pss_nil)
    (pss_one (ps_ret (pe_tup (pa_cons (pv 2) (pa_cons (pe_callTy call_tuple_of rfl T.n_tuple boot_tupleT (pa_cons (pe_slice sl_list (pv 3) po_none (po_some pe_int)) pa_nil)) pa_nil))))))))))))), ?_⟩
    walk_at "rd"
    refine ⟨p, a0, b0, c0, 8, rfl, hp0, by decide, by decide, fun way a1 b1 c1 way0 way8 => ?_⟩
    have k1 : Kp p H (upd H p (.lst [.int a1, .int b1, .int c1])) := Kp.upd
    have hp1 : (upd H p (.lst [.int a1, .int b1, .int c1])) p = some (.lst [.int a1, .int b1, .int c1]) := upd_same
    generalize hH1 : upd H p (HO.lst [V.int a1, V.int b1, V.int c1]) = H1 at k1 hp1
    walk_at "rd"
    refine ite2 (fun g => ?_) (fun g => ?_)
    · have g3 : way < 3 := of_decide_eq_true g
      walk_at "rd"
      refine ⟨p, _, _, _, 8, rfl, hp1, by decide, by decide, fun v2 a2 b2 c2 v20 v28 => ?_⟩
      have k2 : Kp p H (upd H1 p (.lst [.int a2, .int b2, .int c2])) := Kp.trans k1 Kp.upd
      have hp2 : (upd H1 p (.lst [.int a2, .int b2, .int c2])) p = some (.lst [.int a2, .int b2, .int c2]) := upd_same
      generalize hH2 : upd H1 p (HO.lst [V.int a2, V.int b2, V.int c2]) = H2 at k2 hp2
      walk_at "rd"
      intro l3 fl3
      obtain ⟨k3, hp3, x3, n3⟩ := fresh_step hp2 fl3 (.lst [.int 4, .int 12, .int 41])
      generalize hH3 : upd H2 l3 (HO.lst [V.int 4, V.int 12, V.int 41]) = H3 at k3 hp3 x3
      obtain ⟨z, ez, z0, z41⟩ : ∃ z : Int, atI [V.int 4, V.int 12, V.int 41] way = some (.int z) ∧ 0 < z ∧ z ≤ 41 := by
        have wc : way = 0 ∨ way = 1 ∨ way = 2 := by (first | lia | omega)
        rcases wc with h | h | h <;> subst h
        · exact ⟨4, rfl, by decide, by decide⟩
        · exact ⟨12, rfl, by decide, by decide⟩
        · exact ⟨41, rfl, by decide, by decide⟩
      walk_at "rd"
      refine ⟨p, _, _, _, z, rfl, hp3, by (first | lia | omega), by (first | lia | omega), fun many a4 b4 c4 m0 mz => ?_⟩
      have k4 : Kp p H (upd H3 p (.lst [.int a4, .int b4, .int c4])) := Kp.trans k2 (Kp.trans k3 Kp.upd)
      have hp4 : (upd H3 p (.lst [.int a4, .int b4, .int c4])) p = some (.lst [.int a4, .int b4, .int c4]) := upd_same
      generalize hH4 : upd H3 p (HO.lst [V.int a4, V.int b4, V.int c4]) = H4 at k4 hp4
      refine ⟨p, 1 + v2, many, rfl, ⟨_, _, _, hp4⟩, by (first | lia | omega), by (first | lia | omega), m0, by (first | lia | omega), fun l5 ws5 H5 f5 k5 ⟨a5, b5, c5, hp5⟩ ⟨rs5, x5, hr5⟩ ok5 len5 => ?_⟩
      refine ⟨l5, _, rfl, .inl ⟨SqL.of x5, fun t6 ft6 => ?_⟩⟩
      obtain ⟨k6, hp6, x6, n6⟩ := fresh_step hp5 ft6 (.tup rs5)
      generalize hH6 : upd H5 t6 (HO.tup rs5) = H6 at k6 hp6 x6
      refine ⟨lenLine (by show 2 ≤ 100000; decide), fun n7 fn7 => ?_⟩
      obtain ⟨k7, hp7, x7, m7⟩ := fresh_step hp6 fn7 (.tup [.int (1 + v2), .ref t6])
      exact q (.ref n7) (1 + v2) ws5 _ (Kp.trans k4 (Kp.trans k5 (Kp.trans k6 k7))) ⟨_, _, _, hp7⟩ ⟨n7, t6, _, rfl, x7, k7 _ _ x6 n6, hr5.kp (Kp.trans k6 k7) hp5⟩ (by (first | lia | omega)) (by (first | lia | omega)) ok5 (by (first | lia | omega))
    · have g3 : ¬ way < 3 := not_dec g
      walk_at "rd"
      intro l2 fl2
      obtain ⟨k2, hp2, x2, n2⟩ := fresh_step hp1 fl2 (.lst [.int 2, .int 4, .int 4, .int 8, .int 1])
      generalize hH2 : upd H1 l2 (HO.lst [V.int 2, V.int 4, V.int 4, V.int 8, V.int 1]) = H2 at k2 hp2 x2
      walk_at "rd"
      refine ⟨p, _, _, _, 5, rfl, hp2, by decide, by decide, fun v3 a3 b3 c3 v30 v35 => ?_⟩
      have k3 : Kp p H (upd H2 p (.lst [.int a3, .int b3, .int c3])) := Kp.trans k1 (Kp.trans k2 Kp.upd)
      have hp3 : (upd H2 p (.lst [.int a3, .int b3, .int c3])) p = some (.lst [.int a3, .int b3, .int c3]) := upd_same
      have x3 : (upd H2 p (.lst [.int a3, .int b3, .int c3])) l2 = some (.lst [.int 2, .int 4, .int 4, .int 8, .int 1]) := by rw [upd_ne n2]; exact x2
      generalize hH3 : upd H2 p (HO.lst [V.int a3, V.int b3, V.int c3]) = H3 at k3 hp3 x3
      obtain ⟨wide, ez, hpw⟩ : ∃ z : Int, atI [V.int 2, V.int 4, V.int 4, V.int 8, V.int 1] v3 = some (.int z) ∧ pow2 z := by
        have wc : v3 = 0 ∨ v3 = 1 ∨ v3 = 2 ∨ v3 = 3 ∨ v3 = 4 := by (first | lia | omega)
        rcases wc with h | h | h | h | h <;> subst h
        · exact ⟨2, rfl, .inr (.inl rfl)⟩
        · exact ⟨4, rfl, .inr (.inr (.inl rfl))⟩
        · exact ⟨4, rfl, .inr (.inr (.inl rfl))⟩
        · exact ⟨8, rfl, .inr (.inr (.inr rfl))⟩
        · exact ⟨1, rfl, .inl rfl⟩
      have w18 : 1 ≤ wide ∧ wide ≤ 8 ∧ wide * wide ≤ 64 ∧ wide < 2 ^ 4 := by rcases hpw with h | h | h | h <;> subst h <;> decide
      refine ⟨l2, _, _, _, rfl, rfl, SqL.of x3, ez, ?_⟩
      refine ⟨_, rfl, wide, rfl, hpw, w18.2.2.2, fun l4 ws4 H4 f4 s4 ⟨rs4, x4, hr4⟩ ok4 len4 => ?_⟩
      refine ⟨_, rfl, wide, rfl, hpw, fun l5 ws5 H5 f5 s5 ⟨rs5, x5, hr5⟩ ok5 len5 => ?_⟩
      have hp5 := s5 _ _ (s4 _ _ hp3)
      have k5 : Kp p H H5 := Kp.trans k3 (Kp.same (Same.trans s4 s5))
      have n4 : l4 ≠ p := Ne.symm (ne_of_none hp3 f4)
      have n5 : l5 ≠ p := Ne.symm (ne_of_none (s4 _ _ hp3) f5)
      walk_at "rd"
      intro l6 f6
      obtain ⟨k6, hp6, x6, n6⟩ := fresh_step hp5 f6 (.lst [.ref l4, .ref l5])
      generalize hH6 : upd H5 l6 (HO.lst [V.ref l4, V.ref l5]) = H6 at k6 hp6 x6
      walk_at "rd"
      refine ⟨p, _, _, _, 2, rfl, hp6, by decide, by decide, fun v7 a7 b7 c7 v70 v72 => ?_⟩
      have k67 : Kp p H5 (upd H6 p (.lst [.int a7, .int b7, .int c7])) := Kp.trans k6 Kp.upd
      have hp7 : (upd H6 p (.lst [.int a7, .int b7, .int c7])) p = some (.lst [.int a7, .int b7, .int c7]) := upd_same
      have x7 : (upd H6 p (.lst [.int a7, .int b7, .int c7])) l6 = some (.lst [.ref l4, .ref l5]) := by rw [upd_ne n6]; exact x6
      generalize hH7 : upd H6 p (HO.lst [V.int a7, V.int b7, V.int c7]) = H7 at k67 hp7 x7
      have k7 : Kp p H H7 := Kp.trans k5 k67
      obtain ⟨fl, ws, efl, nfl, wlf, okf, lef⟩ : ∃ (fl : Addr) (ws : List (Int × Int)), atI [V.ref l4, V.ref l5] v7 = some (.ref fl) ∧ fl ≠ p ∧ WsL H7 fl ws ∧ WOk wide ws ∧ ws.length ≤ 200 := by
        have wc : v7 = 0 ∨ v7 = 1 := by (first | lia | omega)
        rcases wc with h | h <;> subst h
        · exact ⟨l4, ws4, rfl, n4, WsL.kp k67 hp5 n4 ⟨rs4, s5 _ _ x4, hr4.same s5⟩, ok4, by (first | lia | omega)⟩
        · exact ⟨l5, ws5, rfl, n5, WsL.kp k67 hp5 n5 ⟨rs5, x5, hr5⟩, ok5, by (first | lia | omega)⟩
      refine ⟨l6, _, _, _, rfl, rfl, SqL.of x7, efl, ?_⟩
      have wc : way = 3 ∨ way = 4 ∨ way = 5 ∨ way = 6 ∨ way = 7 := by (first | lia | omega)
      rcases wc with h | h | h | h | h <;> subst h
      · -- brick
        refine ⟨_, rfl, rfl, _, rfl, iteTd (by decide) ?_⟩
        walk_at "rd"
        refine ⟨p, _, _, _, 8, rfl, hp7, by decide, by decide, fun v8 a8 b8 c8 v80 v88 => ?_⟩
        have k8 : Kp p H (upd H7 p (.lst [.int a8, .int b8, .int c8])) := Kp.trans k7 Kp.upd
        have hp8 : (upd H7 p (.lst [.int a8, .int b8, .int c8])) p = some (.lst [.int a8, .int b8, .int c8]) := upd_same
        generalize hH8 : upd H7 p (HO.lst [V.int a8, V.int b8, V.int c8]) = H8 at k8 hp8
        walk_at "rd"
        refine ⟨_, rfl, by (first | lia | omega), by (first | lia | omega), fun l9 ws9 H9 f9 s9 wl9 ok9 len9 => ?_⟩
        refine ⟨_, rfl, rfl, _, rfl, iteFd (by decide) ?_⟩
        refine ⟨_, rfl, rfl, _, rfl, iteFd (by decide) ?_⟩
        refine ⟨_, rfl, rfl, _, rfl, iteFd (by decide) ?_⟩
        exact fin 3 (1 + v8) l9 ws9 H9 (Kp.trans k8 (Kp.same s9)) ⟨_, _, _, s9 _ _ hp8⟩ wl9 (by (first | lia | omega)) (by (first | lia | omega)) ok9
      · -- bent
        refine ⟨_, rfl, rfl, _, rfl, iteFd (by decide) ?_⟩
        refine ⟨_, rfl, rfl, _, rfl, iteTd (by decide) ?_⟩
        walk_at "rd"
        refine ⟨p, wide, fl, ws, rfl, ⟨_, _, _, hp7⟩, w18.1, w18.2.1, nfl, wlf, okf, by (first | lia | omega), fun l9 us9 H9 n9 k9 pn9 wl9 ok9 len9 => ?_⟩
        refine ⟨_, rfl, rfl, _, rfl, iteFd (by decide) ?_⟩
        refine ⟨_, rfl, rfl, _, rfl, iteFd (by decide) ?_⟩
        exact fin 4 wide l9 us9 H9 (Kp.trans k7 k9) pn9 wl9 w18.1 w18.2.1 ok9
      · -- some ahead
        refine ⟨_, rfl, rfl, _, rfl, iteFd (by decide) ?_⟩
        refine ⟨_, rfl, rfl, _, rfl, iteFd (by decide) ?_⟩
        refine ⟨_, rfl, rfl, _, rfl, iteTd (by decide) ?_⟩
        walk_at "rd"
        refine ⟨p, _, _, _, 4, rfl, hp7, by decide, by decide, fun v8 a8 b8 c8 v80 v84 => ?_⟩
        have k78 : Kp p H7 (upd H7 p (.lst [.int a8, .int b8, .int c8])) := Kp.upd
        have hp8 : (upd H7 p (.lst [.int a8, .int b8, .int c8])) p = some (.lst [.int a8, .int b8, .int c8]) := upd_same
        generalize hH8 : upd H7 p (HO.lst [V.int a8, V.int b8, V.int c8]) = H8 at k78 hp8
        refine ⟨p, wide, v8, rfl, ⟨_, _, _, hp8⟩, w18.1, w18.2.1, v80, by (first | lia | omega), fun l9 ws9 H9 f9 k9 ⟨a9, b9, c9, hp9⟩ ⟨rs9, x9, hr9⟩ ok9 len9 => ?_⟩
        obtain ⟨rsf, xf, hrf⟩ := WsL.kp (Kp.trans k78 k9) hp7 nfl wlf
        have lr9 := hr9.len
        have lrf := hrf.len
        walk_at "rd"
        refine ⟨l9, fl, _, _, rfl, rfl, x9, xf, lenLine (by (first | lia | omega)), fun l10 f10 => ?_⟩
        obtain ⟨k10, hp10, x10, n10⟩ := fresh_step hp9 f10 (.lst (rs9 ++ rsf))
        generalize hH10 : upd H9 l10 (HO.lst (rs9 ++ rsf)) = H10 at k10 hp10 x10
        refine ⟨_, rfl, rfl, _, rfl, iteFd (by decide) ?_⟩
        exact fin 5 wide l10 (ws9 ++ ws) H10 (Kp.trans k7 (Kp.trans k78 (Kp.trans k9 k10))) ⟨_, _, _, hp10⟩ ⟨_, x10, (hr9.app hrf).kp k10 hp9⟩ w18.1 w18.2.1 (ok9.app okf)
      · -- some behind
        refine ⟨_, rfl, rfl, _, rfl, iteFd (by decide) ?_⟩
        refine ⟨_, rfl, rfl, _, rfl, iteFd (by decide) ?_⟩
        refine ⟨_, rfl, rfl, _, rfl, iteFd (by decide) ?_⟩
        refine ⟨_, rfl, rfl, _, rfl, iteTd (by decide) ?_⟩
        walk_at "rd"
        refine ⟨p, _, _, _, 3, rfl, hp7, by decide, by decide, fun v8 a8 b8 c8 v80 v84 => ?_⟩
        have k78 : Kp p H7 (upd H7 p (.lst [.int a8, .int b8, .int c8])) := Kp.upd
        have hp8 : (upd H7 p (.lst [.int a8, .int b8, .int c8])) p = some (.lst [.int a8, .int b8, .int c8]) := upd_same
        generalize hH8 : upd H7 p (HO.lst [V.int a8, V.int b8, V.int c8]) = H8 at k78 hp8
        refine ⟨p, wide, v8, rfl, ⟨_, _, _, hp8⟩, w18.1, w18.2.1, v80, by (first | lia | omega), fun l9 ws9 H9 f9 k9 ⟨a9, b9, c9, hp9⟩ ⟨rs9, x9, hr9⟩ ok9 len9 => ?_⟩
        obtain ⟨rsf, xf, hrf⟩ := WsL.kp (Kp.trans k78 k9) hp7 nfl wlf
        have lr9 := hr9.len
        have lrf := hrf.len
        refine ⟨fl, l9, _, _, rfl, rfl, xf, x9, lenLine (by (first | lia | omega)), fun l10 f10 => ?_⟩
        obtain ⟨k10, hp10, x10, n10⟩ := fresh_step hp9 f10 (.lst (rsf ++ rs9))
        generalize hH10 : upd H9 l10 (HO.lst (rsf ++ rs9)) = H10 at k10 hp10 x10
        exact fin 6 wide l10 (ws ++ ws9) H10 (Kp.trans k7 (Kp.trans k78 (Kp.trans k9 k10))) ⟨_, _, _, hp10⟩ ⟨_, x10, (hrf.app hr9).kp k10 hp9⟩ w18.1 w18.2.1 (okf.app ok9)
      · refine ⟨_, rfl, rfl, _, rfl, iteFd (by decide) ?_⟩
        refine ⟨_, rfl, rfl, _, rfl, iteFd (by decide) ?_⟩
        refine ⟨_, rfl, rfl, _, rfl, iteFd (by decide) ?_⟩
        refine ⟨_, rfl, rfl, _, rfl, iteFd (by decide) ?_⟩
        exact fin 7 wide fl ws H7 k7 ⟨_, _, _, hp7⟩ wlf w18.1 w18.2.1 okf
end
section
variable {P : Program} {w : World} {K : PySem.W.Frag} {mg : Str → Option Value} {base : Heap} {f : Addr} {fd : FuncData}
theorem sc_is_whole : FnScope ["thing"] ["thing"] (defScope s_is_whole) := ⟨rfl, rfl, rfl, by decide +kernel, rfl, by decide +kernel, by decide +kernel⟩
theorem ok_is_whole (T : Bn mg) (F : Here K mg "is_whole" s_is_whole f fd) : FnOk P w K mg base CX0 1 f fd ["thing"] spIsWhole := by
  refine F.fn.ok sc_is_whole (fun vs H Q E h => ?_) (fun cdv A outer s H vs Q E hr h => ?_)
  · obtain ⟨i, rfl, _⟩ := h
    rfl
  · obtain ⟨i, rfl, q⟩ := h
    refine ⟨_, (pss_one (ps_ret (pe_and (pe_callB call_isinst rfl T.n_isinstance boot_isinstance (pa_cons (pv 0) (pa_cons (pe_bltn (v := V.ty "int") (u := .type "int") rfl T.n_int (by decide +kernel) rfl) pa_nil))) (pe_one (pe_not (pe_callB call_isinst rfl T.n_isinstance boot_isinstance (pa_cons (pv 0) (pa_cons (pe_bltn (v := V.ty "bool") (u := .type "bool") rfl T.n_bool (by decide +kernel) rfl) pa_nil)))))))), ?_⟩
    refine ⟨_, rfl, _, _, _, true, rfl, TyOf.int i, rfl, _, rfl, iteTd rfl ?_⟩
    exact ⟨_, rfl, _, _, _, false, rfl, TyOf.int i, rfl, _, rfl, q⟩
end
section
variable {P : Program} {w : World} {K : PySem.W.Frag} {mg : Str → Option Value} {base : Heap} {f : Addr} {fd : FuncData}
theorem sc_is_lane : FnScope ["wide", "thing"] ["wide", "thing"] (defScope s_is_lane) := ⟨rfl, rfl, rfl, by decide +kernel, rfl, by decide +kernel, by decide +kernel⟩
theorem ok_is_lane (T : Bn mg) (F : Here K mg "is_lane" s_is_lane f fd) (Cis_whole : Callee P w K mg base "is_whole" 1 ["thing"] spIsWhole) : FnOk P w K mg base CX0 2 f fd ["wide", "thing"] spIsLane := by
  refine F.fn.ok sc_is_lane (fun vs H Q E h => ?_) (fun cdv A outer s H vs Q E hr h => ?_)
  · obtain ⟨wide, i, rfl, _⟩ := h
    rfl
  · obtain ⟨wide, i, rfl, h0, h1, q⟩ := h
    refine ⟨_, (pss_one (ps_ret (pe_and (pe_callC Cis_whole (hr.mono (by first | decide | (first | lia | omega))) rfl (pa_cons (pv 1) pa_nil)) (pe_one (pe_chain op_le op_lt pe_int (pv 1) (pv 0)))))), ?_⟩
    refine ⟨_, rfl, i, rfl, _, rfl, iteTd rfl ?_⟩
    refine ⟨_, rfl, _, _, rfl, rfl, _, rfl, iteTd (decide_eq_true h0) ?_⟩
    refine ⟨_, rfl, _, _, rfl, rfl, ?_⟩
    have z : Q (.bl (decide (i < wide))) H := by
      rw [decide_eq_true h1]
      exact q
    exact z
end
section
variable {P : Program} {w : World} {K : PySem.W.Frag} {mg : Str → Option Value} {base : Heap} {f : Addr} {fd : FuncData}
theorem sc_place_on : FnScope ["net", "lane", "start", "number"] ["net", "lane", "start"] (defScope s_place_on) := ⟨rfl, rfl, rfl, by decide +kernel, rfl, by decide +kernel, by decide +kernel⟩
theorem ok_place_on (T : Bn mg) (F : Here K mg "place_on" s_place_on f fd) : FnOk P w K mg base CX0 1 f fd ["net", "lane", "start"] spPlaceOn := by
  refine F.fn.ok sc_place_on (fun vs H Q E h => ?_) (fun cdv A outer s H vs Q E hr h => ?_)
  · obtain ⟨v, wide, ws, l, s, rfl, _⟩ := h
    rfl
  · obtain ⟨v, wide, ws, l, s, rfl, ⟨⟨n, t, rs, rfl, hn, ht, hrs⟩, w1, w8, ok, len⟩, hs, q⟩ := h
    have lrs := hrs.len
    refine ⟨_, (pss_cons (ps_for PassesOwn.never rfl  (pi_range2 rfl T.n_range (pa_cons (pv 2) (pa_cons (pe_callB call_len_seq rfl T.n_len PySem.boot_len (pa_cons (pe_ix ix_tup (pv 0) pe_int (fun _ _ => rfl)) pa_nil)) pa_nil))) (pg_name (i := 3) sc_place_on.nd rfl (by first | exact Or.inl rfl | exact Or.inr rfl))
    (pss_one (ps_if (pt_cmpR op_in_seq (pv 1) (pe_ix ix_tup (pe_ix ix_tup (pv 0) pe_int (fun _ _ => rfl)) (pv 3) (fun _ _ => rfl)) (by with_unfolding_all rfl))
    (pss_one (ps_ret (pe_tup (pa_cons pe_str (pa_cons (pv 3) (pa_cons (pv 1) pa_nil))))))
    pss_nil)))
    (pss_one (ps_ret (pe_tup (pa_cons pe_str (pa_cons (pv 1) pa_nil)))))), ?_⟩
    refine ⟨_, rfl, _, rfl, n, _, _, _, rfl, rfl, SqT.of hn, rfl, t, _, rfl, .inr (SqT.of ht), ?_⟩
    refine ⟨_, _, rfl, ⟨by (first | lia | omega), by (first | lia | omega), by (first | lia | omega), by (first | lia | omega)⟩, ?_⟩
    refine for_range (n := ((rs.length : Int) - (s : Int)).toNat) (fun i σ Hc => ∃ v3, σ = [some (.ref n), some (.int l), some (.int s), v3] ∧ Hc = H ∧ placeM ws l s = placeF ws l (ws.length - s - i) (s + i)) ⟨none, rfl, rfl, rfl⟩ ?_ ?_
    · rintro i σ Hc hi ⟨v3, rfl, rfl, hp⟩
      have il : s + i < ws.length := by (first | lia | omega)
      have e0 : (s : Int) + (i : Int) = ((s + i : Nat) : Int) := by (first | lia | omega)
      rw [e0]
      obtain ⟨t0, w0, et0, _, hw0, ht0⟩ := atI_ref hrs (i := ((s + i : Nat) : Int)) (by (first | lia | omega)) (by (first | lia | omega))
      rw [Int.toNat_natCast] at hw0
      have ew : wAt ws (s + i) = w0 := by simp [wAt, List.getD, hw0]
      have ef : placeF ws l (ws.length - s - i) (s + i) = if hasL w0 l then .before (s + i) l else placeF ws l (ws.length - s - (i + 1)) (s + (i + 1)) := by
        rw [show ws.length - s - i = (ws.length - s - (i + 1)) + 1 by (first | lia | omega)]
        show (if hasL (wAt ws (s + i)) l then _ else _) = _
        rw [ew]
        rfl
      rw [ef] at hp
      refine ⟨_, rfl, _, rfl, n, _, _, _, rfl, rfl, SqT.of hn, rfl, _, rfl, t, _, _, _, rfl, rfl, SqT.of ht, et0, ?_⟩
      refine ⟨t0, _, rfl, .inr (SqT.of ht0), rfl, rfl, _, rfl, ?_⟩
      have ei : inV (.int l) [.int w0.1, .int w0.2] = hasL w0 l := in_pair l w0.1 w0.2
      show if inV (.int l) [.int w0.1, .int w0.2] = true then _ else _
      rw [ei]
      refine ite2 (fun g => ?_) (fun g => ?_)
      · rw [if_pos g] at hp
        refine ⟨_, rfl, _, rfl, lenLine (by show 3 ≤ 100000; decide), fun T1 f1 => ?_⟩
        exact q T1 _ f1 (same_new f1 _) (by rw [upd_same, hp]; rfl)
      · rw [if_neg g] at hp
        exact ⟨_, rfl, rfl, hp⟩
    · rintro σ Hc ⟨v3, rfl, rfl, hp⟩
      have e0 : ws.length - s - ((rs.length : Int) - (s : Int)).toNat = 0 := by (first | lia | omega)
      rw [e0] at hp
      refine ⟨_, rfl, lenLine (by show 2 ≤ 100000; decide), fun T1 f1 => ?_⟩
      exact q T1 _ f1 (same_new f1 _) (by rw [upd_same, hp]; rfl)
end
section
variable {P : Program} {w : World} {K : PySem.W.Frag} {mg : Str → Option Value} {base : Heap} {f : Addr} {fd : FuncData}
theorem sc_Play_init : FnScope ["self", "net"] ["self", "net"] (defScope s_Play_init) := ⟨rfl, rfl, rfl, by decide +kernel, rfl, by decide +kernel, by decide +kernel⟩
theorem ok_Play_init {C : Addr} (T : Bn mg) (TP : PlayT K C) (F : HereM K mg C "__init__" "Play.__init__" s_Play_init f fd) : FnOk P w K mg base CX0 1 f fd ["self", "net"] (spPInit C) := by
  refine F.fn.ok sc_Play_init (fun vs H Q E h => ?_) (fun cdv A outer s H vs Q E hr h => ?_)
  · obtain ⟨p, dx, v, wide, ws, rfl, _⟩ := h
    rfl
  · obtain ⟨p, dx, v, wide, ws, rfl, hp, ⟨⟨n, t, rs, rfl, hn, ht, hrs⟩, w1, w8, ok, len⟩, q⟩ := h
    have lrs := hrs.len
    refine ⟨_, (pss_cons (ps_fld (pv 0) (pv 1) rfl)
    (pss_cons (ps_fld (pv 0) (pe_comp ["wicket"] [] rfl (pi_tup (pe_ix ix_tup (pv 1) pe_int (fun _ _ => rfl))) (fun _ _ _ _ _ _ => by exact (pg_name (i := 0) (show List.Nodup (["wicket"] : List Str) by decide +kernel) rfl (by first | exact Or.inl rfl | exact Or.inr rfl))) (fun _ _ _ _ _ _ => by exact pts_nil) (fun _ _ _ _ _ _ => by exact (pe_ix (ix_tupK K rfl) (pv 0) pe_int (fun _ _ => rfl)))) rfl)
    (pss_cons (ps_fld (pv 0) (pe_op op_rep (pe_lst (pa_cons pe_int pa_nil)) (pe_ix ix_tup (pv 1) pe_int (fun _ _ => rfl))) rfl)
    (pss_cons (ps_fld (pv 0) (pe_lst pa_nil) rfl)
    (pss_one (ps_fld (pv 0) (pe_lst pa_nil) rfl)))))), ?_⟩
    refine ⟨_, rfl, _, rfl, p, C, dx, [], rfl, hp, TP.cl, TP.nN, (by show 0 < 1000; decide), ?_⟩
    have k1 : ∀ b o, H b = some o → b ≠ p → (upd H p (HO.ins C dx (putF "net" (V.ref n) []))) b = some o := fun b o e ne => (upd_ne ne).trans e
    have hp1 : (upd H p (HO.ins C dx (putF "net" (V.ref n) []))) p = some (.ins C dx (putF "net" (.ref n) [])) := upd_same
    have fr1 : ∀ b, (upd H p (HO.ins C dx (putF "net" (V.ref n) []))) b = none → H b = none ∧ b ≠ p := fun b e => by
      have ne : b ≠ p := fun z => by rw [z, upd_same] at e; cases e
      rw [upd_ne ne] at e
      exact ⟨e, ne⟩
    generalize upd H p (HO.ins C dx (putF "net" (V.ref n) [])) = H1 at k1 hp1 fr1
    have np : n ≠ p := ne_of hn hp (by intro z; cases z)
    have tp : t ≠ p := ne_of ht hp (by intro z; cases z)
    have hn1 := k1 _ _ hn np
    have ht1 := k1 _ _ ht tp
    have hrs1 : Refs H1 rs ws := hrs.mono fun b xs e => k1 _ _ e (ne_of e hp (by intro z; cases z))
    refine ⟨_, rfl, n, _, _, _, rfl, rfl, SqT.of hn1, rfl, t, rfl, ⟨_, SqT.of ht1⟩, fun lf ff => ?_⟩
    refine comp_tup (xs := rs) (fun j ys Hc => Same H1 Hc ∧ Hc lf = some (.lst ys) ∧ ys = ((ws.take j).map (·.1)).map V.int) ⟨Same.put ff (Same.refl _), upd_same, rfl⟩ (lenLine (by (first | lia | omega)))
      (fun j ys Hc hj ⟨s1, e1, r1⟩ => ⟨SqT.of (s1 _ _ ht1), e1, by rw [r1]; simp; (first | lia | omega)⟩) ?_ ?_
    · rintro j x ys Hc hx ⟨s1, e1, rfl⟩
      obtain ⟨w0, t0, hw0, rfl, ht0⟩ := hrs1.get hx
      refine ⟨⟨.inl rfl, trivial⟩, tru_if ?_⟩
      refine ⟨_, rfl, t0, _, _, _, rfl, rfl, SqT.of (s1 _ _ ht0), rfl, e1, Same.put ff s1, upd_same, ?_⟩
      rw [take_snoc hw0, List.map_append, List.map_append]
      rfl
    rintro ys H2 ⟨s2, e2, rfl⟩
    rw [lrs, List.take_length] at e2
    have hp2 := s2 _ _ hp1
    have nfp : lf ≠ p := Ne.symm (ne_of_none hp1 ff)
    refine ⟨_, rfl, p, C, dx, _, rfl, hp2, TP.cl, TP.nF, (by have := putF_len "net" (V.ref n) []; simp at this; (first | lia | omega)), ?_⟩
    have x3 : (upd H2 p (HO.ins C dx (putF "facing" (V.ref lf) (putF "net" (V.ref n) [])))) lf = some (.lst ((ws.map (·.1)).map V.int)) := (upd_ne nfp).trans e2
    have hp3 : (upd H2 p (HO.ins C dx (putF "facing" (V.ref lf) (putF "net" (V.ref n) [])))) p = some (.ins C dx (putF "facing" (.ref lf) (putF "net" (.ref n) []))) := upd_same
    have k3 : ∀ b o, H1 b = some o → b ≠ p → (upd H2 p (HO.ins C dx (putF "facing" (V.ref lf) (putF "net" (V.ref n) [])))) b = some o := fun b o e ne => (upd_ne ne).trans (s2 _ _ e)
    have fr3 : ∀ b, (upd H2 p (HO.ins C dx (putF "facing" (V.ref lf) (putF "net" (V.ref n) [])))) b = none → H1 b = none := fun b e => by
      have ne : b ≠ p := fun z => by rw [z, upd_same] at e; cases e
      rw [upd_ne ne] at e
      exact s2.free e
    generalize upd H2 p (HO.ins C dx (putF "facing" (V.ref lf) (putF "net" (V.ref n) []))) = H3 at x3 hp3 k3 fr3
    have hn3 := k3 _ _ hn1 np
    refine ⟨lenLine (by show 1 ≤ 100000; decide), fun l4 f4 => ?_⟩
    refine ⟨_, rfl, n, _, _, _, rfl, rfl, SqT.of ((same_new f4 _) _ _ hn3), rfl, l4, wide, _, rfl, rfl, upd_same, by (first | lia | omega), by (first | lia | omega), lenLine (by show 1 * wide.toNat ≤ 100000; (first | lia | omega)), fun lt f5 => ?_⟩
    have er : (List.replicate wide.toNat [V.int 0]).flatten = (List.replicate wide.toNat (0 : Int)).map V.int := by
      generalize wide.toNat = k
      induction k with
      | zero => rfl
      | succ k ih => rw [List.replicate_succ, List.flatten_cons, ih, List.replicate_succ, List.map_cons]; rfl
    rw [er]
    have s5 : Same H3 (upd (upd H3 l4 (HO.lst [V.int 0])) lt (HO.lst ((List.replicate wide.toNat (0 : Int)).map V.int))) := Same.trans (same_new f4 _) (same_new f5 _)
    have x5 : (upd (upd H3 l4 (HO.lst [V.int 0])) lt (HO.lst ((List.replicate wide.toNat (0 : Int)).map V.int))) lt = some (.lst ((List.replicate wide.toNat (0 : Int)).map V.int)) := upd_same
    have f5' : H3 lt = none := (same_new f4 _).free f5
    generalize upd (upd H3 l4 (HO.lst [V.int 0])) lt (HO.lst ((List.replicate wide.toNat (0 : Int)).map V.int)) = H5 at s5 x5
    have ntp : lt ≠ p := Ne.symm (ne_of_none hp3 f5')
    have nft : lf ≠ lt := ne_of_none x3 f5'
    refine ⟨_, rfl, p, C, dx, _, rfl, s5 _ _ hp3, TP.cl, TP.nT, (by have h1 := putF_len "net" (V.ref n) []; have h2 := putF_len "facing" (V.ref lf) (putF "net" (V.ref n) []); simp at h1; (first | lia | omega)), ?_⟩
    refine ⟨lenLine (by show 0 ≤ 100000; decide), fun lp f6 => ?_⟩
    have f6' : lp ≠ p := fun z => by rw [z, upd_same] at f6; cases f6
    have f6'' : H5 lp = none := by rw [upd_ne f6'] at f6; exact f6
    have npl : lp ≠ lf := fun z => by rw [z] at f6''; rw [s5 _ _ x3] at f6''; cases f6''
    have npt : lp ≠ lt := fun z => by rw [z, x5] at f6''; cases f6''
    refine ⟨_, rfl, p, C, dx, _, rfl, (upd_ne (Ne.symm f6')).trans upd_same, TP.cl, TP.nP, (by have h1 := putF_len "net" (V.ref n) []; have h2 := putF_len "facing" (V.ref lf) (putF "net" (V.ref n) []); have h3 := putF_len "tally" (V.ref lt) (putF "facing" (V.ref lf) (putF "net" (V.ref n) [])); simp at h1; (first | lia | omega)), ?_⟩
    refine ⟨lenLine (by show 0 ≤ 100000; decide), fun lc f7 => ?_⟩
    have f7' : lc ≠ p := fun z => by rw [z, upd_same] at f7; cases f7
    have f7a : lc ≠ lp := fun z => by rw [z, upd_ne f6', upd_same] at f7; cases f7
    have f7'' : H5 lc = none := by rw [upd_ne f7', upd_ne f7a, upd_ne f7'] at f7; exact f7
    have ncl : lc ≠ lf := fun z => by rw [z] at f7''; rw [s5 _ _ x3] at f7''; cases f7''
    have nct : lc ≠ lt := fun z => by rw [z, x5] at f7''; cases f7''
    refine ⟨_, rfl, p, C, dx, _, rfl, (upd_ne (Ne.symm f7')).trans upd_same, TP.cl, TP.nC, (by have h1 := putF_len "net" (V.ref n) []; have h2 := putF_len "facing" (V.ref lf) (putF "net" (V.ref n) []); have h3 := putF_len "tally" (V.ref lt) (putF "facing" (V.ref lf) (putF "net" (V.ref n) [])); have h4 := putF_len "places" (V.ref lp) (putF "tally" (V.ref lt) (putF "facing" (V.ref lf) (putF "net" (V.ref n) []))); simp at h1; (first | lia | omega)), ?_⟩
    refine q ⟨dx, lf, lt, lp, lc⟩ _ (fr1 _ ff).1 (fr1 _ (fr3 _ f5')).1 (fr1 _ (fr3 _ (s5.free f6''))).1 (fr1 _ (fr3 _ (s5.free f7''))).1 ?_ fun b o e ne => ?_
    · refine ⟨upd_same, ?_, ?_, ⟨[], ?_, .nil⟩, ?_, nft, Ne.symm npl, Ne.symm ncl, Ne.symm npt, Ne.symm nct, Ne.symm f7a⟩
      · show (upd _ p _) lf = _
        rw [upd_ne nfp, upd_ne (Ne.symm ncl), upd_ne nfp, upd_ne (Ne.symm npl), upd_ne nfp]
        exact s5 _ _ x3
      · show (upd _ p _) lt = _
        rw [upd_ne ntp, upd_ne (Ne.symm nct), upd_ne ntp, upd_ne (Ne.symm npt), upd_ne ntp]
        exact x5
      · show (upd _ p _) lp = _
        rw [upd_ne f6', upd_ne (Ne.symm f7a), upd_ne f6', upd_same]
      · show (upd _ p _) lc = _
        rw [upd_ne f7', upd_same]
        rfl
    · have e5 := s5 _ _ (k3 _ _ (k1 b o e ne) ne)
      rw [upd_ne ne, upd_ne (ne_of_none e5 f7''), upd_ne ne, upd_ne (ne_of_none e5 f6''), upd_ne ne]
      exact e5
end
section
variable {P : Program} {w : World} {K : PySem.W.Frag} {mg : Str → Option Value} {base : Heap} {f : Addr} {fd : FuncData}
theorem sc_Play_come_in : FnScope ["self", "lane", "change"] ["self", "lane", "change"] (defScope s_Play_come_in) := ⟨rfl, rfl, rfl, by decide +kernel, rfl, by decide +kernel, by decide +kernel⟩
theorem ok_Play_come_in {C : Addr} (T : Bn mg) (TP : PlayT K C) (F : HereM K mg C "come_in" "Play.come_in" s_Play_come_in f fd) (Cis_lane : Callee P w K mg base "is_lane" 2 ["wide", "thing"] spIsLane) (Cplace_on : Callee P w K mg base "place_on" 1 ["net", "lane", "start"] spPlaceOn) : FnOk P w K mg base CX0 3 f fd ["self", "lane", "change"] (spComeIn C) := by
  refine F.fn.ok sc_Play_come_in (fun vs H Q E h => ?_) (fun cdv A outer s H vs Q E hr h => ?_)
  · obtain ⟨p, v, wide, ws, L, st, lane, c, rfl, _⟩ := h
    rfl
  · obtain ⟨p, v, wide, ws, L, st, lane, c, rfl, net, pa, wf, l0, l1, q⟩ := h
    obtain ⟨n, t, rs, rfl, hn, ht, hrs⟩ := id net.1
    refine ⟨_, (pss_cons (ps_if (pt_not (pt_val (pe_callC Cis_lane (hr.mono (by first | decide | (first | lia | omega))) rfl (pa_cons (pe_ix ix_tup (pe_fld (pv 0) rfl) pe_int (fun _ _ => rfl)) (pa_cons (pv 1) pa_nil)))))
    (pss_one ps_never)
    pss_nil)
    (pss_cons (ps_expr (pe_bm PySem.F.plainAttrs_list PySem.F.slot_list_append PySem.F.type_list_append mt_append (pe_fld (pv 0) rfl) (pa_cons (pe_callC Cplace_on (hr.mono (by first | decide | (first | lia | omega))) rfl (pa_cons (pe_fld (pv 0) rfl) (pa_cons (pv 1) (pa_cons pe_int pa_nil)))) pa_nil)))
    (pss_cons (ps_expr (pe_bm PySem.F.plainAttrs_list PySem.F.slot_list_append PySem.F.type_list_append mt_append (pe_fld (pv 0) rfl) (pa_cons (pv 2) pa_nil)))
    (pss_one (ps_ret (pe_op op_sub (pe_callB call_len_seq rfl T.n_len PySem.boot_len (pa_cons (pe_fld (pv 0) rfl) pa_nil)) pe_int)))))), ?_⟩
    refine ⟨_, rfl, p, C, _, _, _, rfl, pa.ob, TP.cl, TP.nN, pfl_net _ _, n, _, _, _, rfl, rfl, SqT.of hn, rfl, _, rfl, wide, lane, rfl, l0, l1, _, rfl, iteFd (by decide) ?_⟩
    obtain ⟨rp, xp, hpl⟩ := pa.pl
    have lrp := Paired.length hpl
    have ml := wf.ml
    refine ⟨_, rfl, p, C, _, _, _, rfl, pa.ob, TP.cl, TP.nP, pfl_places _ _, .inl ⟨rfl, _, SqL.of xp⟩, ?_⟩
    refine ⟨_, rfl, p, C, _, _, _, rfl, pa.ob, TP.cl, TP.nN, pfl_net _ _, _, rfl, .ref n, wide, ws, lane, 0, rfl, net, Nat.zero_le _, fun t1 H1 f1 s1 x1 => ?_⟩
    have pa1 := pa.same s1
    have xp1 := s1 _ _ xp
    refine ⟨L.lp, _, _, rfl, rfl, xp1, lenLt (by (first | lia | omega)), ?_⟩
    obtain ⟨nf, nt, np, nc⟩ := pa.nob
    have ob2 : (upd H1 L.lp (HO.lst (rp ++ [V.ref t1]))) p = some (.ins C L.dx (pfl (.ref n) L)) := (upd_ne np).trans pa1.ob
    have ch2 : (upd H1 L.lp (HO.lst (rp ++ [V.ref t1]))) L.lc = some (.lst (st.chg.map V.int)) := (upd_ne (Ne.symm pa.pc)).trans pa1.ch
    refine ⟨_, rfl, p, C, _, _, _, rfl, ob2, TP.cl, TP.nC, pfl_changes _ _, .inl ⟨rfl, _, SqL.of ch2⟩, ?_⟩
    have cl := wf.cl
    refine ⟨_, rfl, L.lc, _, _, rfl, rfl, ch2, lenLt (by rw [List.length_map]; (first | lia | omega)), ?_⟩
    have kt2 : KT H1 (upd (upd H1 L.lp (HO.lst (rp ++ [V.ref t1]))) L.lc (HO.lst (st.chg.map V.int ++ [V.int c]))) := KT.lst ch2 (KT.lst xp1 (KT.refl _))
    have pa3 : PlayAt C (upd (upd H1 L.lp (HO.lst (rp ++ [V.ref t1]))) L.lc (HO.lst (st.chg.map V.int ++ [V.int c]))) p (.ref n) L (enterM ws st lane c) := by
      refine ⟨(upd_ne nc).trans ob2, ?_, ?_, ⟨rp ++ [.ref t1], ?_, ?_⟩, ?_, pa.ft, pa.fp, pa.fc, pa.tp, pa.tc, pa.pc⟩
      · rw [upd_ne pa.fc, upd_ne pa.fp]; exact pa1.fa
      · rw [upd_ne pa.tc, upd_ne pa.tp]; exact pa1.ta
      · rw [upd_ne pa.pc, upd_same]
      · exact Paired.appP (Paired.mapP hpl fun _ _ z => (z.kt (KT.same s1 (KT.refl _))).kt kt2) (.cons ⟨t1, rfl, kt2 _ _ x1⟩ .nil)
      · rw [upd_same]
        show _ = some (HO.lst ((st.chg ++ [c]).map V.int))
        rw [List.map_append]
        rfl
    have kp3 : KpL L H (upd (upd H1 L.lp (HO.lst (rp ++ [V.ref t1]))) L.lc (HO.lst (st.chg.map V.int ++ [V.int c]))) := fun b o e h1 h2 h3 h4 => by
      rw [upd_ne h4, upd_ne h3]
      exact s1 _ _ e
    generalize upd (upd H1 L.lp (HO.lst (rp ++ [V.ref t1]))) L.lc (HO.lst (st.chg.map V.int ++ [V.int c])) = H3 at pa3 kp3
    obtain ⟨rp3, xp3, hpl3⟩ := pa3.pl
    have lrp3 := Paired.length hpl3
    refine ⟨_, rfl, p, C, _, _, _, rfl, pa3.ob, TP.cl, TP.nP, pfl_places _ _, L.lp, _, rfl, .inl (SqL.of xp3), _, _, rfl, rfl, ?_⟩
    have el : (rp3.length : Int) - 1 = (st.pla.length : Int) := by
      rw [lrp3]
      show (((st.pla ++ [_]).length : Nat) : Int) - 1 = _
      rw [List.length_append, List.length_singleton]
      (first | lia | omega)
    have z : Q (.int ((rp3.length : Int) - 1)) H3 := by
      rw [el]
      exact q H3 pa3 kp3
    exact z
end
section
variable {P : Program} {w : World} {K : PySem.W.Frag} {mg : Str → Option Value} {base : Heap} {f : Addr} {fd : FuncData}
theorem sc_Play_enter : FnScope ["self", "lane"] ["self", "lane"] (defScope s_Play_enter) := ⟨rfl, rfl, rfl, by decide +kernel, rfl, by decide +kernel, by decide +kernel⟩
theorem ok_Play_enter {C : Addr} (T : Bn mg) (TP : PlayT K C) (F : HereM K mg C "enter" "Play.enter" s_Play_enter f fd) (MPlay_come_in : MCal P w K mg base C "come_in" 3 ["self", "lane", "change"] (spComeIn C)) : FnOk P w K mg base CX0 4 f fd ["self", "lane"] (spEnter C 1) := by
  refine F.fn.ok sc_Play_enter (fun vs H Q E h => ?_) (fun cdv A outer s H vs Q E hr h => ?_)
  · obtain ⟨p, v, wide, ws, L, st, lane, rfl, _⟩ := h
    rfl
  · obtain ⟨p, v, wide, ws, L, st, lane, rfl, net, pa, wf, l0, l1, q⟩ := h
    refine ⟨_, (pss_one (ps_ret (pe_methC (pv 0) TP.cl MPlay_come_in (hr.mono (by first | decide | (first | lia | omega))) (pa_cons (pv 1) (pa_cons pe_int pa_nil))))), ?_⟩
    refine ⟨_, rfl, p, _, _, rfl, pa.ob, pfl_no _ _ (by decide +kernel) (by decide +kernel) (by decide +kernel) (by decide +kernel) (by decide +kernel), _, rfl, ?_⟩
    exact ⟨p, v, wide, ws, L, st, lane, 1, rfl, net, pa, wf, l0, l1, q⟩
end
section
variable {P : Program} {w : World} {K : PySem.W.Frag} {mg : Str → Option Value} {base : Heap} {f : Addr} {fd : FuncData}
theorem sc_Play_enter_back : FnScope ["self", "lane"] ["self", "lane"] (defScope s_Play_enter_back) := ⟨rfl, rfl, rfl, by decide +kernel, rfl, by decide +kernel, by decide +kernel⟩
theorem ok_Play_enter_back {C : Addr} (T : Bn mg) (TP : PlayT K C) (F : HereM K mg C "enter_back" "Play.enter_back" s_Play_enter_back f fd) (MPlay_come_in : MCal P w K mg base C "come_in" 3 ["self", "lane", "change"] (spComeIn C)) : FnOk P w K mg base CX0 4 f fd ["self", "lane"] (spEnter C (-1)) := by
  refine F.fn.ok sc_Play_enter_back (fun vs H Q E h => ?_) (fun cdv A outer s H vs Q E hr h => ?_)
  · obtain ⟨p, v, wide, ws, L, st, lane, rfl, _⟩ := h
    rfl
  · obtain ⟨p, v, wide, ws, L, st, lane, rfl, net, pa, wf, l0, l1, q⟩ := h
    refine ⟨_, (pss_one (ps_ret (pe_methC (pv 0) TP.cl MPlay_come_in (hr.mono (by first | decide | (first | lia | omega))) (pa_cons (pv 1) (pa_cons (pe_un un_neg pe_int) pa_nil))))), ?_⟩
    refine ⟨_, rfl, p, _, _, rfl, pa.ob, pfl_no _ _ (by decide +kernel) (by decide +kernel) (by decide +kernel) (by decide +kernel) (by decide +kernel), _, rfl, _, rfl, ?_⟩
    exact ⟨p, v, wide, ws, L, st, lane, -1, rfl, net, pa, wf, l0, l1, q⟩
end
section
variable {P : Program} {w : World} {K : PySem.W.Frag} {mg : Str → Option Value} {base : Heap} {f : Addr} {fd : FuncData}
theorem sc_Play_where : FnScope ["self", "walker"] ["self", "walker"] (defScope s_Play_where) := ⟨rfl, rfl, rfl, by decide +kernel, rfl, by decide +kernel, by decide +kernel⟩
theorem ok_Play_where {C : Addr} (T : Bn mg) (TP : PlayT K C) (F : HereM K mg C "where" "Play.where" s_Play_where f fd) (Cis_whole : Callee P w K mg base "is_whole" 1 ["thing"] spIsWhole) : FnOk P w K mg base CX0 2 f fd ["self", "walker"] (spWhere C) := by
  refine F.fn.ok sc_Play_where (fun vs H Q E h => ?_) (fun cdv A outer s H vs Q E hr h => ?_)
  · obtain ⟨p, v, L, st, i, pl, rfl, _⟩ := h
    rfl
  · obtain ⟨p, v, L, st, i, pl, rfl, pa, hi, q⟩ := h
    obtain ⟨rp, xp, hpl⟩ := pa.pl
    have lrp := Paired.length hpl
    have il : i < st.pla.length := (List.getElem?_eq_some_iff.mp hi).1
    obtain ⟨r, hr0, t, rfl, ht⟩ := Paired.getP hpl hi
    refine ⟨_, (pss_cons (ps_if (PW.pt (pw_or (pt_not (pt_val (pe_callC Cis_whole (hr.mono (by first | decide | (first | lia | omega))) rfl (pa_cons (pv 1) pa_nil)))) (pw_or1 (pt_not (pt_chain op_le op_lt pe_int (pv 1) (pe_callB call_len_seq rfl T.n_len PySem.boot_len (pa_cons (pe_fld (pv 0) rfl) pa_nil)))))))
    (pss_one ps_never)
    pss_nil)
    (pss_one (ps_ret (pe_ix ix_list (pe_fld (pv 0) rfl) (pv 1) (fun _ _ => rfl))))), ?_⟩
    refine ⟨_, rfl, _, rfl, _, rfl, iteFd (by decide) ?_⟩
    refine ⟨_, rfl, _, _, rfl, rfl, _, rfl, iteTd (decide_eq_true (by (first | lia | omega))) ?_⟩
    refine ⟨_, rfl, p, C, _, _, _, rfl, pa.ob, TP.cl, TP.nP, pfl_places _ _, L.lp, _, rfl, .inl (SqL.of xp), _, _, rfl, rfl, _, rfl, iteFd ?_ ?_⟩
    · rw [decide_eq_true (show (i : Int) < (rp.length : Int) by (first | lia | omega))]
      decide
    refine ⟨_, rfl, p, C, _, _, _, rfl, pa.ob, TP.cl, TP.nP, pfl_places _ _, _, rfl, L.lp, _, _, _, rfl, rfl, SqL.of xp, atI_nat hr0, ?_⟩
    exact q t ht
end
section
variable {P : Program} {w : World} {K : PySem.W.Frag} {mg : Str → Option Value} {base : Heap} {f : Addr} {fd : FuncData}
theorem sc_Play_turn : FnScope ["self", "wicket", "lanes"] ["self", "wicket"] (defScope s_Play_turn) := ⟨rfl, rfl, rfl, by decide +kernel, rfl, by decide +kernel, by decide +kernel⟩
theorem ok_Play_turn {C : Addr} (T : Bn mg) (TP : PlayT K C) (F : HereM K mg C "turn" "Play.turn" s_Play_turn f fd) : FnOk P w K mg base CX0 1 f fd ["self", "wicket"] (spTurn C) := by
  refine F.fn.ok sc_Play_turn (fun vs H Q E h => ?_) (fun cdv A outer s H vs Q E hr h => ?_)
  · obtain ⟨p, v, wide, ws, L, st, k, rfl, _⟩ := h
    rfl
  · obtain ⟨p, v, wide, ws, L, st, k, rfl, net, pa, lf, hk, q⟩ := h
    obtain ⟨n, t, rs, rfl, hn, ht, hrs⟩ := id net.1
    have lrs := hrs.len
    obtain ⟨t0, w0, et0, _, hw0, ht0⟩ := atI_ref hrs (i := (k : Int)) (by (first | lia | omega)) (by (first | lia | omega))
    rw [Int.toNat_natCast] at hw0
    have ew : wAt ws k = w0 := by simp [wAt, List.getD, hw0]
    refine ⟨_, (pss_cons (ps_set (i := 2) sc_Play_turn.nd rfl (by first | exact Or.inl rfl | exact Or.inr rfl) (pe_ix ix_tup (pe_ix ix_tup (pe_fld (pv 0) rfl) pe_int (fun _ _ => rfl)) (pv 1) (fun _ _ => rfl)))
    (pss_one (ps_asg (pe_ifExp (pt_cmpR op_eq (pe_ix ix_list (pe_fld (pv 0) rfl) (pv 1) (fun _ _ => rfl)) (pe_ix ix_tup (pv 2) pe_int (fun _ _ => rfl)) (nomark _)) (pe_ix ix_tup (pv 2) pe_int (fun _ _ => rfl)) (pe_ix ix_tup (pv 2) pe_int (fun _ _ => rfl))) (pg_sub (pe_fld (pv 0) rfl) (pv 1) set_list)))), ?_⟩
    refine ⟨_, rfl, p, C, _, _, _, rfl, pa.ob, TP.cl, TP.nN, pfl_net _ _, n, _, _, _, rfl, rfl, SqT.of hn, rfl, _, rfl, t, _, _, _, rfl, rfl, SqT.of ht, et0, ?_⟩
    refine ⟨_, rfl, p, C, _, _, _, rfl, pa.ob, TP.cl, TP.nF, pfl_facing _ _, _, rfl, L.lf, _, _, _, rfl, rfl, SqL.of pa.fa, atI_int (i := (k : Int)) (by (first | lia | omega)) (by (first | lia | omega)), ?_⟩
    refine ⟨_, rfl, t0, _, _, _, rfl, rfl, SqT.of ht0, rfl, rfl, _, rfl, ?_⟩
    rw [Int.toNat_natCast]
    have fin : ∀ z : Int, z = otherL w0 (st.fac.getD k 0) → Q .non (upd H L.lf (HO.lst ((st.fac.map V.int).set k (V.int z)))) := fun z hz => by
      rw [set_map]
      refine q _ ⟨(upd_ne pa.nob.1).trans pa.ob, ?_, (upd_ne (Ne.symm pa.ft)).trans pa.ta, ?_, (upd_ne (Ne.symm pa.fc)).trans pa.ch, pa.ft, pa.fp, pa.fc, pa.tp, pa.tc, pa.pc⟩ fun b o e h1 h2 h3 h4 => (upd_ne h1).trans e
      · rw [upd_same, hz, ← ew]
        rfl
      · obtain ⟨rp, xp, hpl⟩ := pa.pl
        exact ⟨rp, (upd_ne (Ne.symm pa.fp)).trans xp, Paired.mapP hpl fun _ _ z => z.kt (KT.lst pa.fa (KT.refl _))⟩
    refine ite2 (fun g => ?_) (fun g => ?_)
    · have g' := veq g
      refine ⟨_, rfl, t0, _, _, _, rfl, rfl, SqT.of ht0, rfl, ?_⟩
      refine ⟨_, rfl, p, C, _, _, _, rfl, pa.ob, TP.cl, TP.nF, pfl_facing _ _, _, rfl, L.lf, _, (k : Int), k, rfl, rfl, pa.fa, by rw [ixN_of (by (first | lia | omega)) (by rw [List.length_map]; (first | lia | omega)), Int.toNat_natCast], ?_⟩
      exact fin w0.2 (by unfold otherL; rw [if_pos g'])
    · have g' := vne g
      refine ⟨_, rfl, t0, _, _, _, rfl, rfl, SqT.of ht0, rfl, ?_⟩
      refine ⟨_, rfl, p, C, _, _, _, rfl, pa.ob, TP.cl, TP.nF, pfl_facing _ _, _, rfl, L.lf, _, (k : Int), k, rfl, rfl, pa.fa, by rw [ixN_of (by (first | lia | omega)) (by rw [List.length_map]; (first | lia | omega)), Int.toNat_natCast], ?_⟩
      exact fin w0.1 (by unfold otherL; rw [if_neg g'])
end
section
variable {P : Program} {w : World} {K : PySem.W.Frag} {mg : Str → Option Value} {base : Heap} {f : Addr} {fd : FuncData}
theorem sc_Play_pass_wicket : FnScope ["self", "wicket", "change", "before", "lane"] ["self", "wicket", "change"] (defScope s_Play_pass_wicket) := ⟨rfl, rfl, rfl, by decide +kernel, rfl, by decide +kernel, by decide +kernel⟩
theorem ok_Play_pass_wicket {C : Addr} (T : Bn mg) (TP : PlayT K C) (F : HereM K mg C "pass_wicket" "Play.pass_wicket" s_Play_pass_wicket f fd) (MPlay_turn : MCal P w K mg base C "turn" 1 ["self", "wicket"] (spTurn C)) (Cplace_on : Callee P w K mg base "place_on" 1 ["net", "lane", "start"] spPlaceOn) : FnOk P w K mg base CX0 2 f fd ["self", "wicket", "change"] (spPass C) := by
  refine F.fn.ok sc_Play_pass_wicket (fun vs H Q E h => ?_) (fun cdv A outer s H vs Q E hr h => ?_)
  · obtain ⟨p, v, wide, ws, L, st, k, c, rfl, _⟩ := h
    rfl
  · obtain ⟨p, v, wide, ws, L, st, k, c, rfl, net, pa, lf, hk, q⟩ := h
    refine ⟨_, (pss_cons (ps_set (i := 3) sc_Play_pass_wicket.nd rfl (by first | exact Or.inl rfl | exact Or.inr rfl) (pe_ix ix_list (pe_fld (pv 0) rfl) (pv 1) (fun _ _ => rfl)))
    (pss_cons (ps_expr (pe_methC (pv 0) TP.cl MPlay_turn (hr.mono (by first | decide | (first | lia | omega))) (pa_cons (pv 1) pa_nil)))
    (pss_cons (ps_set (i := 4) sc_Play_pass_wicket.nd rfl (by first | exact Or.inl rfl | exact Or.inr rfl) (pe_ifExp (pt_cmpR op_eq (pv 2) pe_int (nomark _)) (pv 3) (pe_ix ix_list (pe_fld (pv 0) rfl) (pv 1) (fun _ _ => rfl))))
    (pss_one (ps_ret (pe_callC Cplace_on (hr.mono (by first | decide | (first | lia | omega))) rfl (pa_cons (pe_fld (pv 0) rfl) (pa_cons (pv 4) (pa_cons (pe_op op_add (pv 1) pe_int) pa_nil))))))))), ?_⟩
    refine ⟨_, rfl, p, C, _, _, _, rfl, pa.ob, TP.cl, TP.nF, pfl_facing _ _, _, rfl, L.lf, _, _, _, rfl, rfl, SqL.of pa.fa, atI_int (i := (k : Int)) (by (first | lia | omega)) (by (first | lia | omega)), ?_⟩
    refine ⟨_, rfl, p, _, _, rfl, pa.ob, pfl_no _ _ (by decide +kernel) (by decide +kernel) (by decide +kernel) (by decide +kernel) (by decide +kernel), _, rfl, p, v, wide, ws, L, st, k, rfl, net, pa, lf, hk, fun H1 pa1 k1 => ?_⟩
    have net1 := net.kt (KpL.kt pa k1)
    have fl1 : (turnM ws st k).fac.length = ws.length := by
      show (st.fac.set k _).length = _
      rw [List.length_set]
      exact lf
    have fin : ∀ z : Int, z = passL ws st k c → tRet (tCall spPlaceOn [] E0 (tCons (tFld K (tVar 0) "net") (tCons (tVar 4) (tCons (tOp (rI0 fun i j => V.int (i + j)) (tVar 1) (tC (.int 1))) tNil)))) { nx := fun _ H' => Q .non H', rt := Q } [some (.ref p), some (.int k), some (.int c), some (.int (st.fac.getD k 0)), some (.int z)] H1 := fun z hz => by
      refine ⟨_, rfl, p, C, _, _, _, rfl, pa1.ob, TP.cl, TP.nN, pfl_net _ _, _, rfl, _, rfl, _, _, rfl, rfl, v, wide, ws, z, k + 1, by rfl, net1, by (first | lia | omega), fun t2 H2 f2 s2 x2 => ?_⟩
      rw [hz] at x2
      exact q t2 H2 (pa1.same s2) (KpL.trans k1 (KpL.same s2)) x2
    refine ⟨_, rfl, rfl, _, rfl, ?_⟩
    refine ite2 (fun g => ?_) (fun g => ?_)
    · have g' := veq g
      refine ⟨_, rfl, ?_⟩
      exact fin _ (by unfold passL; rw [if_pos g', Int.toNat_natCast])
    · have g' := vne g
      refine ⟨_, rfl, p, C, _, _, _, rfl, pa1.ob, TP.cl, TP.nF, pfl_facing _ _, _, rfl, L.lf, _, _, _, rfl, rfl, SqL.of pa1.fa, atI_int (i := (k : Int)) (by (first | lia | omega)) (by (first | lia | omega)), ?_⟩
      refine fin _ ?_
      unfold passL
      rw [if_neg g', Int.toNat_natCast]
      show (st.fac.set k _).getD k 0 = _
      rw [getD_set (by (first | lia | omega)), if_pos rfl]
end
section
variable {P : Program} {w : World} {K : PySem.W.Frag} {mg : Str → Option Value} {base : Heap} {f : Addr} {fd : FuncData}
theorem sc_Play_leave : FnScope ["self", "lane", "change", "before", "count"] ["self", "lane", "change"] (defScope s_Play_leave) := ⟨rfl, rfl, rfl, by decide +kernel, rfl, by decide +kernel, by decide +kernel⟩
theorem ok_Play_leave {C : Addr} (T : Bn mg) (TP : PlayT K C) (F : HereM K mg C "leave" "Play.leave" s_Play_leave f fd) : FnOk P w K mg base CX0 1 f fd ["self", "lane", "change"] (spLeave C) := by
  refine F.fn.ok sc_Play_leave (fun vs H Q E h => ?_) (fun cdv A outer s H vs Q E hr h => ?_)
  · obtain ⟨p, v, wide, ws, L, st, l, c, rfl, _⟩ := h
    rfl
  · obtain ⟨p, v, wide, ws, L, st, l, c, rfl, net, pa, tl, l0, l1, q⟩ := h
    obtain ⟨n, t, rs, rfl, hn, ht, hrs⟩ := id net.1
    have w1 := net.2.1
    have w8 := net.2.2.1
    refine ⟨_, (pss_cons (ps_set (i := 3) sc_Play_leave.nd rfl (by first | exact Or.inl rfl | exact Or.inr rfl) (pe_ix ix_list (pe_fld (pv 0) rfl) (pv 1) (fun _ _ => rfl)))
    (pss_cons (ps_augS (pe_fld (pv 0) rfl) (pv 1) get_list (pv 2) ip_add set_list)
    (pss_cons (ps_set (i := 4) sc_Play_leave.nd rfl (by first | exact Or.inl rfl | exact Or.inr rfl) (pe_ifExp (pt_cmpR op_eq (pv 2) pe_int (nomark _)) (pv 3) (pe_ix ix_list (pe_fld (pv 0) rfl) (pv 1) (fun _ _ => rfl))))
    (pss_one (ps_ret (pe_tup (pa_cons pe_str (pa_cons (pv 1) (pa_cons (pe_op op_add (pv 1) (pe_op op_mul (pe_ix ix_tup (pe_fld (pv 0) rfl) pe_int (fun _ _ => rfl)) (pv 4))) pa_nil))))))))), ?_⟩
    refine ⟨_, rfl, p, C, _, _, _, rfl, pa.ob, TP.cl, TP.nT, pfl_tally _ _, _, rfl, L.lt, _, _, _, rfl, rfl, SqL.of pa.ta, atI_int l0 (by (first | lia | omega)), ?_⟩
    have hg : (st.tal.map V.int)[l.toNat]? = some (.int (st.tal.getD l.toNat 0)) := by
      rw [List.getElem?_map, getD_lt (show l.toNat < st.tal.length by (first | lia | omega))]
      rfl
    refine ⟨_, rfl, p, C, _, _, _, rfl, pa.ob, TP.cl, TP.nT, pfl_tally _ _, _, rfl, L.lt, _, l, _, rfl, rfl, SqL.of pa.ta, l0, hg, _, rfl, _, _, rfl, rfl, L.lt, _, l, l.toNat, rfl, rfl, pa.ta, ixN_of l0 (by rw [List.length_map]; (first | lia | omega)), ?_⟩
    rw [set_map]
    have pa1 : PlayAt C (upd H L.lt (HO.lst ((st.tal.set l.toNat (st.tal.getD l.toNat 0 + c)).map V.int))) p (.ref n) L (leaveM st l c) := by
      refine ⟨(upd_ne pa.nob.2.1).trans pa.ob, (upd_ne pa.ft).trans pa.fa, upd_same, ?_, (upd_ne (Ne.symm pa.tc)).trans pa.ch, pa.ft, pa.fp, pa.fc, pa.tp, pa.tc, pa.pc⟩
      obtain ⟨rp, xp, hpl⟩ := pa.pl
      exact ⟨rp, (upd_ne (Ne.symm pa.tp)).trans xp, Paired.mapP hpl fun _ _ z => z.kt (KT.lst pa.ta (KT.refl _))⟩
    have k1 : KpL L H (upd H L.lt (HO.lst ((st.tal.set l.toNat (st.tal.getD l.toNat 0 + c)).map V.int))) := fun b o e h1 h2 h3 h4 => (upd_ne h2).trans e
    generalize upd H L.lt (HO.lst ((st.tal.set l.toNat (st.tal.getD l.toNat 0 + c)).map V.int)) = H1 at pa1 k1
    have hn1 := (KpL.kt pa k1) _ _ hn
    have fin : ∀ z : Int, l + wide * z = leaveN wide st l c → tRet (tTup (tCons (tC (.str "out")) (tCons (tVar 1) (tCons (tOp (rI0 fun i j => V.int (i + j)) (tVar 1) (tOp (rI CMul fun i j => V.int (i * j)) (tOp (rIxT K) (tFld K (tVar 0) "net") (tC (.int 0))) (tVar 4))) tNil)))) { nx := fun _ H' => Q .non H', rt := Q } [some (.ref p), some (.int l), some (.int c), some (.int (st.tal.getD l.toNat 0)), some (.int z)] H1 := fun z hz => by
      refine ⟨_, rfl, _, rfl, _, rfl, p, C, _, _, _, rfl, pa1.ob, TP.cl, TP.nN, pfl_net _ _, n, _, _, _, rfl, rfl, SqT.of hn1, rfl, _, rfl, _, _, rfl, rfl, .inl ⟨by (first | lia | omega), by (first | lia | omega)⟩, _, _, rfl, rfl, lenLine (by show 3 ≤ 100000; decide), fun t2 f2 => ?_⟩
      refine q t2 _ (pa1.same (same_new f2 _)) (KpL.trans k1 (KpL.same (same_new f2 _))) ?_
      rw [upd_same, ← hz]
      rfl
    refine ⟨_, rfl, rfl, _, rfl, ?_⟩
    refine ite2 (fun g => ?_) (fun g => ?_)
    · have g' := veq g
      refine ⟨_, rfl, ?_⟩
      exact fin _ (by unfold leaveN; rw [if_pos g'])
    · have g' := vne g
      have lt1 : (leaveM st l c).tal.length = wide.toNat := by
        show (st.tal.set _ _).length = _
        rw [List.length_set]
        exact tl
      refine ⟨_, rfl, p, C, _, _, _, rfl, pa1.ob, TP.cl, TP.nT, pfl_tally _ _, _, rfl, L.lt, _, _, _, rfl, rfl, SqL.of pa1.ta, atI_int l0 (by (first | lia | omega)), ?_⟩
      refine fin _ ?_
      unfold leaveN
      rw [if_neg g']
      show l + wide * (st.tal.set l.toNat _).getD l.toNat 0 = _
      rw [getD_set (by (first | lia | omega)), if_pos rfl]
end
section
variable {P : Program} {w : World} {K : PySem.W.Frag} {mg : Str → Option Value} {base : Heap} {f : Addr} {fd : FuncData}
theorem sc_Play_step : FnScope ["self", "walker", "place"] ["self", "walker"] (defScope s_Play_step) := ⟨rfl, rfl, rfl, by decide +kernel, rfl, by decide +kernel, by decide +kernel⟩
theorem ok_Play_step {C : Addr} (T : Bn mg) (TP : PlayT K C) (F : HereM K mg C "step" "Play.step" s_Play_step f fd) (MPlay_where : MCal P w K mg base C "where" 2 ["self", "walker"] (spWhere C)) (MPlay_leave : MCal P w K mg base C "leave" 1 ["self", "lane", "change"] (spLeave C)) (MPlay_pass_wicket : MCal P w K mg base C "pass_wicket" 2 ["self", "wicket", "change"] (spPass C)) : FnOk P w K mg base CX0 4 f fd ["self", "walker"] (spStep C) := by
  refine F.fn.ok sc_Play_step (fun vs H Q E h => ?_) (fun cdv A outer s H vs Q E hr h => ?_)
  · obtain ⟨p, v, wide, ws, L, st, i, pl, rfl, _⟩ := h
    rfl
  · obtain ⟨p, v, wide, ws, L, st, i, pl, rfl, net, pa, wf, hi, no, q⟩ := h
    have il : i < st.pla.length := (List.getElem?_eq_some_iff.mp hi).1
    have cl := wf.cl
    have psm := wf.ps pl (List.mem_of_getElem? hi)
    refine ⟨_, (pss_cons (ps_set (i := 2) sc_Play_step.nd rfl (by first | exact Or.inl rfl | exact Or.inr rfl) (pe_methC (pv 0) TP.cl MPlay_where (hr.mono (by first | decide | (first | lia | omega))) (pa_cons (pv 1) pa_nil)))
    (pss_cons (ps_if (pt_cmpR op_eq (pe_ix ix_tup (pv 2) pe_int (fun _ _ => rfl)) pe_str (nomark _))
    (pss_one ps_never)
    pss_nil)
    (pss_cons (ps_if (pt_cmpR op_eq (pe_ix ix_tup (pv 2) pe_int (fun _ _ => rfl)) pe_str (nomark _))
    (pss_one (ps_asg (pe_methC (pv 0) TP.cl MPlay_leave (hr.mono (by first | decide | (first | lia | omega))) (pa_cons (pe_ix ix_tup (pv 2) pe_int (fun _ _ => rfl)) (pa_cons (pe_ix ix_list (pe_fld (pv 0) rfl) (pv 1) (fun _ _ => rfl)) pa_nil))) (pg_sub (pe_fld (pv 0) rfl) (pv 1) set_list)))
    (pss_one (ps_asg (pe_methC (pv 0) TP.cl MPlay_pass_wicket (hr.mono (by first | decide | (first | lia | omega))) (pa_cons (pe_ix ix_tup (pv 2) pe_int (fun _ _ => rfl)) (pa_cons (pe_ix ix_list (pe_fld (pv 0) rfl) (pv 1) (fun _ _ => rfl)) pa_nil))) (pg_sub (pe_fld (pv 0) rfl) (pv 1) set_list))))
    (pss_one (ps_ret (pe_ix ix_list (pe_fld (pv 0) rfl) (pv 1) (fun _ _ => rfl))))))), ?_⟩
    refine ⟨_, rfl, p, _, _, rfl, pa.ob, pfl_no _ _ (by decide +kernel) (by decide +kernel) (by decide +kernel) (by decide +kernel) (by decide +kernel), _, rfl, p, v, L, st, i, pl, rfl, pa, hi, fun t ht => ?_⟩
    -- the new place is put
    have fin : ∀ (st1 : PlS) (t1 : Addr) (H1 : Hp), PlayAt C H1 p v L st1 → KpL L H H1 → st1.pla = st.pla → H1 t1 = some (.tup (plV (stepP wide ws st i pl))) → stepS wide ws st i pl = putP st1 i (stepP wide ws st i pl) →
        (gSub (tFld K (tVar 0) "places") (tVar 1) rSetL) (.ref t1) [some (.ref p), some (.int i), some (.ref t)] H1 (fun σ2 H2 => tRet (tOp (rIxL K) (tFld K (tVar 0) "places") (tVar 1)) { nx := fun _ H' => Q .non H', rt := Q } σ2 H2) := fun st1 t1 H1 pa1 k1 e1 x1 es => by
      obtain ⟨rp, xp, hpl⟩ := pa1.pl
      have lrp := Paired.length hpl
      rw [e1] at lrp
      refine ⟨_, rfl, p, C, _, _, _, rfl, pa1.ob, TP.cl, TP.nP, pfl_places _ _, _, rfl, L.lp, _, (i : Int), i, rfl, rfl, xp, by rw [ixN_of (by (first | lia | omega)) (by (first | lia | omega)), Int.toNat_natCast], ?_⟩
      have kt2 : KT H1 (upd H1 L.lp (HO.lst (rp.set i (V.ref t1)))) := KT.lst xp (KT.refl _)
      have pa2 : PlayAt C (upd H1 L.lp (HO.lst (rp.set i (V.ref t1)))) p v L (putP st1 i (stepP wide ws st i pl)) := by
        refine ⟨(upd_ne pa1.nob.2.2.1).trans pa1.ob, (upd_ne pa.fp).trans pa1.fa, (upd_ne pa.tp).trans pa1.ta, ⟨_, upd_same, ?_⟩, (upd_ne (Ne.symm pa.pc)).trans pa1.ch, pa.ft, pa.fp, pa.fc, pa.tp, pa.tc, pa.pc⟩
        exact Paired.setP ⟨t1, rfl, kt2 _ _ x1⟩ i (Paired.mapP hpl fun _ _ z => z.kt kt2)
      have k2 : KpL L H (upd H1 L.lp (HO.lst (rp.set i (V.ref t1)))) := KpL.trans k1 fun b o e h1 h2 h3 h4 => (upd_ne h3).trans e
      have x2 : (upd H1 L.lp (HO.lst (rp.set i (V.ref t1)))) L.lp = some (.lst (rp.set i (.ref t1))) := upd_same
      have xt := kt2 _ _ x1
      generalize upd H1 L.lp (HO.lst (rp.set i (V.ref t1))) = H2 at pa2 k2 x2 xt
      refine ⟨_, rfl, p, C, _, _, _, rfl, pa2.ob, TP.cl, TP.nP, pfl_places _ _, _, rfl, L.lp, _, _, _, rfl, rfl, SqL.of x2, atI_nat (show (rp.set i (V.ref t1))[i]? = some (V.ref t1) by simp [show i < rp.length by (first | lia | omega)]), ?_⟩
      rw [← es] at pa2
      exact q t1 H2 pa2 k2 xt
    have hc : (st.chg.map V.int)[i]? = some (.int (st.chg.getD i 0)) := by
      rw [List.getElem?_map, getD_lt (show i < st.chg.length by (first | lia | omega))]
      rfl
    cases pl with
    | out l n => exact absurd no (by simp [isOut])
    | exit l =>
      have ht' : H t = some (.tup [.str "exit", .int l]) := ht
      refine ⟨_, rfl, t, _, _, _, rfl, rfl, SqT.of ht', rfl, rfl, _, rfl, iteFd (by decide) ?_⟩
      refine ⟨_, rfl, t, _, _, _, rfl, rfl, SqT.of ht', rfl, rfl, _, rfl, iteTd (by decide) ?_⟩
      refine ⟨_, rfl, p, _, _, rfl, pa.ob, pfl_no _ _ (by decide +kernel) (by decide +kernel) (by decide +kernel) (by decide +kernel) (by decide +kernel), _, rfl, t, _, _, _, rfl, rfl, SqT.of ht', rfl, ?_⟩
      refine ⟨_, rfl, p, C, _, _, _, rfl, pa.ob, TP.cl, TP.nC, pfl_changes _ _, _, rfl, L.lc, _, _, _, rfl, rfl, SqL.of pa.ch, atI_nat hc, ?_⟩
      refine ⟨p, v, wide, ws, L, st, l, st.chg.getD i 0, rfl, net, pa, wf.tl, psm.1, psm.2, fun t1 H1 pa1 k1 x1 => ?_⟩
      exact fin _ t1 H1 pa1 k1 rfl x1 rfl
    | before k l =>
      have ht' : H t = some (.tup [.str "before", .int k, .int l]) := ht
      refine ⟨_, rfl, t, _, _, _, rfl, rfl, SqT.of ht', rfl, rfl, _, rfl, iteFd (by decide) ?_⟩
      refine ⟨_, rfl, t, _, _, _, rfl, rfl, SqT.of ht', rfl, rfl, _, rfl, iteFd (by decide) ?_⟩
      refine ⟨_, rfl, p, _, _, rfl, pa.ob, pfl_no _ _ (by decide +kernel) (by decide +kernel) (by decide +kernel) (by decide +kernel) (by decide +kernel), _, rfl, t, _, _, _, rfl, rfl, SqT.of ht', rfl, ?_⟩
      refine ⟨_, rfl, p, C, _, _, _, rfl, pa.ob, TP.cl, TP.nC, pfl_changes _ _, _, rfl, L.lc, _, _, _, rfl, rfl, SqL.of pa.ch, atI_nat hc, ?_⟩
      refine ⟨p, v, wide, ws, L, st, k, st.chg.getD i 0, rfl, net, pa, wf.fl, psm.1, fun t1 H1 pa1 k1 x1 => ?_⟩
      exact fin _ t1 H1 pa1 k1 rfl x1 rfl
end
section
variable {P : Program} {w : World} {K : PySem.W.Frag} {mg : Str → Option Value} {base : Heap} {f : Addr} {fd : FuncData}
theorem sc_Play_inside : FnScope ["self"] ["self"] (defScope s_Play_inside) := ⟨rfl, rfl, rfl, by decide +kernel, rfl, by decide +kernel, by decide +kernel⟩
theorem ok_Play_inside {C : Addr} (T : Bn mg) (TP : PlayT K C) (F : HereM K mg C "inside" "Play.inside" s_Play_inside f fd) : FnOk P w K mg base CX0 1 f fd ["self"] (spInside C) := by
  refine F.fn.ok sc_Play_inside (fun vs H Q E h => ?_) (fun cdv A outer s H vs Q E hr h => ?_)
  · obtain ⟨p, v, L, st, rfl, _⟩ := h
    rfl
  · obtain ⟨p, v, L, st, rfl, pa, ml, q⟩ := h
    obtain ⟨rp, xp, hpl⟩ := pa.pl
    have lrp := Paired.length hpl
    refine ⟨_, (pss_one (ps_ret (pe_comp ["walker", "place"] [] rfl (pi_enumL rfl T.n_enumerate (pa_cons (pe_fld (pv 0) rfl) pa_nil)) (fun _ _ _ _ _ _ => by exact (pg_tupK K rfl (n := 2) rfl (pgs_cons (pg_name (i := 0) (show List.Nodup (["walker", "place"] : List Str) by decide +kernel) rfl (by first | exact Or.inl rfl | exact Or.inr rfl)) (pgs_cons (pg_name (i := 1) (show List.Nodup (["walker", "place"] : List Str) by decide +kernel) rfl (by first | exact Or.inl rfl | exact Or.inr rfl)) pgs_nil)))) (fun _ _ _ _ _ _ => by exact (pts_one (pt_cmpR op_ne (pe_ix (ix_tupK K rfl) (pv 1) pe_int (fun _ _ => rfl)) pe_str (nomark _)))) (fun _ _ _ _ _ _ => by exact (pv 0))))), ?_⟩
    refine ⟨_, rfl, p, C, _, _, _, rfl, pa.ob, TP.cl, TP.nP, pfl_places _ _, L.lp, rfl, ⟨_, SqL.of xp⟩, fun l fl => ?_⟩
    refine comp_enum (xs := rp) (fun j ys Hc => Same H Hc ∧ Hc l = some (.lst ys) ∧ ys = (insideM 0 (st.pla.take j)).map V.int) ⟨Same.put fl (Same.refl _), upd_same, rfl⟩ (lenLine (by (first | lia | omega)))
      (fun j ys Hc hj ⟨s1, e1, r1⟩ => ⟨SqL.of (s1 _ _ xp), e1, by rw [r1, List.length_map]; have := insideM_len (st.pla.take j) 0; rw [List.length_take] at this; (first | lia | omega)⟩) ?_ ?_
    · rintro j x T1 ys Hc hx fT ⟨s1, e1, rfl⟩
      have jl : j < rp.length := (List.getElem?_eq_some_iff.mp hx).1
      have hj : st.pla[j]? = some st.pla[j] := by simp [show j < st.pla.length by (first | lia | omega)]
      obtain ⟨r, hr0, t, rfl, ht⟩ := Paired.getP hpl hj
      rw [hx] at hr0
      cases hr0
      have sn := insideM_snoc (st.pla.take j) st.pla[j] 0
      rw [← take_snoc hj, List.length_take, Nat.min_eq_left (by (first | lia | omega)), Nat.zero_add] at sn
      have s2 : Same Hc (upd Hc T1 (HO.tup [V.int j, V.ref t])) := same_new fT _
      refine ⟨T1, _, rfl, SqT.of upd_same, rfl, ?_⟩
      refine ⟨_, _, rfl, _, _, rfl, rfl, ?_⟩
      refine ⟨⟨.inl rfl, .inl rfl, trivial⟩, ?_⟩
      generalize upd Hc T1 (HO.tup [V.int j, V.ref t]) = H2 at s2
      have e2 := s2 _ _ e1
      have ht2 := s2 _ _ (s1 _ _ ht)
      generalize st.pla[j] = pl at sn ht2
      cases pl with
      | before k l' =>
        refine ⟨_, rfl, t, _, _, _, rfl, rfl, SqT.of ht2, rfl, rfl, _, rfl, iteTd (by decide) ?_⟩
        refine ⟨_, rfl, e2, Same.put fl (Same.trans s1 s2), upd_same, ?_⟩
        rw [sn, List.map_append]
        rfl
      | exit l' =>
        refine ⟨_, rfl, t, _, _, _, rfl, rfl, SqT.of ht2, rfl, rfl, _, rfl, iteTd (by decide) ?_⟩
        refine ⟨_, rfl, e2, Same.put fl (Same.trans s1 s2), upd_same, ?_⟩
        rw [sn, List.map_append]
        rfl
      | out l' n' =>
        refine ⟨_, rfl, t, _, _, _, rfl, rfl, SqT.of ht2, rfl, rfl, _, rfl, iteFd (by decide) ?_⟩
        refine ⟨Same.trans s1 s2, e2, ?_⟩
        rw [sn]
        show _ = (insideM 0 (st.pla.take j) ++ []).map V.int
        rw [List.append_nil]
    rintro ys Hc ⟨s1, e1, rfl⟩
    rw [lrp, List.take_length] at e1
    exact q l Hc fl s1 e1
end
section
variable {P : Program} {w : World} {K : PySem.W.Frag} {mg : Str → Option Value} {base : Heap} {f : Addr} {fd : FuncData}
theorem sc_Play_shown : FnScope ["self"] ["self"] (defScope s_Play_shown) := ⟨rfl, rfl, rfl, by decide +kernel, rfl, by decide +kernel, by decide +kernel⟩
theorem ok_Play_shown {C : Addr} (T : Bn mg) (TP : PlayT K C) (F : HereM K mg C "shown" "Play.shown" s_Play_shown f fd) : FnOk P w K mg base CX0 1 f fd ["self"] (spShown C) := by
  refine F.fn.ok sc_Play_shown (fun vs H Q E h => ?_) (fun cdv A outer s H vs Q E hr h => ?_)
  · obtain ⟨p, v, L, st, rfl, _⟩ := h
    rfl
  · obtain ⟨p, v, L, st, rfl, pa, q⟩ := h
    refine ⟨_, (pss_one (ps_ret (pe_callTy call_list_of rfl T.n_list boot_listT (pa_cons (pe_fld (pv 0) rfl) pa_nil)))), ?_⟩
    refine ⟨_, rfl, p, C, _, _, _, rfl, pa.ob, TP.cl, TP.nF, pfl_facing _ _, L.lf, _, rfl, .inl (SqL.of pa.fa), fun l fl => ?_⟩
    exact q l _ fl (same_new fl _) upd_same
end
section
variable {P : Program} {w : World} {K : PySem.W.Frag} {mg : Str → Option Value} {base : Heap} {f : Addr} {fd : FuncData}
theorem sc_Play_counts : FnScope ["self"] ["self"] (defScope s_Play_counts) := ⟨rfl, rfl, rfl, by decide +kernel, rfl, by decide +kernel, by decide +kernel⟩
theorem ok_Play_counts {C : Addr} (T : Bn mg) (TP : PlayT K C) (F : HereM K mg C "counts" "Play.counts" s_Play_counts f fd) : FnOk P w K mg base CX0 1 f fd ["self"] (spCountsP C) := by
  refine F.fn.ok sc_Play_counts (fun vs H Q E h => ?_) (fun cdv A outer s H vs Q E hr h => ?_)
  · obtain ⟨p, v, L, st, rfl, _⟩ := h
    rfl
  · obtain ⟨p, v, L, st, rfl, pa, q⟩ := h
    refine ⟨_, (pss_one (ps_ret (pe_callTy call_list_of rfl T.n_list boot_listT (pa_cons (pe_fld (pv 0) rfl) pa_nil)))), ?_⟩
    refine ⟨_, rfl, p, C, _, _, _, rfl, pa.ob, TP.cl, TP.nT, pfl_tally _ _, L.lt, _, rfl, .inl (SqL.of pa.ta), fun l fl => ?_⟩
    exact q l _ fl (same_new fl _) upd_same
end
section
variable {P : Program} {w : World} {K : PySem.W.Frag} {mg : Str → Option Value} {base : Heap} {f : Addr} {fd : FuncData}
theorem sc_before : FnScope ["_law_net_here", "_law_lane", "_law_least", "_law_number"] ["_law_net_here", "_law_lane", "_law_least"] (defScope s_before) := ⟨rfl, rfl, rfl, by decide +kernel, rfl, by decide +kernel, by decide +kernel⟩
theorem ok_before (T : Bn mg) (F : Here K mg "_law_before" s_before f fd) : FnOk P w K mg base CX0 1 f fd ["_law_net_here", "_law_lane", "_law_least"] spPlaceOn := by
  refine F.fn.ok sc_before (fun vs H Q E h => ?_) (fun cdv A outer s H vs Q E hr h => ?_)
  · obtain ⟨v, wide, ws, l, s, rfl, _⟩ := h
    rfl
  · obtain ⟨v, wide, ws, l, s, rfl, ⟨⟨n, t, rs, rfl, hn, ht, hrs⟩, w1, w8, ok, len⟩, hs, q⟩ := h
    have lrs := hrs.len
    refine ⟨_, (pss_cons (ps_for PassesOwn.never rfl  (pi_range2 rfl T.n_range (pa_cons (pv 2) (pa_cons (pe_callB call_len_seq rfl T.n_len PySem.boot_len (pa_cons (pe_ix ix_tup (pv 0) pe_int (fun _ _ => rfl)) pa_nil)) pa_nil))) (pg_name (i := 3) sc_before.nd rfl (by first | exact Or.inl rfl | exact Or.inr rfl))
    (pss_one (ps_if (pt_cmpR op_in_seq (pv 1) (pe_ix ix_tup (pe_ix ix_tup (pv 0) pe_int (fun _ _ => rfl)) (pv 3) (fun _ _ => rfl)) (by with_unfolding_all rfl))
    (pss_one (ps_ret (pe_tup (pa_cons pe_str (pa_cons (pv 3) (pa_cons (pv 1) pa_nil))))))
    pss_nil)))
    (pss_one (ps_ret (pe_tup (pa_cons pe_str (pa_cons (pv 1) pa_nil)))))), ?_⟩
    refine ⟨_, rfl, _, rfl, n, _, _, _, rfl, rfl, SqT.of hn, rfl, t, _, rfl, .inr (SqT.of ht), ?_⟩
    refine ⟨_, _, rfl, ⟨by (first | lia | omega), by (first | lia | omega), by (first | lia | omega), by (first | lia | omega)⟩, ?_⟩
    refine for_range (n := ((rs.length : Int) - (s : Int)).toNat) (fun i σ Hc => ∃ v3, σ = [some (.ref n), some (.int l), some (.int s), v3] ∧ Hc = H ∧ placeM ws l s = placeF ws l (ws.length - s - i) (s + i)) ⟨none, rfl, rfl, rfl⟩ ?_ ?_
    · rintro i σ Hc hi ⟨v3, rfl, rfl, hp⟩
      have il : s + i < ws.length := by (first | lia | omega)
      have e0 : (s : Int) + (i : Int) = ((s + i : Nat) : Int) := by (first | lia | omega)
      rw [e0]
      obtain ⟨t0, w0, et0, _, hw0, ht0⟩ := atI_ref hrs (i := ((s + i : Nat) : Int)) (by (first | lia | omega)) (by (first | lia | omega))
      rw [Int.toNat_natCast] at hw0
      have ew : wAt ws (s + i) = w0 := by simp [wAt, List.getD, hw0]
      have ef : placeF ws l (ws.length - s - i) (s + i) = if hasL w0 l then .before (s + i) l else placeF ws l (ws.length - s - (i + 1)) (s + (i + 1)) := by
        rw [show ws.length - s - i = (ws.length - s - (i + 1)) + 1 by (first | lia | omega)]
        show (if hasL (wAt ws (s + i)) l then _ else _) = _
        rw [ew]
        rfl
      rw [ef] at hp
      refine ⟨_, rfl, _, rfl, n, _, _, _, rfl, rfl, SqT.of hn, rfl, _, rfl, t, _, _, _, rfl, rfl, SqT.of ht, et0, ?_⟩
      refine ⟨t0, _, rfl, .inr (SqT.of ht0), rfl, rfl, _, rfl, ?_⟩
      have ei : inV (.int l) [.int w0.1, .int w0.2] = hasL w0 l := in_pair l w0.1 w0.2
      show if inV (.int l) [.int w0.1, .int w0.2] = true then _ else _
      rw [ei]
      refine ite2 (fun g => ?_) (fun g => ?_)
      · rw [if_pos g] at hp
        refine ⟨_, rfl, _, rfl, lenLine (by show 3 ≤ 100000; decide), fun T1 f1 => ?_⟩
        exact q T1 _ f1 (same_new f1 _) (by rw [upd_same, hp]; rfl)
      · rw [if_neg g] at hp
        exact ⟨_, rfl, rfl, hp⟩
    · rintro σ Hc ⟨v3, rfl, rfl, hp⟩
      have e0 : ws.length - s - ((rs.length : Int) - (s : Int)).toNat = 0 := by (first | lia | omega)
      rw [e0] at hp
      refine ⟨_, rfl, lenLine (by show 2 ≤ 100000; decide), fun T1 f1 => ?_⟩
      exact q T1 _ f1 (same_new f1 _) (by rw [upd_same, hp]; rfl)
end
section
variable {P : Program} {w : World} {K : PySem.W.Frag} {mg : Str → Option Value} {base : Heap} {f : Addr} {fd : FuncData}
theorem sc_exits : FnScope ["_law_net_here", "_law_counts", "_law_found", "_law_first", "_law_second", "_law_both"] ["_law_net_here", "_law_counts"] (defScope s_exits) := ⟨rfl, rfl, rfl, by decide +kernel, rfl, by decide +kernel, by decide +kernel⟩
theorem ok_exits (T : Bn mg) (F : Here K mg "_law_exits" s_exits f fd) : FnOk P w K mg base CX0 1 f fd ["_law_net_here", "_law_counts"] spExitsL := by
  refine F.fn.ok sc_exits (fun vs H Q E h => ?_) (fun cdv A outer s H vs Q E hr h => ?_)
  · obtain ⟨v, wide, ws, c, cs, rfl, _⟩ := h
    rfl
  · obtain ⟨v, wide, ws, c, cs, rfl, ⟨⟨n, t, rs, rfl, hn, ht, hrs⟩, w1, w8, ok, len⟩, hc, lc, q⟩ := h
    have lrs := hrs.len
    refine ⟨_, (pss_cons (ps_set (i := 2) sc_exits.nd rfl (by first | exact Or.inl rfl | exact Or.inr rfl) (pe_callTy call_list_of rfl T.n_list boot_listT (pa_cons (pv 1) pa_nil)))
    (pss_cons (ps_for PassesOwn.never rfl  (pi_tup (pe_ix ix_tup (pv 0) pe_int (fun _ _ => rfl))) (pg_tup rfl (pgs_cons (pg_name (i := 3) sc_exits.nd rfl (by first | exact Or.inl rfl | exact Or.inr rfl)) (pgs_cons (pg_name (i := 4) sc_exits.nd rfl (by first | exact Or.inl rfl | exact Or.inr rfl)) pgs_nil)))
    (pss_cons (ps_set (i := 5) sc_exits.nd rfl (by first | exact Or.inl rfl | exact Or.inr rfl) (pe_op op_add (pe_ix ix_list (pv 2) (pv 3) (fun _ _ => rfl)) (pe_ix ix_list (pv 2) (pv 4) (fun _ _ => rfl))))
    (pss_cons (ps_asg (pe_op op_sub pe_int (pe_op op_fdiv (pe_op op_sub pe_int (pv 5)) pe_int)) (pg_sub (pv 2) (pv 3) set_list))
    (pss_one (ps_asg (pe_op op_fdiv (pv 5) pe_int) (pg_sub (pv 2) (pv 4) set_list))))))
    (pss_one (ps_ret (pv 2))))), ?_⟩
    refine ⟨_, rfl, c, _, rfl, .inl (SqL.of hc), fun ln fn => ?_⟩
    refine ⟨_, rfl, n, _, _, _, rfl, rfl, SqT.of (same_new fn _ _ _ hn), by rfl, ?_⟩
    refine ⟨t, rfl, ⟨rs, SqT.of (same_new fn _ _ _ ht)⟩, ?_⟩
    refine for_tup (K := K) (a := t) (xs := rs) (fun i σ Hc => ∃ v3 v4 v5, σ = [some (.ref n), some (.ref c), some (.ref ln), v3, v4, v5] ∧ Same H Hc ∧ Hc ln = some (.lst ((thruM cs (ws.take i)).map V.int)))
      ⟨none, none, none, rfl, same_new fn _, upd_same⟩ (fun i σ Hc _ ⟨_, _, _, _, sc, _⟩ => SqT.of (sc _ _ ht)) ?_ ?_
    · rintro i x σ Hc hx ⟨v3, v4, v5, rfl, sc, xn⟩
      obtain ⟨w0, t0, hw0, rfl, ht0⟩ := hrs.get hx
      obtain ⟨o1, o2, o3, o4, o5⟩ := WOk.mem ok hw0
      have lth := thruM_len (ws.take i) cs
      refine ⟨t0, _, rfl, SqT.of (sc _ _ ht0), rfl, ?_⟩
      refine ⟨_, _, rfl, _, _, rfl, rfl, ?_⟩
      refine ⟨_, rfl, _, rfl, ln, _, _, _, rfl, rfl, SqL.of xn, atI_int o1 (by (first | lia | omega)), _, rfl, _, rfl, ln, _, _, _, rfl, rfl, SqL.of xn, atI_int o3 (by (first | lia | omega)), _, _, rfl, rfl, ?_⟩
      refine ⟨_, rfl, _, _, rfl, rfl, _, _, rfl, rfl, ⟨by decide, by decide⟩, _, _, rfl, rfl, _, rfl, _, rfl, ln, _, w0.1, w0.1.toNat, rfl, rfl, xn, ixN_of o1 (by rw [List.length_map]; (first | lia | omega)), ?_⟩
      refine ⟨_, rfl, _, _, rfl, rfl, ⟨by decide, by decide⟩, _, rfl, _, rfl, ln, _, w0.2, w0.2.toNat, rfl, rfl, upd_same, ixN_of o3 (by rw [List.length_set, List.length_map]; (first | lia | omega)), ?_⟩
      rw [upd_upd]
      have eL : ((List.map V.int (thruM cs (ws.take i))).set w0.1.toNat (V.int (0 - (0 - ((thruM cs (ws.take i)).getD w0.1.toNat 0 + (thruM cs (ws.take i)).getD w0.2.toNat 0)) / 2))).set w0.2.toNat (V.int (((thruM cs (ws.take i)).getD w0.1.toNat 0 + (thruM cs (ws.take i)).getD w0.2.toNat 0) / 2)) = (thruM cs (ws.take (i + 1))).map V.int := by
        rw [take_snoc hw0, thruM_snoc, set_map, set_map]
        show _ = ((((thruM cs (ws.take i)).set w0.1.toNat ((both (thruM cs (ws.take i)) w0 + 1) / 2)).set w0.2.toNat (both (thruM cs (ws.take i)) w0 / 2))).map V.int
        have e : 0 - (0 - ((thruM cs (ws.take i)).getD w0.1.toNat 0 + (thruM cs (ws.take i)).getD w0.2.toNat 0)) / 2 = (both (thruM cs (ws.take i)) w0 + 1) / 2 := by unfold both; (first | lia | omega)
        rw [e]
        rfl
      refine ⟨_, _, _, rfl, Same.put fn sc, ?_⟩
      rw [upd_same]
      exact congrArg (fun z => some (HO.lst z)) eL
    · rintro σ Hc ⟨v3, v4, v5, rfl, sc, xn⟩
      rw [lrs, List.take_length] at xn
      exact ⟨_, rfl, q ln Hc fn sc xn⟩
end
section
variable {P : Program} {w : World} {K : PySem.W.Frag} {mg : Str → Option Value} {base : Heap} {f : Addr} {fd : FuncData}
theorem sc_let_by : FnScope ["_law_play", "_law_net_here", "_law_passed", "_law_place", "_law_told", "_law_gain", "_law_number", "_law_lane", "_law_side", "_law_more"] ["_law_play", "_law_net_here", "_law_passed", "_law_place", "_law_told", "_law_gain"] (defScope s_let_by) := ⟨rfl, rfl, rfl, by decide +kernel, rfl, by decide +kernel, by decide +kernel⟩
theorem ok_let_by {C : Addr} (T : Bn mg) (TP : PlayT K C) (F : Here K mg "_law_let_by" s_let_by f fd) (MPlay_shown : MCal P w K mg base C "shown" 1 ["self"] (spShown C)) (C_law_before : Callee P w K mg base "_law_before" 1 ["_law_net_here", "_law_lane", "_law_least"] spPlaceOn) :
    FnOk P w K mg base CX0 2 f fd ["_law_play", "_law_net_here", "_law_passed", "_law_place", "_law_told", "_law_gain"] (spLetBy27 C) := by
  refine F.fn.ok sc_let_by (fun vs H Q E h => ?_) (fun cdv A outer s H vs Q E hr h => ?_)
  · obtain ⟨p, v, wide, ws, L, st, st', lp, tp, tt, as, a, k, l0, c, x, y, w, rfl, _⟩ := h
    rfl
  · obtain ⟨p, v, wide, ws, L, st, st', lp, tp, tt, as, a, k, l0, c, x, y, w, rfl, net, pa, wf, hw, ef, htp, htt, hc, hlp, hak, ha, hxy, na, q⟩ := h
    obtain ⟨n, tn, rns, rfl, hn, htn, hrs⟩ := id net.1
    have ok := net.2.2.2.1
    have kl : k < ws.length := (List.getElem?_eq_some_iff.mp hw).1
    have lrs := hrs.len
    obtain ⟨o1, o2, o3, o4, o5⟩ := WOk.mem ok hw
    have hf := wf.fs k w hw
    have hl := pass_in (c := c) hw hf
    obtain ⟨pd1, pd2⟩ := pass_diff hw o5 hf hc hxy
    have hla := place_last ws (passL ws st k c) (s := k + 1) (by (first | lia | omega))
    obtain ⟨t0, w0, et0, _, hw0, ht0⟩ := atI_ref hrs (i := (k : Int)) (by (first | lia | omega)) (by (first | lia | omega))
    rw [Int.toNat_natCast, hw] at hw0
    cases hw0
    have eas : (as.map V.ref)[k]? = some (.ref a) := by rw [List.getElem?_map, hak]; rfl
    generalize passL ws st k c = lane at htt hl pd1 pd2 hla
    refine ⟨_, (pss_cons (ps_set (i := 6) sc_let_by.nd rfl (by first | exact Or.inl rfl | exact Or.inr rfl) (pe_ix ix_tup (pv 3) pe_int (fun _ _ => rfl)))
    (pss_cons (ps_set (i := 7) sc_let_by.nd rfl (by first | exact Or.inl rfl | exact Or.inr rfl) (pe_ix ix_tup (pv 4) (pe_un un_neg pe_int) (fun _ _ => rfl)))
    (pss_cons (ps_if (PW.pt (pw_or (pt_cmpR op_notIn_seq (pv 7) (pe_ix ix_tup (pe_ix ix_tup (pv 1) pe_int (fun _ _ => rfl)) (pv 6) (fun _ _ => rfl)) (by with_unfolding_all rfl)) (pw_or1 (pt_cmpR (op_neD hr.units) (pv 4) (pe_callC C_law_before (hr.mono (by first | decide | (first | lia | omega))) rfl (pa_cons (pv 1) (pa_cons (pv 7) (pa_cons (pe_op op_add (pv 6) pe_int) pa_nil)))) (nomark _)))))
    (pss_one (ps_ret pe_bl))
    pss_nil)
    (pss_cons (ps_set (i := 8) sc_let_by.nd rfl (by first | exact Or.inl rfl | exact Or.inr rfl) (pe_callTy call_int1 rfl T.n_int boot_intT (pa_cons (pe_cmpR op_eq (pv 7) (pe_ix ix_tup (pe_ix ix_tup (pe_ix ix_tup (pv 1) pe_int (fun _ _ => rfl)) (pv 6) (fun _ _ => rfl)) pe_int (fun _ _ => rfl)) (nomark _)) pa_nil)))
    (pss_cons (ps_asg (pe_op op_add (pe_ix ix_list (pe_ix ix_list (pv 2) (pv 6) (fun _ _ => rfl)) (pv 8) (fun _ _ => rfl)) (pv 5)) (pg_sub (pe_ix ix_list (pv 2) (pv 6) (fun _ _ => rfl)) (pv 8) set_list))
    (pss_cons (ps_set (i := 9) sc_let_by.nd rfl (by first | exact Or.inl rfl | exact Or.inr rfl) (pe_op op_sub (pe_ix ix_list (pe_ix ix_list (pv 2) (pv 6) (fun _ _ => rfl)) pe_int (fun _ _ => rfl)) (pe_ix ix_list (pe_ix ix_list (pv 2) (pv 6) (fun _ _ => rfl)) pe_int (fun _ _ => rfl))))
    (pss_one (ps_ret (pe_and (pe_cmpR op_in_seq (pv 9) (pe_tup (pa_cons pe_int (pa_cons pe_int pa_nil))) (by with_unfolding_all rfl)) (pe_one (pe_cmpR op_eq (pe_ix ix_list (pe_methC0 (pv 0) TP.cl MPlay_shown (hr.mono (by first | decide | (first | lia | omega)))) (pv 6) (fun _ _ => rfl)) (pe_ix ix_tup (pe_ix ix_tup (pe_ix ix_tup (pv 1) pe_int (fun _ _ => rfl)) (pv 6) (fun _ _ => rfl)) (pv 9) (fun _ _ => rfl)) (nomark _)))))))))))), ?_⟩
    refine ⟨_, rfl, tp, _, _, _, rfl, rfl, SqT.of htp, rfl, ?_⟩
    refine ⟨_, rfl, _, rfl, tt, _, _, _, rfl, rfl, SqT.of htt, hla, ?_⟩
    refine ⟨_, rfl, _, rfl, n, _, _, _, rfl, rfl, SqT.of hn, rfl, _, rfl, tn, _, _, _, rfl, rfl, SqT.of htn, et0, t0, _, rfl, .inr (SqT.of ht0), rfl, rfl, _, rfl, iteFd ?_ ?_⟩
    · rw [in_pair]
      rcases hl with e | e <;> simp [e]
    refine ⟨_, rfl, _, rfl, _, rfl, _, rfl, _, _, rfl, rfl, .ref n, wide, ws, lane, k + 1, rfl, net, by (first | lia | omega), fun tb H1 ftb s1 xtb => ?_⟩
    refine ⟨_, _, datP (s1 _ _ htt), datP xtb, shapedP _, shapedP _, mixP _, _, rfl, iteFd (by simp [PyProof.Rows.same_refl]) ?_⟩
    -- the side
    have hn1 := s1 _ _ hn
    have htn1 := s1 _ _ htn
    have ht01 := s1 _ _ ht0
    have hlp1 := s1 _ _ hlp
    have ha1 := s1 _ _ ha
    have pa1 := pa.same s1
    obtain ⟨sd, hsd, esd, psd⟩ : ∃ sd : Int, (sd = 0 ∨ sd = 1) ∧ (if decide (V.int lane = V.int w.2) = true then (1 : Int) else 0) = sd ∧ ((sd = 0 → x + c - y = 1 - (x - y)) ∧ (sd = 1 → x - (y + c) = 1 - (x - y))) := by
      by_cases e : lane = w.2
      · exact ⟨1, .inr rfl, by rw [e]; simp, (fun z => by cases z), (fun _ => pd2 e)⟩
      · refine ⟨0, .inl rfl, ?_, (fun _ => pd1 (hl.resolve_right e)), (fun z => by cases z)⟩
        rw [if_neg]
        intro z
        exact e (by injection (of_decide_eq_true z))
    refine ⟨_, rfl, _, rfl, n, _, _, _, rfl, rfl, SqT.of hn1, rfl, _, rfl, tn, _, _, _, rfl, rfl, SqT.of htn1, et0, t0, _, _, _, rfl, rfl, SqT.of ht01, rfl, rfl, .inr ⟨_, rfl, ?_⟩⟩
    rw [esd]
    -- one more
    dsimp only [gName]
    refine seq_gen (a := tAsg _ _) fun N hN => ?_
    have go : ∀ x' y' : Int, x' - y' = 1 - (x - y) → N [some (.ref p), some (.ref n), some (.ref lp), some (.ref tp), some (.ref tt), some (.int c), some (.int k), some (.int lane), some (.int sd), none] (upd H1 a (HO.lst [V.int x', V.int y'])) := fun x' y' exy => hN _ _ (by
      have em : x' - y' = z1 w (otherL w (st.fac.getD k 0)) := by rw [exy, hxy, z1_other o5 hf]
      have kt2 : KT H1 (upd H1 a (HO.lst [V.int x', V.int y'])) := KT.lst ha1 (KT.refl _)
      have kp2 : Kp a H (upd H1 a (HO.lst [V.int x', V.int y'])) := Kp.trans (Kp.same s1) Kp.upd
      have nla : lp ≠ a := ne_of hlp1 ha1 (by
        intro z
        cases as with
        | nil => simp at hak
        | cons b r => injection z with z; rw [List.map_cons] at z; injection z with z _; cases z)
      have xa2 : (upd H1 a (HO.lst [V.int x', V.int y'])) a = some (.lst [V.int x', V.int y']) := upd_same
      have xl2 : (upd H1 a (HO.lst [V.int x', V.int y'])) lp = some (.lst (as.map V.ref)) := (upd_ne nla).trans hlp1
      have pa2 : PlayAt C (upd H1 a (HO.lst [V.int x', V.int y'])) p (.ref n) L st' := pa1.keep (S := [a]) (KpS.upd (by simp)) kt2 (one_dj na)
      generalize upd H1 a (HO.lst [V.int x', V.int y']) = H2 at kt2 kp2 xa2 xl2 pa2
      refine ⟨_, rfl, _, rfl, lp, _, _, _, rfl, rfl, SqL.of xl2, atI_nat eas, a, _, _, _, rfl, rfl, SqL.of xa2, rfl, _, rfl, _, rfl, lp, _, _, _, rfl, rfl, SqL.of xl2, atI_nat eas, a, _, _, _, rfl, rfl, SqL.of xa2, rfl, _, _, rfl, rfl, ?_⟩
      rw [em]
      have hm := z1_or w (otherL w (st.fac.getD k 0))
      have ho : otherL w (st.fac.getD k 0) = w.1 ∨ otherL w (st.fac.getD k 0) = w.2 := by
        unfold otherL
        split
        · exact .inr rfl
        · exact .inl rfl
      refine ⟨_, rfl, lenLine (by show 2 ≤ 100000; decide), fun t3 f3 => ?_⟩
      have s3 : Same H2 (upd H2 t3 (HO.tup [V.int 0, V.int 1])) := same_new f3 _
      refine ⟨t3, _, rfl, .inr (SqT.of upd_same), rfl, rfl, _, rfl, iteTd ?_ ?_⟩
      · rw [in_pair]
        rcases hm with e | e <;> rw [e] <;> rfl
      generalize upd H2 t3 (HO.tup [V.int 0, V.int 1]) = H3 at s3
      have pa3 := pa2.same s3
      refine ⟨_, rfl, p, _, _, rfl, pa3.ob, pfl_no _ _ (by decide +kernel) (by decide +kernel) (by decide +kernel) (by decide +kernel) (by decide +kernel), p, .ref n, L, st', rfl, pa3, fun c4 H4 fc4 s4 xc4 => ?_⟩
      have s34 := Same.trans s3 s4
      have kt4 : KT H1 H4 := KT.same s34 kt2
      have fl := wf.fl
      have hfk : (st'.fac.map V.int)[k]? = some (.int (otherL w (st.fac.getD k 0))) := by
        rw [List.getElem?_map, ef, List.getElem?_set_self (by (first | lia | omega))]
        rfl
      refine ⟨_, rfl, c4, _, _, _, rfl, rfl, SqL.of xc4, atI_nat hfk, _, rfl, n, _, _, _, rfl, rfl, SqT.of (kt4 _ _ hn1), rfl, _, rfl, tn, _, _, _, rfl, rfl, SqT.of (kt4 _ _ htn1), et0, _, rfl, t0, _, _, _, rfl, rfl, SqT.of (kt4 _ _ ht01), pick2 hm, rfl, ?_⟩
      rw [z1_pick ho]
      have z : Q (.bl (decide (V.int (otherL w (st.fac.getD k 0)) = V.int (otherL w (st.fac.getD k 0))))) H4 := by
        rw [decide_eq_true rfl]
        exact q x' y' H4 exy (s34 _ _ xa2) (Kp.trans kp2 (Kp.same s34))
      exact z)
    rcases hsd with rfl | rfl
    · refine ⟨_, rfl, _, rfl, lp, _, _, _, rfl, rfl, SqL.of hlp1, atI_nat eas, _, rfl, a, _, _, _, rfl, rfl, SqL.of ha1, rfl, _, rfl, _, _, rfl, rfl, ?_⟩
      exact ⟨_, rfl, _, rfl, lp, _, _, _, rfl, rfl, SqL.of hlp1, atI_nat eas, _, rfl, a, _, _, 0, rfl, rfl, ha1, rfl, go (x + c) y (psd.1 rfl)⟩
    · refine ⟨_, rfl, _, rfl, lp, _, _, _, rfl, rfl, SqL.of hlp1, atI_nat eas, _, rfl, a, _, _, _, rfl, rfl, SqL.of ha1, rfl, _, rfl, _, _, rfl, rfl, ?_⟩
      exact ⟨_, rfl, _, rfl, lp, _, _, _, rfl, rfl, SqL.of hlp1, atI_nat eas, _, rfl, a, _, _, 1, rfl, rfl, ha1, rfl, go x (y + c) (psd.2 rfl)⟩
end
section
variable {P : Program} {w : World} {K : PySem.W.Frag} {mg : Str → Option Value} {base : Heap} {f : Addr} {fd : FuncData}
theorem sc_left : FnScope ["_law_play", "_law_net_here", "_law_counts", "_law_place", "_law_told", "_law_gain", "_law_numbers", "_law_lane", "_law_due"] ["_law_play", "_law_net_here", "_law_counts", "_law_place", "_law_told", "_law_gain", "_law_numbers"] (defScope s_left) := ⟨rfl, rfl, rfl, by decide +kernel, rfl, by decide +kernel, by decide +kernel⟩
theorem ok_left {C : Addr} (T : Bn mg) (TP : PlayT K C) (F : Here K mg "_law_left" s_left f fd) (MPlay_counts : MCal P w K mg base C "counts" 1 ["self"] (spCountsP C)) :
    FnOk P w K mg base CX0 2 f fd ["_law_play", "_law_net_here", "_law_counts", "_law_place", "_law_told", "_law_gain", "_law_numbers"] (spLeft27 C) := by
  refine F.fn.ok sc_left (fun vs H Q E h => ?_) (fun cdv A outer s H vs Q E hr h => ?_)
  · obtain ⟨p, v, wide, ws, L, st, st', lc, tp, tt, d, l, c, kvs, ts, rfl, _⟩ := h
    rfl
  · obtain ⟨p, v, wide, ws, L, st, st', lc, tp, tt, d, l, c, kvs, ts, rfl, net, pa, wf, l0, l1, et, hlc, htp, htt, hc, hd, left, lts, nd, q⟩ := h
    obtain ⟨n, tn, rns, rfl, hn, htn, hrs⟩ := id net.1
    have w1 := net.2.1
    have w8 := net.2.2.1
    have tl := wf.tl
    have lk := left.ln
    refine ⟨_, (pss_cons (ps_set (i := 7) sc_left.nd rfl (by first | exact Or.inl rfl | exact Or.inr rfl) (pe_ix ix_tup (pv 3) pe_int (fun _ _ => rfl)))
    (pss_cons (ps_set (i := 8) sc_left.nd rfl (by first | exact Or.inl rfl | exact Or.inr rfl) (pe_op op_add (pv 7) (pe_op op_mul (pe_ix ix_tup (pv 1) pe_int (fun _ _ => rfl)) (pe_op op_sub (pe_ix ix_list (pv 2) (pv 7) (fun _ _ => rfl)) (pe_callTy call_int1 rfl T.n_int boot_intT (pa_cons (pe_cmpR op_lt (pv 5) pe_int (nomark _)) pa_nil))))))
    (pss_cons (ps_dput (hu_of hr) (pv 6) (pv 8) (pe_op op_add (pe_dget2 (hu_of hr) (pv 6) (pv 8) pe_int (by exact ⟨rfl, rfl, rfl, rfl⟩)) (pv 5)) rfl)
    (pss_one (ps_ret (pe_and (pe_cmpR (op_eqD hr.units) (pv 4) (pe_tup (pa_cons pe_str (pa_cons (pv 7) (pa_cons (pv 8) pa_nil)))) (nomark _)) (pe_one (pe_cmpR op_eq (pe_ix ix_list (pe_methC0 (pv 0) TP.cl MPlay_counts (hr.mono (by first | decide | (first | lia | omega)))) (pv 7) (fun _ _ => rfl)) (pe_op op_add (pe_ix ix_list (pv 2) (pv 7) (fun _ _ => rfl)) (pv 5)) (nomark _))))))))), ?_⟩
    refine ⟨_, rfl, tp, _, _, _, rfl, rfl, SqT.of htp, rfl, ?_⟩
    have en : l + wide * (st.tal.getD l.toNat 0 - (if decide (c < 0) = true then (1 : Int) else 0)) = leaveN wide st l c := by
      unfold leaveN
      rcases hc with rfl | rfl
      · rw [if_neg (by decide), if_pos rfl, Int.sub_zero]
      · rw [if_pos (by decide), if_neg (by decide)]
        rfl
    refine ⟨_, rfl, _, rfl, n, _, _, _, rfl, rfl, SqT.of hn, rfl, _, rfl, _, rfl, lc, _, _, _, rfl, rfl, SqL.of hlc, atI_int l0 (by (first | lia | omega)), ?_⟩
    refine ⟨_, rfl, _, _, rfl, rfl, .inr ⟨_, rfl, _, _, rfl, rfl, _, _, rfl, rfl, .inl ⟨by (first | lia | omega), by (first | lia | omega)⟩, _, _, rfl, rfl, ?_⟩⟩
    rw [en]
    -- the number
    refine ⟨_, rfl, d, rfl, .inl ⟨_, .inl hd⟩, _, rfl, _, DGet.k (k := Sum.inl (leaveN wide st l c)) hd, ?_⟩
    rw [left.val]
    refine ⟨_, rfl, _, _, rfl, rfl, _, rfl, _, rfl, d, _, rfl, DPut.k (k := Sum.inl (leaveN wide st l c)) hd (lenLt (by (first | lia | omega))), ?_⟩
    have lf' := left.put (leaveN wide st l c) c
    have kt1 : KT H (upd H d (HO.dK (putK kvs (Sum.inl (leaveN wide st l c)) (V.int (gainOf ts (leaveN wide st l c) + c))))) := fun b xs e => (upd_ne (ne_of e hd (by intro z; cases z))).trans e
    have kp1 : Kp d H (upd H d (HO.dK (putK kvs (Sum.inl (leaveN wide st l c)) (V.int (gainOf ts (leaveN wide st l c) + c))))) := Kp.upd
    have xd1 : (upd H d (HO.dK (putK kvs (Sum.inl (leaveN wide st l c)) (V.int (gainOf ts (leaveN wide st l c) + c))))) d = some (.dK (putK kvs (Sum.inl (leaveN wide st l c)) (V.int (gainOf ts (leaveN wide st l c) + c)))) := upd_same
    have pa1 : PlayAt C (upd H d (HO.dK (putK kvs (Sum.inl (leaveN wide st l c)) (V.int (gainOf ts (leaveN wide st l c) + c))))) p (.ref n) L st' := pa.keep (S := [d]) (KpS.upd (by simp)) kt1 (one_dj nd)
    have xl1 : (upd H d (HO.dK (putK kvs (Sum.inl (leaveN wide st l c)) (V.int (gainOf ts (leaveN wide st l c) + c))))) lc = some (.lst (st.tal.map V.int)) := (upd_ne (ne_of hlc hd (by intro z; cases z))).trans hlc
    generalize upd H d (HO.dK (putK kvs (Sum.inl (leaveN wide st l c)) (V.int (gainOf ts (leaveN wide st l c) + c)))) = H1 at kt1 kp1 xd1 pa1 xl1
    refine ⟨_, rfl, _, rfl, _, rfl, lenLine (by show 3 ≤ 100000; decide), fun t2 f2 => ?_⟩
    have s2 : Same H1 (upd H1 t2 (HO.tup [V.str "out", V.int l, V.int (leaveN wide st l c)])) := same_new f2 _
    have x2 : (upd H1 t2 (HO.tup [V.str "out", V.int l, V.int (leaveN wide st l c)])) t2 = some (.tup (plV (.out l (leaveN wide st l c)))) := upd_same
    generalize upd H1 t2 (HO.tup [V.str "out", V.int l, V.int (leaveN wide st l c)]) = H2 at s2 x2
    refine ⟨_, _, datP (s2 _ _ (kt1 _ _ htt)), datP x2, shapedP _, shapedP _, mixP _, _, rfl, iteTd (by simp [PyProof.Rows.same_refl]) ?_⟩
    have pa2 := pa1.same s2
    refine ⟨_, rfl, p, _, _, rfl, pa2.ob, pfl_no _ _ (by decide +kernel) (by decide +kernel) (by decide +kernel) (by decide +kernel) (by decide +kernel), p, .ref n, L, st', rfl, pa2, fun c3 H3 fc3 s3 xc3 => ?_⟩
    have s23 := Same.trans s2 s3
    have tl' : st'.tal.length = wide.toNat := by rw [et, List.length_set]; exact tl
    refine ⟨_, rfl, c3, _, _, _, rfl, rfl, SqL.of xc3, atI_int l0 (by (first | lia | omega)), _, rfl, _, rfl, lc, _, _, _, rfl, rfl, SqL.of (s23 _ _ xl1), atI_int l0 (by (first | lia | omega)), _, rfl, _, _, rfl, rfl, rfl, ?_⟩
    have e3 : st'.tal.getD l.toNat 0 = st.tal.getD l.toNat 0 + c := by rw [et, getD_set (by (first | lia | omega)), if_pos rfl]
    rw [e3]
    have z : Q (.bl (decide (V.int (st.tal.getD l.toNat 0 + c) = V.int (st.tal.getD l.toNat 0 + c)))) H3 := by
      rw [decide_eq_true rfl]
      exact q _ H3 lf' (s23 _ _ xd1) (Kp.trans kp1 (Kp.same s23))
    exact z
end
section
variable {P : Program} {w : World} {K : PySem.W.Frag} {mg : Str → Option Value} {base : Heap} {f : Addr} {fd : FuncData}
theorem sc_step : FnScope ["_law_play", "_law_net_here", "_law_seen", "_law_walker", "_law_gain", "_law_place", "_law_counts", "_law_told"] ["_law_play", "_law_net_here", "_law_seen", "_law_walker", "_law_gain"] (defScope s_step) := ⟨rfl, rfl, rfl, by decide +kernel, rfl, by decide +kernel, by decide +kernel⟩
theorem ok_step {C : Addr} (T : Bn mg) (TP : PlayT K C) (F : Here K mg "_law_step" s_step f fd) (MPlay_where : MCal P w K mg base C "where" 2 ["self", "walker"] (spWhere C)) (MPlay_counts : MCal P w K mg base C "counts" 1 ["self"] (spCountsP C)) (MPlay_step : MCal P w K mg base C "step" 4 ["self", "walker"] (spStep C))
    (C_law_left : Callee P w K mg base "_law_left" 2 ["_law_play", "_law_net_here", "_law_counts", "_law_place", "_law_told", "_law_gain", "_law_numbers"] (spLeft27 C)) (C_law_let_by : Callee P w K mg base "_law_let_by" 2 ["_law_play", "_law_net_here", "_law_passed", "_law_place", "_law_told", "_law_gain"] (spLetBy27 C)) :
    FnOk P w K mg base CX0 5 f fd ["_law_play", "_law_net_here", "_law_seen", "_law_walker", "_law_gain"] (spStep27 C) := by
  refine F.fn.ok sc_step (fun vs H Q E h => ?_) (fun cdv A outer s H vs Q E hr h => ?_)
  · obtain ⟨p, v, wide, ws, L, st, ls, lp, d, as, ps, kvs, ts, i, pl, rfl, _⟩ := h
    rfl
  · obtain ⟨p, v, wide, ws, L, st, ls, lp, d, as, ps, kvs, ts, i, pl, rfl, net, W, hi, no, q⟩ := h
    obtain ⟨n, tn, rns, rfl, hn, htn, hrs⟩ := id net.1
    have ok := net.2.2.2.1
    have w1 := net.2.1
    have il : i < st.pla.length := (List.getElem?_eq_some_iff.mp hi).1
    have cl := W.wf.cl
    have hc := W.wf.cs i (by (first | lia | omega))
    have psm := W.wf.ps pl (List.mem_of_getElem? hi)
    have nom : ∀ (m : Str), (¬ m = "changes") → (¬ m = "places") → (¬ m = "tally") → (¬ m = "facing") → (¬ m = "net") → (pfl (.ref n) L).lookup m = none := fun m => pfl_no _ _
    refine ⟨_, (pss_cons (ps_set (i := 5) sc_step.nd rfl (by first | exact Or.inl rfl | exact Or.inr rfl) (pe_methC (pv 0) TP.cl MPlay_where (hr.mono (by first | decide | (first | lia | omega))) (pa_cons (pv 3) pa_nil)))
    (pss_cons (ps_set (i := 6) sc_step.nd rfl (by first | exact Or.inl rfl | exact Or.inr rfl) (pe_methC0 (pv 0) TP.cl MPlay_counts (hr.mono (by first | decide | (first | lia | omega)))))
    (pss_cons (ps_set (i := 7) sc_step.nd rfl (by first | exact Or.inl rfl | exact Or.inr rfl) (pe_methC (pv 0) TP.cl MPlay_step (hr.mono (by first | decide | (first | lia | omega))) (pa_cons (pv 3) pa_nil)))
    (pss_cons (ps_if (pt_cmpR (op_neD hr.units) (pv 7) (pe_methC (pv 0) TP.cl MPlay_where (hr.mono (by first | decide | (first | lia | omega))) (pa_cons (pv 3) pa_nil)) (nomark _))
    (pss_one (ps_ret pe_bl))
    pss_nil)
    (pss_cons (ps_if (pt_cmpR op_eq (pe_ix ix_tup (pv 5) pe_int (fun _ _ => rfl)) pe_str (nomark _))
    (pss_one (ps_ret (pe_callC C_law_left (hr.mono (by first | decide | (first | lia | omega))) rfl (pa_cons (pv 0) (pa_cons (pv 1) (pa_cons (pv 6) (pa_cons (pv 5) (pa_cons (pv 7) (pa_cons (pv 4) (pa_cons (pe_ix ix_list (pv 2) pe_int (fun _ _ => rfl)) pa_nil))))))))))
    pss_nil)
    (pss_one (ps_ret (pe_callC C_law_let_by (hr.mono (by first | decide | (first | lia | omega))) rfl (pa_cons (pv 0) (pa_cons (pv 1) (pa_cons (pe_ix ix_list (pv 2) pe_int (fun _ _ => rfl)) (pa_cons (pv 5) (pa_cons (pv 7) (pa_cons (pv 4) pa_nil)))))))))))))), ?_⟩
    refine ⟨_, rfl, p, _, _, rfl, W.pl.ob, nom _ (by decide +kernel) (by decide +kernel) (by decide +kernel) (by decide +kernel) (by decide +kernel), _, rfl, p, .ref n, L, st, i, pl, rfl, W.pl, hi, fun tp htp => ?_⟩
    refine ⟨_, rfl, p, _, _, rfl, W.pl.ob, nom _ (by decide +kernel) (by decide +kernel) (by decide +kernel) (by decide +kernel) (by decide +kernel), p, .ref n, L, st, rfl, W.pl, fun lc H1 flc s1 xlc => ?_⟩
    have W1 := W.same s1
    have kt1 : KT H H1 := KT.same s1 (KT.refl _)
    refine ⟨_, rfl, p, _, _, rfl, W1.pl.ob, nom _ (by decide +kernel) (by decide +kernel) (by decide +kernel) (by decide +kernel) (by decide +kernel), _, rfl, p, .ref n, wide, ws, L, st, i, pl, rfl, net.kt kt1, W1.pl, W.wf, hi, no, fun tt H2 pl2 k2 htt => ?_⟩
    have kt2 : KT H1 H2 := KpL.kt W1.pl k2
    have ks2 : KpS (L.own p) H1 H2 := k2.own
    have lcL : lc ∉ L.own p := fun z => W.pl.live _ z flc
    have xlc2 := ks2 _ _ xlc lcL
    have sn2 := W1.sn.keep ks2 (W.dj.symm)
    have ktH2 := KT.trans kt1 kt2
    have step2 := step_at (wide := wide) (ws := ws) hi
    refine ⟨_, rfl, _, rfl, p, _, _, rfl, pl2.ob, nom _ (by decide +kernel) (by decide +kernel) (by decide +kernel) (by decide +kernel) (by decide +kernel), _, rfl, p, .ref n, L, _, i, _, rfl, pl2, step2, fun tw htw => ?_⟩
    refine ⟨_, _, datP htt, datP htw, shapedP _, shapedP _, mixP _, _, rfl, iteFd (by simp [PyProof.Rows.same_refl]) ?_⟩
    have kH2 : KpS (L.own p ++ ownS ls lp d as) H H2 := KpS.trans (KpS.same s1) (ks2.mono fun x hx => List.mem_append_left _ hx)
    have wf2 := step_wf ok W.wf hi
    have few2 := W.few.step W.wf hi
    cases pl with
    | out l' n' => cases no
    | exit l =>
      refine ⟨_, rfl, tp, _, _, _, rfl, rfl, SqT.of (ktH2 _ _ htp), rfl, rfl, _, rfl, iteTd (by decide) ?_⟩
      refine ⟨_, rfl, _, rfl, _, rfl, _, rfl, _, rfl, _, rfl, _, rfl, ls, _, _, _, rfl, rfl, SqL.of sn2.hs, rfl, ?_⟩
      have dL : d ∉ L.own p := fun z => W.dj _ z (by simp [ownS])
      have ntl := W.nt
      have onl := outN_le st.pla
      have ml := W.wf.ml
      refine ⟨p, .ref n, wide, ws, L, st, stepS wide ws st i (.exit l), lc, tp, tt, d, l, st.chg.getD i 0, kvs, ts, rfl, net.kt ktH2, pl2, W.wf, psm.1, psm.2, rfl, xlc2, ktH2 _ _ htp, htt, hc, sn2.hd, W.lf, by (first | lia | omega), dL, fun kvs' H3 lf3 xd3 k3 => ?_⟩
      have ks3 : KpS [d] H2 H3 := KpS.kp k3 (by simp)
      have kt3 : KT H2 H3 := fun b xs e => k3 _ _ e (ne_of e sn2.hd (by intro z; cases z))
      have nls : ls ≠ d := ne_of sn2.hs sn2.hd (by intro z; cases z)
      have nlp : lp ≠ d := ne_of sn2.hp sn2.hd (by intro z; cases z)
      refine q ps kvs' _ H3 ⟨pl2.keep ks3 kt3 (one_dj dL), wf2, few2, ⟨k3 _ _ sn2.hs nls, k3 _ _ sn2.hp nlp, fun j a r ha hr => ?_, sn2.ln, sn2.nd, xd3⟩, W.po, lf3, ?_, ?_, W.dj⟩ (KpS.trans kH2 (ks3.mono (by simp [ownS])))
      · have e := sn2.hi j a r ha hr
        exact k3 _ _ e (ne_of e sn2.hd (by intro z; cases z))
      · exact Acc.leave w1 W.wf.tl W.ac psm.1 psm.2 hc
      · show (ts ++ [_]).length ≤ outN (st.pla.set i (.out l (leaveN wide st l (st.chg.getD i 0))))
        have b := outN_set (.out l (leaveN wide st l (st.chg.getD i 0))) st.pla i _ hi
        have e1 : isOut (.exit l) = false := rfl
        have e2 : isOut (.out l (leaveN wide st l (st.chg.getD i 0))) = true := rfl
        rw [e1, e2, if_neg (by decide), if_pos rfl, Nat.add_zero] at b
        rw [b, List.length_append, List.length_singleton]
        (first | lia | omega)
    | before k l =>
      have hk := psm.1
      have hw : ws[k]? = some ws[k] := by simp [hk]
      have ew : wAt ws k = ws[k] := by simp [wAt, List.getD, hw]
      have plen := W.po.1
      have aln := W.sn.ln
      have hq : ps[k]? = some (ps[k]'(by (first | lia | omega))) := by simp [show k < ps.length by (first | lia | omega)]
      have ha : as[k]? = some (as[k]'(by (first | lia | omega))) := by simp [show k < as.length by (first | lia | omega)]
      generalize ws[k] = w at hw ew
      generalize (ps[k]'(by (first | lia | omega))) = qk at hq
      generalize (as[k]'(by (first | lia | omega))) = ak at ha
      have aL : ak ∉ L.own p := fun z => W.dj _ z (by simp [ownS, List.mem_of_getElem? ha])
      have po := W.po.2 k w qk hw hq
      obtain ⟨o1, o2, o3, o4, o5⟩ := WOk.mem ok hw
      refine ⟨_, rfl, tp, _, _, _, rfl, rfl, SqT.of (ktH2 _ _ htp), rfl, rfl, _, rfl, iteFd (by decide) ?_⟩
      refine ⟨_, rfl, _, rfl, _, rfl, ls, _, _, _, rfl, rfl, SqL.of sn2.hs, rfl, _, rfl, _, rfl, _, rfl, ?_⟩
      have ef : (stepS wide ws st i (.before k l)).fac = st.fac.set k (otherL w (st.fac.getD k 0)) := by
        show st.fac.set k (otherL (wAt ws k) (st.fac.getD k 0)) = _
        rw [ew]
      refine ⟨p, .ref n, wide, ws, L, st, stepS wide ws st i (.before k l), lp, tp, tt, as, ak, k, l, st.chg.getD i 0, qk.1, qk.2, w, rfl, net.kt ktH2, pl2, W.wf, hw, ef, ktH2 _ _ htp, htt, hc, sn2.hp, ha, sn2.hi k ak qk ha hq, po, aL, fun x' y' H3 exy xa3 k3 => ?_⟩
      have ks3 : KpS [ak] H2 H3 := KpS.kp k3 (by simp)
      have e0 := sn2.hi k ak qk ha hq
      have kt3 : KT H2 H3 := fun b xs e => k3 _ _ e (ne_of e e0 (by intro z; cases z))
      have sn3 : SeenAt H3 ls lp d as (ps.set k (x', y')) kvs := by
        have u := sn2.put ha hq x' y'
        refine ⟨?_, ?_, fun j a r hja hjr => ?_, u.ln, u.nd, ?_⟩
        · exact k3 _ _ sn2.hs (ne_of sn2.hs e0 (by intro z; injection z with z; injection z with z _; cases z))
        · refine k3 _ _ sn2.hp (ne_of sn2.hp e0 ?_)
          intro z
          cases as with
          | nil => simp at ha
          | cons b r => injection z with z; rw [List.map_cons] at z; injection z with z _; cases z
        · by_cases z : j = k
          · subst z
            rw [ha] at hja
            cases hja
            rw [List.getElem?_set_self (by (first | lia | omega))] at hjr
            cases hjr
            exact xa3
          · rw [List.getElem?_set_ne (Ne.symm z)] at hjr
            have nb : a ≠ ak := pair_at (R := fun a b : Addr => a ≠ b) (fun _ _ h => Ne.symm h) sn2.nd hja ha z
            exact k3 _ _ (sn2.hi j a r hja hjr) nb
        · exact k3 _ _ sn2.hd (ne_of sn2.hd e0 (by intro z; cases z))
      refine q _ kvs ts H3 ⟨pl2.keep ks3 kt3 (one_dj aL), wf2, few2, sn3, ?_, W.lf, W.ac, ?_, W.dj⟩ (KpS.trans kH2 (ks3.mono (by intro x hx; simp at hx; subst hx; simp [ownS, List.mem_of_getElem? ha])))
      · rw [ef]
        exact W.po.turn W.wf.fl hw hq exy o5 (W.wf.fs k w hw)
      · show ts.length ≤ outN (st.pla.set i (stepP wide ws st i (.before k l)))
        have b := outN_set (stepP wide ws st i (.before k l)) st.pla i _ hi
        have e1 : isOut (.before k l) = false := rfl
        rw [e1, if_neg (by decide), Nat.add_zero] at b
        rw [b]
        have := W.nt
        (first | lia | omega)
end
section
variable {P : Program} {w : World} {K : PySem.W.Frag} {mg : Str → Option Value} {base : Heap} {f : Addr} {fd : FuncData}
theorem sc_steps : FnScope ["_law_play", "_law_net_here", "_law_seen", "_law_gains", "_law_pen_here", "_law_many", "_law_k", "_law_some", "_law_walker"] ["_law_play", "_law_net_here", "_law_seen", "_law_gains", "_law_pen_here", "_law_many"] (defScope s_steps) := ⟨rfl, rfl, rfl, by decide +kernel, rfl, by decide +kernel, by decide +kernel⟩
theorem ok_steps {C : Addr} (T : Bn mg) (TP : PlayT K C) (F : Here K mg "_law_steps" s_steps f fd) (MPlay_inside : MCal P w K mg base C "inside" 1 ["self"] (spInside C)) (C_law_take : Callee P w K mg base "_law_take" 1 ["_law_pen_here", "_law_size"] spTake) (C_law_step : Callee P w K mg base "_law_step" 5 ["_law_play", "_law_net_here", "_law_seen", "_law_walker", "_law_gain"] (spStep27 C)) :
    FnOk P w K mg base CX0 6 f fd ["_law_play", "_law_net_here", "_law_seen", "_law_gains", "_law_pen_here", "_law_many"] (spSteps27 C) := by
  refine F.fn.ok sc_steps (fun vs H Q E h => ?_) (fun cdv A outer s H vs Q E hr h => ?_)
  · obtain ⟨p, v, wide, ws, L, st, ls, lp, d, as, ps, kvs, ts, lg, pn, many, rfl, _⟩ := h
    rfl
  · obtain ⟨p, v, wide, ws, L, st, ls, lp, d, as, ps, kvs, ts, lg, pn, many, rfl, net, W, hlg, hpn, m0, m1, nlg, npn, npl, q⟩ := h
    obtain ⟨n, tn, rns, rfl, hn, htn, hrs⟩ := id net.1
    have ok := net.2.2.2.1
    have nom : ∀ (m : Str), (¬ m = "changes") → (¬ m = "places") → (¬ m = "tally") → (¬ m = "facing") → (¬ m = "net") → (pfl (.ref n) L).lookup m = none := fun m => pfl_no _ _
    have npnL : pn ∉ L.own p := fun z => npn (List.mem_append_left _ z)
    have npnS : pn ∉ ownS ls lp d as := fun z => npn (List.mem_append_right _ z)
    refine ⟨_, (pss_cons (ps_for PassesOwn.never rfl  (pi_range1 rfl T.n_range (pa_cons (pv 5) pa_nil)) (pg_name (i := 6) sc_steps.nd rfl (by first | exact Or.inl rfl | exact Or.inr rfl))
    (pss_cons (ps_set (i := 7) sc_steps.nd rfl (by first | exact Or.inl rfl | exact Or.inr rfl) (pe_methC0 (pv 0) TP.cl MPlay_inside (hr.mono (by first | decide | (first | lia | omega)))))
    (pss_cons (ps_if (pt_cmpR (op_eqL hr.units) (pv 7) (pe_lst pa_nil) (nomark _))
    (pss_one (ps_ret pe_bl))
    pss_nil)
    (pss_cons (ps_set (i := 8) sc_steps.nd rfl (by first | exact Or.inl rfl | exact Or.inr rfl) (pe_ix ix_list (pv 7) (pe_callC C_law_take (hr.mono (by first | decide | (first | lia | omega))) rfl (pa_cons (pv 4) (pa_cons (pe_callB call_len_seq rfl T.n_len PySem.boot_len (pa_cons (pv 7) pa_nil)) pa_nil))) (fun _ _ => rfl)))
    (pss_one (ps_if (pt_not (pt_val (pe_callC C_law_step (hr.mono (by first | decide | (first | lia | omega))) rfl (pa_cons (pv 0) (pa_cons (pv 1) (pa_cons (pv 2) (pa_cons (pv 8) (pa_cons (pe_ix ix_list (pv 3) (pv 8) (fun _ _ => rfl)) pa_nil))))))))
    (pss_one (ps_ret pe_bl))
    pss_nil))))))
    (pss_one (ps_ret pe_bl))), ?_⟩
    refine ⟨_, rfl, many, rfl, by (first | lia | omega), by (first | lia | omega), ?_⟩
    refine for_range (n := many.toNat) (fun i σ Hc => ∃ (v6 v7 v8 : Option V) (stc : PlS) (psc : List (Int × Int)) (kvc : List (Key × V)) (tsc : List (Int × Int)), σ = [some (.ref p), some (.ref n), some (.ref ls), some (.ref lg), some (.ref pn), some (.int many), v6, v7, v8] ∧ Stp wide ws st stc ∧ (0 < i → insideM 0 st.pla ≠ [] → muS ws.length stc.pla < muS ws.length st.pla) ∧ (i = 0 → stc = st) ∧ muS ws.length stc.pla ≤ muS ws.length st.pla ∧ S27 C Hc p (.ref n) wide ws L stc ls lp d as psc kvc tsc ∧ Pen Hc pn ∧ Hc lg = some (.lst (st.chg.map V.int)) ∧ KpS (pn :: (L.own p ++ ownS ls lp d as)) H Hc ∧ KT H Hc)
      ⟨none, none, none, st, ps, kvs, ts, rfl, .nil, fun h => absurd h (by (first | lia | omega)), fun _ => rfl, Nat.le_refl _, W, hpn, hlg, KpS.refl _ _, KT.refl _⟩ ?_ ?_
    · rintro i σ Hc hi ⟨v6, v7, v8, stc, psc, kvc, tsc, rfl, stp, mu, e0, mule, Wc, ⟨pa, pb, pc, hpc⟩, hlc, kc, ktc⟩
      have ml := Wc.wf.ml
      refine ⟨_, rfl, p, _, _, rfl, Wc.pl.ob, nom _ (by decide +kernel) (by decide +kernel) (by decide +kernel) (by decide +kernel) (by decide +kernel), p, .ref n, L, stc, rfl, Wc.pl, by (first | lia | omega), fun lo H1 flo s1 xlo => ?_⟩
      have W1 := Wc.same s1
      refine ⟨_, rfl, lenLine (by show 0 ≤ 100000; decide), fun le fle => ?_⟩
      have s2 : Same H1 (upd H1 le (HO.lst [])) := same_new fle _
      have x2 : (upd H1 le (HO.lst [])) le = some (.lst (([] : List Int).map V.int)) := upd_same
      generalize upd H1 le (HO.lst []) = H2 at s2 x2
      have s12 := Same.trans s1 s2
      have W2 := Wc.same s12
      have kt2 : KT H H2 := KT.same s12 ktc
      have k2 : KpS (pn :: (L.own p ++ ownS ls lp d as)) H H2 := KpS.trans kc (KpS.same s12)
      have xlo2 := s2 _ _ xlo
      have hp2 := s12 _ _ hpc
      refine ⟨lo, le, _, _, rfl, rfl, SqL.of xlo2, SqL.of x2, _, rfl, ?_⟩
      by_cases g : insideM 0 stc.pla = []
      · refine iteTd (by simpa using g) ?_
        refine q stc psc kvc tsc H2 stp (fun hm hne => ?_) W2 ⟨_, _, _, hp2⟩ k2
        by_cases z : 0 < i
        · exact mu z hne
        · have e := e0 (by (first | lia | omega))
          rw [e] at g
          exact absurd g hne
      · refine iteFd (by simpa using g) ?_
        have lpos : 0 < (insideM 0 stc.pla).length := List.length_pos_iff.mpr g
        have lins := insideM_len stc.pla 0
        refine ⟨_, rfl, _, rfl, _, rfl, lo, _, rfl, .inl (SqL.of xlo2), pn, pa, pb, pc, _, rfl, hp2, by rw [List.length_map]; (first | lia | omega), by rw [List.length_map]; (first | lia | omega), fun j pa3 pb3 pc3 j0 jl => ?_⟩
        rw [List.length_map] at jl
        have kt3 : KT H2 (upd H2 pn (HO.lst [V.int pa3, V.int pb3, V.int pc3])) := KT.lst hp2 (KT.refl _)
        have k3 : KpS [pn] H2 (upd H2 pn (HO.lst [V.int pa3, V.int pb3, V.int pc3])) := KpS.upd (by simp)
        have hp3 : (upd H2 pn (HO.lst [V.int pa3, V.int pb3, V.int pc3])) pn = some (.lst [V.int pa3, V.int pb3, V.int pc3]) := upd_same
        have nlo : lo ≠ pn := Ne.symm (ne_of_none hpc flo)
        have xlo3 : (upd H2 pn (HO.lst [V.int pa3, V.int pb3, V.int pc3])) lo = some (.lst ((insideM 0 stc.pla).map V.int)) := (upd_ne nlo).trans xlo2
        have xlg3 : (upd H2 pn (HO.lst [V.int pa3, V.int pb3, V.int pc3])) lg = some (.lst (st.chg.map V.int)) := (upd_ne (Ne.symm npl)).trans (s12 _ _ hlc)
        generalize upd H2 pn (HO.lst [V.int pa3, V.int pb3, V.int pc3]) = H3 at kt3 k3 hp3 xlo3 xlg3
        have W3 := W2.keep k3 kt3 (one_dj npnL) (one_dj npnS)
        have hj : (insideM 0 stc.pla)[j.toNat]? = some ((insideM 0 stc.pla).getD j.toNat 0) := getD_lt (by (first | lia | omega))
        obtain ⟨iw, pl, ei, hiw, no⟩ := insideM_mem stc.pla 0 (List.mem_of_getElem? hj)
        rw [Nat.zero_add] at ei
        refine ⟨lo, _, _, _, rfl, rfl, SqL.of xlo3, atI_int j0 jl, ?_⟩
        rw [ei]
        have iwl : iw < stc.pla.length := (List.getElem?_eq_some_iff.mp hiw).1
        have clc := Wc.wf.cl
        have ech := stp.chg
        have hgV : (st.chg.map V.int)[iw]? = some (.int (stc.chg.getD iw 0)) := by
          rw [List.getElem?_map, ← ech, getD_lt (show iw < stc.chg.length by (first | lia | omega))]
          rfl
        refine ⟨_, rfl, _, rfl, _, rfl, _, rfl, _, rfl, _, rfl, lg, _, _, _, rfl, rfl, SqL.of xlg3, atI_nat hgV, ?_⟩
        refine ⟨p, .ref n, wide, ws, L, stc, ls, lp, d, as, psc, kvc, tsc, iw, pl, rfl, net.kt (KT.trans kt2 kt3), W3, hiw, no, fun ps' kvs' ts' H4 W4 k4 => ?_⟩
        refine ⟨_, rfl, iteFd (by decide) ?_⟩
        have m4 := muS_step Wc.wf hiw no
        have kt4 : KT H3 H4 := W3.kt k4
        have hp4 := k4 _ _ hp3 npn
        have xlg4 := k4 _ _ xlg3 nlg
        exact ⟨_, _, _, _, ps', kvs', ts', rfl, .more stp hiw no, (fun _ _ => by (first | lia | omega)), (fun z => by (first | lia | omega)), by (first | lia | omega), W4, ⟨_, _, _, hp4⟩, xlg4, KpS.trans k2 (KpS.trans (k3.mono (by simp)) (k4.mono fun x hx => List.mem_cons_of_mem _ hx)), KT.trans kt2 (KT.trans kt3 kt4)⟩
    · rintro σ Hc ⟨v6, v7, v8, stc, psc, kvc, tsc, rfl, stp, mu, e0, mule, Wc, hpc, hlc, kc, ktc⟩
      exact q stc psc kvc tsc Hc stp (fun hm => mu (by (first | lia | omega))) Wc hpc kc
end
section
variable {P : Program} {w : World} {K : PySem.W.Frag} {mg : Str → Option Value} {base : Heap} {f : Addr} {fd : FuncData}
theorem sc_come_in : FnScope ["_law_play", "_law_lane", "_law_back"] ["_law_play", "_law_lane", "_law_back"] (defScope s_come_in) := ⟨rfl, rfl, rfl, by decide +kernel, rfl, by decide +kernel, by decide +kernel⟩
theorem ok_come_in {C : Addr} (T : Bn mg) (TP : PlayT K C) (F : Here K mg "_law_come_in" s_come_in f fd) (MPlay_enter : MCal P w K mg base C "enter" 4 ["self", "lane"] (spEnter C 1)) (MPlay_enter_back : MCal P w K mg base C "enter_back" 4 ["self", "lane"] (spEnter C (-1))) : FnOk P w K mg base CX0 5 f fd ["_law_play", "_law_lane", "_law_back"] (spLComeIn C) := by
  refine F.fn.ok sc_come_in (fun vs H Q E h => ?_) (fun cdv A outer s H vs Q E hr h => ?_)
  · obtain ⟨p, v, wide, ws, L, st, lane, bk, rfl, _⟩ := h
    rfl
  · obtain ⟨p, v, wide, ws, L, st, lane, bk, rfl, net, pa, wf, l0, l1, hb, q⟩ := h
    refine ⟨_, (pss_cons (ps_if (pt_cmpR op_eq (pv 2) pe_int (nomark _))
    (pss_one (ps_ret (pe_methC (pv 0) TP.cl MPlay_enter_back (hr.mono (by first | decide | (first | lia | omega))) (pa_cons (pv 1) pa_nil))))
    pss_nil)
    (pss_one (ps_ret (pe_methC (pv 0) TP.cl MPlay_enter (hr.mono (by first | decide | (first | lia | omega))) (pa_cons (pv 1) pa_nil))))), ?_⟩
    rcases hb with rfl | rfl
    · refine ⟨_, rfl, rfl, _, rfl, iteFd (by decide) ?_⟩
      refine ⟨_, rfl, p, _, _, rfl, pa.ob, pfl_no _ _ (by decide +kernel) (by decide +kernel) (by decide +kernel) (by decide +kernel) (by decide +kernel), _, rfl, ?_⟩
      exact ⟨p, v, wide, ws, L, st, lane, rfl, net, pa, wf, l0, l1, q⟩
    · refine ⟨_, rfl, rfl, _, rfl, iteTd (by decide) ?_⟩
      refine ⟨_, rfl, p, _, _, rfl, pa.ob, pfl_no _ _ (by decide +kernel) (by decide +kernel) (by decide +kernel) (by decide +kernel) (by decide +kernel), _, rfl, ?_⟩
      exact ⟨p, v, wide, ws, L, st, lane, rfl, net, pa, wf, l0, l1, q⟩
end
section
variable {P : Program} {w : World} {K : PySem.W.Frag} {mg : Str → Option Value} {base : Heap} {f : Addr} {fd : FuncData}
theorem sc_played : FnScope ["_law_net_here", "_law_entries", "_law_pen_here", "_law_often", "_law_play", "_law_seen", "_law_gains", "_law_lane", "_law_gain", "_law_number"] ["_law_net_here", "_law_entries", "_law_pen_here", "_law_often"] (defScope s_played) := ⟨rfl, rfl, rfl, by decide +kernel, rfl, by decide +kernel, by decide +kernel⟩
theorem ok_played {C : Addr} (T : Bn mg) (TP : PlayT K C) (F : Here K mg "_law_played" s_played f fd) (MkPlay : Maker P w K mg base "Play" C 1 ["self", "net"] (spPInit C)) (MPlay_counts : MCal P w K mg base C "counts" 1 ["self"] (spCountsP C)) (MPlay_inside : MCal P w K mg base C "inside" 1 ["self"] (spInside C)) (MPlay_shown : MCal P w K mg base C "shown" 1 ["self"] (spShown C)) (MPlay_where : MCal P w K mg base C "where" 2 ["self", "walker"] (spWhere C))
    (C_law_before : Callee P w K mg base "_law_before" 1 ["_law_net_here", "_law_lane", "_law_least"] spPlaceOn) (C_law_come_in : Callee P w K mg base "_law_come_in" 5 ["_law_play", "_law_lane", "_law_back"] (spLComeIn C)) (C_law_take : Callee P w K mg base "_law_take" 1 ["_law_pen_here", "_law_size"] spTake)
    (C_law_steps : Callee P w K mg base "_law_steps" 6 ["_law_play", "_law_net_here", "_law_seen", "_law_gains", "_law_pen_here", "_law_many"] (spSteps27 C)) : FnOk P w K mg base CX0 7 f fd ["_law_net_here", "_law_entries", "_law_pen_here", "_law_often"] spPlayed27 := by
  refine F.fn.ok sc_played (fun vs H Q E h => ?_) (fun cdv A outer s H vs Q E hr h => ?_)
  · obtain ⟨v, wide, ws, le, es, pn, often, rfl, _⟩ := h
    rfl
  · obtain ⟨v, wide, ws, le, es, pn, often, rfl, net, ⟨rs, hle, hres⟩, les, hes, ⟨pa, pb, pc, hpn⟩, of1, of2, nlp, q⟩ := h
    obtain ⟨n, tn, rns, rfl, hn, htn, hrs⟩ := id net.1
    have w1 := net.2.1
    have w8 := net.2.2.1
    have ok := net.2.2.2.1
    have len := net.2.2.2.2
    have lrs := hrs.len
    have lres := hres.len
    refine ⟨_, (pss_cons (ps_set (i := 4) sc_played.nd rfl (by first | exact Or.inl rfl | exact Or.inr rfl) (pe_makeC MkPlay (hr.mono (by first | decide | (first | lia | omega))) rfl (pa_cons (pv 0) pa_nil)))
    (pss_cons (ps_set (i := 5) sc_played.nd rfl (by first | exact Or.inl rfl | exact Or.inr rfl) (pe_lst (pa_cons (pe_comp ["_law_wicket"] [] rfl (pi_tup (pe_ix ix_tup (pv 0) pe_int (fun _ _ => rfl))) (fun _ _ _ _ _ _ => by exact (pg_name (i := 0) (show List.Nodup (["_law_wicket"] : List Str) by decide +kernel) rfl (by first | exact Or.inl rfl | exact Or.inr rfl))) (fun _ _ _ _ _ _ => by exact pts_nil) (fun _ _ _ _ _ _ => by exact (pe_lst (pa_cons pe_int (pa_cons pe_int pa_nil))))) (pa_cons pe_dnewK pa_nil))))
    (pss_cons (ps_set (i := 6) sc_played.nd rfl (by first | exact Or.inl rfl | exact Or.inr rfl) (pe_lst pa_nil))
    (pss_cons (ps_for PassesOwn.never rfl  (pi_list (pv 1)) (pg_tup rfl (pgs_cons (pg_name (i := 7) sc_played.nd rfl (by first | exact Or.inl rfl | exact Or.inr rfl)) (pgs_cons (pg_name (i := 8) sc_played.nd rfl (by first | exact Or.inl rfl | exact Or.inr rfl)) pgs_nil)))
    (pss_cons (ps_set (i := 9) sc_played.nd rfl (by first | exact Or.inl rfl | exact Or.inr rfl) (pe_callC C_law_come_in (hr.mono (by first | decide | (first | lia | omega))) rfl (pa_cons (pv 4) (pa_cons (pv 7) (pa_cons (pe_callTy call_int1 rfl T.n_int boot_intT (pa_cons (pe_cmpR op_lt (pv 8) pe_int (nomark _)) pa_nil)) pa_nil)))))
    (pss_cons (ps_expr (pe_bm PySem.F.plainAttrs_list PySem.F.slot_list_append PySem.F.type_list_append mt_append (pv 6) (pa_cons (pv 8) pa_nil)))
    (pss_cons (ps_if (PW.pt (pw_or (pt_cmpR op_ne (pv 9) (pe_op op_sub (pe_callB call_len_seq rfl T.n_len PySem.boot_len (pa_cons (pv 6) pa_nil)) pe_int) (nomark _)) (pw_or1 (pt_cmpR (op_neD hr.units) (pe_methC (pv 4) TP.cl MPlay_where (hr.mono (by first | decide | (first | lia | omega))) (pa_cons (pv 9) pa_nil)) (pe_callC C_law_before (hr.mono (by first | decide | (first | lia | omega))) rfl (pa_cons (pv 0) (pa_cons (pv 7) (pa_cons pe_int pa_nil)))) (nomark _)))))
    (pss_one (ps_ret pe_non))
    pss_nil)
    (pss_one (ps_if (pt_not (pt_val (pe_callC C_law_steps (hr.mono (by first | decide | (first | lia | omega))) rfl (pa_cons (pv 4) (pa_cons (pv 0) (pa_cons (pv 5) (pa_cons (pv 6) (pa_cons (pv 2) (pa_cons (pe_callC C_law_take (hr.mono (by first | decide | (first | lia | omega))) rfl (pa_cons (pv 2) (pa_cons (pv 3) pa_nil))) pa_nil)))))))))
    (pss_one (ps_ret pe_non))
    pss_nil))))))
    (pss_cons (ps_while PassesOwn.never  (pt_cmpR (op_neL hr.units) (pe_methC0 (pv 4) TP.cl MPlay_inside (hr.mono (by first | decide | (first | lia | omega)))) (pe_lst pa_nil) (nomark _))
    (pss_one (ps_if (pt_not (pt_val (pe_callC C_law_steps (hr.mono (by first | decide | (first | lia | omega))) rfl (pa_cons (pv 4) (pa_cons (pv 0) (pa_cons (pv 5) (pa_cons (pv 6) (pa_cons (pv 2) (pa_cons pe_int pa_nil)))))))))
    (pss_one (ps_ret pe_non))
    pss_nil)))
    (pss_one (ps_ret (pe_tup (pa_cons (pe_methC0 (pv 4) TP.cl MPlay_counts (hr.mono (by first | decide | (first | lia | omega)))) (pa_cons (pe_methC0 (pv 4) TP.cl MPlay_shown (hr.mono (by first | decide | (first | lia | omega)))) (pa_cons (pe_ix ix_list (pv 5) pe_int (fun _ _ => rfl)) pa_nil))))))))))), ?_⟩
    refine ⟨_, rfl, fun x dx fx fdx ndx => ?_⟩
    refine mk_play net x dx fx fdx (fun L H1 frL pl1 s1 => ?_)
    have nom : ∀ (m : Str), (¬ m = "changes") → (¬ m = "places") → (¬ m = "tally") → (¬ m = "facing") → (¬ m = "net") → (pfl (.ref n) L).lookup m = none := fun m => pfl_no _ _
    -- what is seen
    refine ⟨_, rfl, n, _, _, _, rfl, rfl, SqT.of (s1 _ _ hn), rfl, tn, rfl, ⟨_, SqT.of (s1 _ _ htn)⟩, fun lp flp => ?_⟩
    refine comp_tup (xs := rns) (fun j ys Hc => Same H1 Hc ∧ Hc lp = some (.lst ys) ∧ ∃ as : List Addr, ys = as.map V.ref ∧ as.length = j ∧ as.Nodup ∧ lp ∉ as ∧ ∀ a ∈ as, H1 a = none ∧ Hc a = some (.lst [.int 0, .int 0])) ⟨Same.put flp (Same.refl _), upd_same, [], rfl, rfl, List.nodup_nil, by simp, fun _ h => (nomatch h)⟩ (lenLine (by (first | lia | omega)))
      (fun j ys Hc hj ⟨a1, a2, as, a3, a4, _⟩ => ⟨SqT.of (a1 _ _ (s1 _ _ htn)), a2, by rw [a3, List.length_map]; (first | lia | omega)⟩) ?_ ?_
    · rintro j x0 ys Hc hx ⟨a1, a2, as, rfl, a4, a5, a6, a7⟩
      refine ⟨⟨.inl rfl, trivial⟩, tru_if ?_⟩
      refine ⟨lenLine (by show 2 ≤ 100000; decide), fun b fb => ?_⟩
      have sb : Same Hc (upd Hc b (HO.lst [V.int 0, V.int 0])) := same_new fb _
      have xb : (upd Hc b (HO.lst [V.int 0, V.int 0])) b = some (.lst [V.int 0, V.int 0]) := upd_same
      generalize upd Hc b (HO.lst [V.int 0, V.int 0]) = H2 at sb xb
      have nb : lp ≠ b := ne_of_none a2 fb
      refine ⟨sb _ _ a2, Same.put flp (Same.trans a1 sb), upd_same, as ++ [b], by simp, by simp [a4], ?_, ?_, fun a ha => ?_⟩
      · refine List.nodup_append.mpr ⟨a5, by simp, fun a ha c hc z => ?_⟩
        have : c = b := by simpa using hc
        rw [z, this] at ha
        have := (a7 b ha).2
        rw [this] at fb
        cases fb
      · intro z
        rcases List.mem_append.mp z with z | z
        · exact a6 z
        · exact nb (by simpa using z)
      · rcases List.mem_append.mp ha with h | h
        · have na : a ≠ lp := fun z => a6 (z ▸ h)
          exact ⟨(a7 a h).1, (upd_ne na).trans (sb _ _ (a7 a h).2)⟩
        · have : a = b := by simpa using h
          subst this
          exact ⟨a1.free fb, (upd_ne (Ne.symm nb)).trans xb⟩
    rintro ys H2 ⟨s2, xlp, as, rfl, aln, and, nlpa, asx⟩
    refine fun d fd' => ?_
    have s3 : Same H2 (upd H2 d (HO.dK [])) := same_new fd' _
    have xd3 : (upd H2 d (HO.dK [])) d = some (.dK []) := upd_same
    generalize upd H2 d (HO.dK []) = H3 at s3 xd3
    refine ⟨lenLine (by show 2 ≤ 100000; decide), fun ls fls => ?_⟩
    have s4 : Same H3 (upd H3 ls (HO.lst [V.ref lp, V.ref d])) := same_new fls _
    have xs4 : (upd H3 ls (HO.lst [V.ref lp, V.ref d])) ls = some (.lst [V.ref lp, V.ref d]) := upd_same
    generalize upd H3 ls (HO.lst [V.ref lp, V.ref d]) = H4 at s4 xs4
    refine ⟨lenLine (by show 0 ≤ 100000; decide), fun lg flg => ?_⟩
    have s5 : Same H4 (upd H4 lg (HO.lst [])) := same_new flg _
    have xg5 : (upd H4 lg (HO.lst [])) lg = some (.lst []) := upd_same
    generalize upd H4 lg (HO.lst []) = H5 at s5 xg5
    have s24 := Same.trans s3 s4
    have s25 := Same.trans s24 s5
    have s15 := Same.trans s2 s25
    have sH5 := Same.trans s1 s15
    have sH2 := Same.trans s1 s2
    have sH3 := Same.trans sH2 s3
    have sH4 := Same.trans sH3 s4
    have sn4 : SeenAt H4 ls lp d as (List.replicate ws.length (0, 0)) [] := by
      refine ⟨xs4, s24 _ _ xlp, fun k a q ha hq => ?_, by rw [aln, lrs]; simp, and, s4 _ _ xd3⟩
      rw [List.getElem?_replicate] at hq
      split at hq
      · cases hq
        exact s24 _ _ (asx a (List.mem_of_getElem? ha)).2
      · cases hq
    have owf : ∀ a ∈ ownS ls lp d as, H1 a = none := fun a ha => by
      unfold ownS at ha
      simp only [List.mem_cons] at ha
      rcases ha with rfl | rfl | rfl | ha
      · exact (Same.trans s2 s3).free fls
      · exact flp
      · exact s2.free fd'
      · exact (asx a ha).1
    have dj0 : Dj (L.own x) (ownS ls lp d as) := (Dj.new owf pl1.live).symm
    have frA : ∀ a ∈ L.own x ++ ownS ls lp d as, H a = none := fun a ha => by
      rcases List.mem_append.mp ha with z | z
      · exact frL a z
      · exact s1.free (owf a z)
    have pl4 := pl1.same (Same.trans s2 s24)
    have W0 : P27 C H H5 x (.ref n) wide ws L (startM wide ws) ls lp d as (List.replicate ws.length (0, 0)) [] [] lg pn [] := by
      refine ⟨⟨pl4.same s5, start_wf, Few.start _ _, sn4.same s5, ⟨by simp, fun k w q hw hq => ?_⟩, LeftIs.nil, Acc.start _, Nat.zero_le _, dj0⟩, Kp.same sH5, xg5, ⟨_, _, _, sH5 _ _ hpn⟩, frA, sH4.free flg, fun z => ?_, fun z => ?_, ne_of_none (sH4 _ _ hpn) flg, flow_start0 (by (first | lia | omega))⟩
      · rw [List.getElem?_replicate] at hq
        split at hq
        · cases hq
          show (0 : Int) - 0 = z1 w ((ws.map (·.1)).getD k 0)
          rw [List.getD_eq_getElem?_getD, List.getElem?_map, hw]
          show _ = z1 w w.1
          unfold z1
          rw [if_pos rfl]
          rfl
        · cases hq
      · rcases List.mem_append.mp z with z | z
        · exact pl4.live _ z flg
        · exact sn4.live _ z flg
      · have := frA _ z
        rw [hpn] at this
        cases this
    clear pl1 pl4 sn4 xs4 xd3 xlp xg5 asx
    have ktk : ∀ {Hc : Hp}, Kp pn H Hc → KT H Hc := fun k b xs e => k.tup hpn e
    refine ⟨_, rfl, le, rfl, ⟨_, SqL.of (sH5 _ _ hle)⟩, ?_⟩
    refine for_list (K := K) (a := le) (xs := rs) (fun i σ Hc => ∃ (v7 v8 v9 : Option V) (st : PlS) (ps : List (Int × Int)) (kvs : List (Key × V)) (ts : List (Int × Int)), σ = [some (.ref n), some (.ref le), some (.ref pn), some (.int often), some (.ref x), some (.ref ls), some (.ref lg), v7, v8, v9] ∧ P27 C H Hc x (.ref n) wide ws L st ls lp d as ps kvs ts lg pn (es.take i) ∧ st.pla.length = i)
      ⟨none, none, none, _, _, _, _, rfl, W0, rfl⟩ (fun i σ Hc _ ⟨_, _, _, _, _, _, _, _, W, _⟩ => SqL.of (W.k _ _ hle nlp)) ?_ ?_
    · rintro i r σ Hc hr' ⟨v7, v8, v9, st, ps, kvs, ts, rfl, Wc, lenc⟩
      obtain ⟨e, te, he, rfl, hte⟩ := hres.get hr'
      have il : i < es.length := (List.getElem?_eq_some_iff.mp he).1
      obtain ⟨e0, e1, e2⟩ := hes e (List.mem_of_getElem? he)
      have ktc := ktk Wc.k
      refine ⟨te, _, rfl, SqT.of (ktc _ _ hte), rfl, ?_⟩
      refine ⟨_, _, rfl, _, _, rfl, rfl, ?_⟩
      obtain ⟨bk, hbk, ebk, ec⟩ : ∃ bk : Int, (bk = 0 ∨ bk = 1) ∧ (if decide (e.2 < 0) = true then (1 : Int) else 0) = bk ∧ 1 - 2 * bk = e.2 := by
        rcases e2 with h | h
        · exact ⟨0, .inl rfl, by rw [h]; rfl, by rw [h]; rfl⟩
        · exact ⟨1, .inr rfl, by rw [h]; rfl, by rw [h]; rfl⟩
      refine ⟨_, rfl, _, rfl, _, rfl, _, _, rfl, rfl, .inr ⟨_, rfl, ?_⟩⟩
      rw [ebk]
      refine ⟨x, .ref n, wide, ws, L, st, e.1, bk, rfl, net.kt ktc, Wc.s.pl, Wc.s.wf, e0, e1, hbk, fun H6 pl6 k6 => ?_⟩
      rw [ec] at pl6
      have g6 := (KpL.own (p := x) k6) _ _ Wc.g (fun z => Wc.ng (List.mem_append_left _ z))
      have clc := Wc.s.wf.cl
      refine ⟨_, rfl, .inl ⟨rfl, _, SqL.of g6⟩, _, rfl, lg, _, _, rfl, rfl, g6, lenLt (by rw [List.length_map]; (first | lia | omega)), ?_⟩
      have W7 := Wc.enter ok e0 e1 e2 (by (first | lia | omega)) pl6 k6 g6
      have g7 : (upd H6 lg (HO.lst (st.chg.map V.int ++ [V.int e.2]))) lg = some (.lst (st.chg.map V.int ++ [V.int e.2])) := upd_same
      generalize upd H6 lg (HO.lst (st.chg.map V.int ++ [V.int e.2])) = H7 at W7 g7
      have tk : es.take i ++ [(e.1, e.2)] = es.take (i + 1) := (take_snoc he).symm
      rw [tk] at W7
      have kt7 := ktk W7.k
      refine ⟨_, rfl, _, rfl, lg, _, rfl, .inl (SqL.of g7), _, _, rfl, rfl, rfl, _, rfl, iteFd ?_ ?_⟩
      · have : ((st.chg.map V.int ++ [V.int e.2]).length : Int) - 1 = (st.pla.length : Int) := by
          rw [List.length_append, List.length_map, List.length_singleton]
          (first | lia | omega)
        rw [this]
        simp
      have hpl : (enterM ws st e.1 e.2).pla[st.pla.length]? = some (placeM ws e.1 0) := by
        show (st.pla ++ [_])[_]? = _
        simp
      refine ⟨_, rfl, x, _, _, rfl, W7.s.pl.ob, nom _ (by decide +kernel) (by decide +kernel) (by decide +kernel) (by decide +kernel) (by decide +kernel), _, rfl, x, .ref n, L, _, st.pla.length, _, rfl, W7.s.pl, hpl, fun tw htw => ?_⟩
      refine ⟨_, rfl, _, rfl, .ref n, wide, ws, e.1, 0, rfl, net.kt kt7, Nat.zero_le _, fun tb H8 ftb s8 xtb => ?_⟩
      refine ⟨_, _, datP (s8 _ _ htw), datP xtb, shapedP _, shapedP _, mixP _, _, rfl, iteFd (by simp [PyProof.Rows.same_refl]) ?_⟩
      have W8 := W7.same s8
      obtain ⟨pa8, pb8, pc8, hp8⟩ := id W8.pe
      refine ⟨_, rfl, _, rfl, _, rfl, _, rfl, _, rfl, _, rfl, _, rfl, pn, pa8, pb8, pc8, often, rfl, hp8, by (first | lia | omega), by (first | lia | omega), fun tv pa9 pb9 pc9 tv0 tv1 => ?_⟩
      have W9 := W8.take pa9 pb9 pc9
      generalize upd H8 pn (HO.lst [V.int pa9, V.int pb9, V.int pc9]) = H9 at W9
      refine ⟨x, .ref n, wide, ws, L, _, ls, lp, d, as, ps, kvs, ts, lg, pn, tv, rfl, net.kt (ktk W9.k), W9.s, W9.g, W9.pe, tv0, by (first | lia | omega), W9.ng, W9.np, W9.npg, fun st' ps' kvs' ts' H10 stp _ S10 pe10 k10 => ?_⟩
      refine ⟨_, rfl, iteFd (by decide) ?_⟩
      have W10 := W9.steps ok stp S10 pe10 k10
      refine ⟨_, _, _, st', ps', kvs', ts', rfl, W10, ?_⟩
      rw [stp.len]
      show (st.pla ++ [_]).length = i + 1
      rw [List.length_append, lenc]
      rfl
    rintro σ H6 ⟨v7, v8, v9, st, ps, kvs, ts, rfl, W6, len6⟩
    rw [lres, List.take_length] at W6
    refine while_d (fun m σ Hc => ∃ (st : PlS) (ps : List (Int × Int)) (kvs : List (Key × V)) (ts : List (Int × Int)), σ = [some (.ref n), some (.ref le), some (.ref pn), some (.int often), some (.ref x), some (.ref ls), some (.ref lg), v7, v8, v9] ∧ P27 C H Hc x (.ref n) wide ws L st ls lp d as ps kvs ts lg pn es ∧ st.pla.length = rs.length ∧ m = muS ws.length st.pla)
      _ ⟨st, ps, kvs, ts, rfl, W6, len6, rfl⟩ ?_
    rintro m σ Hc ⟨st, ps, kvs, ts, rfl, Wc, lenc, rfl⟩
    have ml := Wc.s.wf.ml
    refine ⟨_, rfl, x, _, _, rfl, Wc.s.pl.ob, nom _ (by decide +kernel) (by decide +kernel) (by decide +kernel) (by decide +kernel) (by decide +kernel), x, .ref n, L, st, rfl, Wc.s.pl, by (first | lia | omega), fun lo H7 flo s7 xlo => ?_⟩
    refine ⟨lenLine (by show 0 ≤ 100000; decide), fun le0 fle0 => ?_⟩
    have s8 : Same H7 (upd H7 le0 (HO.lst [])) := same_new fle0 _
    have x8 : (upd H7 le0 (HO.lst [])) le0 = some (.lst (([] : List Int).map V.int)) := upd_same
    generalize upd H7 le0 (HO.lst []) = H8 at s8 x8
    have s78 := Same.trans s7 s8
    have W8 := Wc.same s78
    refine ⟨lo, le0, _, _, rfl, rfl, SqL.of (s8 _ _ xlo), SqL.of x8, _, rfl, ?_⟩
    by_cases g : insideM 0 st.pla = []
    · refine iteFd (by simp [g]) ?_
      have outs := out_of_none _ _ g
      obtain ⟨P', F'⟩ := W8.fl
      have ee := cntE_of (wide := wide) (es := es) fun e he => ⟨(hes e he).1, (hes e he).2.1⟩
      rw [ee] at F'
      obtain ⟨etal, efac⟩ := flow_rest ok W8.s.wf (cntE_len wide es) F' outs
      refine ⟨_, rfl, x, _, _, rfl, W8.s.pl.ob, nom _ (by decide +kernel) (by decide +kernel) (by decide +kernel) (by decide +kernel) (by decide +kernel), x, .ref n, L, st, rfl, W8.s.pl, fun c1 H9 fc1 s9 xc1 => ?_⟩
      have W9 := W8.same s9
      refine ⟨_, rfl, x, _, _, rfl, W9.s.pl.ob, nom _ (by decide +kernel) (by decide +kernel) (by decide +kernel) (by decide +kernel) (by decide +kernel), x, .ref n, L, st, rfl, W9.s.pl, fun c2 H10 fc2 s10 xc2 => ?_⟩
      have W10 := W9.same s10
      refine ⟨_, rfl, ls, _, _, _, rfl, rfl, SqL.of W10.s.sn.hs, rfl, lenLine (by show 3 ≤ 100000; decide), fun t ft => ?_⟩
      have s11 : Same H10 (upd H10 t (HO.tup [V.ref c1, V.ref c2, V.ref d])) := same_new ft _
      have W11 := W10.same s11
      have fre : ∀ {Hx : Hp} {b : Addr}, Kp pn H Hx → Pen Hx pn → Hx b = none → H b = none := fun k ⟨_, _, _, h⟩ e => k.none hpn e ⟨_, h⟩
      have ft' : H t = none := fre W10.k W10.pe ft
      have fewl := W8.s.few.le
      have ntl := W8.s.nt
      have onl := outN_le st.pla
      refine q t c1 c2 d st.fac kvs ts _ ft' (W8.fr d (by simp [ownS])) (fre W8.k W8.pe fc1) (fre W9.k W9.pe fc2) upd_same ?_ (s11 _ _ xc2) W8.s.wf.fl efac W11.s.sn.hd W8.s.lf ?_ (by (first | lia | omega)) ?_ W11.k W11.pe
      · rw [← etal]
        exact s11 _ _ (s10 _ _ xc1)
      · rw [← etal]
        exact W8.s.ac
      · rw [← etal]
        (first | lia | omega)
    · refine iteTd (by simp [g]) ?_
      refine ⟨_, fun σ' H' z => z, ?_⟩
      refine ⟨_, rfl, _, rfl, _, rfl, _, rfl, _, rfl, ?_⟩
      refine ⟨x, .ref n, wide, ws, L, st, ls, lp, d, as, ps, kvs, ts, lg, pn, 8, rfl, net.kt (ktk W8.k), W8.s, W8.g, W8.pe, by decide, by decide, W8.ng, W8.np, W8.npg, fun st' ps' kvs' ts' H10 stp mu S10 pe10 k10 => ?_⟩
      refine ⟨_, rfl, iteFd (by decide) ?_⟩
      exact ⟨_, mu (by decide) g, st', ps', kvs', ts', rfl, W8.steps ok stp S10 pe10 k10, by rw [stp.len]; exact lenc, rfl⟩
end
section
variable {P : Program} {w : World} {K : PySem.W.Frag} {mg : Str → Option Value} {base : Heap} {f : Addr} {fd : FuncData}
theorem sc_numbers_right : FnScope ["_law_net_here", "_law_counts", "_law_numbers", "_law_due", "_law_lane", "_law_k"] ["_law_net_here", "_law_counts", "_law_numbers"] (defScope s_numbers_right) := ⟨rfl, rfl, rfl, by decide +kernel, rfl, by decide +kernel, by decide +kernel⟩
theorem ok_numbers_right (T : Bn mg) (F : Here K mg "_law_numbers_right" s_numbers_right f fd) : FnOk P w K mg base CX0 1 f fd ["_law_net_here", "_law_counts", "_law_numbers"] spNumR27 := by
  refine F.fn.ok sc_numbers_right (fun vs H Q E h => ?_) (fun cdv A outer s H vs Q E hr h => ?_)
  · obtain ⟨v, wide, ws, c, d, t, kvs, ts, rfl, _⟩ := h
    rfl
  · obtain ⟨v, wide, ws, c, d, t, kvs, ts, rfl, net, hc, hd, left, acc, tl, few, lts, q⟩ := h
    obtain ⟨n, tn, rns, rfl, hn, htn, hrs⟩ := id net.1
    have w1 := net.2.1
    have w8 := net.2.2.1
    refine ⟨_, (pss_cons (ps_set (i := 3) sc_numbers_right.nd rfl (by first | exact Or.inl rfl | exact Or.inr rfl) pe_dnewK)
    (pss_cons (ps_for PassesOwn.never rfl  (pi_range1 rfl T.n_range (pa_cons (pe_ix ix_tup (pv 0) pe_int (fun _ _ => rfl)) pa_nil)) (pg_name (i := 4) sc_numbers_right.nd rfl (by first | exact Or.inl rfl | exact Or.inr rfl))
    (pss_cons (ps_for PassesOwn.never rfl  (pi_range1 rfl T.n_range (pa_cons (pe_callB (call_max2 rfl) rfl T.n_max PyProof.Rows.boot_max (pa_cons pe_int (pa_cons (pe_ix ix_list (pv 1) (pv 4) (fun _ _ => rfl)) pa_nil))) pa_nil)) (pg_name (i := 5) sc_numbers_right.nd rfl (by first | exact Or.inl rfl | exact Or.inr rfl))
    (pss_one (ps_dput (hu_of hr) (pv 3) (pe_op op_add (pv 4) (pe_op op_mul (pe_ix ix_tup (pv 0) pe_int (fun _ _ => rfl)) (pv 5))) pe_int rfl)))
    (pss_one (ps_for PassesOwn.never rfl  (pi_range2 rfl T.n_range (pa_cons pe_int (pa_cons (pe_op op_sub pe_int (pe_ix ix_list (pv 1) (pv 4) (fun _ _ => rfl))) pa_nil))) (pg_name (i := 5) sc_numbers_right.nd rfl (by first | exact Or.inl rfl | exact Or.inr rfl))
    (pss_one (ps_dput (hu_of hr) (pv 3) (pe_op op_sub (pv 4) (pe_op op_mul (pe_ix ix_tup (pv 0) pe_int (fun _ _ => rfl)) (pv 5))) (pe_un un_neg pe_int) rfl))))))
    (pss_one (ps_ret (pe_cmpR (op_eqDK hr.units0) (pe_callTy (call_dictL rfl) rfl T.n_dict boot_dictT (pa_cons (pe_comp ["_law_number"] [("_law_numbers", 2)] rfl (pi_dict (pv 2)) (fun _ _ _ _ _ _ => by exact (pg_name (i := 0) (show List.Nodup (["_law_number", "_law_numbers"] : List Str) by decide +kernel) rfl (by first | exact Or.inl rfl | exact Or.inr rfl))) (fun _ _ _ _ _ _ => by exact (pts_one (pt_cmpR op_ne (pe_dget (hu_of hr) (pv 1) (pv 0) (fun _ _ => rfl)) pe_int (nomark _)))) (fun _ _ _ _ _ _ => by exact (pe_tup (pa_cons (pv 0) (pa_cons (pe_dget (hu_of hr) (pv 1) (pv 0) (fun _ _ => rfl)) pa_nil))))) pa_nil)) (pv 3) (nomark _)))))), ?_⟩
    refine fun du fdu => ?_
    have s0 : Same H (upd H du (HO.dK [])) := same_new fdu _
    have x0 : (upd H du (HO.dK [])) du = some (.dK []) := upd_same
    generalize upd H du (HO.dK []) = H0 at s0 x0
    refine ⟨_, rfl, n, _, _, _, rfl, rfl, SqT.of (s0 _ _ hn), rfl, wide, rfl, by (first | lia | omega), by (first | lia | omega), ?_⟩
    refine for_range (n := wide.toNat) (fun i σ Hc => ∃ (v4 v5 : Option V) (kd : List (Key × V)) (S : List Int), σ = [some (.ref n), some (.ref c), some (.ref d), some (.ref du), v4, v5] ∧ Same H Hc ∧ Hc du = some (.dK kd) ∧ DueIs S (markM wide t) kd ∧ S.length ≤ absS (t.take i) ∧ ∀ x, x ∈ S ↔ x ∈ standG wide 0 (t.take i) ∨ x ∈ owedD wide 0 (t.take i))
      ⟨none, none, [], [], rfl, s0, x0, DueIs.nil _, Nat.le_refl _, fun x => by simp [standG, owedD]⟩ ?_ ?_
    · rintro i σ Hc hi ⟨v4, v5, kd, S, rfl, sc, xc, due, sl, sm⟩
      have ej : (0 : Int) + (i : Int) = (i : Int) := Int.zero_add _
      rw [ej]
      have il : i < t.length := by (first | lia | omega)
      have hz : t[i]? = some (t.getD i 0) := getD_lt il
      have bz := absS_ge (t := t) i
      have la := absS_take t i
      have hzV : (t.map V.int)[i]? = some (.int (t.getD i 0)) := by rw [List.getElem?_map, hz]; rfl
      have mst : ∀ j : Nat, (j : Int) < t.getD i 0 → markM wide t ((i : Int) + wide * (j : Int)) = 1 := fun j hj => by
        obtain ⟨e1, e2⟩ := num_at (wide := wide) (l := (i : Int)) (q := (j : Int)) w1 (by (first | lia | omega)) (by (first | lia | omega))
        unfold markM mk1
        rw [e1, e2, Int.toNat_natCast, if_pos ⟨by (first | lia | omega), hj⟩]
      have mow : ∀ j : Nat, 1 + (j : Int) ≤ - t.getD i 0 → markM wide t ((i : Int) - wide * (1 + (j : Int))) = -1 := fun j hj => by
        have e0 : (i : Int) - wide * (1 + (j : Int)) = (i : Int) + wide * (-(1 + (j : Int))) := by rw [Int.mul_neg]; rfl
        obtain ⟨e1, e2⟩ := num_at (wide := wide) (l := (i : Int)) (q := -(1 + (j : Int))) w1 (by (first | lia | omega)) (by (first | lia | omega))
        unfold markM mk1
        rw [e0, e1, e2, Int.toNat_natCast, if_neg (by (first | lia | omega)), if_pos (by (first | lia | omega))]
      have tks := take_snoc hz
      have las : absS (t.take (i + 1)) = absS (t.take i) + (t.getD i 0).natAbs := by
        rw [tks]
        generalize t.take i = r
        induction r with
        | nil => show _ + 0 = 0 + _; (first | lia | omega)
        | cons a r ih => show a.natAbs + absS (r ++ _) = a.natAbs + absS r + _; rw [ih]; (first | lia | omega)
      have sts : standG wide 0 (t.take (i + 1)) = standG wide 0 (t.take i) ++ numsM wide i 0 (t.getD i 0).toNat := by
        rw [tks, standG_snoc, List.length_take, Nat.min_eq_left (by (first | lia | omega)), Nat.zero_add]
      have ows : owedD wide 0 (t.take (i + 1)) = owedD wide 0 (t.take i) ++ numsD wide i (-(t.getD i 0)).toNat := by
        rw [tks, owedD_snoc, List.length_take, Nat.min_eq_left (by (first | lia | omega)), Nat.zero_add]
      have lat := absS_take t (i + 1)
      generalize t.getD i 0 = z at hz bz hzV mst mow tks las sts ows
      have ez : (if z > 0 then z else 0 : Int).toNat = z.toNat := by split <;> (first | lia | omega)
      refine ⟨_, rfl, _, rfl, c, _, _, _, rfl, rfl, SqL.of (sc _ _ hc), atI_nat hzV, 0, z, rfl, _, rfl, by split <;> (first | lia | omega), by split <;> (first | lia | omega), ?_⟩
      rw [ez]
      refine for_range (n := z.toNat) (fun j σ Hd => ∃ (v5 : Option V) (ke : List (Key × V)), σ = [some (.ref n), some (.ref c), some (.ref d), some (.ref du), some (.int i), v5] ∧ Same H Hd ∧ Hd du = some (.dK ke) ∧ DueIs (S ++ numsM wide i 0 j) (markM wide t) ke)
        ⟨_, kd, rfl, sc, xc, by show DueIs (S ++ []) _ _; rw [List.append_nil]; exact due⟩ ?_ ?_
      · rintro j σ Hd hj ⟨v5, ke, rfl, sd, xd, dj⟩
        have ej : (0 : Int) + (j : Int) = (j : Int) := Int.zero_add _
        rw [ej]
        have lk := dj.ln
        rw [List.length_append, numsM_len] at lk
        have e1 := mst j (by (first | lia | omega))
        refine ⟨_, rfl, _, rfl, _, rfl, n, _, _, _, rfl, rfl, SqT.of (sd _ _ hn), rfl, _, rfl, _, _, rfl, rfl, .inl ⟨by (first | lia | omega), by (first | lia | omega)⟩, _, _, rfl, rfl, du, _, rfl, DPut.k (k := Sum.inl ((i : Int) + wide * (j : Int))) xd (lenLt (by (first | lia | omega))), ?_⟩
        refine ⟨_, _, rfl, Same.put fdu sd, upd_same, ?_⟩
        rw [numsM_succ, ← List.append_assoc, ej, ← e1]
        exact dj.put _
      · rintro σ Hd ⟨v5, ke, rfl, sd, xd, dj⟩
        refine ⟨_, rfl, _, rfl, c, _, _, _, rfl, rfl, SqL.of (sd _ _ hc), atI_nat hzV, _, _, rfl, rfl, 1, 1 - z, rfl, ⟨by (first | lia | omega), by (first | lia | omega), by (first | lia | omega), by (first | lia | omega)⟩, ?_⟩
        refine for_range (n := (1 - z - 1).toNat) (fun j σ He => ∃ (v5 : Option V) (kf : List (Key × V)), σ = [some (.ref n), some (.ref c), some (.ref d), some (.ref du), some (.int i), v5] ∧ Same H He ∧ He du = some (.dK kf) ∧ DueIs ((S ++ numsM wide i 0 z.toNat) ++ numsD wide i j) (markM wide t) kf)
          ⟨_, ke, rfl, sd, xd, by show DueIs (_ ++ []) _ _; rw [List.append_nil]; exact dj⟩ ?_ ?_
        · rintro j σ He hj ⟨v5, kf, rfl, se, xe, dk⟩
          have lk := dk.ln
          rw [List.length_append, List.length_append, numsM_len, numsD_len] at lk
          have e1 := mow j (by (first | lia | omega))
          refine ⟨_, rfl, _, rfl, _, rfl, _, rfl, n, _, _, _, rfl, rfl, SqT.of (se _ _ hn), rfl, _, rfl, _, _, rfl, rfl, .inl ⟨by (first | lia | omega), by (first | lia | omega)⟩, _, _, rfl, rfl, du, _, rfl, DPut.k (k := Sum.inl ((i : Int) - wide * (1 + (j : Int)))) xe (lenLt (by (first | lia | omega))), ?_⟩
          refine ⟨_, _, rfl, Same.put fdu se, upd_same, ?_⟩
          rw [numsD_succ, ← List.append_assoc]
          have := dk.put ((i : Int) - wide * (1 + (j : Int)))
          rw [e1] at this
          exact this
        · rintro σ He ⟨v5, kf, rfl, se, xe, dk⟩
          have ew : (1 - z - 1).toNat = (-z).toNat := by (first | lia | omega)
          rw [ew] at dk
          refine ⟨_, _, kf, _, rfl, se, xe, dk, ?_, fun x => ?_⟩
          · rw [List.length_append, List.length_append, numsM_len, numsD_len, las]
            (first | lia | omega)
          · rw [sts, ows, List.mem_append, List.mem_append, List.mem_append, List.mem_append, sm x]
            constructor
            · rintro ((h | h) | h)
              · rcases h with h | h
                · exact .inl (.inl h)
                · exact .inr (.inl h)
              · exact .inl (.inr h)
              · exact .inr (.inr h)
            · rintro ((h | h) | (h | h))
              · exact .inl (.inl (.inl h))
              · exact .inl (.inr h)
              · exact .inl (.inl (.inr h))
              · exact .inr h
    · rintro σ Hc ⟨v4, v5, kd, S, rfl, sc, xc, due, sl, sm⟩
      rw [← tl, List.take_length] at sl
      rw [← tl] at sm
      simp only [List.take_length] at sm
      have lk := left.ln
      have ldk := due.ln
      have ndu : du ≠ d := Ne.symm (ne_of_none hd fdu)
      have xd := sc _ _ hd
      -- those that are left
      refine ⟨_, rfl, d, kvs, rfl, .inl xd, fun o1 => ?_⟩
      have k1 : Kp d H (upd Hc d (HO.frz o1 (HO.dK kvs))) := Kp.trans (Kp.same sc) Kp.upd
      have xd1 : (upd Hc d (HO.frz o1 (HO.dK kvs))) d = some (.frz o1 (.dK kvs)) := upd_same
      have xu1 : (upd Hc d (HO.frz o1 (HO.dK kvs))) du = some (.dK kd) := (upd_ne ndu).trans xc
      generalize upd Hc d (HO.frz o1 (HO.dK kvs)) = H1 at k1 xd1 xu1
      have mem_lt : ∀ {i : Nat} {kv : Key × V}, kvs[i]? = some kv → ∃ m, kv.1 = Sum.inl m ∧ valV kvs (Sum.inl m) = some (.int (gainOf ts m)) := fun h => left.has (List.mem_of_getElem? h)
      refine fun lc flc => ?_
      refine comp_keys (a := d) (o := o1) (kvs := kvs) (fun j ys Hx => Same H1 Hx ∧ Hx lc = some (.lst ys) ∧ PrsAt Hx ys (pairsI (gainOf ts) ((keysI (kvs.take j)).filter fun m => decide (gainOf ts m ≠ 0)))) ⟨Same.put flc (Same.refl _), upd_same, .nil⟩ (lenLine (by (first | lia | omega)))
        (fun j ys Hx _ ⟨a1, a2, a3⟩ => ⟨a1 _ _ xd1, a2, ?_⟩) ?_ ?_
      · rw [Paired.length a3]
        unfold pairsI
        rw [List.length_map]
        refine Nat.le_trans (List.length_filter_le _ _) ?_
        unfold keysI
        rw [List.length_map, List.length_take]
        exact Nat.min_le_left _ _
      · rintro j kv ys Hx hk ⟨a1, a2, a3⟩
        obtain ⟨m, ek, vk⟩ := mem_lt hk
        rw [ek]
        have kf' : (keysI (kvs.take (j + 1))).filter (fun m => decide (gainOf ts m ≠ 0)) = (keysI (kvs.take j)).filter (fun m => decide (gainOf ts m ≠ 0)) ++ (if gainOf ts m ≠ 0 then [m] else []) := by
          rw [take_snoc hk]
          unfold keysI
          rw [List.map_append, List.filter_append]
          congr 1
          rw [List.map_cons, List.map_nil, ek, show keyI (Sum.inl m : Key) = m from rfl, List.filter_cons]
          by_cases g : gainOf ts m ≠ 0
          · rw [if_pos g, if_pos (by simpa using g)]; rfl
          · rw [if_neg g, if_neg (by simpa using g)]; rfl
        refine ⟨⟨.inl rfl, .inr rfl, trivial⟩, ?_⟩
        refine ⟨_, rfl, _, rfl, d, .int (gainOf ts m), rfl, .inl ⟨kvs, Sum.inl m, .inr ⟨o1, a1 _ _ xd1⟩, rfl, vk.symm⟩, rfl, _, rfl, ?_⟩
        refine ite2 (fun g => ?_) (fun g => ?_)
        · have g' : gainOf ts m ≠ 0 := fun z => by rw [z] at g; simp at g
          refine ⟨_, rfl, _, rfl, _, rfl, d, .int (gainOf ts m), rfl, .inl ⟨kvs, Sum.inl m, .inr ⟨o1, a1 _ _ xd1⟩, rfl, vk.symm⟩, lenLine (by show 2 ≤ 100000; decide), fun t6 f6 => ?_⟩
          have s6 : Same Hx (upd Hx t6 (HO.tup [kV (Sum.inl m), V.int (gainOf ts m)])) := same_new f6 _
          have x6 : (upd Hx t6 (HO.tup [kV (Sum.inl m), V.int (gainOf ts m)])) t6 = some (.tup [kV (Sum.inl m), V.int (gainOf ts m)]) := upd_same
          generalize upd Hx t6 (HO.tup [kV (Sum.inl m), V.int (gainOf ts m)]) = H6 at s6 x6
          have e6 := s6 _ _ a2
          have kt6 : KT H6 (upd H6 lc (HO.lst (ys ++ [V.ref t6]))) := KT.lst e6 (KT.refl _)
          refine ⟨e6, Same.put flc (Same.trans a1 s6), upd_same, ?_⟩
          rw [kf', if_pos g']
          unfold pairsI
          rw [List.map_append]
          refine Paired.appP (Paired.mapP a3 fun r kv ⟨t, e, h⟩ => ⟨t, e, kt6 _ _ (s6 _ _ h)⟩) (.cons ⟨t6, rfl, kt6 _ _ x6⟩ .nil)
        · have g' : ¬ gainOf ts m ≠ 0 := fun z => z (by simpa using g)
          refine ⟨a1, a2, ?_⟩
          rw [kf', if_neg g', List.append_nil]
          exact a3
      rintro ys H2 ⟨a1, a2, a3⟩
      rw [List.take_length] at a3
      have nk := left.keys_nodup
      have nf : ((keysI kvs).filter fun m => decide (gainOf ts m ≠ 0)).Nodup := List.Pairwise.filter _ nk
      refine ⟨lc, ys, _, rfl, a2, a3, fun d2 fd2 => ?_⟩
      have em : mergeK [] (pairsI (gainOf ts) ((keysI kvs).filter fun m => decide (gainOf ts m ≠ 0))) = pairsI (gainOf ts) ((keysI kvs).filter fun m => decide (gainOf ts m ≠ 0)) := by
        rw [mergeK_app _ [] (pairsI_nodup nf) (fun k _ h => by simp at h)]
        rfl
      rw [em]
      have s3 : Same H2 (upd H2 d2 (HO.dK (pairsI (gainOf ts) ((keysI kvs).filter fun m => decide (gainOf ts m ≠ 0))))) := same_new fd2 _
      have x3 : (upd H2 d2 (HO.dK (pairsI (gainOf ts) ((keysI kvs).filter fun m => decide (gainOf ts m ≠ 0))))) d2 = some (.dK (pairsI (gainOf ts) ((keysI kvs).filter fun m => decide (gainOf ts m ≠ 0)))) := upd_same
      generalize upd H2 d2 (HO.dK (pairsI (gainOf ts) ((keysI kvs).filter fun m => decide (gainOf ts m ≠ 0)))) = H3 at s3 x3
      have inS : ∀ m, gainOf ts m ≠ 0 ↔ m ∈ S := fun m => by
        rw [sm m, (owed_perm wide 0 t).mem_iff, ← acc.pos w1 tl m, ← acc.neg w1 tl m]
        constructor <;> intro h <;> (first | lia | omega)
      have pm : ((keysI kvs).filter fun m => decide (gainOf ts m ≠ 0)).Perm (keysI kd) := by
        refine (List.perm_ext_iff_of_nodup nf due.keys_nodup).mpr fun m => ?_
        rw [List.mem_filter, due.keys_mem]
        constructor
        · rintro ⟨_, h⟩
          exact (inS m).mp (by simpa using h)
        · intro h
          have h' := (inS m).mpr h
          exact ⟨left.mem h', by simpa using h'⟩
      refine ⟨_, rfl, d2, du, _, kd, rfl, rfl, .inl x3, .inl (s3 _ _ (a1 _ _ xu1)), ?_, fun kv hkv => ?_, ?_⟩
      · have := pm.length_eq
        unfold pairsI
        rw [List.length_map, this]
        unfold keysI
        rw [List.length_map]
      · obtain ⟨m, hm, rfl⟩ := List.mem_map.mp hkv
        have h0 : gainOf ts m ≠ 0 := by simpa using (List.mem_filter.mp hm).2
        refine ⟨gainOf ts m, rfl, ?_⟩
        rw [due.left ((inS m).mp h0), ← acc m]
      · exact q H3 (Kp.trans k1 (Kp.same (Same.trans a1 s3)))
end
section
variable {P : Program} {w : World} {K : PySem.W.Frag} {mg : Str → Option Value} {base : Heap} {f : Addr} {fd : FuncData}
theorem sc_law : FnScope ["_law_script", "_law_net_here", "_law_pen_here", "_law_share", "_law_entries", "_law_counts", "_law_k", "_law_lane", "_law_gain", "_law_one", "_law_other"] ["_law_script"] (defScope s_law) := ⟨rfl, rfl, rfl, by decide +kernel, rfl, by decide +kernel, by decide +kernel⟩
theorem ok_law (T : Bn mg) (F : Here K mg "law" s_law f fd) (C_law_pen : Callee P w K mg base "_law_pen" 1 ["_law_script", "_law_k"] (spPen K)) (C_law_net : Callee P w K mg base "_law_net" 8 ["_law_pen_here"] spNet) (C_law_take : Callee P w K mg base "_law_take" 1 ["_law_pen_here", "_law_size"] spTake)
    (C_law_exits : Callee P w K mg base "_law_exits" 1 ["_law_net_here", "_law_counts"] spExitsL) (C_law_played : Callee P w K mg base "_law_played" 7 ["_law_net_here", "_law_entries", "_law_pen_here", "_law_often"] spPlayed27) (C_law_numbers_right : Callee P w K mg base "_law_numbers_right" 1 ["_law_net_here", "_law_counts", "_law_numbers"] spNumR27) :
    FnOk P w K mg base CX0 9 f fd ["_law_script"] (spLaw K) := by
  refine F.fn.ok sc_law (fun vs H Q E h => ?_) (fun cdv A outer s H vs Q E hr h => ?_)
  · obtain ⟨a, ns, rfl, _⟩ := h
    rfl
  · obtain ⟨a, ns, rfl, hS, h63, q⟩ := h
    refine ⟨_, (pss_cons (ps_set (i := 1) sc_law.nd rfl (by first | exact Or.inl rfl | exact Or.inr rfl) (pe_callC C_law_net (hr.mono (by first | decide | (first | lia | omega))) rfl (pa_cons (pe_callC C_law_pen (hr.mono (by first | decide | (first | lia | omega))) rfl (pa_cons (pv 0) (pa_cons pe_int pa_nil))) pa_nil)))
    (pss_cons (ps_set (i := 2) sc_law.nd rfl (by first | exact Or.inl rfl | exact Or.inr rfl) (pe_callC C_law_pen (hr.mono (by first | decide | (first | lia | omega))) rfl (pa_cons (pv 0) (pa_cons pe_int pa_nil))))
    (pss_cons (ps_set (i := 3) sc_law.nd rfl (by first | exact Or.inl rfl | exact Or.inr rfl) (pe_callC C_law_take (hr.mono (by first | decide | (first | lia | omega))) rfl (pa_cons (pv 2) (pa_cons pe_int pa_nil))))
    (pss_cons (ps_set (i := 4) sc_law.nd rfl (by first | exact Or.inl rfl | exact Or.inr rfl) (pe_lst pa_nil))
    (pss_cons (ps_setComp (i := 5) sc_law.nd rfl (by first | exact Or.inl rfl | exact Or.inr rfl) ["_law_lane"] [] rfl (pi_range1 rfl T.n_range (pa_cons (pe_ix ix_tup (pv 1) pe_int (fun _ _ => rfl)) pa_nil)) (fun _ _ _ _ _ _ => by exact (pg_name (i := 0) (show List.Nodup (["_law_lane"] : List Str) by decide +kernel) rfl (by first | exact Or.inl rfl | exact Or.inr rfl))) (fun _ _ _ _ _ _ => by exact pts_nil) (fun _ _ _ _ _ _ => by exact pe_int))
    (pss_cons (ps_for PassesOwn.never rfl  (pi_range1 rfl T.n_range (pa_cons (pe_callC C_law_take (hr.mono (by first | decide | (first | lia | omega))) rfl (pa_cons (pv 2) (pa_cons pe_int pa_nil))) pa_nil)) (pg_name (i := 6) sc_law.nd rfl (by first | exact Or.inl rfl | exact Or.inr rfl))
    (pss_cons (ps_set (i := 7) sc_law.nd rfl (by first | exact Or.inl rfl | exact Or.inr rfl) (pe_callC C_law_take (hr.mono (by first | decide | (first | lia | omega))) rfl (pa_cons (pv 2) (pa_cons (pe_ix ix_tup (pv 1) pe_int (fun _ _ => rfl)) pa_nil))))
    (pss_cons (ps_set (i := 8) sc_law.nd rfl (by first | exact Or.inl rfl | exact Or.inr rfl) (pe_op op_sub pe_int (pe_op op_mul pe_int (pe_callTy call_int1 rfl T.n_int boot_intT (pa_cons (pe_cmpR op_lt (pe_callC C_law_take (hr.mono (by first | decide | (first | lia | omega))) rfl (pa_cons (pv 2) (pa_cons pe_int pa_nil))) (pv 3) (nomark _)) pa_nil)))))
    (pss_cons (ps_expr (pe_bm PySem.F.plainAttrs_list PySem.F.slot_list_append PySem.F.type_list_append mt_append (pv 4) (pa_cons (pe_tup (pa_cons (pv 7) (pa_cons (pv 8) pa_nil))) pa_nil)))
    (pss_one (ps_asg (pe_op op_add (pe_ix ix_list (pv 5) (pv 7) (fun _ _ => rfl)) (pv 8)) (pg_sub (pv 5) (pv 7) set_list)))))))
    (pss_cons (ps_set (i := 9) sc_law.nd rfl (by first | exact Or.inl rfl | exact Or.inr rfl) (pe_callC C_law_played (hr.mono (by first | decide | (first | lia | omega))) rfl (pa_cons (pv 1) (pa_cons (pv 4) (pa_cons (pe_callC C_law_pen (hr.mono (by first | decide | (first | lia | omega))) rfl (pa_cons (pv 0) (pa_cons pe_int pa_nil))) (pa_cons (pe_op op_add pe_int (pe_callC C_law_take (hr.mono (by first | decide | (first | lia | omega))) rfl (pa_cons (pv 2) (pa_cons pe_int pa_nil)))) pa_nil))))))
    (pss_cons (ps_set (i := 10) sc_law.nd rfl (by first | exact Or.inl rfl | exact Or.inr rfl) (pe_callC C_law_played (hr.mono (by first | decide | (first | lia | omega))) rfl (pa_cons (pv 1) (pa_cons (pe_sliceRev (pv 4) (pe_un un_neg pe_int)) (pa_cons (pe_callC C_law_pen (hr.mono (by first | decide | (first | lia | omega))) rfl (pa_cons (pv 0) (pa_cons pe_int pa_nil))) (pa_cons (pe_op op_add pe_int (pe_callC C_law_take (hr.mono (by first | decide | (first | lia | omega))) rfl (pa_cons (pv 2) (pa_cons pe_int pa_nil)))) pa_nil))))))
    (pss_cons (ps_if (PW.pt (pw_or (pt_cmpR op_isN (pv 9) pe_non (nomark _)) (pw_or (pt_cmpR op_isN (pv 10) pe_non (nomark _)) (pw_or (pt_cmpR (op_neD hr.units) (pe_slice sl_tupU (pv 9) po_none (po_some pe_int)) (pe_slice sl_tupU (pv 10) po_none (po_some pe_int)) (nomark _)) (pw_or1 (pt_cmpR (op_neL hr.units) (pe_ix ix_tup (pv 9) pe_int (fun _ _ => rfl)) (pe_callC C_law_exits (hr.mono (by first | decide | (first | lia | omega))) rfl (pa_cons (pv 1) (pa_cons (pv 5) pa_nil))) (nomark _)))))))
    (pss_one (ps_ret pe_bl))
    pss_nil)
    (pss_one (ps_ret (pe_and (pe_callC C_law_numbers_right (hr.mono (by first | decide | (first | lia | omega))) rfl (pa_cons (pv 1) (pa_cons (pe_ix ix_tup (pv 9) pe_int (fun _ _ => rfl)) (pa_cons (pe_ix ix_tup (pv 9) pe_int (fun _ _ => rfl)) pa_nil)))) (pe_one (pe_callC C_law_numbers_right (hr.mono (by first | decide | (first | lia | omega))) rfl (pa_cons (pv 1) (pa_cons (pe_ix ix_tup (pv 10) pe_int (fun _ _ => rfl)) (pa_cons (pe_ix ix_tup (pv 10) pe_int (fun _ _ => rfl)) pa_nil))))))))))))))))), ?_⟩
    refine ⟨_, rfl, a, ns, 0, rfl, hS, h63, by (first | lia | omega), by (first | lia | omega), fun p0 pa pb pc fp => ?_⟩
    refine ⟨p0, rfl, ⟨_, _, _, upd_same⟩, fun v wide ws H1 k1 pn1 net w1 w8 ok len => ?_⟩
    have s1 : Same H H1 := Kp.fresh fp k1
    obtain ⟨n, tn, rns, ev, hn, htn, hrs⟩ := id net
    subst ev
    have nt1 : NetOk H1 (.ref n) wide ws := ⟨net, w1, w8, ok, len⟩
    have ntk : ∀ {Hc : Hp}, Same H1 Hc → NetOk Hc (.ref n) wide ws := fun t => nt1.kt (KT.same t (KT.refl _))
    refine ⟨_, rfl, a, ns, 1, rfl, s1.seq hS, h63, by (first | lia | omega), by (first | lia | omega), fun pn ea eb ec fpn => ?_⟩
    have s2 : Same H1 (upd H1 pn (HO.lst [V.int ea, V.int eb, V.int ec])) := same_new fpn _
    have xpn : (upd H1 pn (HO.lst [V.int ea, V.int eb, V.int ec])) pn = some (.lst [V.int ea, V.int eb, V.int ec]) := upd_same
    generalize upd H1 pn (HO.lst [V.int ea, V.int eb, V.int ec]) = H2 at s2 xpn
    refine ⟨_, rfl, pn, ea, eb, ec, 3, rfl, xpn, by decide, by decide, fun share ea1 eb1 ec1 sh0 sh3 => ?_⟩
    have s3 : Same H1 (upd H2 pn (HO.lst [V.int ea1, V.int eb1, V.int ec1])) := Same.put fpn s2
    have xp3 : (upd H2 pn (HO.lst [V.int ea1, V.int eb1, V.int ec1])) pn = some (.lst [V.int ea1, V.int eb1, V.int ec1]) := upd_same
    generalize upd H2 pn (HO.lst [V.int ea1, V.int eb1, V.int ec1]) = H3 at s3 xp3
    refine ⟨lenLine (by show 0 ≤ 100000; decide), fun le fle => ?_⟩
    have s4 : Same H3 (upd H3 le (HO.lst [])) := same_new fle _
    have xe4 : (upd H3 le (HO.lst [])) le = some (.lst []) := upd_same
    generalize upd H3 le (HO.lst []) = H4 at s4 xe4
    have s14 := Same.trans s3 s4
    refine ⟨_, rfl, n, _, _, _, rfl, rfl, SqT.of (s14 _ _ hn), rfl, ?_⟩
    refine ⟨wide, rfl, by (first | lia | omega), by (first | lia | omega), fun lc flc => ?_⟩
    refine comp_range (n := wide.toNat) (fun j ys Hc => Same H4 Hc ∧ Hc lc = some (.lst ys) ∧ ys = (List.replicate j (0 : Int)).map V.int) ⟨Same.put flc (Same.refl _), upd_same, rfl⟩ (lenLine (by (first | lia | omega)))
      (fun j ys Hc ⟨s1, e1, r1⟩ => ⟨e1, by rw [r1]; simp⟩) ?_ ?_
    · rintro j ys Hc hj ⟨s1, e1, rfl⟩
      refine ⟨⟨.inl rfl, trivial⟩, tru_if ?_⟩
      refine ⟨e1, Same.put flc s1, upd_same, ?_⟩
      rw [List.replicate_succ', List.map_append]
      rfl
    rintro ys H5 ⟨s5, xc5, rfl⟩
    have s15 := Same.trans s14 s5
    have xp5 := s5 _ _ (s4 _ _ xp3)
    have xe5 := s5 _ _ xe4
    have npe : pn ≠ le := ne_of_none xp3 fle
    have npc : pn ≠ lc := ne_of_none (s4 _ _ xp3) flc
    have nec : le ≠ lc := ne_of_none xe4 flc
    have fle1 : H1 le = none := s3.free fle
    have flc1 : H1 lc = none := s14.free flc
    refine ⟨_, rfl, pn, _, _, _, 25, rfl, xp5, by decide, by decide, fun many ea2 eb2 ec2 m0 m25 => ?_⟩
    have s6 : Same H1 (upd H5 pn (HO.lst [V.int ea2, V.int eb2, V.int ec2])) := Same.put fpn s15
    have xp6 : (upd H5 pn (HO.lst [V.int ea2, V.int eb2, V.int ec2])) pn = some (.lst [V.int ea2, V.int eb2, V.int ec2]) := upd_same
    have xe6 : (upd H5 pn (HO.lst [V.int ea2, V.int eb2, V.int ec2])) le = some (.lst []) := (upd_ne (Ne.symm npe)).trans xe5
    have xc6 : (upd H5 pn (HO.lst [V.int ea2, V.int eb2, V.int ec2])) lc = some (.lst ((cntE wide []).map V.int)) := by rw [upd_ne (Ne.symm npc), cntE_nil]; exact xc5
    generalize upd H5 pn (HO.lst [V.int ea2, V.int eb2, V.int ec2]) = H6 at s6 xp6 xe6 xc6
    refine ⟨many, rfl, by (first | lia | omega), by (first | lia | omega), ?_⟩
    refine for_range (n := many.toNat) (fun i σ Hc => ∃ (v6 v7 v8 : Option V) (es : List (Int × Int)), σ = [some (.ref a), some (.ref n), some (.ref pn), some (.int share), some (.ref le), some (.ref lc), v6, v7, v8, none, none] ∧ Same H1 Hc ∧ Pen Hc pn ∧ WsL Hc le es ∧ Hc lc = some (.lst ((cntE wide es).map V.int)) ∧ es.length = i ∧ ∀ e ∈ es, 0 ≤ e.1 ∧ e.1 < wide ∧ (e.2 = 1 ∨ e.2 = -1))
      ⟨none, none, none, [], rfl, s6, ⟨_, _, _, xp6⟩, ⟨[], xe6, .nil⟩, xc6, rfl, fun _ h => (nomatch h)⟩ ?_ ?_
    · rintro i σ Hc hi ⟨v6, v7, v8, es, rfl, sc, ⟨p1, p2, p3, hp⟩, wsl, hc, les, hes⟩
      refine ⟨_, rfl, _, rfl, n, _, _, _, rfl, rfl, SqT.of (sc _ _ hn), rfl, pn, p1, p2, p3, wide, rfl, hp, by (first | lia | omega), by (first | lia | omega), fun lane q1 q2 q3 l0 l1 => ?_⟩
      have sd : Same H1 (upd Hc pn (HO.lst [V.int q1, V.int q2, V.int q3])) := Same.put fpn sc
      have hpd : (upd Hc pn (HO.lst [V.int q1, V.int q2, V.int q3])) pn = some (.lst [V.int q1, V.int q2, V.int q3]) := upd_same
      have wd := WsL.put (o := HO.lst [V.int q1, V.int q2, V.int q3]) wsl hp (Ne.symm npe)
      have hcd : (upd Hc pn (HO.lst [V.int q1, V.int q2, V.int q3])) lc = some (.lst ((cntE wide es).map V.int)) := (upd_ne (Ne.symm npc)).trans hc
      generalize upd Hc pn (HO.lst [V.int q1, V.int q2, V.int q3]) = Hd at sd hpd wd hcd
      refine ⟨_, rfl, pn, q1, q2, q3, 4, rfl, hpd, by decide, by decide, fun tv r1 r2 r3 tv0 tv4 => ?_⟩
      have se : Same H1 (upd Hd pn (HO.lst [V.int r1, V.int r2, V.int r3])) := Same.put fpn sd
      have hpe : (upd Hd pn (HO.lst [V.int r1, V.int r2, V.int r3])) pn = some (.lst [V.int r1, V.int r2, V.int r3]) := upd_same
      have we := WsL.put (o := HO.lst [V.int r1, V.int r2, V.int r3]) wd hpd (Ne.symm npe)
      have hce : (upd Hd pn (HO.lst [V.int r1, V.int r2, V.int r3])) lc = some (.lst ((cntE wide es).map V.int)) := (upd_ne (Ne.symm npc)).trans hcd
      generalize upd Hd pn (HO.lst [V.int r1, V.int r2, V.int r3]) = He at se hpe we hce
      obtain ⟨bk, ebk, hbk⟩ : ∃ bk : Int, (bk = 0 ∨ bk = 1) ∧ (if decide (tv < share) then (1 : Int) else 0) = bk := by
        by_cases g : tv < share
        · exact ⟨1, .inr rfl, by simp [g]⟩
        · exact ⟨0, .inl rfl, by simp [g]⟩
      refine ⟨_, rfl, _, _, rfl, rfl, .inr ⟨_, rfl, ?_⟩⟩
      rw [hbk]
      refine ⟨_, _, rfl, rfl, .inl ⟨by decide, by decide⟩, _, _, rfl, rfl, ?_⟩
      have hg : (1 - 2 * bk = 1) ∨ (1 - 2 * bk = -1) := by (first | lia | omega)
      obtain ⟨g, eg⟩ : ∃ g, g = 1 - 2 * bk := ⟨_, rfl⟩
      rw [← eg] at hg
      have zg : ∀ {R : V → Prop}, R (V.int g) → R (V.int (1 - 2 * bk)) := fun h => by rw [← eg]; exact h
      rw [← eg]
      obtain ⟨re, he, rre⟩ := we
      refine ⟨_, rfl, .inl ⟨rfl, _, SqL.of he⟩, _, rfl, _, rfl, lenLine (by show 2 ≤ 100000; decide), fun t6 f6 => ?_⟩
      have s6' : Same He (upd He t6 (HO.tup [V.int lane, V.int g])) := same_new f6 _
      have x6 : (upd He t6 (HO.tup [V.int lane, V.int g])) t6 = some (.tup [V.int lane, V.int g]) := upd_same
      generalize upd He t6 (HO.tup [V.int lane, V.int g]) = Hf at s6' x6
      have lre := rre.len
      refine ⟨le, _, _, rfl, rfl, s6' _ _ he, lenLt (by (first | lia | omega)), ?_⟩
      have ktg : KT Hf (upd Hf le (HO.lst (re ++ [V.ref t6]))) := KT.lst (s6' _ _ he) (KT.refl _)
      have sg : Same H1 (upd Hf le (HO.lst (re ++ [V.ref t6]))) := Same.put fle1 (Same.trans se s6')
      have wg : WsL (upd Hf le (HO.lst (re ++ [V.ref t6]))) le (es ++ [(lane, g)]) := ⟨_, upd_same, Refs.app (rre.mono fun b xs z => ktg _ _ (s6' _ _ z)) (.cons ⟨t6, rfl, ktg _ _ x6⟩ .nil)⟩
      have hpg : (upd Hf le (HO.lst (re ++ [V.ref t6]))) pn = some (.lst [V.int r1, V.int r2, V.int r3]) := (upd_ne npe).trans (s6' _ _ hpe)
      have hcg : (upd Hf le (HO.lst (re ++ [V.ref t6]))) lc = some (.lst ((cntE wide es).map V.int)) := (upd_ne (Ne.symm nec)).trans (s6' _ _ hce)
      generalize upd Hf le (HO.lst (re ++ [V.ref t6])) = Hg at ktg sg wg hpg hcg
      have cl := cntE_len wide es
      refine ⟨_, rfl, _, rfl, lc, _, _, _, rfl, rfl, SqL.of hcg, atI_int l0 (by (first | lia | omega)), _, rfl, _, _, rfl, rfl, ?_⟩
      refine ⟨_, rfl, _, rfl, lc, _, _, lane.toNat, rfl, rfl, hcg, ?_, ?_⟩
      · unfold ixN
        rw [if_pos l0, if_pos (by rw [List.length_map]; (first | lia | omega))]
      refine ⟨_, _, _, es ++ [(lane, g)], rfl, Same.put flc1 sg, ⟨_, _, _, (upd_ne npc).trans hpg⟩, WsL.put wg hcg nec, ?_, by rw [List.length_append, les]; rfl, fun e he => ?_⟩
      · rw [upd_same, cntE_snoc es l0 l1, List.map_set]
      · rcases List.mem_append.mp he with h | h
        · exact hes e h
        · rw [List.mem_singleton.mp h]
          exact ⟨l0, l1, hg⟩
    rintro σ H7 ⟨v6, v7, v8, es, rfl, s7, ⟨p1, p2, p3, hp7⟩, wsl7, hc7, les, hes⟩
    obtain ⟨re, he7, rre⟩ := id wsl7
    -- one
    refine ⟨_, rfl, _, rfl, _, rfl, a, ns, 2, rfl, (Same.trans s1 s7).seq hS, h63, by (first | lia | omega), by (first | lia | omega), fun pa2 eA eB eC fpa => ?_⟩
    have s8 : Same H7 (upd H7 pa2 (HO.lst [V.int eA, V.int eB, V.int eC])) := same_new fpa _
    have xa8 : (upd H7 pa2 (HO.lst [V.int eA, V.int eB, V.int eC])) pa2 = some (.lst [V.int eA, V.int eB, V.int eC]) := upd_same
    generalize upd H7 pa2 (HO.lst [V.int eA, V.int eB, V.int eC]) = H8 at s8 xa8
    have npa : pn ≠ pa2 := ne_of_none hp7 fpa
    refine ⟨_, rfl, pn, p1, p2, p3, 9, rfl, s8 _ _ hp7, by decide, by decide, fun ofa r1 r2 r3 ofa0 ofa9 => ?_⟩
    have s9 : Same H1 (upd H8 pn (HO.lst [V.int r1, V.int r2, V.int r3])) := Same.put fpn (Same.trans s7 s8)
    have hp9 : (upd H8 pn (HO.lst [V.int r1, V.int r2, V.int r3])) pn = some (.lst [V.int r1, V.int r2, V.int r3]) := upd_same
    have xa9 : (upd H8 pn (HO.lst [V.int r1, V.int r2, V.int r3])) pa2 = some (.lst [V.int eA, V.int eB, V.int eC]) := (upd_ne (Ne.symm npa)).trans xa8
    have we9 := WsL.put (o := HO.lst [V.int r1, V.int r2, V.int r3]) (wsl7.same s8) (s8 _ _ hp7) (Ne.symm npe)
    have hc9 : (upd H8 pn (HO.lst [V.int r1, V.int r2, V.int r3])) lc = some (.lst ((cntE wide es).map V.int)) := (upd_ne (Ne.symm npc)).trans (s8 _ _ hc7)
    generalize upd H8 pn (HO.lst [V.int r1, V.int r2, V.int r3]) = H9 at s9 hp9 xa9 we9 hc9
    have nea : le ≠ pa2 := ne_of_none he7 fpa
    have nca : lc ≠ pa2 := ne_of_none hc7 fpa
    have fpa1 : H1 pa2 = none := s7.free fpa
    refine ⟨_, _, rfl, rfl, .ref n, wide, ws, le, es, pa2, 1 + ofa, rfl, ntk s9, we9, by (first | lia | omega), hes, ⟨_, _, _, xa9⟩, by (first | lia | omega), by (first | lia | omega), nea, fun t1 c1 f1 d1 sh1 kv1 ts1 H10 ft1 fd1 fc1 ff1 xt1 xc1 xf1 ls1 ps1 xd1 lf1 ac1 lt1 fw1 k10 pe10 => ?_⟩
    have s10 : Same H1 H10 := fun b o e => k10 b o (s9 b o e) (fun z => by rw [z, fpa1] at e; cases e)
    have hp10 := k10 _ _ hp9 npa
    have hc10 := k10 _ _ hc9 nca
    have we10 : WsL H10 le es := let ⟨r, h1, h2⟩ := we9; ⟨r, k10 _ _ h1 nea, h2.mono fun b xs e => k10.tup xa9 e⟩
    obtain ⟨re10, he10, rre10⟩ := id we10
    -- the other
    refine ⟨_, rfl, _, rfl, _, rfl, le, _, rfl, rfl, SqL.of he10, fun lr flr => ?_⟩
    have s11 : Same H10 (upd H10 lr (HO.lst re10.reverse)) := same_new flr _
    have xr11 : (upd H10 lr (HO.lst re10.reverse)) lr = some (.lst re10.reverse) := upd_same
    generalize upd H10 lr (HO.lst re10.reverse) = H11 at s11 xr11
    have s1b := Same.trans s10 s11
    refine ⟨_, rfl, a, ns, 3, rfl, (Same.trans s1 s1b).seq hS, h63, by (first | lia | omega), by (first | lia | omega), fun pb2 eA' eB' eC' fpb => ?_⟩
    have s12 : Same H11 (upd H11 pb2 (HO.lst [V.int eA', V.int eB', V.int eC'])) := same_new fpb _
    have xb12 : (upd H11 pb2 (HO.lst [V.int eA', V.int eB', V.int eC'])) pb2 = some (.lst [V.int eA', V.int eB', V.int eC']) := upd_same
    generalize upd H11 pb2 (HO.lst [V.int eA', V.int eB', V.int eC']) = H12 at s12 xb12
    have npb : pn ≠ pb2 := ne_of_none (s11 _ _ hp10) fpb
    have s1012 := Same.trans s11 s12
    refine ⟨_, rfl, pn, r1, r2, r3, 9, rfl, s1012 _ _ hp10, by decide, by decide, fun ofb u1 u2 u3 ofb0 ofb9 => ?_⟩
    have kp13 : Kp pn H10 (upd H12 pn (HO.lst [V.int u1, V.int u2, V.int u3])) := Kp.trans (Kp.same s1012) Kp.upd
    have s13 : Same H1 (upd H12 pn (HO.lst [V.int u1, V.int u2, V.int u3])) := Same.put fpn (Same.trans s10 s1012)
    have xb13 : (upd H12 pn (HO.lst [V.int u1, V.int u2, V.int u3])) pb2 = some (.lst [V.int eA', V.int eB', V.int eC']) := (upd_ne (Ne.symm npb)).trans xb12
    have nrn : lr ≠ pn := Ne.symm (ne_of_none hp10 flr)
    have wr13 : WsL (upd H12 pn (HO.lst [V.int u1, V.int u2, V.int u3])) lr es.reverse := WsL.put ⟨_, s12 _ _ xr11, (Refs.rev rre10).same s1012⟩ (s1012 _ _ hp10) nrn
    generalize upd H12 pn (HO.lst [V.int u1, V.int u2, V.int u3]) = H13 at kp13 s13 xb13 wr13
    have nrb : lr ≠ pb2 := ne_of_none xr11 fpb
    have fpb1 : H1 pb2 = none := s1b.free fpb
    have fpb10 : H10 pb2 = none := s11.free fpb
    refine ⟨_, _, rfl, rfl, .ref n, wide, ws, lr, es.reverse, pb2, 1 + ofb, rfl, ntk s13, wr13, by rw [List.length_reverse]; (first | lia | omega), fun e he => hes e (List.mem_reverse.mp he), ⟨_, _, _, xb13⟩, by (first | lia | omega), by (first | lia | omega), nrb, fun t2 c2 f2 d2 sh2 kv2 ts2 H14 ft2 fd2 fc2 ff2 xt2 xc2 xf2 ls2 ps2 xd2 lf2 ac2 lt2 fw2 k14 pe14 => ?_⟩
    have ecn : cntE wide es.reverse = cntE wide es := cntE_perm (List.reverse_perm es)
    rw [ecn] at xc2 ps2 ac2 fw2
    have s14' : Same H1 H14 := fun b o e => k14 b o (s13 b o e) (fun z => by rw [z, fpb1] at e; cases e)
    have old : ∀ {b : Addr} {o : HO}, H10 b = some o → b ≠ pn → H14 b = some o := fun {b o} e nb => k14 _ _ (kp13 _ _ e nb) (fun z => by rw [z, fpb10] at e; cases e)
    have nt1n : ∀ {b : Addr} {o : HO}, H9 b = none → H10 b = some o → b ≠ pn := fun h1 h2 z => by rw [z, hp9] at h1; cases h1
    have yt1 := old xt1 (nt1n ft1 xt1)
    have yd1 := old xd1 (nt1n fd1 xd1)
    have yc1 := old xc1 (nt1n fc1 xc1)
    have yf1 := old xf1 (nt1n ff1 xf1)
    have yl := old hc10 (Ne.symm npc)
    have ecc : sh1 = sh2 := by
      refine List.ext_getElem? fun k => ?_
      by_cases hk : k < ws.length
      · have hw : ws[k]? = some ws[k] := by simp [hk]
        rw [getD_lt (show k < sh1.length by (first | lia | omega)), getD_lt (show k < sh2.length by (first | lia | omega)), ps1 k _ hw, ps2 k _ hw]
      · rw [List.getElem?_eq_none (by (first | lia | omega)), List.getElem?_eq_none (by (first | lia | omega))]
    subst ecc
    refine ⟨_, rfl, rfl, _, rfl, iteFd (by simp) ?_⟩
    refine ⟨_, rfl, rfl, _, rfl, iteFd (by simp) ?_⟩
    refine ⟨_, rfl, _, rfl, t1, _, rfl, yt1, fun ta Ha sa xa => ?_⟩
    refine ⟨_, rfl, _, rfl, t2, _, rfl, sa _ _ xt2, fun tb Hb sb xb => ?_⟩
    have xa' : Ha ta = some (.tup [.ref c1, .ref f1]) := xa
    have xb' : Hb tb = some (.tup [.ref c2, .ref f2]) := xb
    have sab := Same.trans sa sb
    refine ⟨_, _, (.tup (sb _ _ xa') (.cons (Dat.ints (sab _ _ yc1)) (.cons (Dat.ints (sab _ _ yf1)) .nil)) : Dat Hb (.ref ta) (twoD (thruM (cntE wide es) ws) sh1)), (.tup xb' (.cons (Dat.ints (sab _ _ xc2)) (.cons (Dat.ints (sab _ _ xf2)) .nil)) : Dat Hb (.ref tb) (twoD (thruM (cntE wide es) ws) sh1)), shaped_two _ _, shaped_two _ _, mix_two _ _, _, rfl, iteFd (by simp [PyProof.Rows.same_refl]) ?_⟩
    have s1B := Same.trans s14' sab
    refine ⟨_, rfl, t1, _, _, _, rfl, rfl, SqT.of (sab _ _ yt1), rfl, _, rfl, _, rfl, .ref n, wide, ws, lc, cntE wide es, rfl, ntk s1B, sab _ _ yl, cntE_len _ _, fun ce Hc fce sc xce => ?_⟩
    have sC := Same.trans sab sc
    have s1C := Same.trans s14' sC
    refine ⟨c1, ce, _, _, rfl, rfl, SqL.of (sC _ _ yc1), SqL.of xce, _, rfl, iteFd (by simp) ?_⟩
    have tlen : (thruM (cntE wide es) ws).length = wide.toNat := by rw [thruM_len, cntE_len]
    refine ⟨_, rfl, _, rfl, t1, _, _, _, rfl, rfl, SqT.of (sC _ _ yt1), rfl, _, rfl, t1, _, _, _, rfl, rfl, SqT.of (sC _ _ yt1), rfl, .ref n, wide, ws, c1, d1, _, kv1, ts1, rfl, ntk s1C, sC _ _ yc1, sC _ _ yd1, lf1, ac1, tlen, fw1, lt1, fun Hf kf => ?_⟩
    refine ⟨_, rfl, iteTd rfl ?_⟩
    have zd := sC _ _ yd1
    have ktf : KT Hc Hf := fun b xs e => kf _ _ e (ne_of e zd (by intro z; cases z))
    have nd : d2 ≠ d1 := Ne.symm (ne_of_none (kp13 _ _ xd1 (nt1n fd1 xd1)) fd2)
    have zt2 := ktf _ _ (sC _ _ xt2)
    refine ⟨_, rfl, _, rfl, t2, _, _, _, rfl, rfl, SqT.of zt2, rfl, _, rfl, t2, _, _, _, rfl, rfl, SqT.of zt2, rfl, .ref n, wide, ws, c2, d2, _, kv2, ts2, rfl, (ntk s1C).kt ktf, kf _ _ (sC _ _ xc2) (ne_of (sC _ _ xc2) zd (by intro z; cases z)), kf _ _ (sC _ _ xd2) nd, lf2, ac2, tlen, fw2, lt2, fun Hg kg => ?_⟩
    exact q Hg
end
end Ep
namespace Ep
open PySem L2 PySem.SeqAt
theorem us1 {us : List Value} (h : us.length = 1) : ∃ a, us = [a] := by
  cases us with
  | nil => cases h
  | cons a r => cases r with
    | nil => exact ⟨a, rfl⟩
    | cons b r => simp at h
theorem us2 {us : List Value} (h : us.length = 2) : ∃ a b, us = [a, b] := by
  cases us with
  | nil => cases h
  | cons x r =>
    obtain ⟨a, rfl⟩ := us1 (us := r) (by simpa using h)
    exact ⟨x, a, rfl⟩
theorem us3 {us : List Value} (h : us.length = 3) : ∃ a b c, us = [a, b, c] := by
  cases us with
  | nil => cases h
  | cons x r =>
    obtain ⟨a, b, rfl⟩ := us2 (us := r) (by simpa using h)
    exact ⟨x, a, b, rfl⟩
theorem us4 {us : List Value} (h : us.length = 4) : ∃ a b c d, us = [a, b, c, d] := by
  cases us with
  | nil => cases h
  | cons x r =>
    obtain ⟨a, b, c, rfl⟩ := us3 (us := r) (by simpa using h)
    exact ⟨x, a, b, c, rfl⟩
theorem us5 {us : List Value} (h : us.length = 5) : ∃ a b c d e, us = [a, b, c, d, e] := by
  cases us with
  | nil => cases h
  | cons x r =>
    obtain ⟨a, b, c, d, rfl⟩ := us4 (us := r) (by simpa using h)
    exact ⟨x, a, b, c, d, rfl⟩
theorem us6 {us : List Value} (h : us.length = 6) : ∃ a b c d e f, us = [a, b, c, d, e, f] := by
  cases us with
  | nil => cases h
  | cons x r =>
    obtain ⟨a, b, c, d, e, rfl⟩ := us5 (us := r) (by simpa using h)
    exact ⟨x, a, b, c, d, e, rfl⟩
theorem us7 {us : List Value} (h : us.length = 7) : ∃ a b c d e f g, us = [a, b, c, d, e, f, g] := by
  cases us with
  | nil => cases h
  | cons x r =>
    obtain ⟨a, b, c, d, e, f, rfl⟩ := us6 (us := r) (by simpa using h)
    exact ⟨x, a, b, c, d, e, f, rfl⟩
theorem all_mk {l : PySem.W.OpenLaw} {w : World} {K : PySem.W.Frag} {h : Heap} {mg : Str → Option Value} {fa : Addr} (X : K.In h) (G : h.Ns mainGlobals mg) (hfa : mg "law" = some (.ref fa))
    {C : Addr} (aC : PySem.W.nsIn K mainGlobals "Play" = some (some (.ref C))) (pg : PySem.W.plainGet K C Str.empty = true) (hd : PySem.W.hasDictIn K C = true) (po : PySem.W.plainOver K C = true) (sa : PySem.W.findIn K (.ref C) "__setattr__" = some (some (.builtin "object.__setattr__"))) (mk : PySem.W.makesIn K C = true) (kc : PySem.W.keepIn K (.ref C) = true) (n_net : PySem.W.findIn K (.ref C) "net" = some none) (n_facing : PySem.W.findIn K (.ref C) "facing" = some none) (n_tally : PySem.W.findIn K (.ref C) "tally" = some none) (n_places : PySem.W.findIn K (.ref C) "places" = some none) (n_changes : PySem.W.findIn K (.ref C) "changes" = some none)
    {f1 : Addr} {od1 an1 : Option Addr} {sl1 : Array (Option Value)} {oc1 kV1 dc1 pm1 cd1 ct1 : Value}
    (a1 : PySem.W.nsIn K mainGlobals "_law_take" = some (some (.ref f1))) (l1 : K.lookup f1 = some ⟨oc1, od1, .func (PySem.W.fnOf "_law_take" "_law_take" (defArgs s_take) (defBody s_take) (defScope s_take) .none kV1 dc1 pm1 an1 cd1 ct1), sl1⟩) (c1 : PySem.W.codeIn K cd1 "_law_take" = true) (k1 : PySem.W.keepIn K (.ref f1) = true)
    {f2 : Addr} {od2 an2 : Option Addr} {sl2 : Array (Option Value)} {oc2 kV2 dc2 pm2 cd2 ct2 : Value}
    (a2 : PySem.W.nsIn K mainGlobals "_law_pen" = some (some (.ref f2))) (l2 : K.lookup f2 = some ⟨oc2, od2, .func (PySem.W.fnOf "_law_pen" "_law_pen" (defArgs s_pen) (defBody s_pen) (defScope s_pen) .none kV2 dc2 pm2 an2 cd2 ct2), sl2⟩) (c2 : PySem.W.codeIn K cd2 "_law_pen" = true) (k2 : PySem.W.keepIn K (.ref f2) = true)
    {f3 : Addr} {od3 an3 : Option Addr} {sl3 : Array (Option Value)} {oc3 kV3 dc3 pm3 cd3 ct3 : Value}
    (a3 : PySem.W.nsIn K mainGlobals "_law_wickets" = some (some (.ref f3))) (l3 : K.lookup f3 = some ⟨oc3, od3, .func (PySem.W.fnOf "_law_wickets" "_law_wickets" (defArgs s_wickets) (defBody s_wickets) (defScope s_wickets) .none kV3 dc3 pm3 an3 cd3 ct3), sl3⟩) (c3 : PySem.W.codeIn K cd3 "_law_wickets" = true) (k3 : PySem.W.keepIn K (.ref f3) = true)
    {f4 : Addr} {od4 an4 : Option Addr} {sl4 : Array (Option Value)} {oc4 kV4 dc4 pm4 cd4 ct4 : Value}
    (a4 : PySem.W.nsIn K mainGlobals "_law_lifted" = some (some (.ref f4))) (l4 : K.lookup f4 = some ⟨oc4, od4, .func (PySem.W.fnOf "_law_lifted" "_law_lifted" (defArgs s_lifted) (defBody s_lifted) (defScope s_lifted) .none kV4 dc4 pm4 an4 cd4 ct4), sl4⟩) (c4 : PySem.W.codeIn K cd4 "_law_lifted" = true) (k4 : PySem.W.keepIn K (.ref f4) = true)
    {f5 : Addr} {od5 an5 : Option Addr} {sl5 : Array (Option Value)} {oc5 kV5 dc5 pm5 cd5 ct5 : Value}
    (a5 : PySem.W.nsIn K mainGlobals "_law_folded" = some (some (.ref f5))) (l5 : K.lookup f5 = some ⟨oc5, od5, .func (PySem.W.fnOf "_law_folded" "_law_folded" (defArgs s_folded) (defBody s_folded) (defScope s_folded) .none kV5 dc5 pm5 an5 cd5 ct5), sl5⟩) (c5 : PySem.W.codeIn K cd5 "_law_folded" = true) (k5 : PySem.W.keepIn K (.ref f5) = true)
    {f6 : Addr} {od6 an6 : Option Addr} {sl6 : Array (Option Value)} {oc6 kV6 dc6 pm6 cd6 ct6 : Value}
    (a6 : PySem.W.nsIn K mainGlobals "_law_block" = some (some (.ref f6))) (l6 : K.lookup f6 = some ⟨oc6, od6, .func (PySem.W.fnOf "_law_block" "_law_block" (defArgs s_block) (defBody s_block) (defScope s_block) .none kV6 dc6 pm6 an6 cd6 ct6), sl6⟩) (c6 : PySem.W.codeIn K cd6 "_law_block" = true) (k6 : PySem.W.keepIn K (.ref f6) = true)
    {f7 : Addr} {od7 an7 : Option Addr} {sl7 : Array (Option Value)} {oc7 kV7 dc7 pm7 cd7 ct7 : Value}
    (a7 : PySem.W.nsIn K mainGlobals "_law_brick" = some (some (.ref f7))) (l7 : K.lookup f7 = some ⟨oc7, od7, .func (PySem.W.fnOf "_law_brick" "_law_brick" (defArgs s_brick) (defBody s_brick) (defScope s_brick) .none kV7 dc7 pm7 an7 cd7 ct7), sl7⟩) (c7 : PySem.W.codeIn K cd7 "_law_brick" = true) (k7 : PySem.W.keepIn K (.ref f7) = true)
    {f8 : Addr} {od8 an8 : Option Addr} {sl8 : Array (Option Value)} {oc8 kV8 dc8 pm8 cd8 ct8 : Value}
    (a8 : PySem.W.nsIn K mainGlobals "_law_rounds" = some (some (.ref f8))) (l8 : K.lookup f8 = some ⟨oc8, od8, .func (PySem.W.fnOf "_law_rounds" "_law_rounds" (defArgs s_rounds) (defBody s_rounds) (defScope s_rounds) .none kV8 dc8 pm8 an8 cd8 ct8), sl8⟩) (c8 : PySem.W.codeIn K cd8 "_law_rounds" = true) (k8 : PySem.W.keepIn K (.ref f8) = true)
    {f9 : Addr} {od9 an9 : Option Addr} {sl9 : Array (Option Value)} {oc9 kV9 dc9 pm9 cd9 ct9 : Value}
    (a9 : PySem.W.nsIn K mainGlobals "_law_bent" = some (some (.ref f9))) (l9 : K.lookup f9 = some ⟨oc9, od9, .func (PySem.W.fnOf "_law_bent" "_law_bent" (defArgs s_bent) (defBody s_bent) (defScope s_bent) .none kV9 dc9 pm9 an9 cd9 ct9), sl9⟩) (c9 : PySem.W.codeIn K cd9 "_law_bent" = true) (k9 : PySem.W.keepIn K (.ref f9) = true)
    {f10 : Addr} {od10 an10 : Option Addr} {sl10 : Array (Option Value)} {oc10 kV10 dc10 pm10 cd10 ct10 : Value}
    (a10 : PySem.W.nsIn K mainGlobals "_law_net" = some (some (.ref f10))) (l10 : K.lookup f10 = some ⟨oc10, od10, .func (PySem.W.fnOf "_law_net" "_law_net" (defArgs s_net) (defBody s_net) (defScope s_net) .none kV10 dc10 pm10 an10 cd10 ct10), sl10⟩) (c10 : PySem.W.codeIn K cd10 "_law_net" = true) (k10 : PySem.W.keepIn K (.ref f10) = true)
    {f11 : Addr} {od11 an11 : Option Addr} {sl11 : Array (Option Value)} {oc11 kV11 dc11 pm11 cd11 ct11 : Value}
    (a11 : PySem.W.nsIn K mainGlobals "is_whole" = some (some (.ref f11))) (l11 : K.lookup f11 = some ⟨oc11, od11, .func (PySem.W.fnOf "is_whole" "is_whole" (defArgs s_is_whole) (defBody s_is_whole) (defScope s_is_whole) .none kV11 dc11 pm11 an11 cd11 ct11), sl11⟩) (c11 : PySem.W.codeIn K cd11 "is_whole" = true) (k11 : PySem.W.keepIn K (.ref f11) = true)
    {f12 : Addr} {od12 an12 : Option Addr} {sl12 : Array (Option Value)} {oc12 kV12 dc12 pm12 cd12 ct12 : Value}
    (a12 : PySem.W.nsIn K mainGlobals "is_lane" = some (some (.ref f12))) (l12 : K.lookup f12 = some ⟨oc12, od12, .func (PySem.W.fnOf "is_lane" "is_lane" (defArgs s_is_lane) (defBody s_is_lane) (defScope s_is_lane) .none kV12 dc12 pm12 an12 cd12 ct12), sl12⟩) (c12 : PySem.W.codeIn K cd12 "is_lane" = true) (k12 : PySem.W.keepIn K (.ref f12) = true)
    {f13 : Addr} {od13 an13 : Option Addr} {sl13 : Array (Option Value)} {oc13 kV13 dc13 pm13 cd13 ct13 : Value}
    (a13 : PySem.W.nsIn K mainGlobals "place_on" = some (some (.ref f13))) (l13 : K.lookup f13 = some ⟨oc13, od13, .func (PySem.W.fnOf "place_on" "place_on" (defArgs s_place_on) (defBody s_place_on) (defScope s_place_on) .none kV13 dc13 pm13 an13 cd13 ct13), sl13⟩) (c13 : PySem.W.codeIn K cd13 "place_on" = true) (k13 : PySem.W.keepIn K (.ref f13) = true)
    {f14 : Addr} {od14 an14 : Option Addr} {sl14 : Array (Option Value)} {oc14 kV14 dc14 pm14 cd14 ct14 : Value}
    (a14 : PySem.W.findIn K (.ref C) "__init__" = some (some (.ref f14))) (i14 : PySem.W.isFn K (.ref f14) = true) (l14 : K.lookup f14 = some ⟨oc14, od14, .func (PySem.W.fnOf "__init__" "Play.__init__" (defArgs s_Play_init) (defBody s_Play_init) (defScope s_Play_init) .none kV14 dc14 pm14 an14 cd14 ct14), sl14⟩) (c14 : PySem.W.codeIn K cd14 "Play.__init__" = true) (k14 : PySem.W.keepIn K (.ref f14) = true)
    {f15 : Addr} {od15 an15 : Option Addr} {sl15 : Array (Option Value)} {oc15 kV15 dc15 pm15 cd15 ct15 : Value}
    (a15 : PySem.W.findIn K (.ref C) "come_in" = some (some (.ref f15))) (i15 : PySem.W.isFn K (.ref f15) = true) (l15 : K.lookup f15 = some ⟨oc15, od15, .func (PySem.W.fnOf "come_in" "Play.come_in" (defArgs s_Play_come_in) (defBody s_Play_come_in) (defScope s_Play_come_in) .none kV15 dc15 pm15 an15 cd15 ct15), sl15⟩) (c15 : PySem.W.codeIn K cd15 "Play.come_in" = true) (k15 : PySem.W.keepIn K (.ref f15) = true)
    {f16 : Addr} {od16 an16 : Option Addr} {sl16 : Array (Option Value)} {oc16 kV16 dc16 pm16 cd16 ct16 : Value}
    (a16 : PySem.W.findIn K (.ref C) "enter" = some (some (.ref f16))) (i16 : PySem.W.isFn K (.ref f16) = true) (l16 : K.lookup f16 = some ⟨oc16, od16, .func (PySem.W.fnOf "enter" "Play.enter" (defArgs s_Play_enter) (defBody s_Play_enter) (defScope s_Play_enter) .none kV16 dc16 pm16 an16 cd16 ct16), sl16⟩) (c16 : PySem.W.codeIn K cd16 "Play.enter" = true) (k16 : PySem.W.keepIn K (.ref f16) = true)
    {f17 : Addr} {od17 an17 : Option Addr} {sl17 : Array (Option Value)} {oc17 kV17 dc17 pm17 cd17 ct17 : Value}
    (a17 : PySem.W.findIn K (.ref C) "enter_back" = some (some (.ref f17))) (i17 : PySem.W.isFn K (.ref f17) = true) (l17 : K.lookup f17 = some ⟨oc17, od17, .func (PySem.W.fnOf "enter_back" "Play.enter_back" (defArgs s_Play_enter_back) (defBody s_Play_enter_back) (defScope s_Play_enter_back) .none kV17 dc17 pm17 an17 cd17 ct17), sl17⟩) (c17 : PySem.W.codeIn K cd17 "Play.enter_back" = true) (k17 : PySem.W.keepIn K (.ref f17) = true)
    {f18 : Addr} {od18 an18 : Option Addr} {sl18 : Array (Option Value)} {oc18 kV18 dc18 pm18 cd18 ct18 : Value}
    (a18 : PySem.W.findIn K (.ref C) "where" = some (some (.ref f18))) (i18 : PySem.W.isFn K (.ref f18) = true) (l18 : K.lookup f18 = some ⟨oc18, od18, .func (PySem.W.fnOf "where" "Play.where" (defArgs s_Play_where) (defBody s_Play_where) (defScope s_Play_where) .none kV18 dc18 pm18 an18 cd18 ct18), sl18⟩) (c18 : PySem.W.codeIn K cd18 "Play.where" = true) (k18 : PySem.W.keepIn K (.ref f18) = true)
    {f19 : Addr} {od19 an19 : Option Addr} {sl19 : Array (Option Value)} {oc19 kV19 dc19 pm19 cd19 ct19 : Value}
    (a19 : PySem.W.findIn K (.ref C) "turn" = some (some (.ref f19))) (i19 : PySem.W.isFn K (.ref f19) = true) (l19 : K.lookup f19 = some ⟨oc19, od19, .func (PySem.W.fnOf "turn" "Play.turn" (defArgs s_Play_turn) (defBody s_Play_turn) (defScope s_Play_turn) .none kV19 dc19 pm19 an19 cd19 ct19), sl19⟩) (c19 : PySem.W.codeIn K cd19 "Play.turn" = true) (k19 : PySem.W.keepIn K (.ref f19) = true)
    {f20 : Addr} {od20 an20 : Option Addr} {sl20 : Array (Option Value)} {oc20 kV20 dc20 pm20 cd20 ct20 : Value}
    (a20 : PySem.W.findIn K (.ref C) "pass_wicket" = some (some (.ref f20))) (i20 : PySem.W.isFn K (.ref f20) = true) (l20 : K.lookup f20 = some ⟨oc20, od20, .func (PySem.W.fnOf "pass_wicket" "Play.pass_wicket" (defArgs s_Play_pass_wicket) (defBody s_Play_pass_wicket) (defScope s_Play_pass_wicket) .none kV20 dc20 pm20 an20 cd20 ct20), sl20⟩) (c20 : PySem.W.codeIn K cd20 "Play.pass_wicket" = true) (k20 : PySem.W.keepIn K (.ref f20) = true)
    {f21 : Addr} {od21 an21 : Option Addr} {sl21 : Array (Option Value)} {oc21 kV21 dc21 pm21 cd21 ct21 : Value}
    (a21 : PySem.W.findIn K (.ref C) "leave" = some (some (.ref f21))) (i21 : PySem.W.isFn K (.ref f21) = true) (l21 : K.lookup f21 = some ⟨oc21, od21, .func (PySem.W.fnOf "leave" "Play.leave" (defArgs s_Play_leave) (defBody s_Play_leave) (defScope s_Play_leave) .none kV21 dc21 pm21 an21 cd21 ct21), sl21⟩) (c21 : PySem.W.codeIn K cd21 "Play.leave" = true) (k21 : PySem.W.keepIn K (.ref f21) = true)
    {f22 : Addr} {od22 an22 : Option Addr} {sl22 : Array (Option Value)} {oc22 kV22 dc22 pm22 cd22 ct22 : Value}
    (a22 : PySem.W.findIn K (.ref C) "step" = some (some (.ref f22))) (i22 : PySem.W.isFn K (.ref f22) = true) (l22 : K.lookup f22 = some ⟨oc22, od22, .func (PySem.W.fnOf "step" "Play.step" (defArgs s_Play_step) (defBody s_Play_step) (defScope s_Play_step) .none kV22 dc22 pm22 an22 cd22 ct22), sl22⟩) (c22 : PySem.W.codeIn K cd22 "Play.step" = true) (k22 : PySem.W.keepIn K (.ref f22) = true)
    {f23 : Addr} {od23 an23 : Option Addr} {sl23 : Array (Option Value)} {oc23 kV23 dc23 pm23 cd23 ct23 : Value}
    (a23 : PySem.W.findIn K (.ref C) "inside" = some (some (.ref f23))) (i23 : PySem.W.isFn K (.ref f23) = true) (l23 : K.lookup f23 = some ⟨oc23, od23, .func (PySem.W.fnOf "inside" "Play.inside" (defArgs s_Play_inside) (defBody s_Play_inside) (defScope s_Play_inside) .none kV23 dc23 pm23 an23 cd23 ct23), sl23⟩) (c23 : PySem.W.codeIn K cd23 "Play.inside" = true) (k23 : PySem.W.keepIn K (.ref f23) = true)
    {f24 : Addr} {od24 an24 : Option Addr} {sl24 : Array (Option Value)} {oc24 kV24 dc24 pm24 cd24 ct24 : Value}
    (a24 : PySem.W.findIn K (.ref C) "shown" = some (some (.ref f24))) (i24 : PySem.W.isFn K (.ref f24) = true) (l24 : K.lookup f24 = some ⟨oc24, od24, .func (PySem.W.fnOf "shown" "Play.shown" (defArgs s_Play_shown) (defBody s_Play_shown) (defScope s_Play_shown) .none kV24 dc24 pm24 an24 cd24 ct24), sl24⟩) (c24 : PySem.W.codeIn K cd24 "Play.shown" = true) (k24 : PySem.W.keepIn K (.ref f24) = true)
    {f25 : Addr} {od25 an25 : Option Addr} {sl25 : Array (Option Value)} {oc25 kV25 dc25 pm25 cd25 ct25 : Value}
    (a25 : PySem.W.findIn K (.ref C) "counts" = some (some (.ref f25))) (i25 : PySem.W.isFn K (.ref f25) = true) (l25 : K.lookup f25 = some ⟨oc25, od25, .func (PySem.W.fnOf "counts" "Play.counts" (defArgs s_Play_counts) (defBody s_Play_counts) (defScope s_Play_counts) .none kV25 dc25 pm25 an25 cd25 ct25), sl25⟩) (c25 : PySem.W.codeIn K cd25 "Play.counts" = true) (k25 : PySem.W.keepIn K (.ref f25) = true)
    {f26 : Addr} {od26 an26 : Option Addr} {sl26 : Array (Option Value)} {oc26 kV26 dc26 pm26 cd26 ct26 : Value}
    (a26 : PySem.W.nsIn K mainGlobals "_law_before" = some (some (.ref f26))) (l26 : K.lookup f26 = some ⟨oc26, od26, .func (PySem.W.fnOf "_law_before" "_law_before" (defArgs s_before) (defBody s_before) (defScope s_before) .none kV26 dc26 pm26 an26 cd26 ct26), sl26⟩) (c26 : PySem.W.codeIn K cd26 "_law_before" = true) (k26 : PySem.W.keepIn K (.ref f26) = true)
    {f27 : Addr} {od27 an27 : Option Addr} {sl27 : Array (Option Value)} {oc27 kV27 dc27 pm27 cd27 ct27 : Value}
    (a27 : PySem.W.nsIn K mainGlobals "_law_exits" = some (some (.ref f27))) (l27 : K.lookup f27 = some ⟨oc27, od27, .func (PySem.W.fnOf "_law_exits" "_law_exits" (defArgs s_exits) (defBody s_exits) (defScope s_exits) .none kV27 dc27 pm27 an27 cd27 ct27), sl27⟩) (c27 : PySem.W.codeIn K cd27 "_law_exits" = true) (k27 : PySem.W.keepIn K (.ref f27) = true)
    {f28 : Addr} {od28 an28 : Option Addr} {sl28 : Array (Option Value)} {oc28 kV28 dc28 pm28 cd28 ct28 : Value}
    (a28 : PySem.W.nsIn K mainGlobals "_law_let_by" = some (some (.ref f28))) (l28 : K.lookup f28 = some ⟨oc28, od28, .func (PySem.W.fnOf "_law_let_by" "_law_let_by" (defArgs s_let_by) (defBody s_let_by) (defScope s_let_by) .none kV28 dc28 pm28 an28 cd28 ct28), sl28⟩) (c28 : PySem.W.codeIn K cd28 "_law_let_by" = true) (k28 : PySem.W.keepIn K (.ref f28) = true)
    {f29 : Addr} {od29 an29 : Option Addr} {sl29 : Array (Option Value)} {oc29 kV29 dc29 pm29 cd29 ct29 : Value}
    (a29 : PySem.W.nsIn K mainGlobals "_law_left" = some (some (.ref f29))) (l29 : K.lookup f29 = some ⟨oc29, od29, .func (PySem.W.fnOf "_law_left" "_law_left" (defArgs s_left) (defBody s_left) (defScope s_left) .none kV29 dc29 pm29 an29 cd29 ct29), sl29⟩) (c29 : PySem.W.codeIn K cd29 "_law_left" = true) (k29 : PySem.W.keepIn K (.ref f29) = true)
    {f30 : Addr} {od30 an30 : Option Addr} {sl30 : Array (Option Value)} {oc30 kV30 dc30 pm30 cd30 ct30 : Value}
    (a30 : PySem.W.nsIn K mainGlobals "_law_step" = some (some (.ref f30))) (l30 : K.lookup f30 = some ⟨oc30, od30, .func (PySem.W.fnOf "_law_step" "_law_step" (defArgs s_step) (defBody s_step) (defScope s_step) .none kV30 dc30 pm30 an30 cd30 ct30), sl30⟩) (c30 : PySem.W.codeIn K cd30 "_law_step" = true) (k30 : PySem.W.keepIn K (.ref f30) = true)
    {f31 : Addr} {od31 an31 : Option Addr} {sl31 : Array (Option Value)} {oc31 kV31 dc31 pm31 cd31 ct31 : Value}
    (a31 : PySem.W.nsIn K mainGlobals "_law_steps" = some (some (.ref f31))) (l31 : K.lookup f31 = some ⟨oc31, od31, .func (PySem.W.fnOf "_law_steps" "_law_steps" (defArgs s_steps) (defBody s_steps) (defScope s_steps) .none kV31 dc31 pm31 an31 cd31 ct31), sl31⟩) (c31 : PySem.W.codeIn K cd31 "_law_steps" = true) (k31 : PySem.W.keepIn K (.ref f31) = true)
    {f32 : Addr} {od32 an32 : Option Addr} {sl32 : Array (Option Value)} {oc32 kV32 dc32 pm32 cd32 ct32 : Value}
    (a32 : PySem.W.nsIn K mainGlobals "_law_come_in" = some (some (.ref f32))) (l32 : K.lookup f32 = some ⟨oc32, od32, .func (PySem.W.fnOf "_law_come_in" "_law_come_in" (defArgs s_come_in) (defBody s_come_in) (defScope s_come_in) .none kV32 dc32 pm32 an32 cd32 ct32), sl32⟩) (c32 : PySem.W.codeIn K cd32 "_law_come_in" = true) (k32 : PySem.W.keepIn K (.ref f32) = true)
    {f33 : Addr} {od33 an33 : Option Addr} {sl33 : Array (Option Value)} {oc33 kV33 dc33 pm33 cd33 ct33 : Value}
    (a33 : PySem.W.nsIn K mainGlobals "_law_played" = some (some (.ref f33))) (l33 : K.lookup f33 = some ⟨oc33, od33, .func (PySem.W.fnOf "_law_played" "_law_played" (defArgs s_played) (defBody s_played) (defScope s_played) .none kV33 dc33 pm33 an33 cd33 ct33), sl33⟩) (c33 : PySem.W.codeIn K cd33 "_law_played" = true) (k33 : PySem.W.keepIn K (.ref f33) = true)
    {f34 : Addr} {od34 an34 : Option Addr} {sl34 : Array (Option Value)} {oc34 kV34 dc34 pm34 cd34 ct34 : Value}
    (a34 : PySem.W.nsIn K mainGlobals "_law_numbers_right" = some (some (.ref f34))) (l34 : K.lookup f34 = some ⟨oc34, od34, .func (PySem.W.fnOf "_law_numbers_right" "_law_numbers_right" (defArgs s_numbers_right) (defBody s_numbers_right) (defScope s_numbers_right) .none kV34 dc34 pm34 an34 cd34 ct34), sl34⟩) (c34 : PySem.W.codeIn K cd34 "_law_numbers_right" = true) (k34 : PySem.W.keepIn K (.ref f34) = true)
    {f35 : Addr} {od35 an35 : Option Addr} {sl35 : Array (Option Value)} {oc35 kV35 dc35 pm35 cd35 ct35 : Value}
    (a35 : PySem.W.nsIn K mainGlobals "law" = some (some (.ref f35))) (l35 : K.lookup f35 = some ⟨oc35, od35, .func (PySem.W.fnOf "law" "law" (defArgs s_law) (defBody s_law) (defScope s_law) .none kV35 dc35 pm35 an35 cd35 ct35), sl35⟩) (c35 : PySem.W.codeIn K cd35 "law" = true) (k35 : PySem.W.keepIn K (.ref f35) = true)
    (z1 : PySem.W.nsIn K mainGlobals "len" = some none) (z2 : PySem.W.nsIn K mainGlobals "max" = some none) (z3 : PySem.W.nsIn K mainGlobals "min" = some none) (z4 : PySem.W.nsIn K mainGlobals "int" = some none) (z5 : PySem.W.nsIn K mainGlobals "bool" = some none) (z6 : PySem.W.nsIn K mainGlobals "list" = some none) (z7 : PySem.W.nsIn K mainGlobals "tuple" = some none) (z8 : PySem.W.nsIn K mainGlobals "str" = some none) (z9 : PySem.W.nsIn K mainGlobals "dict" = some none) (z10 : PySem.W.nsIn K mainGlobals "range" = some none) (z11 : PySem.W.nsIn K mainGlobals "isinstance" = some none) (z12 : PySem.W.nsIn K mainGlobals "all" = some none) (z13 : PySem.W.nsIn K mainGlobals "any" = some none) (z14 : PySem.W.nsIn K mainGlobals "enumerate" = some none) (z15 : PySem.W.nsIn K mainGlobals "sum" = some none) (z16 : PySem.W.nsIn K mainGlobals "abs" = some none) (z17 : PySem.W.nsIn K mainGlobals "sorted" = some none) (z18 : PySem.W.nsIn K mainGlobals "reversed" = some none) (z19 : PySem.W.nsIn K mainGlobals "zip" = some none) (z20 : PySem.W.nsIn K mainGlobals "ord" = some none) (z21 : PySem.W.nsIn K mainGlobals "repr" = some none) (z22 : PySem.W.nsIn K mainGlobals "set" = some none) (z23 : PySem.W.nsIn K mainGlobals "divmod" = some none) (z24 : PySem.W.nsIn K mainGlobals "ValueError" = some none) (z25 : PySem.W.nsIn K mainGlobals "KeyError" = some none) :
    ∃ fd : FuncData, (∀ (s : Shared) (v : Value), BindsTo s fd ⟨[v], []⟩ [("_law_script", v)]) ∧ ∀ base : Heap, K.In base → base.Ns mainGlobals mg → FnOk l.prog w K mg base CX0 9 fa fd ["_law_script"] (spLaw K) := by
  have e := hfa.symm.trans (PySem.W.mg_of X G a35)
  cases e
  have TP : PlayT K C := ⟨⟨pg, hd, po, sa⟩, n_net, n_facing, n_tally, n_places, n_changes⟩
  have H_take : Here K mg "_law_take" s_take _ _ := ⟨fun_mk l1 c1 k1, PySem.W.mg_of X G a1⟩
  have H_pen : Here K mg "_law_pen" s_pen _ _ := ⟨fun_mk l2 c2 k2, PySem.W.mg_of X G a2⟩
  have H_wickets : Here K mg "_law_wickets" s_wickets _ _ := ⟨fun_mk l3 c3 k3, PySem.W.mg_of X G a3⟩
  have H_lifted : Here K mg "_law_lifted" s_lifted _ _ := ⟨fun_mk l4 c4 k4, PySem.W.mg_of X G a4⟩
  have H_folded : Here K mg "_law_folded" s_folded _ _ := ⟨fun_mk l5 c5 k5, PySem.W.mg_of X G a5⟩
  have H_block : Here K mg "_law_block" s_block _ _ := ⟨fun_mk l6 c6 k6, PySem.W.mg_of X G a6⟩
  have H_brick : Here K mg "_law_brick" s_brick _ _ := ⟨fun_mk l7 c7 k7, PySem.W.mg_of X G a7⟩
  have H_rounds : Here K mg "_law_rounds" s_rounds _ _ := ⟨fun_mk l8 c8 k8, PySem.W.mg_of X G a8⟩
  have H_bent : Here K mg "_law_bent" s_bent _ _ := ⟨fun_mk l9 c9 k9, PySem.W.mg_of X G a9⟩
  have H_net : Here K mg "_law_net" s_net _ _ := ⟨fun_mk l10 c10 k10, PySem.W.mg_of X G a10⟩
  have H_is_whole : Here K mg "is_whole" s_is_whole _ _ := ⟨fun_mk l11 c11 k11, PySem.W.mg_of X G a11⟩
  have H_is_lane : Here K mg "is_lane" s_is_lane _ _ := ⟨fun_mk l12 c12 k12, PySem.W.mg_of X G a12⟩
  have H_place_on : Here K mg "place_on" s_place_on _ _ := ⟨fun_mk l13 c13 k13, PySem.W.mg_of X G a13⟩
  have H_Play_init : HereM K mg C "__init__" "Play.__init__" s_Play_init _ _ := ⟨fun_mk l14 c14 k14, ⟨a14, i14, k14⟩⟩
  have H_Play_come_in : HereM K mg C "come_in" "Play.come_in" s_Play_come_in _ _ := ⟨fun_mk l15 c15 k15, ⟨a15, i15, k15⟩⟩
  have H_Play_enter : HereM K mg C "enter" "Play.enter" s_Play_enter _ _ := ⟨fun_mk l16 c16 k16, ⟨a16, i16, k16⟩⟩
  have H_Play_enter_back : HereM K mg C "enter_back" "Play.enter_back" s_Play_enter_back _ _ := ⟨fun_mk l17 c17 k17, ⟨a17, i17, k17⟩⟩
  have H_Play_where : HereM K mg C "where" "Play.where" s_Play_where _ _ := ⟨fun_mk l18 c18 k18, ⟨a18, i18, k18⟩⟩
  have H_Play_turn : HereM K mg C "turn" "Play.turn" s_Play_turn _ _ := ⟨fun_mk l19 c19 k19, ⟨a19, i19, k19⟩⟩
  have H_Play_pass_wicket : HereM K mg C "pass_wicket" "Play.pass_wicket" s_Play_pass_wicket _ _ := ⟨fun_mk l20 c20 k20, ⟨a20, i20, k20⟩⟩
  have H_Play_leave : HereM K mg C "leave" "Play.leave" s_Play_leave _ _ := ⟨fun_mk l21 c21 k21, ⟨a21, i21, k21⟩⟩
  have H_Play_step : HereM K mg C "step" "Play.step" s_Play_step _ _ := ⟨fun_mk l22 c22 k22, ⟨a22, i22, k22⟩⟩
  have H_Play_inside : HereM K mg C "inside" "Play.inside" s_Play_inside _ _ := ⟨fun_mk l23 c23 k23, ⟨a23, i23, k23⟩⟩
  have H_Play_shown : HereM K mg C "shown" "Play.shown" s_Play_shown _ _ := ⟨fun_mk l24 c24 k24, ⟨a24, i24, k24⟩⟩
  have H_Play_counts : HereM K mg C "counts" "Play.counts" s_Play_counts _ _ := ⟨fun_mk l25 c25 k25, ⟨a25, i25, k25⟩⟩
  have H_before : Here K mg "_law_before" s_before _ _ := ⟨fun_mk l26 c26 k26, PySem.W.mg_of X G a26⟩
  have H_exits : Here K mg "_law_exits" s_exits _ _ := ⟨fun_mk l27 c27 k27, PySem.W.mg_of X G a27⟩
  have H_let_by : Here K mg "_law_let_by" s_let_by _ _ := ⟨fun_mk l28 c28 k28, PySem.W.mg_of X G a28⟩
  have H_left : Here K mg "_law_left" s_left _ _ := ⟨fun_mk l29 c29 k29, PySem.W.mg_of X G a29⟩
  have H_step : Here K mg "_law_step" s_step _ _ := ⟨fun_mk l30 c30 k30, PySem.W.mg_of X G a30⟩
  have H_steps : Here K mg "_law_steps" s_steps _ _ := ⟨fun_mk l31 c31 k31, PySem.W.mg_of X G a31⟩
  have H_come_in : Here K mg "_law_come_in" s_come_in _ _ := ⟨fun_mk l32 c32 k32, PySem.W.mg_of X G a32⟩
  have H_played : Here K mg "_law_played" s_played _ _ := ⟨fun_mk l33 c33 k33, PySem.W.mg_of X G a33⟩
  have H_numbers_right : Here K mg "_law_numbers_right" s_numbers_right _ _ := ⟨fun_mk l34 c34 k34, PySem.W.mg_of X G a34⟩
  have H_law : Here K mg "law" s_law _ _ := ⟨fun_mk l35 c35 k35, PySem.W.mg_of X G a35⟩
  have T : Bn mg := ⟨PySem.W.mg_none_of X G z1, PySem.W.mg_none_of X G z2, PySem.W.mg_none_of X G z3, PySem.W.mg_none_of X G z4, PySem.W.mg_none_of X G z5, PySem.W.mg_none_of X G z6, PySem.W.mg_none_of X G z7, PySem.W.mg_none_of X G z8, PySem.W.mg_none_of X G z9, PySem.W.mg_none_of X G z10, PySem.W.mg_none_of X G z11, PySem.W.mg_none_of X G z12, PySem.W.mg_none_of X G z13, PySem.W.mg_none_of X G z14, PySem.W.mg_none_of X G z15, PySem.W.mg_none_of X G z16, PySem.W.mg_none_of X G z17, PySem.W.mg_none_of X G z18, PySem.W.mg_none_of X G z19, PySem.W.mg_none_of X G z20, PySem.W.mg_none_of X G z21, PySem.W.mg_none_of X G z22, PySem.W.mg_none_of X G z23, PySem.W.mg_none_of X G z24, PySem.W.mg_none_of X G z25⟩
  refine ⟨PySem.W.fnOf "law" "law" (defArgs s_law) (defBody s_law) (defScope s_law) .none kV35 dc35 pm35 an35 cd35 ct35, fun s v => .of_eq rfl, fun base _ _ => ?_⟩
  have C_law_take : Callee l.prog w K mg base "_law_take" 1 ["_law_pen_here", "_law_size"] spTake := H_take.callee (ok_take H_take) (fun _ _ _ _ _ _ u h=>by obtain⟨x0,x1,rfl⟩:=us2 h;rfl)
  have C_law_pen : Callee l.prog w K mg base "_law_pen" 1 ["_law_script", "_law_k"] (spPen K) := H_pen.callee (ok_pen T H_pen) (fun _ _ _ _ _ _ u h=>by obtain⟨x0,x1,rfl⟩:=us2 h;rfl)
  have C_law_wickets : Callee l.prog w K mg base "_law_wickets" 2 ["_law_pen_here", "_law_wide", "_law_many"] spWickets := H_wickets.callee (ok_wickets T H_wickets C_law_take) (fun _ _ _ _ _ _ u h=>by obtain⟨x0,x1,x2,rfl⟩:=us3 h;rfl)
  have C_law_lifted : Callee l.prog w K mg base "_law_lifted" 1 ["_law_wickets_here", "_law_by"] spLifted := H_lifted.callee (ok_lifted H_lifted) (fun _ _ _ _ _ _ u h=>by obtain⟨x0,x1,rfl⟩:=us2 h;rfl)
  have R_folded : ∀ n : Nat, Callee l.prog w K mg base "_law_folded" (n + 1) ["_law_wide"] (spBuilt n) := fun n => by
      induction n with
      | zero => exact H_folded.callee ok_folded0 (fun _ _ _ _ _ _ u h=>by obtain⟨x0,rfl⟩:=us1 h;rfl)
      | succ n ih => exact H_folded.callee (ok_folded1 T H_folded C_law_lifted ih) (fun _ _ _ _ _ _ u h=>by obtain⟨x0,rfl⟩:=us1 h;rfl)
  have C_law_folded : Callee l.prog w K mg base "_law_folded" 6 ["_law_wide"] (spBuilt 4) := (R_folded 4).mono (by decide)
  have R_block : ∀ n : Nat, Callee l.prog w K mg base "_law_block" (n + 1) ["_law_wide"] (spBuilt n) := fun n => by
      induction n with
      | zero => exact H_block.callee ok_block0 (fun _ _ _ _ _ _ u h=>by obtain⟨x0,rfl⟩:=us1 h;rfl)
      | succ n ih => exact H_block.callee (ok_block1 T H_block C_law_lifted ih) (fun _ _ _ _ _ _ u h=>by obtain⟨x0,rfl⟩:=us1 h;rfl)
  have C_law_block : Callee l.prog w K mg base "_law_block" 6 ["_law_wide"] (spBuilt 4) := (R_block 4).mono (by decide)
  have C_law_brick : Callee l.prog w K mg base "_law_brick" 1 ["_law_wide"] spBrick := H_brick.callee (ok_brick T H_brick) (fun _ _ _ _ _ _ u h=>by obtain⟨x0,rfl⟩:=us1 h;rfl)
  have C_law_rounds : Callee l.prog w K mg base "_law_rounds" 7 ["_law_wide"] spRounds := H_rounds.callee (ok_rounds H_rounds C_law_block) (fun _ _ _ _ _ _ u h=>by obtain⟨x0,rfl⟩:=us1 h;rfl)
  have C_law_bent : Callee l.prog w K mg base "_law_bent" 3 ["_law_pen_here", "_law_wide", "_law_wickets_here"] spBent := H_bent.callee (ok_bent T H_bent C_law_take C_law_wickets) (fun _ _ _ _ _ _ u h=>by obtain⟨x0,x1,x2,rfl⟩:=us3 h;rfl)
  have C_law_net : Callee l.prog w K mg base "_law_net" 8 ["_law_pen_here"] spNet := H_net.callee (ok_net T H_net C_law_take C_law_wickets C_law_folded C_law_rounds C_law_brick C_law_bent) (fun _ _ _ _ _ _ u h=>by obtain⟨x0,rfl⟩:=us1 h;rfl)
  have Cis_whole : Callee l.prog w K mg base "is_whole" 1 ["thing"] spIsWhole := H_is_whole.callee (ok_is_whole T H_is_whole) (fun _ _ _ _ _ _ u h=>by obtain⟨x0,rfl⟩:=us1 h;rfl)
  have Cis_lane : Callee l.prog w K mg base "is_lane" 2 ["wide", "thing"] spIsLane := H_is_lane.callee (ok_is_lane T H_is_lane Cis_whole) (fun _ _ _ _ _ _ u h=>by obtain⟨x0,x1,rfl⟩:=us2 h;rfl)
  have Cplace_on : Callee l.prog w K mg base "place_on" 1 ["net", "lane", "start"] spPlaceOn := H_place_on.callee (ok_place_on T H_place_on) (fun _ _ _ _ _ _ u h=>by obtain⟨x0,x1,x2,rfl⟩:=us3 h;rfl)
  have MkPlay : Maker l.prog w K mg base "Play" C 1 ["self", "net"] (spPInit C) := ⟨⟨_, _, ok_Play_init T TP H_Play_init, H_Play_init.fn.binds (fun _ _ _ _ _ _ u h=>by obtain⟨x0,x1,rfl⟩:=us2 h;rfl), ⟨mk, a14, i14, kc⟩⟩, PySem.W.mg_of X G aC⟩
  have MPlay_come_in : MCal l.prog w K mg base C "come_in" 3 ["self", "lane", "change"] (spComeIn C) := H_Play_come_in.mcal (ok_Play_come_in T TP H_Play_come_in Cis_lane Cplace_on) (fun _ _ _ _ _ _ u h=>by obtain⟨x0,x1,x2,rfl⟩:=us3 h;rfl)
  have MPlay_enter : MCal l.prog w K mg base C "enter" 4 ["self", "lane"] (spEnter C 1) := H_Play_enter.mcal (ok_Play_enter T TP H_Play_enter MPlay_come_in) (fun _ _ _ _ _ _ u h=>by obtain⟨x0,x1,rfl⟩:=us2 h;rfl)
  have MPlay_enter_back : MCal l.prog w K mg base C "enter_back" 4 ["self", "lane"] (spEnter C (-1)) := H_Play_enter_back.mcal (ok_Play_enter_back T TP H_Play_enter_back MPlay_come_in) (fun _ _ _ _ _ _ u h=>by obtain⟨x0,x1,rfl⟩:=us2 h;rfl)
  have MPlay_where : MCal l.prog w K mg base C "where" 2 ["self", "walker"] (spWhere C) := H_Play_where.mcal (ok_Play_where T TP H_Play_where Cis_whole) (fun _ _ _ _ _ _ u h=>by obtain⟨x0,x1,rfl⟩:=us2 h;rfl)
  have MPlay_turn : MCal l.prog w K mg base C "turn" 1 ["self", "wicket"] (spTurn C) := H_Play_turn.mcal (ok_Play_turn T TP H_Play_turn) (fun _ _ _ _ _ _ u h=>by obtain⟨x0,x1,rfl⟩:=us2 h;rfl)
  have MPlay_pass_wicket : MCal l.prog w K mg base C "pass_wicket" 2 ["self", "wicket", "change"] (spPass C) := H_Play_pass_wicket.mcal (ok_Play_pass_wicket T TP H_Play_pass_wicket MPlay_turn Cplace_on) (fun _ _ _ _ _ _ u h=>by obtain⟨x0,x1,x2,rfl⟩:=us3 h;rfl)
  have MPlay_leave : MCal l.prog w K mg base C "leave" 1 ["self", "lane", "change"] (spLeave C) := H_Play_leave.mcal (ok_Play_leave T TP H_Play_leave) (fun _ _ _ _ _ _ u h=>by obtain⟨x0,x1,x2,rfl⟩:=us3 h;rfl)
  have MPlay_step : MCal l.prog w K mg base C "step" 4 ["self", "walker"] (spStep C) := H_Play_step.mcal (ok_Play_step T TP H_Play_step MPlay_where MPlay_leave MPlay_pass_wicket) (fun _ _ _ _ _ _ u h=>by obtain⟨x0,x1,rfl⟩:=us2 h;rfl)
  have MPlay_inside : MCal l.prog w K mg base C "inside" 1 ["self"] (spInside C) := H_Play_inside.mcal (ok_Play_inside T TP H_Play_inside) (fun _ _ _ _ _ _ u h=>by obtain⟨x0,rfl⟩:=us1 h;rfl)
  have MPlay_shown : MCal l.prog w K mg base C "shown" 1 ["self"] (spShown C) := H_Play_shown.mcal (ok_Play_shown T TP H_Play_shown) (fun _ _ _ _ _ _ u h=>by obtain⟨x0,rfl⟩:=us1 h;rfl)
  have MPlay_counts : MCal l.prog w K mg base C "counts" 1 ["self"] (spCountsP C) := H_Play_counts.mcal (ok_Play_counts T TP H_Play_counts) (fun _ _ _ _ _ _ u h=>by obtain⟨x0,rfl⟩:=us1 h;rfl)
  have C_law_before : Callee l.prog w K mg base "_law_before" 1 ["_law_net_here", "_law_lane", "_law_least"] spPlaceOn := H_before.callee (ok_before T H_before) (fun _ _ _ _ _ _ u h=>by obtain⟨x0,x1,x2,rfl⟩:=us3 h;rfl)
  have C_law_exits : Callee l.prog w K mg base "_law_exits" 1 ["_law_net_here", "_law_counts"] spExitsL := H_exits.callee (ok_exits T H_exits) (fun _ _ _ _ _ _ u h=>by obtain⟨x0,x1,rfl⟩:=us2 h;rfl)
  have C_law_let_by : Callee l.prog w K mg base "_law_let_by" 2 ["_law_play", "_law_net_here", "_law_passed", "_law_place", "_law_told", "_law_gain"] (spLetBy27 C) := H_let_by.callee (ok_let_by T TP H_let_by MPlay_shown C_law_before) (fun _ _ _ _ _ _ u h=>by obtain⟨x0,x1,x2,x3,x4,x5,rfl⟩:=us6 h;rfl)
  have C_law_left : Callee l.prog w K mg base "_law_left" 2 ["_law_play", "_law_net_here", "_law_counts", "_law_place", "_law_told", "_law_gain", "_law_numbers"] (spLeft27 C) := H_left.callee (ok_left T TP H_left MPlay_counts) (fun _ _ _ _ _ _ u h=>by obtain⟨x0,x1,x2,x3,x4,x5,x6,rfl⟩:=us7 h;rfl)
  have C_law_step : Callee l.prog w K mg base "_law_step" 5 ["_law_play", "_law_net_here", "_law_seen", "_law_walker", "_law_gain"] (spStep27 C) := H_step.callee (ok_step T TP H_step MPlay_where MPlay_counts MPlay_step C_law_left C_law_let_by) (fun _ _ _ _ _ _ u h=>by obtain⟨x0,x1,x2,x3,x4,rfl⟩:=us5 h;rfl)
  have C_law_steps : Callee l.prog w K mg base "_law_steps" 6 ["_law_play", "_law_net_here", "_law_seen", "_law_gains", "_law_pen_here", "_law_many"] (spSteps27 C) := H_steps.callee (ok_steps T TP H_steps MPlay_inside C_law_take C_law_step) (fun _ _ _ _ _ _ u h=>by obtain⟨x0,x1,x2,x3,x4,x5,rfl⟩:=us6 h;rfl)
  have C_law_come_in : Callee l.prog w K mg base "_law_come_in" 5 ["_law_play", "_law_lane", "_law_back"] (spLComeIn C) := H_come_in.callee (ok_come_in T TP H_come_in MPlay_enter MPlay_enter_back) (fun _ _ _ _ _ _ u h=>by obtain⟨x0,x1,x2,rfl⟩:=us3 h;rfl)
  have C_law_played : Callee l.prog w K mg base "_law_played" 7 ["_law_net_here", "_law_entries", "_law_pen_here", "_law_often"] spPlayed27 := H_played.callee (ok_played T TP H_played MkPlay MPlay_counts MPlay_inside MPlay_shown MPlay_where C_law_before C_law_come_in C_law_take C_law_steps) (fun _ _ _ _ _ _ u h=>by obtain⟨x0,x1,x2,x3,rfl⟩:=us4 h;rfl)
  have C_law_numbers_right : Callee l.prog w K mg base "_law_numbers_right" 1 ["_law_net_here", "_law_counts", "_law_numbers"] spNumR27 := H_numbers_right.callee (ok_numbers_right T H_numbers_right) (fun _ _ _ _ _ _ u h=>by obtain⟨x0,x1,x2,rfl⟩:=us3 h;rfl)
  exact ok_law T H_law C_law_pen C_law_net C_law_take C_law_exits C_law_played C_law_numbers_right
theorem walk {l : PySem.W.OpenLaw} {q : Program} {loose : List Str} {XP : (Str → Option Value) → Heap → Prop} {YP : World → Heap → Prop} {d : DefRec} {K : Params → PySem.W.Frag} (hn : l.most = some 63) (hdf : d.params.defaults = [])
    (hY : ∀ (w : World) (h : Heap), YP w h → (K w.params).In h)
    (F : ∀ (w : World) (mg : Str → Option Value) (fa : Addr) (h : Heap), (K w.params).In h → h.Ns mainGlobals mg → mg d.name = some (.ref fa) →
      ∃ fd : FuncData, (∀ (s : Shared) (u : Value), BindsTo s fd ⟨[u], []⟩ [("_law_script", u)]) ∧ ∀ base : Heap, (K w.params).In base → base.Ns mainGlobals mg → FnOk l.prog w (K w.params) mg base CX0 9 fa fd ["_law_script"] (spLaw (K w.params))) :
    PySem.W.WalkO q loose XP YP l.row.toRowW d [] (fun f vs => PySem.call f vs) :=
  L2.walk_of (n := 63) (k := 9) (x := "_law_script") (CX := fun _ => CX0) (sp := fun w => spLaw (K w.params)) hn (by decide) hdf ⟨rfl, by decide, by decide, rfl⟩ hY F (fun _ _ a ns hl _ hS => ⟨a, ns, rfl, hS, hl, fun _ => rfl⟩) fun _ _ _ _ _ z => z
end Ep
open PySem PySem.W PyProof.Rows
set_option maxRecDepth 100000 in
set_option maxHeartbeats 0 in
theorem PySem.Challenge.cw_evenpass_k27_whole_in_whatever_weaving_holds : PySem.Challenge.rw_evenpass_k27_whole_in_whatever_weaving.Holds := by
  w_on; o_law; k_head; (case hw => w_witness2)
  k_fill
  refine Ep.walk (l := PySem.Challenge.rw_evenpass_k27_whole_in_whatever_weaving) rfl rfl (fun w h Y => PySem.W.kIn_of Y) ?F
  case F =>
    intro w mg fa h KX G hmg
    refine' Ep.all_mk KX G hmg ?aC ?pg ?hd ?po ?sa ?mk ?kc ?n_net ?n_facing ?n_tally ?n_places ?n_changes ?a1 ?l1 ?c1 ?k1 ?a2 ?l2 ?c2 ?k2 ?a3 ?l3 ?c3 ?k3 ?a4 ?l4 ?c4 ?k4 ?a5 ?l5 ?c5 ?k5 ?a6 ?l6 ?c6 ?k6 ?a7 ?l7 ?c7 ?k7 ?a8 ?l8 ?c8 ?k8 ?a9 ?l9 ?c9 ?k9 ?a10 ?l10 ?c10 ?k10 ?a11 ?l11 ?c11 ?k11 ?a12 ?l12 ?c12 ?k12 ?a13 ?l13 ?c13 ?k13 ?a14 ?i14 ?l14 ?c14 ?k14 ?a15 ?i15 ?l15 ?c15 ?k15 ?a16 ?i16 ?l16 ?c16 ?k16 ?a17 ?i17 ?l17 ?c17 ?k17 ?a18 ?i18 ?l18 ?c18 ?k18 ?a19 ?i19 ?l19 ?c19 ?k19 ?a20 ?i20 ?l20 ?c20 ?k20 ?a21 ?i21 ?l21 ?c21 ?k21 ?a22 ?i22 ?l22 ?c22 ?k22 ?a23 ?i23 ?l23 ?c23 ?k23 ?a24 ?i24 ?l24 ?c24 ?k24 ?a25 ?i25 ?l25 ?c25 ?k25 ?a26 ?l26 ?c26 ?k26 ?a27 ?l27 ?c27 ?k27 ?a28 ?l28 ?c28 ?k28 ?a29 ?l29 ?c29 ?k29 ?a30 ?l30 ?c30 ?k30 ?a31 ?l31 ?c31 ?k31 ?a32 ?l32 ?c32 ?k32 ?a33 ?l33 ?c33 ?k33 ?a34 ?l34 ?c34 ?k34 ?a35 ?l35 ?c35 ?k35 ?z1 ?z2 ?z3 ?z4 ?z5 ?z6 ?z7 ?z8 ?z9 ?z10 ?z11 ?z12 ?z13 ?z14 ?z15 ?z16 ?z17 ?z18 ?z19 ?z20 ?z21 ?z22 ?z23 ?z24 ?z25
    (case aC => k_is); (case pg => k_is); (case hd => k_is); (case po => k_is); (case sa => k_is); (case mk => k_is); (case kc => k_is); (case n_net => k_is); (case n_facing => k_is); (case n_tally => k_is); (case n_places => k_is); (case n_changes => k_is)
    (case a1 => k_is); (case l1 => k_is); (case c1 => k_is); (case k1 => k_is)
    (case a2 => k_is); (case l2 => k_is); (case c2 => k_is); (case k2 => k_is)
    (case a3 => k_is); (case l3 => k_is); (case c3 => k_is); (case k3 => k_is)
    (case a4 => k_is); (case l4 => k_is); (case c4 => k_is); (case k4 => k_is)
    (case a5 => k_is); (case l5 => k_is); (case c5 => k_is); (case k5 => k_is)
    (case a6 => k_is); (case l6 => k_is); (case c6 => k_is); (case k6 => k_is)
    (case a7 => k_is); (case l7 => k_is); (case c7 => k_is); (case k7 => k_is)
    (case a8 => k_is); (case l8 => k_is); (case c8 => k_is); (case k8 => k_is)
    (case a9 => k_is); (case l9 => k_is); (case c9 => k_is); (case k9 => k_is)
    (case a10 => k_is); (case l10 => k_is); (case c10 => k_is); (case k10 => k_is)
    (case a11 => k_is); (case l11 => k_is); (case c11 => k_is); (case k11 => k_is)
    (case a12 => k_is); (case l12 => k_is); (case c12 => k_is); (case k12 => k_is)
    (case a13 => k_is); (case l13 => k_is); (case c13 => k_is); (case k13 => k_is)
    (case a14 => k_is); (case i14 => k_is); (case l14 => k_is); (case c14 => k_is); (case k14 => k_is)
    (case a15 => k_is); (case i15 => k_is); (case l15 => k_is); (case c15 => k_is); (case k15 => k_is)
    (case a16 => k_is); (case i16 => k_is); (case l16 => k_is); (case c16 => k_is); (case k16 => k_is)
    (case a17 => k_is); (case i17 => k_is); (case l17 => k_is); (case c17 => k_is); (case k17 => k_is)
    (case a18 => k_is); (case i18 => k_is); (case l18 => k_is); (case c18 => k_is); (case k18 => k_is)
    (case a19 => k_is); (case i19 => k_is); (case l19 => k_is); (case c19 => k_is); (case k19 => k_is)
    (case a20 => k_is); (case i20 => k_is); (case l20 => k_is); (case c20 => k_is); (case k20 => k_is)
    (case a21 => k_is); (case i21 => k_is); (case l21 => k_is); (case c21 => k_is); (case k21 => k_is)
    (case a22 => k_is); (case i22 => k_is); (case l22 => k_is); (case c22 => k_is); (case k22 => k_is)
    (case a23 => k_is); (case i23 => k_is); (case l23 => k_is); (case c23 => k_is); (case k23 => k_is)
    (case a24 => k_is); (case i24 => k_is); (case l24 => k_is); (case c24 => k_is); (case k24 => k_is)
    (case a25 => k_is); (case i25 => k_is); (case l25 => k_is); (case c25 => k_is); (case k25 => k_is)
    (case a26 => k_is); (case l26 => k_is); (case c26 => k_is); (case k26 => k_is)
    (case a27 => k_is); (case l27 => k_is); (case c27 => k_is); (case k27 => k_is)
    (case a28 => k_is); (case l28 => k_is); (case c28 => k_is); (case k28 => k_is)
    (case a29 => k_is); (case l29 => k_is); (case c29 => k_is); (case k29 => k_is)
    (case a30 => k_is); (case l30 => k_is); (case c30 => k_is); (case k30 => k_is)
    (case a31 => k_is); (case l31 => k_is); (case c31 => k_is); (case k31 => k_is)
    (case a32 => k_is); (case l32 => k_is); (case c32 => k_is); (case k32 => k_is)
    (case a33 => k_is); (case l33 => k_is); (case c33 => k_is); (case k33 => k_is)
    (case a34 => k_is); (case l34 => k_is); (case c34 => k_is); (case k34 => k_is)
    (case a35 => k_is); (case l35 => k_is); (case c35 => k_is); (case k35 => k_is)
    (case z1 => k_is)
    (case z2 => k_is)
    (case z3 => k_is)
    (case z4 => k_is)
    (case z5 => k_is)
    (case z6 => k_is)
    (case z7 => k_is)
    (case z8 => k_is)
    (case z9 => k_is)
    (case z10 => k_is)
    (case z11 => k_is)
    (case z12 => k_is)
    (case z13 => k_is)
    (case z14 => k_is)
    (case z15 => k_is)
    (case z16 => k_is)
    (case z17 => k_is)
    (case z18 => k_is)
    (case z19 => k_is)
    (case z20 => k_is)
    (case z21 => k_is)
    (case z22 => k_is)
    (case z23 => k_is)
    (case z24 => k_is)
    (case z25 => k_is)
