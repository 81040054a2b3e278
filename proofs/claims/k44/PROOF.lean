import PyProof.Rows.All
import Wide.All
import OpenK.AllK
import Wide.FinOn
import Lean
import PyProof.EqAt
import PyProof.EqKinds
import PyProof.TupleCall
import KE.KRevSl
import KE.KTryMore
import PySem.Challenge.RW_evenpass_k44_halves_looked_at
set_option Elab.async false
set_option linter.all false
set_option maxRecDepth 100000
set_option maxHeartbeats 4000000
local macro_rules | `(tactic| walk_at "q") => `(tactic| first | lia | omega)
local macro_rules | `(tactic| walk_at "r") => `(tactic| first | exact Or.inl rfl | exact Or.inr rfl)
local macro_rules | `(tactic| walk_at "d") => `(tactic| first | decide | lia | omega)
namespace PySem.W.Fast
def tw14018145196551653086:=0
def tw3309684820444828161:=0
def tw1479874250183000137:=0
def tw7838398140224856169:=0
def tw9355737213077367146:=0
def tw6009767340269318884:=0
def tw3807569935964871527:=0
def tw762089751078275464:=0
def tw16221273351898445444:=0
def tw8611168770000350952:=0
def tw7997213276247904640:=0
def tw9596196595944663236:=0
def tw16700012508631976315:=0
def tw12229744584412278517:=0
def tw6318926033474058041:=0
def tw12168542509170958834:=0
def tw14182373882143328933:=0
def tw7460531010955176921:=0
def tw18282333236582604976:=0
def tw17719793972153754939:=0
def tw3926312042570383761:=0
def tw5142254413959219973:=0
def tw12009181884979231359:=0
def tw4482338353676110341:=0
def tw6665656117488581388:=0
def tw8588210541386217614:=0
def tw813137605869746055:=0
def tw1431893104284140645:=0
def tw17731544071400063980:=0
def tw11627390546555084818:=0
def tw5250873623856229258:=0
def tw7294080687825111822:=0
def tw15586568373963891359:=0
def tw10110310078560368798:=0
def tw12112757302305800225:=0
def tw14055782189450219925:=0
def tw17858531921036302709:=0
def tw11686860032574605166:=0
def tw4087964361379582380:=0
def tw6883877403979434516:=0
def tw8003239762841429292:=0
def tw16629379521763023363:=0
def tw6117418360978073676:=0
def tw5050197493436189324:=0
def tw5802845744084464532:=0
def tw11878849018904302681:=0
def tw17608693600162076598:=0
def tw5133380564949109898:=0
def tw12416516420942455872:=0
def tw16484322163666820867:=0
def tw15250006149852312300:=0
def tw8550020061692627906:=0
def tw12423585003195246324:=0
def tw10560823321642980545:=0
def tw2457716293495220973:=0
def tw7814289878516478822:=0
def tw8197294906603782993:=0
def tw11918393578205505496:=0
def tw4442072094238711430:=0
def tw5523219307909489830:=0
def tw2442884620665626359:=0
def tw2291189389801783538:=0
def tw12407253938324192354:=0
def tw1644969179553494814:=0
def tw3800396367737150090:=0
def tw8455299964780878466:=0
def tw9161765528620420272:=0
def tw14499853341218005300:=0
def tw766856976681859611:=0
def tw10145456561552413859:=0
def tw9672962739203646777:=0
def tw5858548345781940833:=0
def tw5230255023849040420:=0
def tw9641397886365776570:=0
def tw16252745791154817969:=0
def tw842743373559276668:=0
def tw8855083179591523066:=0
def tw11518281667450168419:=0
def tw10804411985124441333:=0
def tw1990864273475948638:=0
def tw17869970329229100764:=0
def tw2488868763509035267:=0
def tw11993009820920332109:=0
def tw12512550037815327724:=0
def tw14891381116290206903:=0
def tw2621459786850393232:=0
def tw12837784354991249107:=0
def tw11110358011260475674:=0
def tw14789369176956520530:=0
def tw8648148076259577772:=0
def tw663592850497496020:=0
def tw2883079559563662643:=0
def tw10014019467110668258:=0
def tw3783364830819558754:=0
def tw10880597002599074187:=0
def tw662347722906075311:=0
def tw14827248279252216565:=0
def tw6550603203838396949:=0
def tw11957484160422974365:=0
def tw4590279208413851521:=0
def tw11931231690846383608:=0
def tw16282871989786771897:=0
def tw17463324073690950052:=0
def tw2463954669577257284:=0
def tw10041316073642117975:=0
def tw3338706421447307949:=0
def tw7762517566387414441:=0
def tw16067252585378350078:=0
def tw14846489824206095660:=0
def tw1333767908489959399:=0
def tw13462779284032392285:=0
def tw6169060774260812759:=0
def tw2378064766731348833:=0
def tw10961474284240222113:=0
def tw12740753650677346552:=0
def tw12679138952420517414:=0
def tw3197811374435771308:=0
def tw14119755987985567092:=0
def tw2528645210196278221:=0
def tw17889195062920355804:=0
def tw3694005408397927165:=0
def tw5215142934780944243:=0
def tw16715365719425453208:=0
def tw13226374505413084202:=0
def tw18443015770367150301:=0
def tw3058047273190317176:=0
def tw3019370740088648466:=0
def tw13597019662400128148:=0
def tw12722539283005814225:=0
def tw8939263177975197403:=0
def tw8644417649322523591:=0
def tw923631790027677720:=0
def tw11028968516824646429:=0
def tw2056208712072510154:=0
def tw1062016593223373090:=0
def tw447791575615598738:=0
def tw9078630788702720388:=0
def tw6161500000316581932:=0
def tw3498587014539801637:=0
def tw12571421612627576582:=0
def tw8279011332661057277:=0
def tw18057392216727322520:=0
def tw2710059390721358305:=0
def tw7930241199289797700:=0
def tw15281691308126138905:=0
def tw4345066060509864059:=0
def tw17641338151391907668:=0
def tw16528120388127623013:=0
def tw16018861410783036188:=0
def tw18313134391823114766:=0
def tw130560770814308941:=0
def tw5409000698788829803:=0
def tw10482338653087776466:=0
def tw10105581175536727285:=0
def tw17201321080216583511:=0
def tw15486803525110888920:=0
def tw4588833849092314939:=0
def tw5086739420071387256:=0
def tw3559046785140151954:=0
def tw13652859978879576961:=0
def tw2414142296471838683:=0
def tw15955263371784416436:=0
def tw9706683021856365364:=0
def tw5574580954788907738:=0
def tw12755102444808147144:=0
def tw18018688020268029086:=0
def tw6038661559361350548:=0
def tw5589740852720613202:=0
def tw9627021614565299437:=0
def tw933182368410737003:=0
def tw2986230285412051498:=0
def tw11353923816350950712:=0
def tw16235406653549515218:=0
def tw11870602868091195766:=0
def tw15203239896791214584:=0
def tw4644294306593842085:=0
def tw10412888532470463336:=0
def tw3322867625006194748:=0
def tw1489191058462931182:=0
def tw6472635807920015006:=0
def tw16037828771911617198:=0
def tw16410814338608200175:=0
def tw3859401851163944450:=0
def tw9465986449819034919:=0
def tw6059375081337094876:=0
def tw16649346029963852955:=0
def tw4137794910859758077:=0
def tw11860099611792659167:=0
def tw11767058346249590800:=0
def tw2613242007424506764:=0
def tw9334476431578383177:=0
def tw4517792065853498146:=0
def tw17691716001860673208:=0
def tw806286227291223601:=0
def tw6747905221876866664:=0
def tw11473463034676123034:=0
def tw18305004881459470983:=0
def tw6057780335048214341:=0
def tw12839210876749902843:=0
def tw1834943855673186447:=0
def tw1157242372666012958:=0
def tw12555939113435179161:=0
def tw4908728435765943085:=0
def tw2413981031049293099:=0
def tw8562611336199603745:=0
def tw12435587851503598261:=0
def tw4156347386867981334:=0
def tw18165470760039698271:=0
def tw15652057663980131980:=0
def tw5137290221021725065:=0
def tw6949370442737460806:=0
def tw9152746014327487145:=0
def tw8250384902085019221:=0
def tw6018926727367620436:=0
def tw17572487794550844416:=0
def tw16986196169374753965:=0
def tw3563579708810780659:=0
def tw14691248613351765933:=0
def tw12797943387861997676:=0
def tw14783363486413473654:=0
def tw7174798274907342921:=0
def tw3976978562294242912:=0
def tw271571912883510211:=0
def tw3158752849307768817:=0
def tw16100098135143833056:=0
def tw1019554916429711119:=0
def tw7797298077848181102:=0
def tw4130766297756152334:=0
def tw1639019241978535435:=0
def tw11699382340335684901:=0
def tw10446262118610375900:=0
def tw10312082616798445815:=0
def tw6521177820808457445:=0
def tw6723788279383740245:=0
def tw5409869362918266860:=0
def tw16376378529844388525:=0
def tw11077581901240311256:=0
def tw3982134356781622769:=0
def tw7413990880501292736:=0
def tw2072779088974785539:=0
def tw649188150551999823:=0
def tw12507464052352871895:=0
def tw14207073445015259346:=0
def tw16913321087062759749:=0
def tw2061026769750828586:=0
def tw455561701597891294:=0
def tw17907881354104197139:=0
def tw7428442731831951626:=0
def tw15059495493881217298:=0
def tw17203694080150896943:=0
def tw13669346281791783399:=0
def tw2353062656116450562:=0
def tw16067037799089357684:=0
def tw15627114993212615223:=0
def tw14602022506230398:=0
def tw9672050720489314844:=0
def tw385823622875490017:=0
def tw267498785338658572:=0
def tw13886321797389861490:=0
def tw262417755651278703:=0
def tw16979088132691314651:=0
def tw11788196751352599025:=0
def tw10039835321377252559:=0
def tw14047027017216444171:=0
def tw4946922896153064375:=0
def tw4236479063736553964:=0
def tw1611389749680086321:=0
def tw5577030600019357864:=0
def tw11497782097301108426:=0
def tw15758864763391790390:=0
def tw222113105154380595:=0
def tw16592520463108296039:=0
def tw13391562073946369779:=0
def tw15916536360364021165:=0
def tw17323537355083372683:=0
def tw2133109694492201029:=0
def tw6157232030691185395:=0
def tw8396067371286723189:=0
def tw6366835828102062995:=0
def tw2662403517575084242:=0
def tw10379792296695246738:=0
def tw12892669230498077160:=0
def tw10357853198051481028:=0
def tw1739961448318997359:=0
def tw12183737002250545536:=0
def tw15401258225459998008:=0
def tw7698902331513185893:=0
def tw14202142347178765847:=0
def tw13646241798571983442:=0
def tw13270398028887384272:=0
def tw8023769415383536095:=0
def tw17103033914773019471:=0
def tw9222783872510031422:=0
def tw5869089207672431159:=0
def tw10843152005890667404:=0
def tw3005513533412062952:=0
def tw9140357735348464276:=0
def tw11218905969932046015:=0
def tw854384542136691832:=0
def tw2879885149811753999:=0
def tw2795294820595532210:=0
def tw4831813564760534005:=0
def tw4426851093917988714:=0
def tw2673361886542915434:=0
def tw3719878314310027660:=0
def tw9203870748336344290:=0
def tw13600015775383969549:=0
def tw17732202573066638269:=0
def tw8099778394575214270:=0
def tw8511978679885646840:=0
def tw9373336771330397857:=0
def tw12904688006544492900:=0
def tw933067465930779117:=0
def tw752082910161770687:=0
def tw9905784185948933239:=0
def tw3039856484870461437:=0
def tw688665973864864369:=0
def tw8489469349372727953:=0
def tw5870813069699572087:=0
def tw8750240207752411597:=0
def tw2487126484388215417:=0
def tw16775140132158409261:=0
def tw7095380528187099344:=0
def tw669480978987367294:=0
def tw17088307392494412215:=0
def tw6264404376756656806:=0
def tw15119939063347876377:=0
def tw2284746283841719157:=0
def tw15580291731163037757:=0
def tw7083337056081235182:=0
def tw16853173177189773929:=0
def tw1057475080524093747:=0
def tw4459425823759487425:=0
def tw6254409646149620368:=0
def tw13306732537948378297:=0
def tw8419120067354638432:=0
def tw17934330293670163520:=0
def tw18426424204263496051:=0
def tw7130085059858549502:=0
def tw6689942884985394409:=0
def tw4508112087552341496:=0
end PySem.W.Fast


namespace L2
open PySem PySem.Spec PyProof.Rows

abbrev Key:=Sum Int Str
def keyIs:Key→Value→Bool
 | .inl k,v=>Value.isInt k v
 | .inr x,v=>Value.isStrOf x v
def keyH (w:World):Key→Int
 | .inl k=>hashInt k
 | .inr x=>hashStr w x
theorem keyIs_shape:∀ {k:Key} {v:Value},keyIs k v=true→(∃ i t,k=Sum.inl i∧v=Value.int i t)∨(∃ x t,k=Sum.inr x∧v=Value.str x t)
 | .inl i,v,h=>by
  obtain ⟨t,e⟩:=Value.isInt_shape (k:=i) (v:=v) h
  exact .inl ⟨i,t,rfl,e⟩
 | .inr x,v,h=>by
  obtain ⟨t,e⟩:=Value.isStrOf_shape (x:=x) (v:=v) h
  exact .inr ⟨x,t,rfl,e⟩
theorem key_ll (a b:Int):decide ((Sum.inl a:Key)=Sum.inl b)=(a == b):=by
 by_cases e:a=b
 ·subst e;simp
 ·have h:¬ (Sum.inl a:Key)=Sum.inl b:=fun q=>e (Sum.inl.inj q)
  rw [decide_eq_false h]
  exact (beq_eq_false_iff_ne.mpr e).symm
theorem key_rr (a b:Str):decide ((Sum.inr a:Key)=Sum.inr b)=decide (a=b):=by
 by_cases e:a=b
 ·subst e;simp
 ·have h:¬ (Sum.inr a:Key)=Sum.inr b:=fun q=>e (Sum.inr.inj q)
  rw [decide_eq_false h,decide_eq_false e]
theorem key_lr (a:Int) (b:Str):decide ((Sum.inl a:Key)=Sum.inr b)=false:=decide_eq_false (fun q=>nomatch q)
theorem key_rl (a:Str) (b:Int):decide ((Sum.inr a:Key)=Sum.inl b)=false:=decide_eq_false (fun q=>nomatch q)

def mixKind (prog:Program) (w:World):PySem.KeyKind prog w Key where
 is:=keyIs
 hash:=keyH w
 inj:=fun v a b ha hb=>by
  rcases keyIs_shape ha with ⟨i,t,rfl,rfl⟩ | ⟨x,t,rfl,rfl⟩
  ·rcases keyIs_shape hb with ⟨j,u,rfl,e⟩ | ⟨y,u,rfl,e⟩
   ·injection e with e1 _;rw [e1]
   ·exact nomatch e
  ·rcases keyIs_shape hb with ⟨j,u,rfl,e⟩ | ⟨y,u,rfl,e⟩
   ·exact nomatch e
   ·injection e with e1 _;rw [e1]
 byValue:=fun k v h=>by
  rcases keyIs_shape h with ⟨i,t,rfl,rfl⟩ | ⟨x,t,rfl,rfl⟩ <;> rfl
 pyHash:=fun hv h=>by
  rcases keyIs_shape hv with ⟨i,t,rfl,rfl⟩ | ⟨x,t,rfl,rfl⟩
  ·exact wpAny_pyHash_int h
  ·exact wpAny_pyHash_str h
 eqBool:=fun hu hv h=>by
  rcases keyIs_shape hu with ⟨i,t,rfl,rfl⟩ | ⟨x,t,rfl,rfl⟩
  ·rcases keyIs_shape hv with ⟨j,u,rfl,rfl⟩ | ⟨y,u,rfl,rfl⟩
   ·rw [key_ll] at h;exact wpAny_eqBool_int h
   ·rw [key_lr] at h;exact SeqAt.EqAt.int_str i t y u _ _ _ _ h
  ·rcases keyIs_shape hv with ⟨j,u,rfl,rfl⟩ | ⟨y,u,rfl,rfl⟩
   ·rw [key_rl] at h;exact SeqAt.EqAt.str_int x t j u _ _ _ _ h
   ·rw [key_rr] at h;exact wpAny_eqBool_str h
 «strs»:=fun k x t v h=>by
  rcases keyIs_shape h with ⟨i,u,rfl,e⟩ | ⟨y,u,rfl,e⟩
  ·exact nomatch e
  ·injection e with e1 _
   subst e1
   cases v <;> rfl

end L2

namespace L2
open PySem PySem.Spec PyProof.Rows

inductive V where
 | non | bl (b:Bool) | int (i:Int) | str (x:Str) | byt (b:Array UInt8) | flt (b:UInt64) | ref (a:Addr) | ty (n:String)
 deriving DecidableEq

def RelV:V→Value→Prop
 | .non,u=>u=Value.none
 | .bl b,u=>u=Value.bool b
 | .int i,u=>∃ t,u=Value.int i t
 | .str x,u=>∃ t,u=Value.str x t
 | .byt b,u=>∃ t,u=Value.bytes b t
 | .flt b,u=>∃ t,u=Value.float b t
 | .ref a,u=>u=Value.ref a
 | .ty n,u=>u=Value.type n

abbrev Vals:List V→List Value→Prop:=Paired RelV
theorem Vals.length {xs:List V} {us:List Value} (r:Vals xs us):xs.length=us.length:=Paired.length r
theorem Vals.get:∀ {xs:List V} {us:List Value} {i:Nat} {x:V},Vals xs us→xs[i]?=some x→∃ u,us[i]?=some u∧RelV x u
 | _,_,_,_,.nil,e=>by simp at e
 | _,_,0,_,.cons r _,e=>by simp at e;subst e;exact ⟨_,rfl,r⟩
 | _,_,i + 1,x,.cons _ t,e=>by
  obtain ⟨u,h1,h2⟩:=Vals.get (i:=i) (x:=x) t (by simpa using e)
  exact ⟨u,by simpa using h1,h2⟩
theorem Vals.set {x:V} {u:Value} (r:RelV x u):∀ {xs:List V} {us:List Value} (i:Nat),Vals xs us→Vals (xs.set i x) (us.set i u)
 | _,_,_,.nil=>.nil
 | _,_,0,.cons _ t=>.cons r t
 | _,_,i + 1,.cons q t=>.cons q (Vals.set r i t)
theorem Vals.append:∀ {xs ys:List V} {us ws:List Value},Vals xs us→Vals ys ws→Vals (xs ++ ys) (us ++ ws)
 | _,_,_,_,.nil,s=>s
 | _,_,_,_,.cons r t,s=>.cons r (Vals.append t s)
theorem Vals.take:∀ {xs:List V} {us:List Value} (n:Nat),Vals xs us→Vals (xs.take n) (us.take n)
 | _,_,0,_=>.nil
 | _,_,_ + 1,.nil=>.nil
 | _,_,n + 1,.cons r t=>.cons r (Vals.take n t)
theorem Vals.drop:∀ {xs:List V} {us:List Value} (n:Nat),Vals xs us→Vals (xs.drop n) (us.drop n)
 | _,_,0,r=>r
 | _,_,_ + 1,.nil=>.nil
 | _,_,n + 1,.cons _ t=>Vals.drop n t
def RelO:Option V→Option Value→Prop
 | some v,some u=>RelV v u
 | none,none=>True
 | _,_=>False
def KV {κ:Type}:List (κ × V)→List (κ × Value)→Prop:=Paired fun (p:κ × V) (q:κ × Value)=>p.1=q.1∧RelV p.2 q.2

def kV:Key→V
 | .inl i=>.int i
 | .inr x=>.str x

inductive HO where
  | lst (xs:List V)
  | tup (xs:List V)
  | dK (kvs:List (Key × V)) | dT (kvs:List (List Key × V))
  | set (S:Int→Bool) (n:Nat)
  | ins (C dx:Addr) (fs:List (Str × V))
  | own (x:Addr)
  | xd (fs:List (Str × V))
  | met (f x:Addr)
  | rng (lo hi:Int)
  | frz (o:Obj) (u:HO)
  | tbl (q:Str × Int × Int)
  | ext (φ:Heap→Prop)

abbrev Hp:=Addr→Option HO
def upd (H:Hp) (a:Addr) (o:HO):Hp:=fun b=>if b=a then some o else H b
theorem upd_same {H:Hp} {a:Addr} {o:HO}:upd H a o a=some o:=by unfold upd;rw [if_pos rfl]
theorem upd_ne {H:Hp} {a b:Addr} {o:HO} (h:b≠a):upd H a o b=H b:=by unfold upd;rw [if_neg h]
theorem upd_upd {H:Hp} {a:Addr} {o u:HO}:upd (upd H a o) a u=upd H a u:=by
 funext b;unfold upd;split <;> rfl
theorem ne_of {H:Hp} {a b:Addr} {o u:HO} (h:H a=some o) (h':H b=some u) (d:o≠u):a≠b:=by
 intro e;subst e;rw [h] at h';exact d (Option.some.inj h')
theorem ne_of_none {H:Hp} {a b:Addr} {o:HO} (h:H a=some o) (h':H b=none):a≠b:=by
 intro e;subst e;rw [h] at h';cases h'

def IsTupD (h:Heap) (a:Addr) (items:Array Value):Prop:=∃ o,h.get? a=some o∧o.cls=.type "tuple" ∧ ∃ n,o.data=.seq items n∧o.dict=none
theorem IsTupD.tup {h:Heap} {a:Addr} {items:Array Value} (x:IsTupD h a items):IsTup h a items:=let ⟨o,e,c,n,d,_⟩:=x;⟨o,e,c,n,d⟩
theorem IsTupD.lt {h:Heap} {a:Addr} {items:Array Value} (x:IsTupD h a items):a < h.objs.size:=let ⟨_,e,_⟩:=x;Heap.lt_size e
theorem IsTupD.new (h:Heap) (items:Array Value):IsTupD (h.push { cls:=.type "tuple", data:=.seq items }) h.objs.size items:=⟨_,Heap.get?_push_size _ rfl,rfl,_,rfl,rfl⟩
section
variable (P:Program) (w:World)
def ObjOk (H:Hp) (h:Heap) (a:Addr):HO→Prop
 | .lst xs=>xs.length≤sizeLine∧∃ (its:List Value) (n:Nat),Vals xs its∧h.get? a=some { cls:=.type "list", data:=.seq its.toArray n }
 | .tup xs=>xs.length≤sizeLine∧∃ its:List Value,Vals xs its∧IsTupD h a its.toArray
 | .dK kvs=>kvs.length≤sizeLine∧(a == sysModules)=false∧∃ vs,KV kvs vs∧h.DictOf (mixKind P w) a vs
 | .dT kvs=>kvs.length≤sizeLine∧(a == sysModules)=false∧∃ xs:List (List Key × Addr × Value),
   Paired (fun (p:List Key × V) (q:List Key × Addr × Value)=>p.1=q.1∧H q.2.1=some (.tup (p.1.map kV))∧RelV p.2 q.2.2) kvs xs ∧
   ∃ o es ep,h.get? a=some o∧o.ExactDict∧o.data=.dict es ep∧es.toList=xs.map (entryOfKey (tupleKind (mixKind P w)))∧(xs.map (·.1)).Nodup
 | .set S n=>h.SetOf (intKind P w) a S n
 | .ins C dx fs=>H dx=some (.own a)∧fs.length≤1000∧dx≠a∧h.get? a=some (PySem.W.instObj C dx) ∧
   ∃ mA,h.Ns1 dx mA∧(∀ f,RelO (fs.lookup f) (mA f))∧PySem.Within mA (fs.map (·.1))
 | .own _=>∃ o,h.get? a=some o
 | .xd fs=>∃ mA,h.Ns1 a mA∧∀ f,RelO (fs.lookup f) (mA f)
 | .rng lo hi=>∃ t u v,h.get? a=some { cls:=.type "range", data:=.fields #[.int lo t,.int hi u,.int 1 v] }
 | .frz o u=>h.get? a=some o∧ObjOk H h a u
 | .tbl q=>h.get? a=some { cls:=.none,data:=.fields #[] }∨∃ c,h.get? a=some { cls:=.none,data:=.fields #[rawInt q.2.1,rawInt q.2.2,.ref c] }∧H c=some (.own a)∧h.CodeRec (.ref c) q.1
 | .met f x=>h.get? a=some (PySem.W.methodObj (.ref f) (.ref x))
 | .ext φ=>φ h∧(∃ o,h.get? a=some o)∧∀ h1 h2:Heap,φ h1→(∀ o,h1.get? a=some o→h2.get? a=some o)→φ h2
def HOk (H:Hp) (h:Heap):Prop:=∀ a o,H a=some o→ObjOk P w H h a o
end

section
variable {P:Program} {w:World} {H H':Hp} {h h':Heap} {a:Addr} {o:HO}
theorem ObjOk.lt (x:ObjOk P w H h a o):a < h.objs.size:=by
 cases o with
 | lst xs=>obtain ⟨_,_,_,_,e⟩:=x;exact Heap.lt_size e
 | tup xs=>obtain ⟨_,_,_,p⟩:=x;exact p.lt
 | dK kvs=>obtain ⟨_,_,_,_,o,_,_,e,_⟩:=x;exact Heap.lt_size e
 | dT kvs=>obtain ⟨_,_,_,_,o,_,_,e,_⟩:=x;exact Heap.lt_size e
 | set S n=>obtain ⟨o,_,_,_,e,_⟩:=x;exact Heap.lt_size e
 | ins C dx fs=>obtain ⟨_,_,_,e,_⟩:=x;exact Heap.lt_size e
 | own y=>obtain ⟨_,e⟩:=x;exact Heap.lt_size e
 | xd fs=>obtain ⟨_,⟨_,_,_,e,_⟩,_⟩:=x;exact Heap.lt_size e
 | rng lo hi=>obtain ⟨_,_,_,e⟩:=x;exact Heap.lt_size e
 | frz ob u=>obtain ⟨e,_⟩:=x;exact Heap.lt_size e
 | tbl q =>
  rcases (show h.get? a=some { cls:=.none,data:=.fields #[] }∨∃ c,h.get? a=some { cls:=.none,data:=.fields #[rawInt q.2.1,rawInt q.2.2,.ref c] }∧H c=some (.own a)∧h.CodeRec (.ref c) q.1 from x) with e | ⟨_,e,_⟩
  ·exact Heap.lt_size e
  ·exact Heap.lt_size e
 | met f y=>exact Heap.lt_size (show h.get? a=some _ from x)
 | ext φ=>obtain ⟨_,⟨_,e⟩,_⟩:=x;exact Heap.lt_size e
theorem Paired.mapP {α β:Type} {F G:α→β→Prop}:∀ {l₁:List α} {l₂:List β},Paired F l₁ l₂→(∀ a b,F a b→G a b)→Paired G l₁ l₂
 | _,_,.nil,_=>.nil
 | _,_,.cons r t,f=>.cons (f _ _ r) (Paired.mapP t f)
theorem ObjOk.stay (x:ObjOk P w H h a o) (k:∀ b u,(b=a∨H b=some (.own a))→h.get? b=some u→h'.get? b=some u)
  (ho:∀ b,H b=some (.own a)→H' b=some (.own a)) (ht:∀ b xs,H b=some (.tup xs)→H' b=some (.tup xs)):ObjOk P w H' h' a o:=by
 induction o with
 | lst xs=>obtain ⟨z,its,n,r,e⟩:=x;exact ⟨z,its,n,r,k _ _ (.inl rfl) e⟩
 | tup xs=>obtain ⟨z,its,r,ob,e,c⟩:=x;exact ⟨z,its,r,ob,k _ _ (.inl rfl) e,c⟩
 | dK kvs=>obtain ⟨z,y,vs,r,ob,es,ep,e,c⟩:=x;exact ⟨z,y,vs,r,ob,es,ep,k _ _ (.inl rfl) e,c⟩
 | dT kvs =>
  obtain ⟨z,y,xs,r,ob,es,ep,e,c⟩:=x
  exact ⟨z,y,xs,Paired.mapP r fun p q z=>⟨z.1,ht _ _ z.2.1,z.2.2⟩,ob,es,ep,k _ _ (.inl rfl) e,c⟩
 | set S n=>obtain ⟨ob,es,ep,t,e,c⟩:=x;exact ⟨ob,es,ep,t,k _ _ (.inl rfl) e,c⟩
 | ins C dx fs =>
  obtain ⟨d,z,ne,e,mA,⟨od,es,ep,e2,c⟩,r⟩:=x
  exact ⟨ho _ d,z,ne,k _ _ (.inl rfl) e,mA,⟨od,es,ep,k _ _ (.inr d) e2,c⟩,r⟩
 | own y=>obtain ⟨ob,e⟩:=x;exact ⟨ob,k _ _ (.inl rfl) e⟩
 | xd fs=>obtain ⟨mA,⟨od,es,ep,e,c⟩,r⟩:=x;exact ⟨mA,⟨od,es,ep,k _ _ (.inl rfl) e,c⟩,r⟩
 | rng lo hi=>obtain ⟨t,u,v,e⟩:=x;exact ⟨t,u,v,k _ _ (.inl rfl) e⟩
 | frz ob u ih=>obtain ⟨e,q⟩:=x;exact ⟨k _ _ (.inl rfl) e,ih q⟩
 | tbl q =>
  rcases (show h.get? a=some { cls:=.none,data:=.fields #[] }∨∃ c,h.get? a=some { cls:=.none,data:=.fields #[rawInt q.2.1,rawInt q.2.2,.ref c] }∧H c=some (.own a)∧h.CodeRec (.ref c) q.1 from x) with e | ⟨c,e,hc,c0,oc,vs,t,ec,hoc,rest⟩
  ·exact .inl (k a _ (.inl rfl) e)
  ·cases ec
   exact .inr ⟨c,k a _ (.inl rfl) e,ho c hc,c,oc,vs,t,rfl,k c _ (.inr hc) hoc,rest⟩
 | met f y =>
  have e:h.get? a=some (PySem.W.methodObj (.ref f) (.ref y)):=x
  show h'.get? a=some (PySem.W.methodObj (.ref f) (.ref y))
  exact k a _ (.inl rfl) e
 | ext φ=>obtain ⟨p,⟨o,e⟩,st⟩:=x;exact ⟨st _ _ p fun o q=>k _ _ (.inl rfl) q,⟨o,k _ _ (.inl rfl) e⟩,st⟩
theorem HOk.lt (x:HOk P w H h) (e:H a=some o):a < h.objs.size:=(x a o e).lt
theorem HOk.fresh (x:HOk P w H h) (e:h.objs.size≤a):H a=none:=by
 cases q:H a with
 | none=>rfl
 | some u=>exact absurd (Nat.lt_of_lt_of_le (x.lt q) e) (Nat.lt_irrefl _)
theorem HOk.kept (x:HOk P w H h) (k:∀ b u,h.get? b=some u→h'.get? b=some u):HOk P w H h':=fun a o e =>
 (x a o e).stay (fun b u _ q=>k b u q) (fun _ q=>q) fun _ _ q=>q
theorem HOk.laid (x:HOk P w H h) (k:∀ b u,h.get? b=some u→h'.get? b=some u) (hp:h.objs.size≤a) (new:ObjOk P w (upd H a o) h' a o):HOk P w (upd H a o) h':=fun b u e=>by
 have hn:=x.fresh hp
 by_cases hb:b=a
 ·subst hb;rw [upd_same] at e;cases e;exact new
 ·rw [upd_ne hb] at e
  exact (x b u e).stay (fun c v _ q=>k c v q) (fun c q=>by rw [upd_ne (ne_of_none q hn)];exact q) fun c xs q=>by rw [upd_ne (ne_of_none q hn)];exact q
end

def Rd (H:Hp) (a:Addr) (u:HO):Prop:=H a=some u∨∃ o,H a=some (.frz o u)
theorem Rd.ok {P:Program} {w:World} {H:Hp} {h:Heap} {a:Addr} {u:HO} (r:Rd H a u) (x:HOk P w H h):ObjOk P w H h a u:=by
 rcases r with r | ⟨o,r⟩
 ·exact x a u r
 ·obtain ⟨_,q⟩:=x a _ r
  exact q
def Mut:Option HO→Prop
 | some (.lst _)=>True
 | some (.dK _)=>True
 | some (.dT _)=>True
 | some (.set _ _)=>True
 | some (.ins _ _ _)=>True
 | some (.ext _)=>True
 | _=>False
section
variable {P:Program} {w:World} {H:Hp} {h h':Heap} {x e:Addr} {o':HO}
theorem HOk.write (ok:HOk P w H h) (mu:Mut (H x)) (he:e=x∨H e=some (.own x)) (k:∀ b u,b≠e→h.get? b=some u→h'.get? b=some u) (heo:∃ u,h'.get? e=some u)
  (new:ObjOk P w (upd H x o') h' x o'):HOk P w (upd H x o') h':=fun b u q=>by
 have nown:∀ c y,H c=some (.own y)→c≠x:=fun c y r z=>by subst z;rw [r] at mu;exact mu
 have ntup:∀ c xs,H c=some (.tup xs)→c≠x:=fun c xs r z=>by subst z;rw [r] at mu;exact mu
 by_cases hb:b=x
 ·subst hb;rw [upd_same] at q;cases q;exact new
 ·rw [upd_ne hb] at q
  by_cases hbe:b=e
  ·have q':H b=some (.own x):=by
    rcases he with z | z
    ·exact absurd (hbe.trans z) hb
    ·rw [hbe];exact z
   rw [q] at q';cases q'
   obtain ⟨v,hv⟩:=heo
   exact ⟨v,by rw [hbe];exact hv⟩
  ·refine (ok b u q).stay (fun c v hc r=>k c v ?_ r) (fun c r=>by rw [upd_ne (nown c b r)];exact r) fun c xs r=>by rw [upd_ne (ntup c xs r)];exact r
   rcases hc with rfl | hc
   ·exact hbe
   ·rintro rfl
    rcases he with z | z
    ·exact nown c b hc z
    ·rw [hc] at z;cases z;exact hb rfl
end

structure Un (fs ex:List Addr) (H H':Hp) (h h':Heap):Prop where
 keep:∀ b o,h.get? b=some o→H b=none→b ∉ fs→b ∉ ex→h'.get? b=some o
 slot:∀ b o,h.get? b=some o→H b=none→b∈fs→b ∉ ex→∃ sl,h'.get? b=some { o with slots:=sl }
 free:∀ b o,h.get? b=some o→H b=none→b ∉ ex→H' b=none
 there:∀ b o,h.get? b=some o→b ∉ ex→∃ o',h'.get? b=some o'
 tups:∀ b xs,H b=some (.tup xs)→H' b=some (.tup xs)
 frzs:∀ b o u,H b=some (.frz o u)→H' b=some (.frz o u)
 tbls:∀ b ps,H b=some (.tbl ps)→H' b=some (.tbl ps)∧∀ c o,H c=some (.own b)→h.get? c=some o→H' c=some (.own b)∧h'.get? c=some o
section
variable {fs fs' ex ex':List Addr} {H H1 H2:Hp} {h h1 h2 h':Heap} {a x e:Addr} {o:HO}
theorem Un.any (u:Un fs ex H H1 h h1) {b:Addr} {ob:Obj} (q:h.get? b=some ob) (n:H b=none) (hx:b ∉ ex):∃ sl,h1.get? b=some { ob with slots:=sl }:=by
 by_cases hb:b∈fs
 ·exact u.slot b ob q n hb hx
 ·exact ⟨ob.slots,u.keep b ob q n hb hx⟩
theorem Un.trans (a:Un fs ex H H1 h h1) (b:Un fs ex H1 H2 h1 h2):Un fs ex H H2 h h2 where
 keep:=fun c ob q n hc hx=>b.keep c ob (a.keep c ob q n hc hx) (a.free c ob q n hx) hc hx
 slot:=fun c ob q n hc hx=>by
  obtain ⟨sl,e1⟩:=a.slot c ob q n hc hx
  obtain ⟨sl',e2⟩:=b.slot c _ e1 (a.free c ob q n hx) hc hx
  exact ⟨sl',e2⟩
 free:=fun c ob q n hx=>by
  obtain ⟨o',e1⟩:=a.there c ob q hx
  exact b.free c o' e1 (a.free c ob q n hx) hx
 there:=fun c ob q hx=>by
  obtain ⟨o',e1⟩:=a.there c ob q hx
  exact b.there c o' e1 hx
 tups:=fun c xs q=>b.tups c xs (a.tups c xs q)
 frzs:=fun c ob xs q=>b.frzs c ob xs (a.frzs c ob xs q)
 tbls:=fun c ps q=>⟨(b.tbls c ps (a.tbls c ps q).1).1,fun d o e x=>let z:=(a.tbls c ps q).2 d o e x;(b.tbls c ps (a.tbls c ps q).1).2 d o z.1 z.2⟩
theorem Un.kept (k:∀ b u,h.get? b=some u→h'.get? b=some u):Un fs ex H H h h' :=
 ⟨fun b ob q _ _ _=>k b ob q,fun b ob q _ _ _=>⟨ob.slots,k b ob q⟩,fun _ _ _ n _=>n,fun b ob q _=>⟨ob,k b ob q⟩,fun _ _ q=>q,fun _ _ _ q=>q,fun _ _ q=>⟨q,fun c o e x=>⟨e,k c o x⟩⟩⟩
theorem Un.refl:Un fs ex H H h h:=Un.kept fun _ _ q=>q
theorem Un.laid (k:∀ b u,h.get? b=some u→h'.get? b=some u) (hp:h.objs.size≤a) (hn:H a=none):Un fs ex H (upd H a o) h h' where
 keep:=fun b u q _ _ _=>k b u q
 slot:=fun b u q _ _ _=>⟨u.slots,k b u q⟩
 free:=fun b u q n _=>by rw [upd_ne (Nat.ne_of_lt (Nat.lt_of_lt_of_le (Heap.lt_size q) hp))];exact n
 there:=fun b u q _=>⟨u,k b u q⟩
 tups:=fun b xs q=>by rw [upd_ne (ne_of_none q hn)];exact q
 frzs:=fun b u xs q=>by rw [upd_ne (ne_of_none q hn)];exact q
 tbls:=fun b ps q=>⟨by rw [upd_ne (ne_of_none q hn)];exact q,fun c u e x=>⟨by rw [upd_ne (ne_of_none e hn)];exact e,k c u x⟩⟩
theorem Un.write (mu:Mut (H x)) (he:e=x∨H e=some (.own x)) (k:∀ b u,b≠e→h.get? b=some u→h'.get? b=some u) (heo:∃ u,h'.get? e=some u):Un fs ex H (upd H x o) h h':=by
 have hx:∀ b,H b=none→b≠x:=fun b n z=>by subst z;rw [n] at mu;exact mu
 have hb:∀ b,H b=none→b≠e:=fun b n z=>by
  subst z
  rcases he with r | r
  ·exact hx b n r
  ·rw [n] at r;cases r
 have hm:∀ b u,H b=some u→¬ Mut (some u)→b≠x:=fun b u q nm z=>by subst z;rw [q] at mu;exact nm mu
 refine ⟨fun b u q n _ _=>k b u (hb b n) q,fun b u q n _ _=>⟨u.slots,k b u (hb b n) q⟩,fun b u q n _=>by rw [upd_ne (hx b n)];exact n,fun b u q _=>?_,
  fun b xs q=>by rw [upd_ne (hm b _ q fun z=>z)];exact q,fun b u xs q=>by rw [upd_ne (hm b _ q fun z=>z)];exact q,fun b ps q=>⟨by rw [upd_ne (hm b _ q fun z=>z)];exact q,fun c u hc x=>⟨by rw [upd_ne (hm c _ hc fun z=>z)];exact hc,k c u (fun z=>he.elim (fun r=>hm c _ hc (fun z=>z) (z.trans r)) fun r=>by rw [← z,hc] at r;cases r;rw [q] at mu;exact mu) x⟩⟩⟩
 by_cases hbe:b=e
 ·subst hbe;exact heo
 ·exact ⟨u,k b u hbe q⟩
theorem Un.mono (u:Un fs ex H H1 h h1) (hs:∀ b∈fs,b∈fs') (hx:∀ b∈ex,b∈ex'):Un fs' ex' H H1 h h1 :=
 ⟨fun b ob q n hb he=>u.keep b ob q n (fun z=>hb (hs b z)) fun z=>he (hx b z),fun _ _ q n _ he=>u.any q n fun z=>he (hx _ z),fun b ob q n he=>u.free b ob q n fun z=>he (hx b z),fun b ob q he=>u.there b ob q fun z=>he (hx b z),u.tups,u.frzs,u.tbls⟩
end

def trk (h:Heap) (H:Hp):List Addr:=(List.range h.objs.size).filter fun a=>(H a).isSome
def hidT (h:Heap) (H:Hp):Heap:=PySem.W.hideAll h (trk h H)
theorem hidT_size (h:Heap) (H:Hp):(hidT h H).objs.size=h.objs.size:=PySem.W.hideAll_size _ _
theorem hidT_get {h:Heap} {H:Hp} {b:Addr} {o:Obj} (e:h.get? b=some o) (n:H b=none):(hidT h H).get? b=some o :=
 PySem.W.hideAll_get _ e fun hm=>by
  have q:(H b).isSome=true:=(List.mem_filter.mp hm).2
  rw [n] at q;simp at q
theorem of_hidT {h:Heap} {H:Hp} {b:Addr} {o:Obj} (e:(hidT h H).get? b=some o):h.get? b=some o∧H b=none:=by
 have e':h.get? b=some o:=PySem.W.of_hideAll (trk h H) e
 refine ⟨e',?_⟩
 cases q:H b with
 | none=>rfl
 | some x =>
  have hm:b∈trk h H:=List.mem_filter.mpr ⟨List.mem_range.mpr (Heap.lt_size e'),by simp [q]⟩
  have z:(hidT h H).get? b=none:=PySem.W.hideAll_none (trk h H) hm
  rw [z] at e;cases e

def allNews (g h:Heap) (L:Addr):List (Addr × Obj):=(List.range h.objs.size).filterMap fun a=>if a=L∨(g.get? a).isSome=true then none else (h.get? a).map fun o=>(a,o)
def rest (g h:Heap) (L d:Addr):List (Addr × Obj):=(allNews g h L).filter fun p=>decide (p.1≠d)
end L2

namespace L2
open PySem PySem.Spec PyProof.Rows

structure Mod (K:PySem.W.Frag) (mg:Str→Option Value) (base:Heap):Prop where
 kin:K.In base
 glob:base.Ns mainGlobals mg
 blt:∃ mb,base.Ns builtinsNs mb∧∀ x:Str,x ≠ "__name__" → mb x=bootBuiltins x
 nolimit:base.NoLimit

structure Cx where
 prog:Program
 w:World
 K:PySem.W.Frag
 mg:Str→Option Value
 base:Heap
 A:Around
 N:List Str
 s₀:Shared
 H₀:Hp
 env:Env
 outer:List Env
 stack:List Env
 ex:List Addr
 fn:Str→Bool
 calm:Bool
 pn:List (Addr × Obj)
 xe:Value→Shared→Prop
def frs (l:List Env):List Addr:=l.filterMap (·.frame)
abbrev Cx.fs (X:Cx):List Addr:=frs X.outer

def Vis (sc:Scope) (x:Str):Prop:=sc.names.lookup x=some .local∨sc.names.lookup x=some .cell∨sc.names.lookup x=some .free
def Loc (sc:Scope) (x:Str):Prop:=sc.names.lookup x=some .local∨sc.names.lookup x=some .cell
def Look (env:Env) (h:Heap) (m:Str→Option Value) (x:Str) (u:Value):Prop :=
 (env.kindOf x=some .local∧m x=some u)∨((env.kindOf x=some .cell∨env.kindOf x=some .free)∧∃ c,env.cells.lookup x=some c∧h.IsCell c (some u))

structure Cx.Ok (X:Cx):Prop where
 mod:Mod X.K X.mg X.base
 kind:X.env.scope.kind=.function
 glob:X.env.globals=mainGlobals
 blt:X.env.builtins=builtinsNs
 above:X.s₀.heap.objs.size≤X.env.locals
 inj:∀ x y c,X.env.cells.lookup x=some c→X.env.cells.lookup y=some c→x=y
 has:∀ x,(X.env.kindOf x=some .cell∨X.env.kindOf x=some .free)→∃ c,X.env.cells.lookup x=some c
 cab:∀ x c,X.fn x=true→X.env.cells.lookup x=some c→X.s₀.heap.objs.size≤c
 hd:X.calm=true→X.A.handled=none
 frames:X.A.frames=some X.stack
 stk:X.stack=X.outer∨(X.stack=X.env :: X.outer∧X.env.frame=some X.env.locals)
 exf:∀ b∈X.ex,b≠X.env.locals∧∀ x c,X.env.cells.lookup x=some c→c≠b
 bs:∀ b o,X.base.get? b=some o→X.s₀.heap.get? b=some o∧X.H₀ b=none
 bsz:X.base.objs.size≤X.s₀.heap.objs.size
 noex:∀ b o,X.base.get? b=some o→b ∉ X.ex
 exfs:∀ b∈X.ex,b ∉ X.fs
 funs:X.s₀.heap.FunFrames X.base X.outer
 frf:∀ b∈X.fs,X.H₀ b=none

structure Inv (X:Cx) (pins:List (Addr × Obj)) (σ:List (Option V)) (H:Hp) (s:Shared):Prop where
 ok:X.Ok
 os:s.os=X.s₀.os
 bare:AllBare s.gens
 base:Un X.fs X.ex X.H₀ H X.s₀.heap s.heap
 loc:∃ m,s.heap.Ns X.env.locals m∧∀ (i:Nat) (x:Str) (v:V),X.N[i]?=some x→σ[i]?=some (some v)→Vis X.env.scope x→∃ u,RelV v u∧Look X.env s.heap m x u
 cell:∀ x c,X.env.cells.lookup x=some c→∃ v,s.heap.IsCell c v
 free:H X.env.locals=none
 freeC:∀ x c,X.env.cells.lookup x=some c→H c=none
 pin:∀ p∈X.pn ++ pins,s.heap.get? p.1=some p.2∧H p.1=none∧p.1≠X.env.locals∧p.1 ∉ X.fs∧∀ v,p.2.data≠.cell v
 hok:HOk X.prog X.w H s.heap
 len:σ.length=X.N.length

section
variable {X:Cx} {pins:List (Addr × Obj)} {σ:List (Option V)} {H H':Hp} {s:Shared} {h':Heap}

theorem Cx.Ok.nofr (ok:X.Ok) {b:Addr} {o:Obj} (e:X.base.get? b=some o):b ∉ X.fs:=fun hb=>by
 have:=(ok.funs.mem hb).1
 rw [e] at this;cases this
theorem Inv.bs (I:Inv X pins σ H s):∀ b o,X.base.get? b=some o→s.heap.get? b=some o∧H b=none:=fun b o e =>
 ⟨I.base.keep b o (I.ok.bs b o e).1 (I.ok.bs b o e).2 (I.ok.nofr e) (I.ok.noex b o e),I.base.free b o (I.ok.bs b o e).1 (I.ok.bs b o e).2 (I.ok.noex b o e)⟩
theorem Inv.bk (I:Inv X pins σ H s):∀ b o,X.base.get? b=some o→s.heap.get? b=some o:=fun b o e=>(I.bs b o e).1
theorem Inv.mod (I:Inv X pins σ H s):Mod X.K X.mg X.base:=I.ok.mod
theorem Inv.kIn (I:Inv X pins σ H s):X.K.In s.heap:=I.ok.mod.kin.keeps I.bk
theorem Inv.fr (I:Inv X pins σ H s):∃ m,Fr X.base X.env.locals s.heap m :=
 let ⟨m,hn,_⟩:=I.loc
 ⟨m,hn,I.bk,Nat.le_trans I.ok.bsz I.ok.above⟩
theorem Inv.lt (I:Inv X pins σ H s):X.env.locals < s.heap.objs.size:=let ⟨_,hn,_⟩:=I.loc;hn.lt
theorem Inv.sz (I:Inv X pins σ H s):X.s₀.heap.objs.size≤s.heap.objs.size:=Nat.le_trans I.ok.above (Nat.le_of_lt I.lt)
theorem Inv.nofs (I:Inv X pins σ H s) {a:Addr} (h:s.heap.objs.size≤a):a ∉ X.fs:=fun hb=>by
 obtain ⟨_,o,ho,_⟩:=I.ok.funs.mem hb
 exact absurd (Nat.lt_of_lt_of_le (Heap.lt_size ho) (Nat.le_trans I.sz h)) (Nat.lt_irrefl _)
theorem Inv.cne (I:Inv X pins σ H s):∀ x c,X.env.cells.lookup x=some c→c≠X.env.locals:=fun x c e z=>by
 obtain ⟨v,o,ho,hd⟩:=I.cell x c e
 obtain ⟨m,⟨o',es,ep,ho',hd',_⟩,_⟩:=I.loc
 rw [z,ho'] at ho;cases ho;rw [hd'] at hd;cases hd
theorem Inv.funs (I:Inv X pins σ H s):s.heap.FunFrames X.base X.outer:=by
 have all:∀ (l:List Env),(∀ b∈frs l,b∈X.fs)→X.s₀.heap.FunFrames X.base l→s.heap.FunFrames X.base l:=by
  intro l
  induction l with
  | nil=>intro _ _;trivial
  | cons env r ih =>
   intro hs hl
   obtain ⟨hk,⟨L,o,hf,hn,ho,hd⟩,hr⟩:=hl
   have hL:L∈X.fs:=hs L (by unfold frs;rw [List.filterMap_cons,hf];exact List.mem_cons_self)
   obtain ⟨sl,e⟩:=I.base.slot L o ho (I.ok.frf L hL) hL fun z=>I.ok.exfs L z hL
   exact ⟨hk,⟨L,_,hf,hn,e,hd⟩,ih (fun b hb=>hs b (by unfold frs;rw [List.filterMap_cons,hf];exact List.mem_cons_of_mem _ hb)) hr⟩
 exact all X.outer (fun _ hb=>hb) I.ok.funs

theorem Inv.stack (I:Inv X pins σ H s):s.heap.FunFrames X.base X.stack:=by
 rcases I.ok.stk with e | ⟨e,hf⟩
 ·rw [e];exact I.funs
 ·rw [e]
  obtain ⟨m,hn,_⟩:=I.loc
  refine .cons (by rw [I.ok.kind];decide) hf hn ?_ I.funs
  exact Heap.get?_none_of_le (Nat.le_trans I.ok.bsz I.ok.above)
theorem Inv.stkSub (I:Inv X pins σ H s):∀ b∈frs X.stack,b∈X.env.locals :: X.fs:=fun b hb=>by
 rcases I.ok.stk with e | ⟨e,hf⟩
 ·rw [e] at hb;exact List.mem_cons_of_mem _ hb
 ·rw [e] at hb
  unfold frs at hb
  rw [List.filterMap_cons,hf] at hb
  exact hb
theorem Inv.stkFree (I:Inv X pins σ H s):∀ b∈frs X.stack,H b=none:=fun b hb=>by
 rcases List.mem_cons.mp (I.stkSub b hb) with e | hb
 ·rw [e];exact I.free
 ·obtain ⟨_,o,ho,_⟩:=I.ok.funs.mem hb
  exact I.base.free b o ho (I.ok.frf b hb) fun z=>I.ok.exfs b z hb

theorem Inv.step {g':Array GenState} {t':Nat} {d':Drawn} {ch:List Addr} (I:Inv X pins σ H s)
  (hch:∀ b∈ch,(b∈X.ex∨X.s₀.heap.objs.size≤b)∧b≠X.env.locals∧(∀ x c,X.env.cells.lookup x=some c→c≠b)∧∀ p∈X.pn ++ pins,p.1≠b)
  (keep:∀ b o,b≠X.env.locals→b ∉ X.fs→b ∉ ch→s.heap.get? b=some o→H b=none→h'.get? b=some o)
  (slot:∀ b o,b≠X.env.locals→b∈X.fs→b ∉ ch→s.heap.get? b=some o→H b=none→∃ sl,h'.get? b=some { o with slots:=sl }) (free:∀ b o,b ∉ ch→s.heap.get? b=some o→H b=none→H' b=none)
  (there:∀ b o,b ∉ ch→s.heap.get? b=some o→∃ o',h'.get? b=some o')
  (tups:∀ b xs,H b=some (.tup xs)→H' b=some (.tup xs)) (frzs:∀ b o u,H b=some (.frz o u)→H' b=some (.frz o u)) (tbls:∀ b ps,H b=some (.tbl ps)→H' b=some (.tbl ps)∧∀ c o,H c=some (.own b)→s.heap.get? c=some o→H' c=some (.own b)∧h'.get? c=some o)
  (ns:∀ m,s.heap.Ns X.env.locals m→h'.Ns X.env.locals m) (hok:HOk X.prog X.w H' h') (hg:AllBare g') :
  Inv X pins σ H' { s with heap:=h',gens:=g',drawn:=d',toks:=t' }:=by
 have neL:∀ b o,X.s₀.heap.get? b=some o→b≠X.env.locals:=fun b o e=>Nat.ne_of_lt (Nat.lt_of_lt_of_le (Heap.lt_size e) I.ok.above)
 have neC:∀ b o,X.s₀.heap.get? b=some o→b ∉ X.ex→b ∉ ch:=fun b o e hx hb=>by
  rcases (hch b hb).1 with z | z
  ·exact hx z
  ·exact absurd (Nat.lt_of_lt_of_le (Heap.lt_size e) z) (Nat.lt_irrefl _)
 have cellK:∀ x c,X.env.cells.lookup x=some c→∀ v,s.heap.IsCell c v→h'.IsCell c v:=fun x c e v ⟨o,ho,hd⟩=>by
  have nch:c ∉ ch:=fun z=>(hch c z).2.2.1 x c e rfl
  by_cases hc:c∈X.fs
  ·obtain ⟨sl,q⟩:=slot c o (I.cne x c e) hc nch ho (I.freeC x c e)
   exact ⟨_,q,hd⟩
  ·exact ⟨o,keep c o (I.cne x c e) hc nch ho (I.freeC x c e),hd⟩
 refine ⟨I.ok,I.os,hg,⟨fun b o e n hb hx=>?_,fun b o e n hb hx=>?_,fun b o e n hx=>?_,fun b o e hx=>?_,fun b xs e=>tups b xs (I.base.tups b xs e),fun b o xs e=>frzs b o xs (I.base.frzs b o xs e),fun b ps e=>?_⟩,?_,fun x c e=>?_,?_,fun x c e=>?_,fun p hp=>?_,hok,I.len⟩
 ·exact keep b o (neL b o e) hb (neC b o e hx) (I.base.keep b o e n hb hx) (I.base.free b o e n hx)
 ·obtain ⟨sl,e1⟩:=I.base.slot b o e n hb hx
  obtain ⟨sl',e2⟩:=slot b _ (neL b o e) hb (neC b o e hx) e1 (I.base.free b o e n hx)
  exact ⟨sl',e2⟩
 ·obtain ⟨o',e1⟩:=I.base.there b o e hx
  exact free b o' (neC b o e hx) e1 (I.base.free b o e n hx)
 ·obtain ⟨o',e1⟩:=I.base.there b o e hx
  exact there b o' (neC b o e hx) e1
 ·exact ⟨(tbls b ps (I.base.tbls b ps e).1).1,fun c o e1 x=>let z:=(I.base.tbls b ps e).2 c o e1 x;(tbls b ps (I.base.tbls b ps e).1).2 c o z.1 z.2⟩
 ·obtain ⟨m,hn,hl⟩:=I.loc
  refine ⟨m,ns m hn,fun i x v e1 e2 e3=>?_⟩
  obtain ⟨u,r,l⟩:=hl i x v e1 e2 e3
  refine ⟨u,r,?_⟩
  rcases l with l | ⟨k,c,e,z⟩
  ·exact .inl l
  ·exact .inr ⟨k,c,e,cellK x c e _ z⟩
 ·obtain ⟨v,z⟩:=I.cell x c e
  exact ⟨v,cellK x c e v z⟩
 ·obtain ⟨m,⟨o,_,_,ho,_⟩,_⟩:=I.loc
  exact free _ o (fun z=>(hch _ z).2.1 rfl) ho I.free
 ·obtain ⟨v,o,ho,hd⟩:=I.cell x c e
  exact free c o (fun z=>(hch c z).2.2.1 x c e rfl) ho (I.freeC x c e)
 ·obtain ⟨e,n,ne,nf,d⟩:=I.pin p hp
  have nch:p.1 ∉ ch:=fun z=>(hch p.1 z).2.2.2 p hp rfl
  exact ⟨keep p.1 p.2 ne nf nch e n,free p.1 p.2 nch e n,ne,nf,d⟩
theorem Inv.un {t':Nat} (I:Inv X pins σ H s) (u:Un X.fs [] H H' s.heap h') (hok:HOk X.prog X.w H' h'):Inv X pins σ H' { s with heap:=h',toks:=t' }:=by
 obtain ⟨m,⟨o,es,ep,ho,r⟩,_⟩:=id I.loc
 obtain ⟨sl,hL⟩:=u.any ho I.free (by simp)
 exact I.step (g':=s.gens) (d':=s.drawn) (ch:=[]) (fun _ z=>nomatch z) (fun b o _ hb _ e n=>u.keep b o e n hb (by simp)) (fun b o _ hb _ e n=>u.slot b o e n hb (by simp)) (fun b o _ e n=>u.free b o e n (by simp)) (fun b o _ e=>u.there b o e (by simp)) u.tups u.frzs u.tbls (fun m' hm=>by
  obtain ⟨o',es',ep',ho',r'⟩:=hm
  rw [ho] at ho';cases ho'
  exact ⟨_,es',ep',hL,r'⟩) hok I.bare
theorem Inv.call {g':Array GenState} {t':Nat} {d':Drawn} {ch:List Addr} (I:Inv X pins σ H s) (u:Un (frs X.stack) ch H H' s.heap h') (hok:HOk X.prog X.w H' h') (hg:AllBare g')
  (hch:∀ b∈ch,(b∈X.ex∨X.s₀.heap.objs.size≤b)∧b≠X.env.locals∧(∀ x c,X.env.cells.lookup x=some c→c≠b)∧∀ p∈X.pn ++ pins,p.1≠b) :
  Inv X pins σ H' { s with heap:=h',gens:=g',drawn:=d',toks:=t' }:=by
 obtain ⟨m,⟨o,es,ep,ho,r⟩,_⟩:=id I.loc
 obtain ⟨sl,hL⟩:=u.any ho I.free fun z=>(hch _ z).2.1 rfl
 exact I.step (ch:=ch) hch (fun b o hL hb hc e n=>u.keep b o e n (fun z=>(List.mem_cons.mp (I.stkSub b z)).elim hL hb) hc) (fun b o _ _ hc e n=>u.any e n hc) (fun b o hc e n=>u.free b o e n hc) (fun b o hc e=>u.there b o e hc) u.tups u.frzs u.tbls (fun m' hm=>by
  obtain ⟨o',es',ep',ho',r'⟩:=hm
  rw [ho] at ho';cases ho'
  exact ⟨_,es',ep',hL,r'⟩) hok hg
theorem Inv.turned {t':Nat} {it:Addr} (I:Inv X pins σ H s) (k:∀ b o,b≠it→s.heap.get? b=some o→h'.get? b=some o) (hn:H it=none) (hL:it≠X.env.locals)
  (h1:it∈X.ex∨X.s₀.heap.objs.size≤it) (h2:∀ x c,X.env.cells.lookup x=some c→c≠it) (h3:∀ p∈X.pn ++ pins,p.1≠it):Inv X pins σ H { s with heap:=h',toks:=t' }:=by
 have nit:∀ b u,H b=some u→b≠it:=fun b u e z=>by rw [z,hn] at e;cases e
 refine I.step (g':=s.gens) (d':=s.drawn) (ch:=[it]) (fun b hb=>?_) (fun b o _ _ hc e _=>k b o (fun z=>hc (by simp [z])) e) (fun b o _ _ hc e _=>⟨o.slots,k b o (fun z=>hc (by simp [z])) e⟩) (fun _ _ _ _ n=>n)
  (fun b o hc e=>⟨o,k b o (fun z=>hc (by simp [z])) e⟩) (fun _ _ e=>e) (fun _ _ _ e=>e) (fun b ps e=>⟨e,fun c o ec x=>⟨ec,k c o (nit c _ ec) x⟩⟩) (fun m hm=>?_) (fun b u e=>?_) I.bare
 ·have e:b=it:=by simpa using hb
  subst e
  exact ⟨h1,hL,h2,h3⟩
 ·obtain ⟨o,es,ep,ho,r⟩:=hm
  exact ⟨o,es,ep,k _ o (Ne.symm hL) ho,r⟩
 ·refine (I.hok b u e).stay (fun c v hc q=>k c v ?_ q) (fun _ q=>q) fun _ _ q=>q
  rcases hc with z | z
  ·rw [z];exact nit b u e
  ·exact nit c _ z
theorem Inv.tok (I:Inv X pins σ H s) (t:Nat):Inv X pins σ H { s with toks:=t }:=I.un (h':=s.heap) (t':=t) Un.refl I.hok
theorem Inv.kept {t':Nat} (I:Inv X pins σ H s) (k:∀ b u,s.heap.get? b=some u→h'.get? b=some u):Inv X pins σ H { s with heap:=h',toks:=t' }:=I.un (Un.kept k) (I.hok.kept k)
theorem Inv.laid {a:Addr} {o:HO} {t':Nat} (I:Inv X pins σ H s) (k:∀ b u,s.heap.get? b=some u→h'.get? b=some u) (hp:s.heap.objs.size≤a) (new:ObjOk X.prog X.w (upd H a o) h' a o) :
  Inv X pins σ (upd H a o) { s with heap:=h',toks:=t' }:=I.un (Un.laid k hp (I.hok.fresh hp)) (I.hok.laid k hp new)
theorem Inv.write {x e:Addr} {o:HO} {t':Nat} (I:Inv X pins σ H s) (mu:Mut (H x)) (he:e=x∨H e=some (.own x)) (k:∀ b u,b≠e→s.heap.get? b=some u→h'.get? b=some u) (heo:∃ u,h'.get? e=some u)
  (new:ObjOk X.prog X.w (upd H x o) h' x o):Inv X pins σ (upd H x o) { s with heap:=h',toks:=t' }:=I.un (Un.write mu he k heo) (I.hok.write mu he k heo new)
theorem Inv.weak {σ':List (Option V)} (I:Inv X pins σ H s) (hl:σ'.length=σ.length) (w:∀ (i:Nat) v,σ'[i]?=some (some v)→σ[i]?=some (some v)):Inv X pins σ' H s :=
 ⟨I.ok,I.os,I.bare,I.base,let ⟨m,hn,hl'⟩:=I.loc;⟨m,hn,fun i x v e1 e2 e3=>hl' i x v e1 (w i v e2) e3⟩,I.cell,I.free,I.freeC,I.pin,I.hok,hl.trans I.len⟩
theorem Inv.pins_of {pins':List (Addr × Obj)} (I:Inv X pins σ H s) (h:∀ p∈pins',s.heap.get? p.1=some p.2∧H p.1=none∧p.1≠X.env.locals∧p.1 ∉ X.fs∧∀ v,p.2.data≠.cell v):Inv X pins' σ H s :=
 ⟨I.ok,I.os,I.bare,I.base,I.loc,I.cell,I.free,I.freeC,fun p hp=>(List.mem_append.mp hp).elim (fun z=>I.pin p (List.mem_append_left _ z)) (h p),I.hok,I.len⟩

theorem nodup_ix {N:List Str} (hN:N.Nodup) {i j:Nat} {x:Str} (a:N[i]?=some x) (b:N[j]?=some x):i=j:=by
 obtain ⟨h1,e1⟩:=List.getElem?_eq_some_iff.mp a
 obtain ⟨h2,e2⟩:=List.getElem?_eq_some_iff.mp b
 exact (List.getElem_inj hN).mp (e1.trans e2.symm)

theorem store_ok2 {M:Model} {A:Around} {E:Value→Shared→Prop} {i:Nat} {x:Str} {v:V} {u:Value} {Q:Unit→Shared→Prop} (I:Inv X pins σ H s) (hN:X.N.Nodup) (hi:X.N[i]?=some x) (hx:Loc X.env.scope x) (r:RelV v u)
  (h:∀ s',Inv X pins (σ.set i (some v)) H s'→(∃ a,Heap.SameBut a s.heap s'.heap∧(a=X.env.locals∨X.env.cells.lookup x=some a))→Q () s') (hf:X.fn x=true∨X.env.scope.names.lookup x=some .local:=by first | exact .inl rfl | exact .inr rfl | assumption):wpAny M A (storeName X.env x u) Q E s:=by
 obtain ⟨m,hn,hl⟩:=id I.loc
 have hcls:(X.env.scope.kind == .class || (X.env.scope.kind == .module && X.env.locals != X.env.globals))=false:=by rw [I.ok.kind];rfl
 have hiσ:i < σ.length:=by rw [I.len];exact (List.getElem?_eq_some_iff.mp hi).1
 have cne:=I.cne
 have tracked:∀ {a:Addr} {h':Heap},(∃ o,s.heap.get? a=some o∧H a=none)→Heap.SameBut a s.heap h'→HOk X.prog X.w H h':=fun {a h'} ha hs b ob e=>by
  obtain ⟨_,_,hfree⟩:=ha
  refine (I.hok b ob e).stay (fun c w' hc q=>(hs.2 c ?_).trans q) (fun _ q=>q) fun _ _ q=>q
  rintro rfl
  rcases hc with rfl | hc
  ·rw [hfree] at e;cases e
  ·rw [hfree] at hc;cases hc
 rcases hx with hk | hk
 ·refine wpAny_storeName_local hk hn (fun h' hn' hs=>?_) hcls
  obtain ⟨oL,_,_,hoL,_⟩:=id hn
  refine h _ ⟨I.ok,I.os,I.bare,⟨fun b o e n hb hx=>?_,fun b o e n hb hx=>?_,I.base.free,fun b o e hx=>?_,I.base.tups,I.base.frzs,fun b ps e=>⟨(I.base.tbls b ps e).1,fun d o e1 x1=>let z:=(I.base.tbls b ps e).2 d o e1 x1;⟨z.1,(hs.2 d (ne_of_none z.1 I.free)).trans z.2⟩⟩⟩,⟨_,hn',fun j y v' e1 e2 e3=>?_⟩,fun y c e=>?_,I.free,I.freeC,fun p hp=>?_,tracked ⟨oL,hoL,I.free⟩ hs,by simpa using I.len⟩ ⟨_,hs,.inl rfl⟩
  ·exact (hs.2 b (Nat.ne_of_lt (Nat.lt_of_lt_of_le (Heap.lt_size e) I.ok.above))).trans (I.base.keep b o e n hb hx)
  ·obtain ⟨sl,e1⟩:=I.base.slot b o e n hb hx
   exact ⟨sl,(hs.2 b (Nat.ne_of_lt (Nat.lt_of_lt_of_le (Heap.lt_size e) I.ok.above))).trans e1⟩
  ·obtain ⟨o',e1⟩:=I.base.there b o e hx
   exact ⟨o',(hs.2 b (Nat.ne_of_lt (Nat.lt_of_lt_of_le (Heap.lt_size e) I.ok.above))).trans e1⟩
  ·by_cases hj:j=i
   ·subst hj
    rw [hi] at e1;cases e1
    rw [List.getElem?_set_self hiσ] at e2
    cases e2
    exact ⟨u,r,.inl ⟨hk,by simp⟩⟩
   ·rw [List.getElem?_set_ne (Ne.symm hj)] at e2
    obtain ⟨u',r',q⟩:=hl j y v' e1 e2 e3
    refine ⟨u',r',?_⟩
    rcases q with ⟨k,e⟩ | ⟨k,c,e,z⟩
    ·refine .inl ⟨k,?_⟩
     have:y≠x:=fun e=>hj (nodup_ix hN e1 (e ▸ hi))
     simp [this,e]
    ·exact .inr ⟨k,c,e,z.sameBut hs (cne y c e)⟩
  ·obtain ⟨w',z⟩:=I.cell y c e
   exact ⟨w',z.sameBut hs (cne y c e)⟩
  ·obtain ⟨e,n,ne,nf,d⟩:=I.pin p hp
   exact ⟨(hs.2 p.1 ne).trans e,n,ne,nf,d⟩
 ·have hfn:X.fn x=true:=by
   rcases hf with z | z
   ·exact z
   ·rw [z] at hk;cases hk
  obtain ⟨c,hc⟩:=I.ok.has x (.inl hk)
  obtain ⟨w',z⟩:=I.cell x c hc
  refine wpAny_storeName_cell I.ok.kind hk hc z (fun h' hc' hs=>?_)
  obtain ⟨oc,hoc,hocd⟩:=id z
  refine h { s with heap:=h' } ⟨I.ok,I.os,I.bare,⟨fun b o e n hb hx=>?_,fun b o e n hb hx=>?_,I.base.free,fun b o e hx=>?_,I.base.tups,I.base.frzs,fun b ps e=>⟨(I.base.tbls b ps e).1,fun d o e1 x1=>let z:=(I.base.tbls b ps e).2 d o e1 x1;⟨z.1,(hs.2 d (ne_of_none z.1 (I.freeC x c hc))).trans z.2⟩⟩⟩,⟨m,hn.sameBut hs (Ne.symm (cne x c hc)),fun j y v' e1 e2 e3=>?_⟩,fun y c' e=>?_,I.free,I.freeC,fun p hp=>?_,tracked ⟨oc,hoc,I.freeC x c hc⟩ hs,by simpa using I.len⟩ ⟨c,hs,.inr hc⟩
  ·exact (hs.2 b (Nat.ne_of_lt (Nat.lt_of_lt_of_le (Heap.lt_size e) (I.ok.cab x c hfn hc)))).trans (I.base.keep b o e n hb hx)
  ·obtain ⟨sl,e1⟩:=I.base.slot b o e n hb hx
   exact ⟨sl,(hs.2 b (Nat.ne_of_lt (Nat.lt_of_lt_of_le (Heap.lt_size e) (I.ok.cab x c hfn hc)))).trans e1⟩
  ·obtain ⟨o',e1⟩:=I.base.there b o e hx
   exact ⟨o',(hs.2 b (Nat.ne_of_lt (Nat.lt_of_lt_of_le (Heap.lt_size e) (I.ok.cab x c hfn hc)))).trans e1⟩
  ·by_cases hj:j=i
   ·subst hj
    rw [hi] at e1;cases e1
    rw [List.getElem?_set_self hiσ] at e2
    cases e2
    exact ⟨u,r,.inr ⟨.inl hk,c,hc,hc'⟩⟩
   ·rw [List.getElem?_set_ne (Ne.symm hj)] at e2
    obtain ⟨u',r',q⟩:=hl j y v' e1 e2 e3
    refine ⟨u',r',?_⟩
    rcases q with q | ⟨k,c',e,z'⟩
    ·exact .inl q
    ·refine .inr ⟨k,c',e,z'.sameBut hs ?_⟩
     rintro rfl
     exact hj (nodup_ix hN e1 (I.ok.inj _ _ _ e hc ▸ hi))
  ·by_cases hcc:c'=c
   ·subst hcc;exact ⟨_,hc'⟩
   ·obtain ⟨w2,z2⟩:=I.cell y c' e
    exact ⟨w2,z2.sameBut hs hcc⟩
  ·obtain ⟨e,n,ne,nf,d⟩:=I.pin p hp
   refine ⟨(hs.2 p.1 ?_).trans e,n,ne,nf,d⟩
   intro q
   rw [q,hoc] at e
   have q':oc=p.2:=Option.some.inj e
   exact d w' (by rw [← q'];exact hocd)
theorem store_ok {M:Model} {A:Around} {E:Value→Shared→Prop} {i:Nat} {x:Str} {v:V} {u:Value} {Q:Unit→Shared→Prop} (I:Inv X pins σ H s) (hN:X.N.Nodup) (hi:X.N[i]?=some x) (hx:Loc X.env.scope x) (r:RelV v u)
  (h:∀ s',Inv X pins (σ.set i (some v)) H s'→Q () s') (hf:X.fn x=true∨X.env.scope.names.lookup x=some .local:=by first | exact .inl rfl | exact .inr rfl | assumption):wpAny M A (storeName X.env x u) Q E s :=
 store_ok2 I hN hi hx r (fun s' I' _=>h s' I') hf
theorem Inv.call' {s':Shared} {ch:List Addr} (I:Inv X pins σ H s) (ho:s'.os=s.os) (u:Un (frs X.stack) ch H H' s.heap s'.heap) (hok:HOk X.prog X.w H' s'.heap) (hg:AllBare s'.gens)
  (hch:∀ b∈ch,(b∈X.ex∨X.s₀.heap.objs.size≤b)∧b≠X.env.locals∧(∀ x c,X.env.cells.lookup x=some c→c≠b)∧∀ p∈X.pn ++ pins,p.1≠b):Inv X pins σ H' s':=by
 obtain ⟨h',g',d',t',o'⟩:=s'
 have e:o'=s.os:=ho
 subst e
 exact I.call (g':=g') (t':=t') (d':=d') u hok hg hch
end

abbrev XK:=Value→Option Addr→Hp→Prop
abbrev St:=List (Option V)
abbrev VK:=V→Hp→Prop
abbrev TE:=St→Hp→VK→Prop
abbrev TT:=St→Hp→(Bool→Hp→Prop)→Prop
abbrev TA:=St→Hp→(List V→Hp→Prop)→Prop
structure Ends where
 nx:St→Hp→Prop
 rt:VK
 bk:St→Hp→Prop:=fun _ _=>False
 ct:St→Hp→Prop:=fun _ _=>False
abbrev TS:=Ends→St→Hp→Prop

def EP (X:Cx) (pins:List (Addr × Obj)) (σ:St) (Q:VK) (u:Value) (s':Shared):Prop:=∃ v H',Inv X pins σ H' s'∧RelV v u∧Q v H'
def TP (X:Cx) (pins:List (Addr × Obj)) (σ:St) (Q:Bool→Hp→Prop) (b:Bool) (s':Shared):Prop:=∃ H',Inv X pins σ H' s'∧Q b H'
def AP (X:Cx) (pins:List (Addr × Obj)) (σ:St) (Q:List V→Hp→Prop) (us:List Value) (s':Shared):Prop:=∃ vs H',Inv X pins σ H' s'∧Vals vs us∧Q vs H'
def SP (X:Cx) (pins:List (Addr × Obj)) (D:Ends) (f:Flow) (s':Shared):Prop :=
 match f with
 | .next=>∃ σ' H',Inv X pins σ' H' s'∧D.nx σ' H'
 | .brk=>∃ σ' H',Inv X pins σ' H' s'∧D.bk σ' H'
 | .cont=>∃ σ' H',Inv X pins σ' H' s'∧D.ct σ' H'
 | .ret u=>∃ v σ' H',Inv X pins σ' H' s'∧RelV v u∧D.rt v H'

def PE (X:Cx) (e:Expr) (t:TE):Prop :=
 ∀ (pins:List (Addr × Obj)) (s:Shared) (σ:St) (H:Hp) (Q:VK),Inv X pins σ H s→t σ H Q→wpAny (model X.prog X.w) X.A (eval e X.env) (EP X pins σ Q) X.xe s
def PT (X:Cx) (e:Expr) (t:TT):Prop :=
 ∀ (pins:List (Addr × Obj)) (s:Shared) (σ:St) (H:Hp) (Q:Bool→Hp→Prop),Inv X pins σ H s→t σ H Q→wpAny (model X.prog X.w) X.A (isTrue e X.env (eval e X.env)) (TP X pins σ Q) X.xe s
def PW (X:Cx) (e:Expr) (t:TT):Prop :=
 ∀ (whole:Sem Value) (pins:List (Addr × Obj)) (s:Shared) (σ:St) (H:Hp) (Q:Bool→Hp→Prop),Inv X pins σ H s→t σ H Q→wpAny (model X.prog X.w) X.A (isTrue e X.env whole) (TP X pins σ Q) X.xe s
theorem PW.pt {X:Cx} {e:Expr} {t:TT} (h:PW X e t):PT X e t:=h _
def PA (X:Cx) (es:List Expr) (t:TA):Prop :=
 ∀ (pos:Pos) (pins:List (Addr × Obj)) (s:Shared) (σ:St) (H:Hp) (Q:List V→Hp→Prop),Inv X pins σ H s→t σ H Q→wpAny (model X.prog X.w) X.A (spliced (backTo pos (starEach es X.env))) (AP X pins σ Q) X.xe s
def PS (X:Cx) (st:Stmt) (t:TS):Prop :=
 ∀ (pins:List (Addr × Obj)) (s:Shared) (σ:St) (H:Hp) (D:Ends),Inv X pins σ H s→t D σ H→wpAny (model X.prog X.w) X.A (exec st X.env) (SP X pins D) X.xe s
def PSs (X:Cx) (st:List Stmt) (t:TS):Prop :=
 ∀ (pins:List (Addr × Obj)) (s:Shared) (σ:St) (H:Hp) (D:Ends),Inv X pins σ H s→t D σ H→wpAny (model X.prog X.w) X.A (execs st X.env) (SP X pins D) X.xe s
theorem thn {α:Type} {t:Sem α} {Q Q':α→Shared→Prop} {M:Model} {A:Around} {E:Value→Shared→Prop} {s:Shared} (h:wpAny M A t Q E s) (hQ:∀ a s,Q a s→Q' a s):wpAny M A t Q' E s:=wpAny_mono h hQ fun _ _ x=>x
end L2

namespace L2
open PySem PySem.Spec PyProof.Rows
section
variable {X:Cx}

inductive TVar (i:Nat) (σ:St) (H:Hp) (Q:VK):Prop
 | mk (v:V) (e:σ[i]?=some (some v)) (q:Q v H):TVar i σ H Q
def tVar (i:Nat):TE:=TVar i
def tC (v:V):TE:=fun _ H Q=>Q v H
theorem pe_var {i:Nat} {x:Str} {pos:Pos} (hN:X.N[i]?=some x) (hv:Vis X.env.scope x) (hd:(x == ("__debug__" : Str))=false:=by decide) (hcd:(x == ("__classdict__" : Str))=false:=by decide):PE X (.Name x pos) (tVar i):=by
 intro pins s σ H Q I h
 obtain ⟨v,e,h⟩:=h
 obtain ⟨m,hn,hl⟩:=I.loc
 obtain ⟨u,r,l⟩:=hl i x v hN e hv
 have fin:EP X pins σ Q u s:=⟨v,H,I,r,h⟩
 rcases l with ⟨hk,hm⟩ | ⟨hk,c,hc,hcell⟩
 ·exact wpAny_Name (wpAny_loadName_local I.ok.kind hk hn hm fin) hd
 ·rcases hk with hk | hk
  ·exact wpAny_Name (wpAny_loadName_cell I.ok.kind hk hc hcell fin) hd
  ·exact wpAny_Name (wpAny_loadName_free I.ok.kind hk hc hcell fin hcd) hd
theorem pe_int {i j pos}:PE X (.Constant (.int i) j pos) (tC (.int i)):=fun _ _ _ H _ I h=>wpAny_Constant_int ⟨.int i,H,I.tok _,⟨_,rfl⟩,h⟩
theorem pe_bl {b j pos}:PE X (.Constant (.bool b) j pos) (tC (.bl b)):=fun _ _ _ H _ I h=>Constant_bool ⟨.bl b,H,I,rfl,h⟩
theorem pe_non {j pos}:PE X (.Constant .none j pos) (tC .non):=fun _ _ _ H _ I h=>Constant_none ⟨.non,H,I,rfl,h⟩
theorem pe_str {x j pos}:PE X (.Constant (.str x) j pos) (tC (.str x)):=fun _ _ _ H _ I h=>Calls.Constant_str ⟨.str x,H,I.tok _,⟨_,rfl⟩,h⟩

def Gl (X:Cx) (x:Str):Prop:=X.env.kindOf x=some .globalImplicit
theorem ld_glob {E:Value→Shared→Prop} {pins:List (Addr × Obj)} {s:Shared} {σ:St} {H:Hp} {x:Str} {u:Value} {pos:Pos} {Q:Value→Shared→Prop} (I:Inv X pins σ H s) (hg:Gl X x) (hm:X.mg x=some u) (h:Q u s)
  (hd:(x == ("__debug__" : Str))=false:=by decide):wpAny (model X.prog X.w) X.A (eval (.Name x pos) X.env) Q E s :=
 Calls.Name_function_global I.ok.kind hg (Calls.loadGlobal_global (by rw [I.ok.glob];exact I.mod.glob.keeps I.bk) hm h) hd
theorem ld_blt {E:Value→Shared→Prop} {pins:List (Addr × Obj)} {s:Shared} {σ:St} {H:Hp} {x:Str} {u:Value} {pos:Pos} {Q:Value→Shared→Prop} (I:Inv X pins σ H s) (hg:Gl X x) (hm:X.mg x=none) (hv:bootBuiltins x=some u) (h:Q u s)
  (hn:x ≠ "__name__" := by decide) (hd:(x == ("__debug__" : Str))=false:=by decide):wpAny (model X.prog X.w) X.A (eval (.Name x pos) X.env) Q E s:=by
 obtain ⟨mb,h1,h2⟩:=I.mod.blt
 exact Calls.Name_function_global I.ok.kind hg (Calls.loadGlobal_builtin (by rw [I.ok.glob];exact I.mod.glob.keeps I.bk) hm (by rw [I.ok.blt];exact h1.keeps I.bk) ((h2 x hn).trans hv) h) hd
theorem pe_glob {x:Str} {v:V} {u:Value} {pos:Pos} (hg:Gl X x) (hm:X.mg x=some u) (r:RelV v u) (hd:(x == ("__debug__" : Str))=false:=by decide):PE X (.Name x pos) (tC v) :=
 fun _ _ _ H _ I h=>ld_glob I hg hm ⟨v,H,I,r,h⟩ hd
theorem pe_bltn {x:Str} {v:V} {u:Value} {pos:Pos} (hg:Gl X x) (hm:X.mg x=none) (hv:bootBuiltins x=some u) (r:RelV v u) (hn:x ≠ "__name__" := by decide) (hd:(x == ("__debug__" : Str))=false:=by decide):PE X (.Name x pos) (tC v) :=
 fun _ _ _ H _ I h=>ld_blt I hg hm hv ⟨v,H,I,r,h⟩ hn hd

inductive OfBl (x:V) (H:Hp) (Q:Bool→Hp→Prop):Prop
 | mk (c:Bool) (e:x=.bl c) (q:Q c H):OfBl x H Q
inductive OfI (x:V) (H:Hp) (Q:Int→Hp→Prop):Prop
 | mk (i:Int) (e:x=.int i) (q:Q i H):OfI x H Q
inductive NewOb (n:Nat) (o:HO) (H:Hp) (Q:VK):Prop
 | mk (l:n≤sizeLine) (q:∀ p,H p=none→Q (.ref p) (upd H p o)):NewOb n o H Q
variable {a b:Expr} {ta tb:TE} {pos:Pos}
def tB (t:TE):TT:=fun σ H Q=>t σ H fun x H1=>OfBl x H1 Q
theorem pt_val {e:Expr} {t:TE} (h:PE X e t) (he:∀ whole,isTrue e X.env whole=(do let v ← whole;standAt e.pos;holding [v] (truthy v)):=by intro _;rfl):PT X e (tB t):=by
 intro pins s σ H Q I hw
 refine isTrue_plain (thn (h pins s σ H _ I hw) fun v s1 ⟨x,H1,I1,r1,q1⟩=>?_) (he _)
 obtain ⟨d,rfl,q⟩:=q1
 cases r1
 exact wpAny_truthy_bool ⟨H1,I1,q⟩

variable {tA tB':TT} {rest:List Expr}
def tAnd (t u:TT):TT:=fun σ H Q=>t σ H fun c H1=>if c=true then u σ H1 Q else Q false H1
def tOr (t u:TT):TT:=fun σ H Q=>t σ H fun c H1=>if c=true then Q true H1 else u σ H1 Q
def tNot (t:TT):TT:=fun σ H Q=>t σ H fun c H1=>Q (!c) H1
theorem pw_and1 (ha:PT X a tA):PW X (.BoolOp .And [a] pos) tA:=by
 intro wh pins s σ H Q I h
 refine isTrue_and (thn (ha pins s σ H Q I h) fun c s1 e=>?_)
 cases c with
 | true=>exact isTrue_and_nil e
 | false=>exact e
theorem pw_or1 (ha:PT X a tA):PW X (.BoolOp .Or [a] pos) tA:=by
 intro wh pins s σ H Q I h
 refine isTrue_or (thn (ha pins s σ H Q I h) fun c s1 e=>?_)
 cases c with
 | false=>exact isTrue_or_nil e
 | true=>exact e
theorem pw_and (ha:PT X a tA) (hb:PW X (.BoolOp .And (b :: rest) pos) tB'):PW X (.BoolOp .And (a :: b :: rest) pos) (tAnd tA tB'):=by
 intro wh pins s σ H Q I h
 refine isTrue_and (thn (ha pins s σ H _ I h) fun c s1 ⟨H1,I1,q1⟩=>?_)
 cases c with
 | true=>exact hb wh pins s1 σ H1 Q I1 q1
 | false=>exact ⟨H1,I1,q1⟩
theorem pw_or (ha:PT X a tA) (hb:PW X (.BoolOp .Or (b :: rest) pos) tB'):PW X (.BoolOp .Or (a :: b :: rest) pos) (tOr tA tB'):=by
 intro wh pins s σ H Q I h
 refine isTrue_or (thn (ha pins s σ H _ I h) fun c s1 ⟨H1,I1,q1⟩=>?_)
 cases c with
 | true=>exact ⟨H1,I1,q1⟩
 | false=>exact hb wh pins s1 σ H1 Q I1 q1
theorem pt_not (ha:PT X a tA):PT X (.UnaryOp .Not a pos) (tNot tA):=by
 intro pins s σ H Q I h
 exact isTrue_not (ha pins s σ H (fun c H1=>Q (!c) H1) I h)
def tAndV (ta tb:TE):TE:=fun σ H Q=>ta σ H fun x H1=>OfBl x H1 fun c H1=>if c=true then tb σ H1 Q else Q (.bl false) H1
def tOrV (ta tb:TE):TE:=fun σ H Q=>ta σ H fun x H1=>OfBl x H1 fun c H1=>if c=true then Q (.bl true) H1 else tb σ H1 Q
def tNotV (ta:TE):TE:=fun σ H Q=>ta σ H fun x H1=>OfBl x H1 fun c H1=>Q (.bl (!c)) H1
theorem pe_one {op} {t:TE} (h:PE X a t):PE X (.BoolOp op [a] pos) t:=fun pins s σ H Q I hw=>BoolOp_one (h pins s σ H Q I hw)
theorem pe_and (ha:PE X a ta) (hb:PE X (.BoolOp .And (b :: rest) pos) tb):PE X (.BoolOp .And (a :: b :: rest) pos) (tAndV ta tb):=by
 intro pins s σ H Q I h
 refine BoolOp_and (thn (ha pins s σ H _ I h) fun v s1 ⟨x,H1,I1,r1,q1⟩=>?_)
 obtain ⟨c,rfl,q1⟩:=q1
 cases r1
 refine wpAny_truthy_bool ?_
 cases c with
 | true=>exact hb pins s1 σ H1 Q I1 q1
 | false=>exact ⟨.bl false,H1,I1,rfl,q1⟩
theorem pe_or (ha:PE X a ta) (hb:PE X (.BoolOp .Or (b :: rest) pos) tb):PE X (.BoolOp .Or (a :: b :: rest) pos) (tOrV ta tb):=by
 intro pins s σ H Q I h
 refine BoolOp_or (thn (ha pins s σ H _ I h) fun v s1 ⟨x,H1,I1,r1,q1⟩=>?_)
 obtain ⟨c,rfl,q1⟩:=q1
 cases r1
 refine wpAny_truthy_bool ?_
 cases c with
 | false=>exact hb pins s1 σ H1 Q I1 q1
 | true=>exact ⟨.bl true,H1,I1,rfl,q1⟩
theorem pe_not (ha:PE X a ta):PE X (.UnaryOp .Not a pos) (tNotV ta):=by
 intro pins s σ H Q I h
 refine UnaryOp_ (thn (ha pins s σ H _ I h) fun v s1 ⟨x,H1,I1,r1,q1⟩=>?_)
 obtain ⟨c,rfl,q1⟩:=q1
 cases r1
 exact not_of (wpAny_truthy_bool ⟨.bl (!c),H1,I1,rfl,q1⟩)
def tIf (t:TT) (ta tb:TE):TE:=fun σ H Q=>t σ H fun c H1=>if c=true then ta σ H1 Q else tb σ H1 Q
theorem pe_ifExp {c:Expr} (hc:PT X c tA) (ha:PE X a ta) (hb:PE X b tb):PE X (.IfExp c a b pos) (tIf tA ta tb):=by
 intro pins s σ H Q I h
 refine wpAny_IfExp (thn (hc pins s σ H _ I h) fun d s1 ⟨H1,I1,q1⟩=>?_)
 cases d with
 | true=>exact ha pins s1 σ H1 Q I1 q1
 | false=>exact hb pins s1 σ H1 Q I1 q1
end
end L2

namespace L2
open PySem PySem.Spec PyProof.Rows

def SqL (K:PySem.W.Frag) (H:Hp) (a:Addr) (xs:List V):Prop :=
 Rd H a (.lst xs) ∨
  ∃ (o:Obj) (its:Array Value) (n:Nat),K.lookup a=some o∧o.cls=.type "list" ∧ o.dict=none∧o.data=.seq its n∧its.size≤sizeLine∧Vals xs its.toList
def SqT (K:PySem.W.Frag) (H:Hp) (a:Addr) (xs:List V):Prop :=
 Rd H a (.tup xs) ∨
  ∃ (o:Obj) (its:Array Value) (n:Nat),K.lookup a=some o∧o.cls=.type "tuple" ∧ o.data=.seq its n∧its.size≤sizeLine∧Vals xs its.toList
def absV:Value→Option V
 | .none=>some .non
 | .bool b=>some (.bl b)
 | .int i _=>some (.int i)
 | .str x _=>some (.str x)
 | .bytes b _=>some (.byt b)
 | .float b _=>some (.flt b)
 | .ref a=>some (.ref a)
 | .type n=>some (.ty n)
 | _=>none
theorem RelV.abs {x:V} {u:Value} (r:RelV x u):absV u=some x:=by
 cases x with
 | non=>cases r;rfl
 | bl _=>cases r;rfl
 | int _=>obtain ⟨t,rfl⟩:=r;rfl
 | str _=>obtain ⟨t,rfl⟩:=r;rfl
 | byt _=>obtain ⟨t,rfl⟩:=r;rfl
 | flt _=>obtain ⟨t,rfl⟩:=r;rfl
 | ref _=>cases r;rfl
 | ty _=>cases r;rfl
theorem RelV.inj {x y:V} {u:Value} (r:RelV x u) (q:RelV y u):x=y:=Option.some.inj (r.abs.symm.trans q.abs)
theorem Vals.inj:∀ {xs ys:List V} {us:List Value},Vals xs us→Vals ys us→xs=ys
 | _,_,_,.nil,.nil=>rfl
 | _,_,_,.cons r t,.cons r' t'=>by rw [r.inj r',Vals.inj t t']
section
variable {X:Cx} {pins:List (Addr × Obj)} {σ:St} {H:Hp} {s:Shared} {a:Addr} {xs ys:List V}
theorem SqL.of {K:PySem.W.Frag} (h:H a=some (.lst xs)):SqL K H a xs:=.inl (.inl h)
theorem SqT.of {K:PySem.W.Frag} (h:H a=some (.tup xs)):SqT K H a xs:=.inl (.inl h)
theorem Inv.list (I:Inv X pins σ H s) (h:SqL X.K H a xs):∃ its:List Value,Vals xs its∧PlainL s.heap a its.toArray∧xs.length≤sizeLine:=by
 rcases h with h | ⟨o,its,n,hk,hc,hd,hs,hz,r⟩
 ·obtain ⟨z,its,n,r,e⟩:=h.ok I.hok
  exact ⟨its,r,⟨_,n,e,rfl,rfl,rfl⟩,z⟩
 ·refine ⟨its.toList,r,⟨o,n,I.kIn a o hk,hc,hd,by simpa using hs⟩,?_⟩
  have e:=r.length
  simp only [Array.length_toList] at e
  walk_at"q"
theorem Inv.tuple (I:Inv X pins σ H s) (h:SqT X.K H a xs):∃ its:List Value,Vals xs its∧IsTup s.heap a its.toArray∧xs.length≤sizeLine:=by
 rcases h with h | ⟨o,its,n,hk,hc,hs,hz,r⟩
 ·obtain ⟨z,its,r,p⟩:=h.ok I.hok
  exact ⟨its,r,p.tup,z⟩
 ·refine ⟨its.toList,r,⟨o,I.kIn a o hk,hc,n,by simpa using hs⟩,?_⟩
  have e:=r.length
  simp only [Array.length_toList] at e
  walk_at"q"
theorem Inv.list_inj (I:Inv X pins σ H s) (h:SqL X.K H a xs) (h':SqL X.K H a ys):xs=ys:=by
 obtain ⟨its,r,⟨o,n,e,_,_,d⟩,_⟩:=I.list h
 obtain ⟨its',r',⟨o',n',e',_,_,d'⟩,_⟩:=I.list h'
 rw [e] at e';cases e'
 rw [d] at d'
 injection d' with d1 _
 have:its=its':=by simpa using congrArg Array.toList d1
 subst this
 exact r.inj r'
theorem Inv.tuple_inj (I:Inv X pins σ H s) (h:SqT X.K H a xs) (h':SqT X.K H a ys):xs=ys:=by
 obtain ⟨its,r,⟨o,e,_,n,d⟩,_⟩:=I.tuple h
 obtain ⟨its',r',⟨o',e',_,n',d'⟩,_⟩:=I.tuple h'
 rw [e] at e';cases e'
 rw [d] at d'
 injection d' with d1 _
 have:its=its':=by simpa using congrArg Array.toList d1
 subst this
 exact r.inj r'
end

abbrev Cx.wish (X:Cx) (E:Value→Shared→Prop):Cx:={ X with xe:=E }
abbrev Cx.nox (X:Cx):Cx:=X.wish fun _ _=>False
theorem Cx.Ok.wish {X:Cx} (ok:X.Ok) (E:Value→Shared→Prop):(X.wish E).Ok :=
 ⟨ok.mod,ok.kind,ok.glob,ok.blt,ok.above,ok.inj,ok.has,ok.cab,ok.hd,ok.frames,ok.stk,ok.exf,ok.bs,ok.bsz,ok.noex,ok.exfs,ok.funs,ok.frf⟩
theorem Cx.Ok.unwish {X:Cx} {E:Value→Shared→Prop} (ok:(X.wish E).Ok):X.Ok :=
 ⟨ok.mod,ok.kind,ok.glob,ok.blt,ok.above,ok.inj,ok.has,ok.cab,ok.hd,ok.frames,ok.stk,ok.exf,ok.bs,ok.bsz,ok.noex,ok.exfs,ok.funs,ok.frf⟩
section
variable {X:Cx} {pins:List (Addr × Obj)} {σ:St} {H:Hp} {s:Shared} {E:Value→Shared→Prop}
theorem Inv.wish (I:Inv X pins σ H s) (E:Value→Shared→Prop):Inv (X.wish E) pins σ H s:=⟨I.ok.wish E,I.os,I.bare,I.base,I.loc,I.cell,I.free,I.freeC,I.pin,I.hok,I.len⟩
theorem Inv.unwish (I:Inv (X.wish E) pins σ H s):Inv X pins σ H s:=⟨I.ok.unwish,I.os,I.bare,I.base,I.loc,I.cell,I.free,I.freeC,I.pin,I.hok,I.len⟩
theorem SP.unwish {D:Ends} {f:Flow} {s':Shared} (h:SP (X.wish E) pins D f s'):SP X pins D f s':=by
 cases f with
 | next=>obtain ⟨σ',H',I,q⟩:=h;exact ⟨σ',H',I.unwish,q⟩
 | brk=>obtain ⟨σ',H',I,q⟩:=h;exact ⟨σ',H',I.unwish,q⟩
 | cont=>obtain ⟨σ',H',I,q⟩:=h;exact ⟨σ',H',I.unwish,q⟩
 | ret u=>obtain ⟨v,σ',H',I,r,q⟩:=h;exact ⟨v,σ',H',I.unwish,r,q⟩
theorem PSs.nox {st:List Stmt} {t:TS} (h:PSs X.nox st t):PSs X st t:=fun pins s σ H D I hw =>
 wpAny_mono (h pins s σ H D (I.wish _) hw) (fun _ _ q=>q.unwish) fun _ _ z=>False.elim z
end

section
variable {X:Cx} {st:Stmt} {rest:List Stmt} {t u:TS} {e:Expr} {te:TE} {pos:Pos}
def tNext:TS:=fun D σ H=>D.nx σ H
def tSeq (t u:TS):TS:=fun D σ H=>t { D with nx:=u D } σ H
theorem pss_nil:PSs X [] tNext:=fun _ _ σ H _ I h=>wpAny_execs_nil ⟨σ,H,I,h⟩
theorem pss_cons (h1:PS X st t) (h2:PSs X rest u):PSs X (st :: rest) (tSeq t u):=by
 intro pins s σ H D I h
 refine wpAny_execs_cons (thn (h1 pins s σ H { D with nx:=u D } I h) fun f s1 q=>?_)
 cases f with
 | next =>
  obtain ⟨σ',H',I',q⟩:=q
  exact h2 pins s1 σ' H' D I' q
 | ret v=>exact q
 | brk=>exact q
 | cont=>exact q
theorem pss_one (h1:PS X st t):PSs X [st] t:=by
 intro pins s σ H D I h
 refine wpAny_execs_cons (thn (h1 pins s σ H D I h) fun f s1 q=>?_)
 cases f with
 | next=>exact wpAny_execs_nil q
 | ret v=>exact q
 | brk=>exact q
 | cont=>exact q
theorem Inv.quiet {pins:List (Addr × Obj)} {σ:St} {H:Hp} {s:Shared} (I:Inv X pins σ H s):interactive X.env=false:=by simp [interactive,I.ok.kind]
def tDrop (te:TE):TS:=fun D σ H=>te σ H fun _ H1=>D.nx σ H1
theorem ps_expr (he:PE X e te) (hs:swapsWith e none pos.line X.env=pure false:=by rfl):PS X (.Expr e pos) (tDrop te):=by
 intro pins s σ H D I h
 exact wpAny_Expr_any (thn (he pins s σ H _ I h) fun v s1 ⟨x,H1,I1,r1,q1⟩=>⟨σ,H1,I1,q1⟩) I.quiet hs
def tRet (te:TE):TS:=fun D σ H=>te σ H D.rt
theorem ps_ret (he:PE X e te):PS X (.Return (some e) pos) (tRet te):=by
 intro pins s σ H D I h
 exact wpAny_Return_some (thn (he pins s σ H _ I h) fun v s1 ⟨x,H1,I1,r1,q1⟩=>⟨x,σ,H1,I1,r1,q1⟩)
def tIfS (c:TT) (t u:TS):TS:=fun D σ H=>c σ H fun b H1=>if b=true then t D σ H1 else u D σ H1
theorem ps_if {c:Expr} {a b:List Stmt} {tc:TT} (hc:PT X c tc) (ha:PSs X a t) (hb:PSs X b u):PS X (.If c a b pos) (tIfS tc t u):=by
 intro pins s σ H D I h
 refine wpAny_If (thn (hc pins s σ H _ I h) fun d s1 ⟨H1,I1,q1⟩=>?_)
 cases d with
 | true=>exact ha pins s1 σ H1 D I1 q1
 | false=>exact hb pins s1 σ H1 D I1 q1
end

abbrev TG:=V→St→Hp→(St→Hp→Prop)→Prop
abbrev TGs:=List V→St→Hp→(St→Hp→Prop)→Prop
def PG (X:Cx) (target:Expr) (t:TG):Prop :=
 ∀ (pins:List (Addr × Obj)) (s:Shared) (σ:St) (H:Hp) (v:V) (u:Value) (Q:St→Hp→Prop),Inv X pins σ H s→RelV v u→t v σ H Q →
  wpAny (model X.prog X.w) X.A (assign target X.env u) (fun _ s'=>∃ σ' H',Inv X pins σ' H' s'∧Q σ' H') X.xe s
def PGs (X:Cx) (ts:List Expr) (t:TGs):Prop :=
 ∀ (pins:List (Addr × Obj)) (s:Shared) (σ:St) (H:Hp) (vs:List V) (us:List Value) (Q:St→Hp→Prop),Inv X pins σ H s→Vals vs us→t vs σ H Q →
  wpAny (model X.prog X.w) X.A (assignInOrder ((assignEach ts X.env).map (·.2)) us) (fun _ s'=>∃ σ' H',Inv X pins σ' H' s'∧Q σ' H') X.xe s
abbrev TSet:=V→V→V→Hp→(Hp→Prop)→Prop
def PSet (X:Cx) (t:TSet):Prop :=
 ∀ (pins:List (Addr × Obj)) (s:Shared) (σ:St) (H:Hp) (o i v:V) (ov iv u:Value) (Q:Hp→Prop),Inv X pins σ H s→RelV o ov→RelV i iv→RelV v u→t o i v H Q →
  wpAny (model X.prog X.w) X.A (setItem ov iv u) (fun _ s'=>∃ H',Inv X pins σ H' s'∧Q H') X.xe s
abbrev TIp:=V→V→Hp→VK→Prop
def PIp (X:Cx) (op:Operator) (t:TIp):Prop :=
 ∀ (pins:List (Addr × Obj)) (s:Shared) (σ:St) (H:Hp) (x y:V) (v u:Value) (Q:VK),Inv X pins σ H s→RelV x v→RelV y u→t x y H Q →
  wpAny (model X.prog X.w) X.A (inplaceOp op v u) (EP X pins σ Q) X.xe s
section
variable {X:Cx} {pos:Pos}
def gName (i:Nat):TG:=fun v σ H Q=>Q (σ.set i (some v)) H
theorem pg_name {i:Nat} {x:Str} (hN:X.N.Nodup) (hi:X.N[i]?=some x) (hx:Loc X.env.scope x) (hf:X.fn x=true∨X.env.scope.names.lookup x=some .local:=by first | exact .inl rfl | exact .inr rfl | assumption):PG X (.Name x pos) (gName i):=by
 intro pins s σ H v u Q I r h
 exact wpAny_assign_Name (store_ok I hN hi hx r (fun s' I'=>⟨_,H,I',h⟩) hf)
def gNil:TGs:=fun vs σ H Q=>vs=[]∧Q σ H
def gCons (t:TG) (u:TGs):TGs:=fun vs σ H Q=>∃ v r,vs=v :: r∧t v σ H fun σ' H'=>u r σ' H' Q
theorem pgs_nil:PGs X [] gNil:=by
 intro pins s σ H vs us Q I r h
 obtain ⟨e,h⟩:=h
 subst e
 cases r
 exact assignInOrder_nil ⟨σ,H,I,h⟩
theorem pgs_cons {e:Expr} {es:List Expr} {t:TG} {u:TGs} (h1:PG X e t) (h2:PGs X es u)
  (hs:(assignEach (e :: es) X.env).map (·.2)=assign e X.env :: (assignEach es X.env).map (·.2):=by rfl):PGs X (e :: es) (gCons t u):=by
 intro pins s σ H vs us Q I r h
 obtain ⟨v,vr,e1,h⟩:=h
 subst e1
 cases r with
 | cons r rr =>
  rw [hs]
  refine assignInOrder_cons (thn (h1 pins s σ H _ _ _ I r h) fun _ s1 ⟨σ1,H1,I1,q1⟩=>?_)
  exact h2 pins s1 σ1 H1 _ _ Q I1 rr q1
def gTup (K:PySem.W.Frag) (n:Nat) (t:TGs):TG:=fun v σ H Q=>∃ a xs,v=.ref a∧SqT K H a xs∧xs.length=n∧t xs σ H Q
theorem pg_tup {es:List Expr} {k:Nat} {t:TGs} {n:Nat} (hc:X.calm=true) (h:PGs X es t)
  (hn:(assignEach es X.env).length=n:=by rfl) (hst:(assignEach es X.env).findIdx? (·.1)=none:=by rfl):PG X (.Tuple es k pos) (gTup X.K n t):=by
 intro pins s σ H v u Q I r hw
 obtain ⟨a,xs,e1,hq,hl,hw⟩:=hw
 subst e1
 cases r
 obtain ⟨its,rv,ht,hz⟩:=I.tuple hq
 refine assign_Tuple_tuple (I.ok.hd hc) ht (by simp [hn,← hl,rv.length]) hst fun h' hx=>?_
 have I1:Inv X pins σ H { s with heap:=h' }:=I.kept (t':=s.toks) fun b o e=>hx b o (Nat.ne_of_lt (Heap.lt_size e)) e
 exact h pins _ σ H xs _ Q I1 (by simpa using rv) hw
def gSub (to ti:TE) (t:TSet):TG:=fun v σ H Q=>to σ H fun o H1=>ti σ H1 fun i H2=>t o i v H2 fun H3=>Q σ H3
theorem pg_sub {o i:Expr} {to ti:TE} {t:TSet} (ho:PE X o to) (hi:PE X i ti) (hs:PSet X t)
  (ha:∀ v,assign (.Subscript o i pos) X.env v=(do
   let ov ← holding [v] (eval o X.env)
   let iv ← holding [v,ov] (eval i X.env)
   standAt pos
   holding [v,ov,iv] (setItem ov iv v)
   release [v,ov,iv] []):=by intro _;rfl):PG X (.Subscript o i pos) (gSub to ti t):=by
 intro pins s σ H v u Q I r h
 rw [ha]
 refine wpAny_bind (wpAny_holding (thn (ho pins s σ H _ I h) fun ov s1 ⟨x,H1,I1,r1,q1⟩=>?_))
 refine wpAny_bind (wpAny_holding (thn (hi pins s1 σ H1 _ I1 q1) fun iv s2 ⟨y,H2,I2,r2,q2⟩=>?_))
 refine wpAny_bind (wpAny_standAt (wpAny_bind (wpAny_holding (thn (hs pins s2 σ H2 x y v ov iv u _ I2 r1 r2 r q2) fun _ s3 ⟨H3,I3,q3⟩=>?_))))
 exact wpAny_release ⟨σ,H3,I3,q3⟩
def tAsg (te:TE) (g:TG):TS:=fun D σ H=>te σ H fun x H1=>g x σ H1 D.nx
theorem ps_asg {tg e:Expr} {te:TE} {g:TG} (he:PE X e te) (hg:PG X tg g) (hs:swapsWithSole [tg] e pos.line X.env=pure false:=by rfl) (hw:swappedStores [tg] e X.env=pure none:=by rfl)
  (h1:(assignEach [tg] X.env).map (·.2)=[assign tg X.env]:=by rfl):PS X (.Assign [tg] e pos) (tAsg te g):=by
 intro pins s σ H D I h
 refine wpAny_Assign_stores (thn (he pins s σ H _ I h) fun v s1 ⟨x,H1,I1,r1,q1⟩=>?_) hs hw
 rw [h1]
 exact thn (hg pins s1 σ H1 x v _ I1 r1 q1) fun _ s2 q=>q
theorem ps_set {i:Nat} {x:Str} {e:Expr} {te:TE} {pos':Pos} (hN:X.N.Nodup) (hi:X.N[i]?=some x) (hx:Loc X.env.scope x) (he:PE X e te) (hs:swapsWith e (some (.Name x pos')) pos.line X.env=pure false:=by rfl) (hf:X.fn x=true∨X.env.scope.names.lookup x=some .local:=by first | exact .inl rfl | exact .inr rfl | assumption) :
  PS X (.Assign [.Name x pos'] e pos) (tAsg te (gName i)):=by
 intro pins s σ H D I h
 refine wpAny_Assign_Name (thn (he pins s σ H _ I h) fun v s1 ⟨y,H1,I1,r1,q1⟩=>?_) hs
 exact store_ok I1 hN hi hx r1 (fun s2 I2=>⟨_,H1,I2,q1⟩) hf
def tPar (i j:Nat) (ta:TA):TS:=fun D σ H=>ta σ H fun vs H1=>∃ v w,vs=[v,w]∧D.nx ((σ.set i (some v)).set j (some w)) H1
theorem ps_par {i j:Nat} {x y:Str} {a b:Expr} {ta:TA} {px py pt:Pos} {kt k2 pt2} (hc:X.calm=true) (hN:X.N.Nodup) (hi:X.N[i]?=some x) (hj:X.N[j]?=some y) (hij:i≠j)
  (hx:X.env.scope.names.lookup x=some .local) (hy:X.env.scope.names.lookup y=some .local) (ha:PA X [a,b] ta)
  (hw:swappedStores [.Tuple [.Name x px,.Name y py] kt pt] (.Tuple [a,b] k2 pt2) X.env=pure (some [x,y]))
  (hs:swapsWithSole [.Tuple [.Name x px,.Name y py] kt pt] (.Tuple [a,b] k2 pt2) pos.line X.env=pure false:=by rfl) :
  PS X (.Assign [.Tuple [.Name x px,.Name y py] kt pt] (.Tuple [a,b] k2 pt2) pos) (tPar i j ta):=by
 intro pins s σ H D I h
 rw [exec_Assign_arm]
 refine wpAny_bind (wpAny_standAt ?_)
 rw [hs]
 refine wpAny_bind (wpAny_pure ?_)
 rw [if_neg (by decide)]
 refine wpAny_bind (Tuple_ (thn (ha _ pins s σ H _ I h) fun us s1 ⟨vs,H1,I1,r1,q1⟩=>?_))
 obtain ⟨v,w,e1,q1⟩:=q1
 subst e1
 obtain ⟨u1,u2,rfl,rv,rw'⟩:∃ u1 u2,us=[u1,u2]∧RelV v u1∧RelV w u2:=by
  cases r1 with
  | cons p q =>
   cases q with
   | cons p' q' =>
    cases q'
    exact ⟨_,_,rfl,p,p'⟩
 refine wpAny_newObj_type ?_ (by show 2≤sizeLine;decide)
 have I2:Inv X pins σ H1 { s1 with heap:=s1.heap.push { cls:=.type "tuple", data:=.seq [u1,u2].toArray } }:=I1.kept (t':=s1.toks) fun b o e=>Heap.get?_push_of_some _ e
 rw [hw]
 refine wpAny_bind (wpAny_pure ?_)
 show wpAny (model X.prog X.w) X.A (do rule "assign.swapped-stores"; let items ← unpackItems (.ref s1.heap.objs.size) 2 none;assignInOrder [fun v=>bindName X.env y v,fun v=>bindName X.env x v] items.reverse;pure Flow.next) _ _ _
 refine wpAny_bind (wpAny_rule (wpAny_bind (unpackItems_tuple (items:=#[u1,u2]) (I.ok.hd hc) (IsTup.new s1.heap _) fun h' hx'=>?_)))
 have I3:=I2.kept (h':=h') (t':=s1.toks) fun b o e=>hx' b o (Nat.ne_of_lt (Heap.lt_size e)) e
 show wpAny _ _ (assignInOrder [fun v=>bindName X.env y v,fun v=>bindName X.env x v] [u2,u1] >>= fun _=>pure Flow.next) _ _ _
 refine wpAny_bind (assignInOrder_cons (wpAny_bindName (store_ok I3 hN hj (.inl hy) rw' (fun s2 I4=>?_) (.inr hy))))
 refine assignInOrder_cons (wpAny_bindName (store_ok I4 hN hi (.inl hx) rv (fun s3 I5=>assignInOrder_nil (wpAny_pure ?_)) (.inr hx)))
 rw [List.set_comm _ _ (Ne.symm hij)] at I5
 exact ⟨_,H1,I5,q1⟩
def tAug (i:Nat) (te:TE) (ti:TIp):TS:=fun D σ H=>TVar i σ H fun x H=>te σ H fun y H1=>ti x y H1 fun z H2=>D.nx (σ.set i (some z)) H2
theorem ps_aug {i:Nat} {x:Str} {e:Expr} {te:TE} {op:Operator} {ti:TIp} {pos':Pos} (hN:X.N.Nodup) (hi:X.N[i]?=some x) (hx:Loc X.env.scope x) (he:PE X e te) (ho:PIp X op ti) (hf:X.fn x=true∨X.env.scope.names.lookup x=some .local:=by first | exact .inl rfl | exact .inr rfl | assumption) :
  PS X (.AugAssign (.Name x pos') op e pos) (tAug i te ti):=by
 intro pins s σ H D I h
 obtain ⟨v,e1,h⟩:=h
 obtain ⟨m,hn,hl⟩:=I.loc
 have vis:Vis X.env.scope x:=by rcases hx with k | k;exact .inl k;exact .inr (.inl k)
 obtain ⟨u,r,l⟩:=hl i x v hi e1 vis
 refine wpAny_AugAssign_Name ?_
 have go:wpAny (model X.prog X.w) X.A (eval e X.env) (fun w s₂=>wpAny (model X.prog X.w) X.A (inplaceOp op u w) (fun r s₃=>wpAny (model X.prog X.w) X.A (storeName X.env x r) (fun _=>SP X pins D .next) X.xe s₃) X.xe s₂) X.xe s:=by
  refine thn (he pins s σ H _ I h) fun w s1 ⟨y,H1,I1,r1,q1⟩=>?_
  refine thn (ho pins s1 σ H1 v y u w _ I1 r r1 q1) fun z s2 ⟨zv,H2,I2,r2,q2⟩=>?_
  exact store_ok I2 hN hi hx r2 (fun s3 I3=>⟨_,H2,I3,q2⟩) hf
 rcases l with ⟨hk,hm⟩ | ⟨hk,c,hc,hcell⟩
 ·exact wpAny_loadName_local I.ok.kind hk hn hm go
 ·rcases hk with hk | hk
  ·exact wpAny_loadName_cell I.ok.kind hk hc hcell go
  ·rcases hx with k | k
   ·have:X.env.scope.names.lookup x=some .free:=hk
    rw [k] at this;cases this
   ·have:X.env.scope.names.lookup x=some .free:=hk
    rw [k] at this;cases this
end

section
variable {X:Cx} {pos:Pos}
def tWhile (c:TT) (tb:TS):TS:=fun D σ H=>∃ W:Nat→St→Hp→Prop,(∃ m,W m σ H)∧∀ m σ H,W m σ H →
 c σ H fun b H1=>if b=true then ∃ N:St→Hp→Prop,(∀ σ' H',N σ' H'→∃ m',m' < m∧W m' σ' H')∧tb { D with nx:=N,ct:=N,bk:=D.nx } σ H1 else D.nx σ H1
theorem ps_while {c:Expr} {body:List Stmt} {tc:TT} {tb:TS} (hp:PassesOwn (model X.prog X.w) X.A X.env X.xe) (hc:PT X c tc) (hb:PSs X body tb):PS X (.While c body [] pos) (tWhile tc tb):=by
 intro pins s σ H D I h
 obtain ⟨W,⟨m0,w0⟩,turn⟩:=h
 refine wpAny_While (codeAny_whileLoop (fun n s'=>∃ σ' H',Inv X pins σ' H' s'∧W n σ' H') ?_ m0 ⟨σ,H,I,w0⟩)
 rintro n s1 ⟨σ1,H1,I1,w1⟩
 refine wpAny_passesOwn hp (thn (hc pins s1 σ1 H1 _ I1 (turn n σ1 H1 w1)) fun b s2 ⟨H2,I2,q2⟩=>?_)
 cases b with
 | true =>
  obtain ⟨N,hN,q2⟩:=q2
  rw [if_pos rfl]
  refine wpAny_passesOwn hp (thn (hb pins s2 σ1 H2 _ I2 q2) fun f s3 q3=>?_)
  cases f with
  | next =>
   obtain ⟨σ3,H3,I3,n3⟩:=q3
   obtain ⟨m',hm,w3⟩:=hN σ3 H3 n3
   exact ⟨m',hm,σ3,H3,I3,w3⟩
  | cont =>
   obtain ⟨σ3,H3,I3,n3⟩:=q3
   obtain ⟨m',hm,w3⟩:=hN σ3 H3 n3
   exact ⟨m',hm,σ3,H3,I3,w3⟩
  | brk=>exact q3
  | ret v=>exact q3
 | false =>
  rw [if_neg Bool.false_ne_true]
  exact wpAny_execs_nil ⟨σ1,H2,I2,q2⟩
end

structure It where
 go:Nat→Hp→Prop
 yld:Nat→Hp→V→Hp→Prop
 stop:Nat→Hp→Prop
def FpOk (X:Cx) (pins:List (Addr × Obj)) (H:Hp) (b:Addr):Prop :=
 H b=none∧b≠X.env.locals∧b ∉ X.fs∧(b∈X.ex∨X.s₀.heap.objs.size≤b)∧(∀ x c,X.env.cells.lookup x=some c→c≠b)∧∀ p∈X.pn ++ pins,p.1≠b
theorem Inv.fpOk {X:Cx} {pins:List (Addr × Obj)} {σ:St} {H H':Hp} {s:Shared} {b:Addr} (I:Inv X pins σ H s) (hb:s.heap.objs.size≤b) (hn:H' b=none):FpOk X pins H' b:=by
 refine ⟨hn,Nat.ne_of_gt (Nat.lt_of_lt_of_le I.lt hb),I.nofs hb,.inr (Nat.le_trans I.sz hb),fun x c e z=>?_,fun p hp z=>?_⟩
 ·obtain ⟨v,q⟩:=I.cell x c e
  exact absurd (Nat.lt_of_lt_of_le q.lt (by rw [z];exact hb)) (Nat.lt_irrefl _)
 ·exact absurd (Nat.lt_of_lt_of_le (Heap.lt_size (I.pin p hp).1) (by rw [z];exact hb)) (Nat.lt_irrefl _)
structure Turn (P:Program) (w:World) (K:PySem.W.Frag) (tg:Expr) (J:It) (fp:List Addr) (it:Addr) (tn:Nat→Heap→Prop):Prop where
 mem:it∈fp
 obj:∀ i h,tn i h→∀ b∈fp,∃ o,h.get? b=some o∧∀ v,o.data≠.cell v
 keep:∀ i h h',tn i h→(∀ b∈fp,∀ o,h.get? b=some o→h'.get? b=some o)→tn i h'
 item:∀ (X:Cx),X.prog=P→X.w=w→X.K=K→X.calm=true→∀ (i:Nat) (pins:List (Addr × Obj)) (s:Shared) (σ:St) (H:Hp) (E:Value→Shared→Prop),Inv X pins σ H s→(∀ b∈fp,FpOk X pins H b)→tn i s.heap→J.go i H →
  wpAny (model P w) X.A (pyNext (.ref it)) (fun r s1=>∃ u,r=some u ∧
   wpAny (model P w) X.A (letOwnedTupleGo tg (.ref it) u) (fun _ s2=>∃ x H',Inv X pins σ H' s2∧RelV x u∧J.yld i H x H'∧tn (i + 1) s2.heap∧∀ b∈fp,H' b=none) E s1) E s
 done:∀ (X:Cx),X.prog=P→X.w=w→X.K=K→X.calm=true→∀ (i:Nat) (pins:List (Addr × Obj)) (s:Shared) (σ:St) (H:Hp) (E:Value→Shared→Prop),Inv X pins σ H s→(∀ b∈fp,FpOk X pins H b)→tn i s.heap→J.stop i H →
  wpAny (model P w) X.A (pyNext (.ref it)) (fun r s1=>r=none∧Inv X pins σ H s1) E s
 self:∀ (A:Around) (i:Nat) (s:Shared) (Q:Value→Shared→Prop) (E:Value→Shared→Prop),tn i s.heap→Q (.ref it) s→wpAny (model P w) A (pyIter (.ref it)) Q E s
abbrev TI:=St→Hp→(It→Hp→Prop)→Prop
def PIE (X:Cx) (pins:List (Addr × Obj)) (σ:St) (tg:Expr) (R:It→Hp→Prop) (itv:Value) (s2:Shared):Prop :=
 ∃ (it:Addr) (fp:List Addr) (tn:Nat→Heap→Prop) (J:It) (H':Hp),itv=.ref it∧Inv X pins σ H' s2∧Turn X.prog X.w X.K tg J fp it tn∧tn 0 s2.heap∧(∀ b∈fp,FpOk X pins H' b)∧R J H'
def PI (X:Cx) (tg iter:Expr) (wi:TI):Prop :=
 ∀ (pins:List (Addr × Obj)) (s:Shared) (σ:St) (H:Hp) (R:It→Hp→Prop),Inv X pins σ H s→wi σ H R →
  wpAny (model X.prog X.w) X.A (eval iter X.env) (fun v s1=>wpAny (model X.prog X.w) X.A (pyIter v) (PIE X pins σ tg R) X.xe s1) X.xe s

theorem go_of {M:Model} {A:Around} {E:Value→Shared→Prop} {s:Shared} {tg:Expr} {it:Addr} {u:Value} {o:Obj} {n:String} {vs:Array Value} {Q:Unit→Shared→Prop} (ho:s.heap.get? it=some o) (hc:o.cls=.type n) (hd:o.data=.fields vs)
  (hn:["enumerate", "zip", "dict_itemiterator", "dict_reverseitemiterator", "odict_iterator", "itertools.zip_longest", "itertools.pairwise"].contains n=false) (hQ:Q () s):wpAny M A (letOwnedTupleGo tg (.ref it) u) Q E s:=by
 unfold letOwnedTupleGo
 cases tg <;> first
  | exact wpAny_pure hQ
  | (cases u <;> first
    | exact wpAny_pure hQ
    | (refine wpAny_bind (wpAny_load ho ?_)
       rw [hc,hd]
       show wpAny M A (if (["enumerate", "zip", "dict_itemiterator", "dict_reverseitemiterator", "odict_iterator", "itertools.zip_longest", "itertools.pairwise"].contains n && vs[0]? == some (rawInt _))=true then _ else _) Q E s
       rw [if_neg (by intro h;rw [hn,Bool.false_and] at h;cases h)]
       exact wpAny_pure hQ))

def Itl (K:PySem.W.Frag) (a:Addr):It :=
 ⟨fun i H=>∃ xs x,SqL K H a xs∧xs[i]?=some x,fun i H x H'=>H'=H∧∀ xs,SqL K H a xs→xs[i]?=some x,fun i H=>∃ xs,SqL K H a xs∧xs.length≤i⟩
def Itt (K:PySem.W.Frag) (a:Addr):It :=
 ⟨fun i H=>∃ xs x,SqT K H a xs∧xs[i]?=some x,fun i H x H'=>H'=H∧∀ xs,SqT K H a xs→xs[i]?=some x,fun i H=>∃ xs,SqT K H a xs∧xs.length≤i⟩
def Itr (lo:Int) (n:Nat):It:=⟨fun i _=>i < n,fun i H x H'=>H'=H∧x=.int (lo + i),fun i _=>n≤i⟩
theorem turn_list {P:Program} {w:World} {K:PySem.W.Frag} {tg:Expr} (a it:Addr):Turn P w K tg (Itl K a) [it] it (fun i h=>h.IsListIter it a i) where
 mem:=by simp
 obj:=fun i h st b hb=>by
  have e:b=it:=by simpa using hb
  subst e
  obtain ⟨o,e,c,d⟩:=st
  exact ⟨o,e,fun v z=>by rw [d] at z;cases z⟩
 keep:=fun i h h' st k=>st.at fun o e=>k it (by simp) o e
 item:=by
  intro X hP hw hK hc i pins s σ H E I hf st hg
  subst hP hw hK
  obtain ⟨xs,x,hq,hx⟩:=hg
  obtain ⟨its,rv,p,hz⟩:=I.list hq
  obtain ⟨u,hu,ru⟩:=rv.get hx
  obtain ⟨f0,f1,f2,f3,f4,f5⟩:=hf it (by simp)
  refine wpAny_pyNext_list_item st p.isList (x:=u) (by simpa using hu) fun h' st' sb=>?_
  have I1:Inv X pins σ H { s with heap:=h' }:=I.turned (t':=s.toks) (fun b o hb e=>(sb.2 b hb).trans e) f0 f1 f3 f4 f5
  obtain ⟨o,e,c,d⟩:=id st'
  exact ⟨u,rfl,go_of (s:={ s with heap:=h' }) e c d (by decide) ⟨x,H,I1,ru,⟨rfl,fun ys hy=>by rw [I.list_inj hy hq];exact hx⟩,st',fun b hb=>(hf b hb).1⟩⟩
 done:=by
  intro X hP hw hK hc i pins s σ H E I hf st hg
  subst hP hw hK
  obtain ⟨xs,hq,hx⟩:=hg
  obtain ⟨its,rv,p,hz⟩:=I.list hq
  obtain ⟨f0,f1,f2,f3,f4,f5⟩:=hf it (by simp)
  have hl:=rv.length
  exact wpAny_pyNext_list_end (I.ok.hd hc) st p.isList (by simp;walk_at"q") fun h' eb=>⟨rfl,I.turned (t':=s.toks) (fun b o hb e=>eb b o hb e) f0 f1 f3 f4 f5⟩
 self:=fun _ _ _ _ _ st h=>wpAny_pyIter_listiter st h
theorem turn_tuple {P:Program} {w:World} {K:PySem.W.Frag} {tg:Expr} (a it:Addr):Turn P w K tg (Itt K a) [it] it (fun i h=>h.IsTupleIter it a i) where
 mem:=by simp
 obj:=fun i h st b hb=>by
  have e:b=it:=by simpa using hb
  subst e
  obtain ⟨o,e,c,d⟩:=st
  exact ⟨o,e,fun v z=>by rw [d] at z;cases z⟩
 keep:=fun i h h' st k=>st.at fun o e=>k it (by simp) o e
 item:=by
  intro X hP hw hK hc i pins s σ H E I hf st hg
  subst hP hw hK
  obtain ⟨xs,x,hq,hx⟩:=hg
  obtain ⟨its,rv,p,hz⟩:=I.tuple hq
  obtain ⟨u,hu,ru⟩:=rv.get hx
  obtain ⟨f0,f1,f2,f3,f4,f5⟩:=hf it (by simp)
  refine wpAny_pyNext_tuple_item st (show s.heap.IsTuple a its.toArray from p) (x:=u) (by simpa using hu) fun h' st' sb=>?_
  have I1:Inv X pins σ H { s with heap:=h' }:=I.turned (t':=s.toks) (fun b o hb e=>(sb.2 b hb).trans e) f0 f1 f3 f4 f5
  obtain ⟨o,e,c,d⟩:=id st'
  exact ⟨u,rfl,go_of (s:={ s with heap:=h' }) e c d (by decide) ⟨x,H,I1,ru,⟨rfl,fun ys hy=>by rw [I.tuple_inj hy hq];exact hx⟩,st',fun b hb=>(hf b hb).1⟩⟩
 done:=by
  intro X hP hw hK hc i pins s σ H E I hf st hg
  subst hP hw hK
  obtain ⟨xs,hq,hx⟩:=hg
  obtain ⟨its,rv,p,hz⟩:=I.tuple hq
  obtain ⟨f0,f1,f2,f3,f4,f5⟩:=hf it (by simp)
  have hl:=rv.length
  exact wpAny_pyNext_tuple_end (I.ok.hd hc) st (show s.heap.IsTuple a its.toArray from p) (by simp;walk_at"q") fun h' eb=>⟨rfl,I.turned (t':=s.toks) (fun b o hb e=>eb b o hb e) f0 f1 f3 f4 f5⟩
 self:=fun _ _ _ _ _ st h=>wpAny_pyIter_tupleiter st h
theorem turn_range {P:Program} {w:World} {K:PySem.W.Frag} {tg:Expr} (it:Addr) (lo:Int) (n:Nat):Turn P w K tg (Itr lo n) [it] it (fun i h=>IsRangeIter h it (lo + (i:Nat) * 1) ((n:Int) - (i:Nat)) 1) where
 mem:=by simp
 obj:=fun i h st b hb=>by
  have e:b=it:=by simpa using hb
  subst e
  exact ⟨_,st,fun v z=>by
   have z':Data.fields _=Data.cell v:=z
   cases z'⟩
 keep:=fun i h h' st k=>k it (by simp) _ st
 item:=by
  intro X hP hw hK hc i pins s σ H E I hf st hg
  subst hP hw hK
  obtain ⟨f0,f1,f2,f3,f4,f5⟩:=hf it (by simp)
  have W:=Walks.range (prog:=X.prog) (w:=X.w) (I.ok.hd hc) it lo 1 n
  refine W.item i s _ _ hg st fun v h' tk hv st' kk=>?_
  obtain ⟨t,rfl⟩:=hv
  have I1:Inv X pins σ H { s with heap:=h',toks:=tk }:=I.turned (fun b o hb e=>kk b o (by simpa using hb) e) f0 f1 f3 f4 f5
  refine ⟨_,rfl,go_of (s:={ s with heap:=h',toks:=tk }) (n := "range_iterator") st' rfl rfl (by decide) ⟨.int (lo + i),H,I1,⟨t,?_⟩,⟨rfl,rfl⟩,st',fun b hb=>(hf b hb).1⟩⟩
  rw [Int.mul_one]
 done:=by
  intro X hP hw hK hc i pins s σ H E I hf st hg
  subst hP hw hK
  obtain ⟨f0,f1,f2,f3,f4,f5⟩:=hf it (by simp)
  exact wpAny_pyNext_range_end (I.ok.hd hc) st (by have:n≤i:=hg;walk_at"q") fun h' eb=>⟨rfl,I.turned (t':=s.toks) (fun b o hb e=>eb b o hb e) f0 f1 f3 f4 f5⟩
 self:=fun _ _ _ _ _ st h=>wpAny_pyIter_rangeiter st h
end L2

namespace L2
open PySem PySem.Spec PyProof.Rows
section
variable {X:Cx} {tg:Expr}
def iList (K:PySem.W.Frag) (tl:TE):TI:=fun σ H R=>tl σ H fun x H1=>∃ a,x=.ref a∧(∃ xs,SqL K H1 a xs)∧R (Itl K a) H1
def iTup (K:PySem.W.Frag) (tl:TE):TI:=fun σ H R=>tl σ H fun x H1=>∃ a,x=.ref a∧(∃ xs,SqT K H1 a xs)∧R (Itt K a) H1
theorem pi_list {l:Expr} {tl:TE} (hl:PE X l tl):PI X tg l (iList X.K tl):=by
 intro pins s σ H R I h
 refine thn (hl pins s σ H _ I h) fun v s1 ⟨x,H1,I1,r1,q1⟩=>?_
 obtain ⟨a,e,⟨xs,hq⟩,q⟩:=q1
 subst e
 cases r1
 obtain ⟨its,rv,p,hz⟩:=I1.list hq
 refine wpAny_pyIter_list p.isList ?_
 refine ⟨s1.heap.objs.size,[s1.heap.objs.size],_,_,H1,rfl,I1.kept (t':=s1.toks) fun b o e=>Heap.get?_push_of_some _ e,turn_list a _,⟨_,Heap.get?_push_size _ rfl,rfl,rfl⟩,fun b hb=>?_,q⟩
 have e:b=s1.heap.objs.size:=by simpa using hb
 subst e
 exact I1.fpOk (Nat.le_refl _) (I1.hok.fresh (Nat.le_refl _))
theorem pi_tup {l:Expr} {tl:TE} (hl:PE X l tl):PI X tg l (iTup X.K tl):=by
 intro pins s σ H R I h
 refine thn (hl pins s σ H _ I h) fun v s1 ⟨x,H1,I1,r1,q1⟩=>?_
 obtain ⟨a,e,⟨xs,hq⟩,q⟩:=q1
 subst e
 cases r1
 obtain ⟨its,rv,p,hz⟩:=I1.tuple hq
 refine wpAny_pyIter_tuple (show s1.heap.IsTuple a its.toArray from p) ?_
 refine ⟨s1.heap.objs.size,[s1.heap.objs.size],_,_,H1,rfl,I1.kept (t':=s1.toks) fun b o e=>Heap.get?_push_of_some _ e,turn_tuple a _,⟨_,Heap.get?_push_size _ rfl,rfl,rfl⟩,fun b hb=>?_,q⟩
 have e:b=s1.heap.objs.size:=by simpa using hb
 subst e
 exact I1.fpOk (Nat.le_refl _) (I1.hok.fresh (Nat.le_refl _))
theorem range_it {pins:List (Addr × Obj)} {σ:St} {H:Hp} {s:Shared} {R:It→Hp→Prop} {E:Value→Shared→Prop} {lo hi:Int} {t u v:Tok} {tk:Nat} (I:Inv X pins σ H s) (h1:-(2 ^ 62)≤lo) (h2:lo < 2 ^ 62) (h3:-(2 ^ 62)≤hi) (h4:hi < 2 ^ 62)
  (q:R (Itr lo (hi - lo).toNat) H):wpAny (model X.prog X.w) X.A (pyIter (.ref s.heap.objs.size)) (PIE X pins σ tg R) E { s with heap:=s.heap.push { cls:=.type "range", data:=.fields #[.int lo t,.int hi u,.int 1 v] },toks:=tk }:=by
 refine wpAny_pyIter_range (IsRange.new ..) (small_one h1 h2 h3 h4) ?_
 have I1:Inv X pins σ H { s with heap:=s.heap.push { cls:=.type "range", data:=.fields #[.int lo t,.int hi u,.int 1 v] },toks:=tk }:=I.kept fun b o e=>Heap.get?_push_of_some _ e
 refine ⟨(s.heap.push { cls:=.type "range", data:=.fields #[.int lo t,.int hi u,.int 1 v] }).objs.size,[(s.heap.push { cls:=.type "range", data:=.fields #[.int lo t,.int hi u,.int 1 v] }).objs.size],_,_,H,rfl,
  I1.kept (t':=tk) fun b o e=>Heap.get?_push_of_some _ e,turn_range _ lo (hi - lo).toNat,?_,fun b hb=>?_,q⟩
 ·have e1:lo + ((0:Nat):Int) * 1=lo:=by simp
  have e2:(((hi - lo).toNat:Nat):Int) - ((0:Nat):Int)=Builtin.Range.rangeSize lo hi 1:=by rw [rangeSize_one];split <;> walk_at"q"
  show IsRangeIter _ _ (lo + ((0:Nat):Int) * 1) ((((hi - lo).toNat:Nat):Int) - ((0:Nat):Int)) 1
  rw [e1,e2]
  exact Heap.get?_push_size _ rfl
 ·have e:b=(s.heap.push { cls:=.type "range", data:=.fields #[.int lo t,.int hi u,.int 1 v] }).objs.size:=by simpa using hb
  subst e
  exact I1.fpOk (Nat.le_refl _) (I1.hok.fresh (Nat.le_refl _))
def iRng1 (ta:TA):TI:=fun σ H R=>ta σ H fun vs H1=>∃ j:Int,vs=[.int j]∧-(2 ^ 62)≤j∧j < 2 ^ 62∧R (Itr 0 j.toNat) H1
theorem pi_range1 {a:Expr} {ta:TA} {p pos:Pos} (hg:Gl X "range") (hm:X.mg "range" = none) (ha:PA X [a] ta) (hs:starEach [a] X.env=[(false,eval a X.env)]:=by rfl):PI X tg (.Call (.Name "range" p) [a] [] pos) (iRng1 ta):=by
 intro pins s σ H R I h
 refine Call_ (ld_blt I hg hm boot_range (PyProof.Rows.callWith_type1 (thn (ha pos pins s σ H _ I h) fun us s1 ⟨vs,H1,I1,r1,q1⟩=>?_) hs rfl))
 obtain ⟨j,e,q1,q2,q⟩:=q1
 subst e
 cases r1 with
 | cons r rr =>
  cases rr
  obtain ⟨t,rfl⟩:=r
  exact call_range_1 (range_it I1 (by walk_at"q") (by walk_at"q") q1 q2 (by simpa using q))
def tFor (wi:TI) (g:TG) (tb:TS):TS:=fun D σ H=>wi σ H fun J H1=>∃ W:Nat→Nat→St→Hp→Prop,(∃ m,W 0 m σ H1)∧∀ i m σ H,W i m σ H →
 (J.stop i H∧D.nx σ H)∨(J.go i H∧∃ N:St→Hp→Prop,(∀ σ' H',N σ' H'→∃ m',m' < m∧W (i + 1) m' σ' H')∧∀ x H',J.yld i H x H'→g x σ H' fun σ2 H2=>tb { D with nx:=N,ct:=N,bk:=D.nx } σ2 H2)
def pinsAt (fp:List Addr) (h:Heap):List (Addr × Obj):=fp.filterMap fun b=>(h.get? b).map fun o=>(b,o)
theorem mem_pinsAt {fp:List Addr} {h:Heap} {b:Addr} {o:Obj} (hb:b∈fp) (e:h.get? b=some o):(b,o)∈pinsAt fp h:=List.mem_filterMap.mpr ⟨b,hb,by rw [e];rfl⟩
theorem of_pinsAt {fp:List Addr} {h:Heap} {p:Addr × Obj} (hp:p∈pinsAt fp h):p.1∈fp∧h.get? p.1=some p.2:=by
 obtain ⟨b,hb,e⟩:=List.mem_filterMap.mp hp
 cases q:h.get? b with
 | none=>rw [q] at e;cases e
 | some o =>
  rw [q] at e
  have e':(b,o)=p:=Option.some.inj e
  subst e'
  exact ⟨hb,q⟩
theorem Inv.pinned {pins:List (Addr × Obj)} {σ:St} {H:Hp} {s:Shared} {fp:List Addr} (I:Inv X pins σ H s) (hf:∀ b∈fp,FpOk X pins H b) (ho:∀ b∈fp,∃ o,s.heap.get? b=some o∧∀ v,o.data≠.cell v):Inv X (pins ++ pinsAt fp s.heap) σ H s :=
 I.pins_of fun p hp=>(List.mem_append.mp hp).elim (fun z=>I.pin p (List.mem_append_right _ z)) fun z=>by
  obtain ⟨hb,e⟩:=of_pinsAt z
  obtain ⟨f0,f1,f2,_⟩:=hf p.1 hb
  obtain ⟨o,e',d⟩:=ho p.1 hb
  rw [e] at e';cases e'
  exact ⟨e,f0,f1,f2,d⟩
theorem Inv.unpinned {pins pl:List (Addr × Obj)} {σ:St} {H:Hp} {s:Shared} (I:Inv X (pins ++ pl) σ H s):Inv X pins σ H s:=I.pins_of fun p hp=>I.pin p (List.mem_append_right _ (List.mem_append_left _ hp))
theorem ps_for {iter:Expr} {body:List Stmt} {wi:TI} {g:TG} {tb:TS} {pos:Pos} (hp:PassesOwn (model X.prog X.w) X.A X.env X.xe) (hc:X.calm=true) (hi:PI X tg iter wi) (hg:PG X tg g) (hb:PSs X body tb)
  (hs:∀ x,foldedSetIterable iter X.env x=pure x:=by intro _;rfl):PS X (.For tg iter body [] pos) (tFor wi g tb):=by
 intro pins s σ H D I h
 refine wpAny_For (thn (hi pins s σ H _ I h) fun v s1 h1=>thn h1 fun itv s2 h2=>?_) hs
 obtain ⟨it,fp,tn,J,H2,e,I2,T,st2,f2,W,⟨m0,w0⟩,turn⟩:=h2
 subst e
 -- what stays true of the iterator's objects through the loop
 have stat:∀ {H':Hp},(∀ b∈fp,H' b=none)→∀ b∈fp,FpOk X pins H' b:=fun hn b hb=>⟨hn b hb,(f2 b hb).2⟩
 refine codeAny_forLoop_any (fun n s'=>∃ i σ' H',Inv X pins σ' H' s'∧tn i s'.heap∧(∀ b∈fp,H' b=none)∧W i n σ' H') ?_ m0 ⟨0,σ,H2,I2,st2,fun b hb=>(f2 b hb).1,w0⟩
 rintro n s3 ⟨i,σ3,H3,I3,st3,fr3,w3⟩
 rcases turn i n σ3 H3 w3 with ⟨stop,qn⟩ | ⟨go,N,hN,step⟩
 ·refine wpAny_passesOwn hp (thn (T.done X rfl rfl rfl hc i pins s3 σ3 H3 X.xe I3 (stat fr3) st3 stop) fun r s4 ⟨hr,I4⟩=>?_)
  subst hr
  exact wpAny_execs_nil ⟨σ3,H3,I4,qn⟩
 ·refine wpAny_passesOwn hp (thn (T.item X rfl rfl rfl hc i pins s3 σ3 H3 X.xe I3 (stat fr3) st3 go) fun r s4 ⟨u,hr,h4⟩=>?_)
  subst hr
  refine wpAny_passesOwn hp (thn h4 fun _ s5 ⟨x,H5,I5,r5,y5,st5,fr5⟩=>?_)
  have I5':=I5.pinned (stat fr5) (T.obj _ _ st5)
  refine wpAny_passesOwn hp (thn (hg _ s5 σ3 H5 x u _ I5' r5 (step x H5 y5)) fun _ s6 ⟨σ6,H6,I6,q6⟩=>?_)
  refine wpAny_passesOwn hp (thn (hb _ s6 σ6 H6 _ I6 q6) fun f s7 q7=>?_)
  have again:∀ {σ7:St} {H7:Hp},Inv X (pins ++ pinsAt fp s5.heap) σ7 H7 s7→N σ7 H7→∃ m,m < n∧∃ i σ' H',Inv X pins σ' H' s7∧tn i s7.heap∧(∀ b∈fp,H' b=none)∧W i m σ' H':=fun {σ7 H7} I7 n7=>by
   obtain ⟨m',hm,w7⟩:=hN σ7 H7 n7
   refine ⟨m',hm,i + 1,σ7,H7,I7.unpinned,T.keep _ _ _ st5 fun b hb o e=>(I7.pin (b,o) (List.mem_append_right _ (List.mem_append_right _ (mem_pinsAt hb e)))).1,fun b hb=>?_,w7⟩
   obtain ⟨o,e,d⟩:=T.obj _ _ st5 b hb
   exact (I7.pin (b,o) (List.mem_append_right _ (List.mem_append_right _ (mem_pinsAt hb e)))).2.1
  cases f with
  | next=>obtain ⟨σ7,H7,I7,n7⟩:=q7;exact again I7 n7
  | cont=>obtain ⟨σ7,H7,I7,n7⟩:=q7;exact again I7 n7
  | brk=>obtain ⟨σ7,H7,I7,q7⟩:=q7;exact ⟨σ7,H7,I7.unpinned,q7⟩
  | ret v=>obtain ⟨x7,σ7,H7,I7,r7,q7⟩:=q7;exact ⟨x7,σ7,H7,I7.unpinned,r7,q7⟩
end

theorem for_list {K:PySem.W.Frag} {a:Addr} {xs:List V} {g:TG} {tb:TS} {D:Ends} {σ:St} {H:Hp} (Pv:Nat→St→Hp→Prop) (h0:Pv 0 σ H) (hl:∀ i σ H,i≤xs.length→Pv i σ H→SqL K H a xs)
  (hs:∀ i x σ H,xs[i]?=some x→Pv i σ H→g x σ H fun σ2 H2=>tb { D with nx:=Pv (i + 1),ct:=Pv (i + 1),bk:=D.nx } σ2 H2) (hd:∀ σ H,Pv xs.length σ H→D.nx σ H) :
  ∃ W:Nat→Nat→St→Hp→Prop,(∃ m,W 0 m σ H)∧∀ i m σ H,W i m σ H →
   ((Itl K a).stop i H∧D.nx σ H)∨((Itl K a).go i H∧∃ N:St→Hp→Prop,(∀ σ' H',N σ' H'→∃ m',m' < m∧W (i + 1) m' σ' H')∧∀ x H',(Itl K a).yld i H x H'→g x σ H' fun σ2 H2=>tb { D with nx:=N,ct:=N,bk:=D.nx } σ2 H2):=by
 refine ⟨fun i m σ H=>m=xs.length - i∧i≤xs.length∧Pv i σ H,⟨xs.length,by simp,Nat.zero_le _,h0⟩,?_⟩
 rintro i m σ H ⟨rfl,hi,p⟩
 have q:=hl i σ H hi p
 by_cases hlt:i < xs.length
 ·refine .inr ⟨⟨xs,xs[i],q,by simp [hlt]⟩,Pv (i + 1),fun σ' H' p'=>⟨xs.length - (i + 1),by walk_at"q", rfl,hlt,p'⟩,fun x H' y=>?_⟩
  obtain ⟨e,y⟩:=y
  subst e
  exact hs i x σ _ (y xs q) p
 ·have e:i=xs.length:=by walk_at"q"
  subst e
  exact .inl ⟨⟨xs,q,Nat.le_refl _⟩,hd σ H p⟩
theorem for_tup {K:PySem.W.Frag} {a:Addr} {xs:List V} {g:TG} {tb:TS} {D:Ends} {σ:St} {H:Hp} (Pv:Nat→St→Hp→Prop) (h0:Pv 0 σ H) (hl:∀ i σ H,i≤xs.length→Pv i σ H→SqT K H a xs)
  (hs:∀ i x σ H,xs[i]?=some x→Pv i σ H→g x σ H fun σ2 H2=>tb { D with nx:=Pv (i + 1),ct:=Pv (i + 1),bk:=D.nx } σ2 H2) (hd:∀ σ H,Pv xs.length σ H→D.nx σ H) :
  ∃ W:Nat→Nat→St→Hp→Prop,(∃ m,W 0 m σ H)∧∀ i m σ H,W i m σ H →
   ((Itt K a).stop i H∧D.nx σ H)∨((Itt K a).go i H∧∃ N:St→Hp→Prop,(∀ σ' H',N σ' H'→∃ m',m' < m∧W (i + 1) m' σ' H')∧∀ x H',(Itt K a).yld i H x H'→g x σ H' fun σ2 H2=>tb { D with nx:=N,ct:=N,bk:=D.nx } σ2 H2):=by
 refine ⟨fun i m σ H=>m=xs.length - i∧i≤xs.length∧Pv i σ H,⟨xs.length,by simp,Nat.zero_le _,h0⟩,?_⟩
 rintro i m σ H ⟨rfl,hi,p⟩
 have q:=hl i σ H hi p
 by_cases hlt:i < xs.length
 ·refine .inr ⟨⟨xs,xs[i],q,by simp [hlt]⟩,Pv (i + 1),fun σ' H' p'=>⟨xs.length - (i + 1),by walk_at"q", rfl,hlt,p'⟩,fun x H' y=>?_⟩
  obtain ⟨e,y⟩:=y
  subst e
  exact hs i x σ _ (y xs q) p
 ·have e:i=xs.length:=by walk_at"q"
  subst e
  exact .inl ⟨⟨xs,q,Nat.le_refl _⟩,hd σ H p⟩
theorem for_range {lo:Int} {n:Nat} {g:TG} {tb:TS} {D:Ends} {σ:St} {H:Hp} (Pv:Nat→St→Hp→Prop) (h0:Pv 0 σ H)
  (hs:∀ i σ H,i < n→Pv i σ H→g (.int (lo + i)) σ H fun σ2 H2=>tb { D with nx:=Pv (i + 1),ct:=Pv (i + 1),bk:=D.nx } σ2 H2) (hd:∀ σ H,Pv n σ H→D.nx σ H) :
  ∃ W:Nat→Nat→St→Hp→Prop,(∃ m,W 0 m σ H)∧∀ i m σ H,W i m σ H →
   ((Itr lo n).stop i H∧D.nx σ H)∨((Itr lo n).go i H∧∃ N:St→Hp→Prop,(∀ σ' H',N σ' H'→∃ m',m' < m∧W (i + 1) m' σ' H')∧∀ x H',(Itr lo n).yld i H x H'→g x σ H' fun σ2 H2=>tb { D with nx:=N,ct:=N,bk:=D.nx } σ2 H2):=by
 refine ⟨fun i m σ H=>m=n - i∧i≤n∧Pv i σ H,⟨n,by simp,Nat.zero_le _,h0⟩,?_⟩
 rintro i m σ H ⟨rfl,hi,p⟩
 by_cases hlt:i < n
 ·refine .inr ⟨hlt,Pv (i + 1),fun σ' H' p'=>⟨n - (i + 1),by walk_at"q", rfl,hlt,p'⟩,fun x H' y=>?_⟩
  obtain ⟨e,y⟩:=y
  subst e y
  exact hs i σ _ hlt p
 ·have e:i=n:=by walk_at"q"
  subst e
  exact .inl ⟨Nat.le_refl _,hd σ H p⟩
end L2

namespace L2
open PySem PySem.Spec PyProof.Rows

abbrev R2:=V→V→Hp→VK→Prop
def OpR (X:Cx) (f:Value→Value→Sem Value) (r:R2):Prop :=
 ∀ (pins:List (Addr × Obj)) (s:Shared) (σ:St) (H:Hp) (x y:V) (v u:Value) (Q:VK),Inv X pins σ H s→RelV x v→RelV y u→r x y H Q →
  wpAny (model X.prog X.w) X.A (f v u) (EP X pins σ Q) X.xe s
def UnR (X:Cx) (f:Value→Sem Value) (r:V→Hp→VK→Prop):Prop :=
 ∀ (pins:List (Addr × Obj)) (s:Shared) (σ:St) (H:Hp) (x:V) (v:Value) (Q:VK),Inv X pins σ H s→RelV x v→r x H Q →
  wpAny (model X.prog X.w) X.A (f v) (EP X pins σ Q) X.xe s
def CallR (X:Cx) (f:Value) (r:List V→Hp→VK→Prop):Prop :=
 ∀ (pins:List (Addr × Obj)) (s:Shared) (σ:St) (H:Hp) (xs:List V) (us:List Value) (Q:VK),Inv X pins σ H s→Vals xs us→r xs H Q →
  wpAny (model X.prog X.w) X.A (call f us) (EP X pins σ Q) X.xe s
def TruR (X:Cx) (r:V→Hp→(Bool→Hp→Prop)→Prop):Prop :=
 ∀ (pins:List (Addr × Obj)) (s:Shared) (σ:St) (H:Hp) (x:V) (v:Value) (Q:Bool→Hp→Prop),Inv X pins σ H s→RelV x v→r x H Q →
  wpAny (model X.prog X.w) X.A (truthy v) (TP X pins σ Q) X.xe s

def tOp (r:R2) (ta tb:TE):TE:=fun σ H Q=>ta σ H fun x H1=>tb σ H1 fun y H2=>r x y H2 Q
def tUn (r:V→Hp→VK→Prop) (ta:TE):TE:=fun σ H Q=>ta σ H fun x H1=>r x H1 Q
inductive RIP (C:Int→Int→Prop) (g:Int→Int→V) (x:V) (y:V) (H:Hp) (Q:VK):Prop
 | mk (i:_) (j:_) (h1:x=.int i) (h2:y=.int j) (h3:C i j) (h4:Q (g i j) H):RIP C g x y H Q
def rI (C:Int→Int→Prop) (g:Int→Int→V):R2:=fun x y H Q=>RIP C g x y H Q
inductive RI0P (g:Int→Int→V) (x:V) (y:V) (H:Hp) (Q:VK):Prop
 | mk (i:_) (j:_) (h1:x=.int i) (h2:y=.int j) (h3:Q (g i j) H):RI0P g x y H Q
def rI0 (g:Int→Int→V):R2:=fun x y H Q=>RI0P g x y H Q
inductive RUP (g:Int→V) (x:V) (H:Hp) (Q:VK):Prop
 | mk (i:_) (h1:x=.int i) (h2:Q (g i) H):RUP g x H Q
def rU (g:Int→V):V→Hp→VK→Prop:=fun x H Q=>RUP g x H Q

section
variable {X:Cx} {a b c:Expr} {ta tb tc:TE} {pos:Pos}

theorem binT (ha:PE X a ta) (hb:PE X b tb) {pins:List (Addr × Obj)} {s:Shared} {σ:St} {H:Hp} {R:V→V→Hp→Prop} (I:Inv X pins σ H s)
  (h:ta σ H fun x H1=>tb σ H1 fun y H2=>R x y H2) {Q:Value→Shared→Prop} {f:Value→Value→Sem Value}
  (hf:∀ v u s2 x y H2,Inv X pins σ H2 s2→RelV x v→RelV y u→R x y H2→wpAny (model X.prog X.w) X.A (f v u) Q X.xe s2) :
  wpAny (model X.prog X.w) X.A (eval a X.env) (fun v s₁=>wpAny (model X.prog X.w) X.A (eval b X.env) (fun u s₂=>wpAny (model X.prog X.w) X.A (f v u) Q X.xe s₂) X.xe s₁) X.xe s:=by
 refine thn (ha pins s σ H _ I h) fun v s1 ⟨x,H1,I1,r1,q1⟩=>?_
 refine thn (hb pins s1 σ H1 _ I1 q1) fun u s2 ⟨y,H2,I2,r2,q2⟩=>?_
 exact hf v u s2 x y H2 I2 r1 r2 q2

theorem pe_op {op:Operator} {r:R2} (ho:OpR X (binaryOp op) r) (ha:PE X a ta) (hb:PE X b tb):PE X (.BinOp a op b pos) (tOp r ta tb):=by
 intro pins s σ H Q I h
 exact wpAny_BinOp (binT ha hb I h fun v u s2 x y H2 I2 rx ry q=>ho pins s2 σ H2 x y v u Q I2 rx ry q)
theorem pe_un {op:UnaryOp} {r:V→Hp→VK→Prop} (ho:UnR X (unaryOp op) r) (ha:PE X a ta):PE X (.UnaryOp op a pos) (tUn r ta):=by
 intro pins s σ H Q I h
 exact UnaryOp_ (thn (ha pins s σ H _ I h) fun v s1 ⟨x,H1,I1,r1,q1⟩=>ho pins s1 σ H1 x v Q I1 r1 q1)
theorem opI {f:Value→Value→Sem Value} {C:Int→Int→Prop} {g:Int→Int→Int}
  (rule:∀ (i j:Int) (t u:Tok) (s:Shared) (Q:Value→Shared→Prop) (E:Value→Shared→Prop),C i j→Q (.int (g i j) s.toks) { s with toks:=s.toks + 1 }→wpAny (model X.prog X.w) X.A (f (.int i t) (.int j u)) Q E s) :
  OpR X f (rI C fun i j=>.int (g i j)):=by
 intro pins s σ H x y v u Q I rx ry h
 obtain ⟨i,j,rfl,rfl,hc,q⟩:=h
 obtain ⟨t,rfl⟩:=rx
 obtain ⟨t',rfl⟩:=ry
 exact rule i j t t' s _ _ hc ⟨.int (g i j),H,I.tok _,⟨_,rfl⟩,q⟩
theorem opI0 {f:Value→Value→Sem Value} {g:Int→Int→Int}
  (rule:∀ (i j:Int) (t u:Tok) (s:Shared) (Q:Value→Shared→Prop) (E:Value→Shared→Prop),Q (.int (g i j) s.toks) { s with toks:=s.toks + 1 }→wpAny (model X.prog X.w) X.A (f (.int i t) (.int j u)) Q E s) :
  OpR X f (rI0 fun i j=>.int (g i j)):=by
 intro pins s σ H x y v u Q I rx ry h
 obtain ⟨i,j,rfl,rfl,q⟩:=h
 obtain ⟨t,rfl⟩:=rx
 obtain ⟨t',rfl⟩:=ry
 exact rule i j t t' s _ _ ⟨.int (g i j),H,I.tok _,⟨_,rfl⟩,q⟩
theorem opB0 {f:Value→Value→Sem Value} {g:Int→Int→Bool}
  (rule:∀ (i j:Int) (t u:Tok) (s:Shared) (Q:Value→Shared→Prop) (E:Value→Shared→Prop),Q (.bool (g i j)) s→wpAny (model X.prog X.w) X.A (f (.int i t) (.int j u)) Q E s) :
  OpR X f (rI0 fun i j=>.bl (g i j)):=by
 intro pins s σ H x y v u Q I rx ry h
 obtain ⟨i,j,rfl,rfl,q⟩:=h
 obtain ⟨t,rfl⟩:=rx
 obtain ⟨t',rfl⟩:=ry
 exact rule i j t t' s _ _ ⟨.bl (g i j),H,I,rfl,q⟩

def CDiv (i j:Int):Prop:=0 < j∧j < 1073741824
def CPow (i j:Int):Prop:=0≤j∧j≤1000000∧i.natAbs < 2 ^ 64
def CMul (i j:Int):Prop:=(-(2 ^ 64) < i∧i < 2 ^ 64)∨(-(2 ^ 64) < j∧j < 2 ^ 64)
theorem CMul.ok {i j:Int} (h:CMul i j):IntMulOk i j:=by
 rcases h with ⟨h1,h2⟩ | ⟨h1,h2⟩
 ·exact .of_left (intBits_le_64 h1 h2)
 ·exact .of_right (intBits_le_64 h1 h2)
theorem op_add:OpR X (binaryOp .Add) (rI0 fun i j=>.int (i + j)):=opI0 fun _ _ _ _ _ _ _ q=>add_int q
theorem op_sub:OpR X (binaryOp .Sub) (rI0 fun i j=>.int (i - j)):=opI0 fun _ _ _ _ _ _ _ q=>sub_int q
theorem op_mul:OpR X (binaryOp .Mult) (rI CMul fun i j=>.int (i * j)):=opI fun _ _ _ _ _ _ _ hc q=>mul_int q hc.ok
theorem op_fdiv:OpR X (binaryOp .FloorDiv) (rI CDiv fun i j=>.int (i / j)):=opI fun i j _ _ _ _ _ hc q=>by
 have h1:(0:Int) < j:=hc.1
 have h2:j < 1073741824:=hc.2
 exact floordiv_int (by walk_at"q") (by rw [Int.fdiv_eq_ediv_of_nonneg i (by walk_at"q")];exact q) (.inl (PyProof.noPylong_small (by walk_at"q")))
theorem op_mod:OpR X (binaryOp .Mod) (rI (fun _ j=>0 < j) fun i j=>.int (i % j)):=opI fun i j _ _ _ _ _ hc q=>by
 have h1:(0:Int) < j:=hc
 exact mod_int' (by walk_at"q") (by rw [Int.fmod_eq_emod_of_nonneg i (by walk_at"q")];exact q)
theorem op_pow:OpR X (binaryOp .Pow) (rI CPow fun i j=>.int (i ^ j.toNat)):=opI fun _ _ _ _ _ _ _ hc q=>pow_int_small hc.1 hc.2.1 hc.2.2 q
theorem op_shl:OpR X (binaryOp .LShift) (rI CPow fun i j=>.int (i * 2 ^ j.toNat)):=opI fun _ _ _ _ _ _ _ hc q=>lshift_int_small hc.1 hc.2.1 hc.2.2 q
theorem unI {f:Value→Sem Value} {g:Int→Int}
  (rule:∀ (i:Int) (t:Tok) (s:Shared) (Q:Value→Shared→Prop) (E:Value→Shared→Prop),Q (.int (g i) s.toks) { s with toks:=s.toks + 1 }→wpAny (model X.prog X.w) X.A (f (.int i t)) Q E s) :
  UnR X f (rU fun i=>.int (g i)):=by
 intro pins s σ H x v Q I rx h
 obtain ⟨i,rfl,q⟩:=h
 obtain ⟨t,rfl⟩:=rx
 exact rule i t s _ _ ⟨.int (g i),H,I.tok _,⟨_,rfl⟩,q⟩
theorem un_neg:UnR X (unaryOp .USub) (rU fun i=>.int (-i)):=unI fun _ _ _ _ _ q=>neg_int q
end

def scal:V→V→Bool
 | .non,.non=>true | .non,.int _=>true | .int _,.non=>true | .non,.bl _=>true | .bl _,.non=>true | .non,.str _=>true | .str _,.non=>true
 | .int _,.int _=>true | .bl _,.bl _=>true | .str _,.str _=>true | .byt _,.byt _=>true
 | .int _,.str _=>true | .str _,.int _=>true | .bl _,.str _=>true | .str _,.bl _=>true
 | _,_=>false
inductive REqP (x:V) (y:V) (H:Hp) (Q:VK):Prop
 | mk  (h1:scal x y=true) (h2:Q (.bl (decide (x=y))) H):REqP x y H Q
def rEq:R2:=fun x y H Q=>REqP  x y H Q
inductive RNeP (x:V) (y:V) (H:Hp) (Q:VK):Prop
 | mk  (h1:scal x y=true) (h2:Q (.bl (!decide (x=y))) H):RNeP x y H Q
def rNe:R2:=fun x y H Q=>RNeP  x y H Q

theorem dec_int {i j:Int}:decide (V.int i=V.int j)=(i == j):=by
 rw [Bool.eq_iff_iff]
 simp
theorem dec_bl {i j:Bool}:decide (V.bl i=V.bl j)=(i == j):=by
 rw [Bool.eq_iff_iff]
 simp
theorem dec_str {i j:Str}:decide (V.str i=V.str j)=(i == j):=by
 rw [Bool.eq_iff_iff]
 simp
theorem dec_byt {i j:Array UInt8}:decide (V.byt i=V.byt j)=(i.toList == j.toList):=by
 rw [Bool.eq_iff_iff]
 cases i
 cases j
 simp

section
variable {X:Cx} {a b c:Expr} {ta tb tc:TE} {pos:Pos}
theorem fin_bl {pins:List (Addr × Obj)} {σ:St} {H:Hp} {s:Shared} {Q:VK} {k k':Bool} (I:Inv X pins σ H s) (q:Q (.bl k) H) (e:k=k'):EP X pins σ Q (.bool k') s:=by
 subst e
 exact ⟨.bl k,H,I,rfl,q⟩
theorem op_eq:OpR X (compareOp .Eq) rEq:=by
 intro pins s σ H x y v u Q I rx ry h
 obtain ⟨hs,q⟩:=h
 cases x with
 | non =>
  cases rx
  cases y with
  | non=>cases ry;exact PySem.EqNone.eq_none_none (fin_bl I q (by simp))
  | bl j=>cases ry;exact PySem.EqNone.eq_none_bool (fin_bl I q (by simp))
  | int j=>obtain ⟨t',rfl⟩:=ry;exact PySem.EqNone.eq_none_int (fin_bl I q (by simp))
  | str j=>obtain ⟨t',rfl⟩:=ry;exact PySem.EqNone.eq_none_str (fin_bl I q (by simp))
  | _=>exact absurd (show false=true from hs) Bool.false_ne_true
 | bl i =>
  cases rx
  cases y with
  | non=>cases ry;exact PySem.EqNone.eq_bool_none (fin_bl I q (by simp))
  | bl j=>cases ry;exact eq_bool (fin_bl I q dec_bl)
  | str j=>obtain ⟨t',rfl⟩:=ry;exact PySem.EqMixed.eq_bool_str (fin_bl I q (by simp))
  | _=>exact absurd (show false=true from hs) Bool.false_ne_true
 | int i =>
  obtain ⟨t,rfl⟩:=rx
  cases y with
  | non=>cases ry;exact PySem.EqNone.eq_int_none (fin_bl I q (by simp))
  | int j=>obtain ⟨t',rfl⟩:=ry;exact eq_int (fin_bl I q dec_int)
  | str j=>obtain ⟨t',rfl⟩:=ry;exact PySem.EqMixed.eq_int_str (fin_bl I q (by simp))
  | _=>exact absurd (show false=true from hs) Bool.false_ne_true
 | str i =>
  obtain ⟨t,rfl⟩:=rx
  cases y with
  | non=>cases ry;exact PySem.EqNone.eq_str_none (fin_bl I q (by simp))
  | bl j=>cases ry;exact PySem.EqMixed.eq_str_bool (fin_bl I q (by simp))
  | int j=>obtain ⟨t',rfl⟩:=ry;exact PySem.EqMixed.eq_str_int (fin_bl I q (by simp))
  | str j=>obtain ⟨t',rfl⟩:=ry;exact eq_str (fin_bl I q dec_str)
  | _=>exact absurd (show false=true from hs) Bool.false_ne_true
 | byt i =>
  obtain ⟨t,rfl⟩:=rx
  cases y with
  | byt j=>obtain ⟨t',rfl⟩:=ry;exact PySem.W.eq_bytes (fin_bl I q dec_byt)
  | _=>exact absurd (show false=true from hs) Bool.false_ne_true
 | _=>cases y <;> exact absurd (show false=true from hs) Bool.false_ne_true
theorem op_ne:OpR X (compareOp .NotEq) rNe:=by
 intro pins s σ H x y v u Q I rx ry h
 obtain ⟨hs,q⟩:=h
 cases x with
 | non =>
  cases rx
  cases y with
  | non=>cases ry;exact PySem.EqNone.ne_none_none (fin_bl I q (by simp))
  | bl j=>cases ry;exact PySem.EqNone.ne_none_bool (fin_bl I q (by simp))
  | int j=>obtain ⟨t',rfl⟩:=ry;exact PySem.EqNone.ne_none_int (fin_bl I q (by simp))
  | str j=>obtain ⟨t',rfl⟩:=ry;exact PySem.EqNone.ne_none_str (fin_bl I q (by simp))
  | _=>exact absurd (show false=true from hs) Bool.false_ne_true
 | bl i =>
  cases rx
  cases y with
  | non=>cases ry;exact PySem.EqNone.ne_bool_none (fin_bl I q (by simp))
  | bl j=>cases ry;exact ne_bool (fin_bl I q (congrArg not dec_bl))
  | str j=>obtain ⟨t',rfl⟩:=ry;exact PySem.EqMixed.ne_bool_str (fin_bl I q (by simp))
  | _=>exact absurd (show false=true from hs) Bool.false_ne_true
 | int i =>
  obtain ⟨t,rfl⟩:=rx
  cases y with
  | non=>cases ry;exact PySem.EqNone.ne_int_none (fin_bl I q (by simp))
  | int j=>obtain ⟨t',rfl⟩:=ry;exact ne_int (fin_bl I q (congrArg not dec_int))
  | str j=>obtain ⟨t',rfl⟩:=ry;exact PySem.EqMixed.ne_int_str (fin_bl I q (by simp))
  | _=>exact absurd (show false=true from hs) Bool.false_ne_true
 | str i =>
  obtain ⟨t,rfl⟩:=rx
  cases y with
  | non=>cases ry;exact PySem.EqNone.ne_str_none (fin_bl I q (by simp))
  | bl j=>cases ry;exact PySem.EqMixed.ne_str_bool (fin_bl I q (by simp))
  | int j=>obtain ⟨t',rfl⟩:=ry;exact PySem.EqMixed.ne_str_int (fin_bl I q (by simp))
  | str j=>obtain ⟨t',rfl⟩:=ry;exact ne_str (fin_bl I q (congrArg not dec_str))
  | _=>exact absurd (show false=true from hs) Bool.false_ne_true
 | byt i =>
  obtain ⟨t,rfl⟩:=rx
  cases y with
  | byt j=>obtain ⟨t',rfl⟩:=ry;exact PySem.W.ne_bytes (fin_bl I q (congrArg not dec_byt))
  | _=>exact absurd (show false=true from hs) Bool.false_ne_true
 | _=>cases y <;> exact absurd (show false=true from hs) Bool.false_ne_true

theorem op_lt:OpR X (compareOp .Lt) (rI0 fun i j=>.bl (decide (i < j))):=opB0 fun _ _ _ _ _ _ _ q=>lt_int q
theorem op_le:OpR X (compareOp .LtE) (rI0 fun i j=>.bl (decide (i≤j))):=opB0 fun _ _ _ _ _ _ _ q=>le_int q
theorem op_gt:OpR X (compareOp .Gt) (rI0 fun i j=>.bl (decide (j < i))):=opB0 fun _ _ _ _ _ _ _ q=>gt_int q
theorem op_ge:OpR X (compareOp .GtE) (rI0 fun i j=>.bl (decide (j≤i))):=opB0 fun _ _ _ _ _ _ _ q=>ge_int q
theorem op_notN:OpR X (compareOp .IsNot) (fun x y H Q=>y=.non∧Q (.bl (!decide (x=.non))) H):=by
 intro pins s σ H x y v u Q I rx ry h
 obtain ⟨rfl,q⟩:=h
 cases ry
 refine isnot_none_gen (fin_bl I q ?_)
 cases x <;> first
  | (cases rx;rfl)
  | (obtain ⟨t,rfl⟩:=rx;rfl)

theorem nomark (b:Expr) {op:CmpOp} (h:op≠.In:=by decide) (h2:op≠.NotIn:=by decide):behindInMarks op b=false:=by
 have e1:(op == CmpOp.In)=false:=by cases op <;> first | rfl | exact absurd rfl h
 have e2:(op == CmpOp.NotIn)=false:=by cases op <;> first | rfl | exact absurd rfl h2
 cases b <;> simp [behindInMarks,e1,e2]
theorem pe_cmpR {op:CmpOp} {r:R2} (ho:OpR X (compareOp op) r) (ha:PE X a ta) (hb:PE X b tb) (hm:behindInMarks op b=false):PE X (.Compare a [op] [b] pos) (tOp r ta tb):=by
 intro pins s σ H Q I h
 exact wpAny_Compare1 (binT ha hb I h fun v u s2 x y H2 I2 rx ry q=>ho pins s2 σ H2 x y v u Q I2 rx ry q) hm
def tTest (t:TE):TT:=fun σ H Q=>t σ H fun x H'=>OfBl x H' Q
theorem pt_cmpR {op:CmpOp} {r:R2} (ho:OpR X (compareOp op) r) (ha:PE X a ta) (hb:PE X b tb) (hm:behindInMarks op b=false):PT X (.Compare a [op] [b] pos) (tTest (tOp r ta tb)):=by
 intro pins s σ H Q I h
 refine wpAny_isTrue_Compare1 (thn (ha pins s σ H _ I h) fun v s1 ⟨x,H1,I1,r1,q1⟩=>thn (hb pins s1 σ H1 _ I1 q1) fun u s2 ⟨y,H2,I2,r2,q2⟩ =>
  thn (ho pins s2 σ H2 x y v u _ I2 r1 r2 q2) fun c s3 ⟨z,H3,I3,r3,k,e,q3⟩=>?_) hm
 subst e
 cases r3
 exact wpAny_truthy_bool ⟨H3,I3,q3⟩
def tChain (r r':R2) (ta tb tc:TE):TE:=fun σ H Q=>ta σ H fun x H1=>tb σ H1 fun y H2=>r x y H2 fun z H3=>∃ k,z=.bl k ∧
 (if k=true then tc σ H3 fun w' H4=>r' y w' H4 Q else Q (.bl false) H3)
theorem pe_chain {op op':CmpOp} {r r':R2} (ho:OpR X (compareOp op) r) (ho':OpR X (compareOp op') r') (ha:PE X a ta) (hb:PE X b tb) (hc:PE X c tc)
  (hm:lastMarks [op,op'] [b,c]=false:=by with_unfolding_all rfl):PE X (.Compare a [op,op'] [b,c] pos) (tChain r r' ta tb tc):=by
 intro pins s σ H Q I h
 refine Compare_chain (thn (ha pins s σ H _ I h) fun v s1 ⟨x,H1,I1,r1,q1⟩=>chain_link (thn (hb pins s1 σ H1 _ I1 q1) fun u s2 ⟨y,H2,I2,r2,q2⟩ =>
  thn (ho pins s2 σ H2 x y v u _ I2 r1 r2 q2) fun d s3 ⟨z,H3,I3,r3,k,e,q3⟩=>?_)) hm
 subst e
 cases r3
 refine wpAny_truthy_bool ?_
 cases k with
 | false=>exact ite_ff ⟨.bl false,H3,I3,rfl,q3⟩
 | true=>exact ite_tt (chain_last (thn (hc pins s3 σ H3 _ I3 q3) fun w' s4 ⟨z',H4,I4,r4,q4⟩=>ho' pins s4 σ H4 y z' u w' Q I4 r2 r4 q4))
theorem pt_chain {op op':CmpOp} {r r':R2} (ho:OpR X (compareOp op) r) (ho':OpR X (compareOp op') r') (ha:PE X a ta) (hb:PE X b tb) (hc:PE X c tc)
  (hm:lastMarks [op,op'] [b,c]=false:=by with_unfolding_all rfl):PT X (.Compare a [op,op'] [b,c] pos) (tTest (tChain r r' ta tb tc)):=by
 intro pins s σ H Q I h
 refine isTrue_chain (thn (ha pins s σ H _ I h) fun v s1 ⟨x,H1,I1,r1,q1⟩=>test_link (thn (hb pins s1 σ H1 _ I1 q1) fun u s2 ⟨y,H2,I2,r2,q2⟩ =>
  thn (ho pins s2 σ H2 x y v u _ I2 r1 r2 q2) fun d s3 ⟨z,H3,I3,r3,k,e,q3⟩=>?_)) hm
 subst e
 cases r3
 refine wpAny_truthy_bool ?_
 cases k with
 | false =>
  obtain ⟨k',e',q'⟩:=q3
  cases e'
  exact ite_ff ⟨H3,I3,q'⟩
 | true =>
  refine ite_tt (test_last (thn (hc pins s3 σ H3 _ I3 q3) fun w' s4 ⟨z',H4,I4,r4,q4⟩=>thn (ho' pins s4 σ H4 y z' u w' _ I4 r2 r4 q4) fun d' s5 ⟨z2,H5,I5,r5,k2,e2,q5⟩=>?_))
  subst e2
  cases r5
  exact wpAny_truthy_bool ⟨H5,I5,q5⟩

def TruV (K:PySem.W.Frag) (x:V) (H:Hp) (k:Bool):Prop :=
 match x with
 | .non=>k=false
 | .bl b=>k=b
 | .int i=>k=(i != 0)
 | .str y=>y.length≤sizeLine∧k=((y.length:Int) != 0)
 | .byt y=>y.size≤sizeLine∧k=((y.size:Int) != 0)
 | .ref p=>(∃ xs,SqL K H p xs∧k=!xs.isEmpty)∨(∃ xs,SqT K H p xs∧k=!xs.isEmpty)∨∃ kvs,H p=some (.dK kvs)∧k=!kvs.isEmpty
 | _=>False
theorem isEmpty_kv {κ:Type} {kvs:List (κ × V)} {vs:List (κ × Value)} (r:KV kvs vs):(!vs.isEmpty)=!kvs.isEmpty:=by
 cases r <;> rfl
theorem isEmpty_of {xs:List V} {its:List Value} (r:Vals xs its):(!its.toArray.isEmpty)=!xs.isEmpty:=by
 cases r <;> simp
theorem line63:(sizeLine:Nat) < 2 ^ 63:=by rw [sizeLine_eq];decide
theorem tru_ok:TruR X (fun x H Q=>∃ k,TruV X.K x H k∧Q k H):=by
 intro pins s σ H x v Q I rx h
 obtain ⟨k,e,q⟩:=h
 have hl:=line63
 have hs:sizeLine=16777216:=sizeLine_eq
 cases x with
 | non =>
  cases rx
  have e':k=false:=e
  subst e'
  exact truthy_none ⟨H,I,q⟩
 | bl b =>
  cases rx
  have e':k=b:=e
  subst e'
  exact wpAny_truthy_bool ⟨H,I,q⟩
 | int i =>
  obtain ⟨t,rfl⟩:=rx
  have e':k=(i != 0):=e
  subst e'
  exact PySem.P.truthy_int ⟨H,I,q⟩
 | str y =>
  obtain ⟨t,rfl⟩:=rx
  obtain ⟨hy,e'⟩:y.length≤sizeLine∧k=((y.length:Int) != 0):=e
  subst e'
  exact PySem.P.truthy_str (by walk_at"q") ⟨H,I.tok _,q⟩
 | byt y =>
  obtain ⟨t,rfl⟩:=rx
  obtain ⟨hy,e'⟩:y.size≤sizeLine∧k=((y.size:Int) != 0):=e
  subst e'
  exact PySem.W.truthy_bytes (by walk_at"q") ⟨H,I.tok _,q⟩
 | ref p =>
  cases rx
  have e':(∃ xs,SqL X.K H p xs∧k=!xs.isEmpty)∨(∃ xs,SqT X.K H p xs∧k=!xs.isEmpty)∨∃ kvs,H p=some (.dK kvs)∧k=!kvs.isEmpty:=e
  rcases e' with ⟨xs,hx,e'⟩ | ⟨xs,hx,e'⟩ | ⟨kvs,hx,e'⟩
  ·subst e'
   obtain ⟨its,r,pl,hz⟩:=I.list hx
   have hlen:=r.length
   exact wpAny_truthy_list pl.isList (by simp only [List.size_toArray];walk_at"q") ⟨H,I.tok _,by rw [isEmpty_of r];exact q⟩
  ·subst e'
   obtain ⟨its,r,pl,hz⟩:=I.tuple hx
   have hlen:=r.length
   exact truthy_tuple pl (by simp only [List.size_toArray];walk_at"q") ⟨H,I.tok _,by rw [isEmpty_of r];exact q⟩
  ·subst e'
   obtain ⟨hz,hS,vs,r,m⟩:kvs.length≤sizeLine∧(p == sysModules)=false∧∃ vs,KV kvs vs∧s.heap.DictOf (mixKind X.prog X.w) p vs:=I.hok p _ hx
   have hlen:kvs.length=vs.length:=Paired.length r
   exact wpAny_truthy_dict hS m (by walk_at"q") ⟨H,I.tok _,by rw [isEmpty_kv r];exact q⟩
 | _=>exact (show False from e).elim
theorem vals1 {x:V} {us:List Value} (r:Vals [x] us):∃ u,us=[u]∧RelV x u:=by
 cases r with
 | cons r1 r2=>cases r2;exact ⟨_,rfl,r1⟩
theorem vals2 {x y:V} {us:List Value} (r:Vals [x,y] us):∃ u w',us=[u,w']∧RelV x u∧RelV y w':=by
 cases r with
 | cons r1 r2 =>
  cases r2 with
  | cons r3 r4=>cases r4;exact ⟨_,_,rfl,r1,r3⟩
inductive P_call_max2 (K:PySem.W.Frag) (xs:List V) (H:Hp) (Q:VK):Prop
 | mk (i:_) (j:_) (h1:xs=[.int i,.int j]) (h2:Q (.int (if j > i then j else i)) H):P_call_max2 K xs H Q
theorem call_max2 (hc:X.calm=true):CallR X (.builtin "max") (P_call_max2 X.K):=by
 intro pins s σ H xs us Q I r h
 obtain ⟨i,j,rfl,q⟩:=h
 obtain ⟨u,w',rfl,⟨t,rfl⟩,⟨t',rfl⟩⟩:=vals2 r
 refine max_two_ints (I.ok.hd hc) fun h' tk k=>⟨_,H,I.kept k,?_,q⟩
 by_cases hj:j > i
 ·rw [if_pos hj,if_pos hj];exact ⟨_,rfl⟩
 ·rw [if_neg hj,if_neg hj];exact ⟨_,rfl⟩
inductive P_call_min2 (K:PySem.W.Frag) (xs:List V) (H:Hp) (Q:VK):Prop
 | mk (i:_) (j:_) (h1:xs=[.int i,.int j]) (h2:Q (.int (if j < i then j else i)) H):P_call_min2 K xs H Q
theorem call_min2 (hc:X.calm=true):CallR X (.builtin "min") (P_call_min2 X.K):=by
 intro pins s σ H xs us Q I r h
 obtain ⟨i,j,rfl,q⟩:=h
 obtain ⟨u,w',rfl,⟨t,rfl⟩,⟨t',rfl⟩⟩:=vals2 r
 refine min_two_ints (I.ok.hd hc) fun h' tk k=>⟨_,H,I.kept k,?_,q⟩
 by_cases hj:j < i
 ·rw [if_pos hj,if_pos hj];exact ⟨_,rfl⟩
 ·rw [if_neg hj,if_neg hj];exact ⟨_,rfl⟩
theorem call_int1:CallR X (.type "int") (fun xs H Q=>(∃ i,xs=[.int i]∧Q (.int i) H)∨∃ k,xs=[.bl k]∧Q (.int (if k then 1 else 0)) H):=by
 intro pins s σ H xs us Q I r h
 rcases h with ⟨i,rfl,q⟩ | ⟨k,rfl,q⟩
 ·obtain ⟨u,rfl,t,rfl⟩:=vals1 r
  exact call_int_int ⟨.int i,H,I,⟨_,rfl⟩,q⟩
 ·obtain ⟨u,rfl,r1⟩:=vals1 r
  cases r1
  exact call_int_bool ⟨.int (if k then 1 else 0),H,I.tok _,⟨_,rfl⟩,q⟩
end
end L2

namespace L2
open PySem PySem.Spec PyProof.Rows

structure ObjM (h:Heap) (x dx C:Addr) (mA:Str→Option Value):Prop where
 obj:h.get? x=some (PySem.W.instObj C dx)
 ns:h.Ns1 dx mA
 ne:dx≠x

theorem lookIn_ns {h:Heap} {dx:Addr} {mA:Str→Option Value} (n:h.Ns1 dx mA):∃ od,h.get? dx=some od∧∀ name,PySem.W.lookIn name od=some (mA name):=by
 obtain ⟨o,es,ep,ho,hd,hk,_,hm⟩:=n
 refine ⟨o,ho,fun name=>?_⟩
 have e:=hm name
 unfold nsFind findBy at e
 rw [← Array.find?_toList] at e
 unfold PySem.W.lookIn
 rw [hd]
 dsimp only
 split
 ·rename_i y q
  rw [q] at e
  exact congrArg some e
 ·rename_i q
  rw [q] at e
  have a:es.toList.any (·.refKey)=false:=by
   rw [List.any_eq_false]
   intro y hy
   obtain ⟨z,t,hkey⟩:=hk y (Array.mem_toList_iff.mp hy)
   simp [DictEntry.refKey,hkey]
  have a':¬ es.toList.any (·.refKey)=true:=by rw [a];exact Bool.false_ne_true
  rw [if_neg a']
  exact congrArg some e

theorem ObjM.look {h:Heap} {x dx C:Addr} {mA:Str→Option Value} (I:ObjM h x dx C mA):∃ od,PySem.W.InstAt h x (PySem.W.instObj C dx) C (some od)∧∀ name,PySem.W.lookIn name od=some (mA name) :=
 let ⟨od,ho,hl⟩:=lookIn_ns I.ns
 ⟨od,⟨I.obj,rfl,rfl,ho⟩,hl⟩

section
variable {prog:Program} {w:World} {A:Around} {E:Value→Shared→Prop} {s:Shared} {K:PySem.W.Frag} {x dx C f:Addr} {mA:Str→Option Value} {name:Str} {v:Value}

theorem set_map {ns:List Str} {Q:Unit→Shared→Prop} (X:K.In s.heap) (I:ObjM s.heap x dx C mA)
  (hs:PySem.W.findIn K (.ref C) "__setattr__" = some (some (.builtin "object.__setattr__"))) (hp:PySem.W.plainOver K C=true) (ht:PySem.W.takerIn K C name=some none) (hh:PySem.W.hasDictIn K C=true)
  (hw:PySem.Within mA ns) (hsz:ns.length≤sizeLine)
  (h:∀ h',ObjM h' x dx C (fun y=>if y=name then some v else mA y)→Heap.SameBut dx s.heap h'→Q () { s with heap:=h',toks:=s.toks + 2 }) :
  wpAny (model prog w) A (setAttr (.ref x) name v) Q E s:=by
 obtain ⟨od,J,hl⟩:=I.look
 refine PySem.W.set_plain X J hs (PySem.W.osa_open (s:={ s with toks:=s.toks + 1 }) (r:=none) X J hp ht fun b=>?_)
 obtain ⟨cd,hc,hd'⟩:=PySem.W.any_some hh
 have hx:s.heap.get? x=some ⟨.ref C,some dx,.plain,#[]⟩:=I.obj
 refine wpAny_bind (wpAny_pure (wpAny_bind (wpAny_bind (wpAny_loadPart hx (wpAny_bind (PySem.W.Looks.here (s:={ s with toks:=s.toks + 1 }) (PySem.W.looks_clsIn X hc) ?_))))))
 rw [hd']
 refine wpAny_pure (a:=some dx) (wpAny_bind (wpAny_pure (wpAny_bind ?_)))
 refine wpAny_nsSet1 (s:={ s with toks:=s.toks + 1 }) I.ns fun h' hn2 hs2=>?_
 obtain ⟨oD,esD,epD,hoD,hdD,hcD⟩:=hn2.count (PySem.Within.cons name v hw)
 refine wpAny_bind (wpAny_lookBehind hoD (by rw [hdD];exact pastItsLine_dict (Nat.le_trans hcD (by rw [List.length_cons];walk_at"q"))) ?_)
 exact wpAny_pure (h _ ⟨(hs2.2 _ (Ne.symm I.ne)).trans I.obj,hn2,I.ne⟩ hs2)

end

section
variable {P:Program} {w:World} {H H':Hp} {h h':Heap} {a C dx:Addr} {fs fs':List (Str × V)}
theorem ins_get (hok:HOk P w H h) (e:H a=some (.ins C dx fs)):∃ mA,ObjM h a dx C mA∧(∀ f,RelO (fs.lookup f) (mA f))∧PySem.Within mA (fs.map (·.1))∧fs.length≤1000∧H dx=some (.own a):=by
 obtain ⟨d,z,ne,ob,mA,n,r,q⟩:=(show ObjOk P w H h a (.ins C dx fs) from hok a _ e)
 exact ⟨mA,⟨ob,n,ne⟩,r,q,z,d⟩
end

structure Cls (K:PySem.W.Frag) (C:Addr):Prop where
 pg:PySem.W.plainGet K C Str.empty=true
 hd:PySem.W.hasDictIn K C=true
 po:PySem.W.plainOver K C=true
 sa:PySem.W.findIn K (.ref C) "__setattr__" = some (some (.builtin "object.__setattr__"))
theorem Cls.get {K:PySem.W.Frag} {C:Addr} (c:Cls K C) (f:Str):PySem.W.plainGet K C f=true:=c.pg
section
variable {X:Cx} {pins:List (Addr × Obj)} {σ:St} {H:Hp} {s:Shared} {a C dx:Addr} {fs:List (Str × V)} {f:Str} {v:V} {A:Around} {E:Value→Shared→Prop}

end

section
variable {X:Cx} {o e value:Expr} {f:Str} {pos pos' tpos:Pos} {ta tv:TE}
end

section
variable {X:Cx} {pins:List (Addr × Obj)} {σ:St} {H:Hp} {s:Shared} {A:Around} {E:Value→Shared→Prop} {Q:Value→Shared→Prop} {c:Value} {b:Bool}
inductive TyOf (K:PySem.W.Frag) (H:Hp):V→Value→Prop where
 | non:TyOf K H .non (.type "NoneType")
 | bl (x:Bool):TyOf K H (.bl x) (.type "bool")
 | int (i:Int):TyOf K H (.int i) (.type "int")
 | str (x:Str):TyOf K H (.str x) (.type "str")
 | flt (x:UInt64):TyOf K H (.flt x) (.type "float")
 | lst {a:Addr} {xs:List V} (e:H a=some (.lst xs)):TyOf K H (.ref a) (.type "list")
 | frz {a:Addr} {o:Obj} {xs:List V} (e:H a=some (.frz o (.lst xs))):TyOf K H (.ref a) (.type "list")
 | tup {a:Addr} {xs:List V} (e:H a=some (.tup xs)):TyOf K H (.ref a) (.type "tuple")
 | dK {a:Addr} {kvs:List (Key × V)} (e:H a=some (.dK kvs)):TyOf K H (.ref a) (.type "dict")
 | dT {a:Addr} {kvs:List (List Key × V)} (e:H a=some (.dT kvs)):TyOf K H (.ref a) (.type "dict")
 | ins {a C dx:Addr} {fs:List (Str × V)} (e:H a=some (.ins C dx fs)) (cl:Cls K C) (ha:PySem.W.findIn K (.ref C) "__class__" = some (some (.builtin "object.__class__")))
   (hn:PySem.W.specialIn K (.builtin "object.__class__") "__get__" = some (some (.builtin "getset_descriptor.__get__"))) (htk:PySem.W.takesIn K (.builtin "object.__class__")=some true)
   (hm:PySem.W.mroIn K C (.type "object")=some true):TyOf K H (.ref a) (.ref C)
theorem isinst_ok {x:V} {u t:Value} (I:Inv X pins σ H s) (rx:RelV x u) (ty:TyOf X.K H x t) (e:PySem.W.kitOne X.K t c=some b) (h:∀ tk,Q (.bool b) { s with toks:=tk }) :
  wpAny (model X.prog X.w) A (call (.builtin "isinstance") [u,c]) Q E s:=by
 cases ty with
 | non=>cases (show u=Value.none from rx);exact PySem.W.kia_one PySem.W.kitx_none I.kIn True.intro e (fun z=>nomatch z) h
 | bl y=>cases (show u=Value.bool y from rx);exact PySem.W.kia_one PySem.W.kitx_bool I.kIn True.intro e (fun z=>nomatch z) h
 | int i=>obtain ⟨t,q⟩:=(show ∃ t,u=Value.int i t from rx);cases q;exact PySem.W.kia_one PySem.W.kitx_int I.kIn True.intro e (fun z=>nomatch z) h
 | str y=>obtain ⟨t,q⟩:=(show ∃ t,u=Value.str y t from rx);cases q;exact PySem.W.kia_one PySem.W.kitx_str I.kIn True.intro e (fun z=>nomatch z) h
 | flt y=>obtain ⟨t,q⟩:=(show ∃ t,u=Value.float y t from rx);cases q;exact PySem.W.kia_one PySem.W.kitx_float I.kIn True.intro e (fun z=>nomatch z) h
 | @lst a xs ea =>
  cases (show u=Value.ref a from rx)
  obtain ⟨_,_,n,_,h1⟩:=(show ObjOk X.prog X.w H s.heap a (.lst xs) from I.hok a _ ea)
  exact PySem.W.kia_one PySem.W.kitx_list I.kIn ⟨_,h1,rfl⟩ e (fun z=>nomatch z) h
 | @frz a ob xs ea =>
  cases (show u=Value.ref a from rx)
  obtain ⟨_,_,_,n,_,h1⟩:=(show ObjOk X.prog X.w H s.heap a (.frz ob (.lst xs)) from I.hok a _ ea)
  exact PySem.W.kia_one PySem.W.kitx_list I.kIn ⟨_,h1,rfl⟩ e (fun z=>nomatch z) h
 | @tup a xs ea =>
  cases (show u=Value.ref a from rx)
  obtain ⟨_,_,_,p⟩:=(show ObjOk X.prog X.w H s.heap a (.tup xs) from I.hok a _ ea)
  obtain ⟨o,h1,h2,_⟩:=p
  exact PySem.W.kia_one PySem.W.kitx_tuple I.kIn ⟨o,h1,h2⟩ e (fun z=>nomatch z) h
 | @dK a kvs ea =>
  cases (show u=Value.ref a from rx)
  obtain ⟨_,_,vs,_,p⟩:=(show ObjOk X.prog X.w H s.heap a (.dK kvs) from I.hok a _ ea)
  obtain ⟨o,es,ep,h1,h2,_⟩:=p
  exact PySem.W.kia_one PySem.W.kitx_dict I.kIn ⟨o,h1,h2.1⟩ e (fun z=>nomatch z) h
 | @dT a kvs ea =>
  cases (show u=Value.ref a from rx)
  obtain ⟨_,_,xs,_,o,es,ep,h1,h2,_⟩:=(show ObjOk X.prog X.w H s.heap a (.dT kvs) from I.hok a _ ea)
  exact PySem.W.kia_one PySem.W.kitx_dict I.kIn ⟨o,h1,h2.1⟩ e (fun z=>nomatch z) h
 | @ins a C dx fs ea cl ha hn htk hm =>
  cases (show u=Value.ref a from rx)
  obtain ⟨mA,O,_⟩:=ins_get I.hok ea
  obtain ⟨od,J,_⟩:=O.look
  exact PySem.W.kia_one (PySem.W.kitx_own (cl.get _) cl.hd ha hn htk hm) I.kIn J e (fun z=>nomatch z) h
end
end L2

namespace L2
open PySem PySem.Spec PyProof.Rows

structure Room (k:Nat) (A:Around):Prop where
 hd:A.handled=none
 dp:A.depth + 3 * k + 5 < recursionLimit
 un:A.units + 16 * k + 200 < cLine
 gd:A.guards=some []
theorem Room.mono {j k:Nat} {A:Around} (r:Room k A) (h:j≤k):Room j A:=⟨r.hd,by have:=r.dp;walk_at"q", by have:=r.un;walk_at"q", r.gd⟩
theorem Room.deeper {k:Nat} {A:Around} (r:Room (k + 1) A) (env:Env):Room k (A.deeper env) :=
 ⟨r.hd,by have:=r.dp;show A.depth + 1 + 3 * k + 5 < _;walk_at"q", by have:=r.un;show A.units + 3 + 16 * k + 200 < _;walk_at"q", r.gd⟩
theorem Room.depth {k:Nat} {A:Around} (r:Room k A):A.depth < recursionLimit:=by have:=r.dp;walk_at"q"
theorem Room.units {k:Nat} {A:Around} (r:Room k A):A.units + 64 < cLine:=by have:=r.un;walk_at"q"
theorem Room.units0 {k:Nat} {A:Around} (r:Room k A):A.units < cLine:=by have:=r.un;walk_at"q"

def tNil:TA:=fun _ H Q=>Q [] H
def tCons (ta:TE) (tr:TA):TA:=fun σ H Q=>ta σ H fun x H1=>tr σ H1 fun xs H2=>Q (x :: xs) H2
section
variable {X:Cx} {e:Expr} {es:List Expr} {te:TE} {t:TA} {pos:Pos}
theorem pa_nil:PA X [] tNil:=fun _ _ _ _ H Q I h=>Calls.spliced_nil ⟨[],H,I,.nil,h⟩
theorem pa_cons (ha:PE X e te) (hr:PA X es t) (hs:starEach (e :: es) X.env=(false,eval e X.env) :: starEach es X.env:=by rfl):PA X (e :: es) (tCons te t):=by
 intro pos pins s σ H Q I h
 rw [hs]
 show wpAny _ _ (spliced ((false,eval e X.env) :: backTo pos (starEach es X.env))) _ _ s
 refine Calls.spliced_cons (thn (ha pins s σ H _ I h) fun u s1 ⟨x,H1,I1,r1,q1⟩=>?_)
 exact thn (hr pos pins s1 σ H1 _ I1 q1) fun us s2 ⟨xs,H2,I2,r2,q2⟩=>⟨x :: xs,H2,I2,.cons r1 r2,q2⟩

def tTup (t:TA):TE:=fun σ H Q=>t σ H fun xs H1=>NewOb xs.length (.tup xs) H1 Q
def tLst (t:TA):TE:=fun σ H Q=>t σ H fun xs H1=>NewOb xs.length (.lst xs) H1 Q
theorem pe_tup {x1} (h:PA X es t):PE X (.Tuple es x1 pos) (tTup t):=by
 intro pins s σ H Q I hq
 refine wpAny_Tuple_spliced (thn (h pos pins s σ H _ I hq) fun us s1 ⟨xs,H1,I1,r,z,q⟩=>⟨by rw [← r.length];exact z,?_⟩)
 have hf:H1 s1.heap.objs.size=none:=I1.hok.fresh (Nat.le_refl _)
 refine ⟨.ref s1.heap.objs.size,upd H1 s1.heap.objs.size (.tup xs),I1.laid (t':=s1.toks) (fun b u e=>Heap.get?_push_of_some _ e) (Nat.le_refl _) ?_,rfl,q _ hf⟩
 exact ⟨z,us,r,⟨_,Heap.get?_push_size _ rfl,rfl,_,rfl,rfl⟩⟩
theorem pe_lst (h:PA X es t):PE X (.List es pos) (tLst t):=by
 intro pins s σ H Q I hq
 refine wpAny_List_spliced (thn (h pos pins s σ H _ I hq) fun us s1 ⟨xs,H1,I1,r,z,q⟩=>⟨by rw [← r.length];exact z,?_⟩)
 have hf:H1 s1.heap.objs.size=none:=I1.hok.fresh (Nat.le_refl _)
 refine ⟨.ref s1.heap.objs.size,upd H1 s1.heap.objs.size (.lst xs),I1.laid (t':=s1.toks) (fun b u e=>Heap.get?_push_of_some _ e) (Nat.le_refl _) ?_,rfl,q _ hf⟩
 exact ⟨z,us,0,r,Heap.get?_push_size _ rfl⟩
end

abbrev Sp:=List V→Hp→VK→XK→Prop
abbrev CXT:=List Env→Hp→Shared→XK→Value→Shared→Prop

structure Env0 (P:Program) (w:World) (K:PySem.W.Frag) (mg:Str→Option Value) (base:Heap) (A:Around) (outer:List Env) (s:Shared) (H:Hp):Prop where
 frames:A.frames=some outer
 mod:Mod K mg base
 bs:∀ b o,base.get? b=some o→s.heap.get? b=some o∧H b=none
 bsz:base.objs.size≤s.heap.objs.size
 funs:s.heap.FunFrames base outer
 frf:∀ b∈frs outer,H b=none
 hok:HOk P w H s.heap
 bare:AllBare s.gens
def CE (outer:List Env) (P:Program) (w:World) (H:Hp) (s:Shared) (Q:VK) (u:Value) (s':Shared):Prop :=
 ∃ v H',s'.os=s.os∧AllBare s'.gens∧Un (frs outer) [] H H' s.heap s'.heap∧HOk P w H' s'.heap∧RelV v u∧Q v H'
def CR (CX:CXT) (outer:List Env) (P:Program) (w:World) (H:Hp) (s:Shared) (Q:VK) (E:XK) (r:Result) (s':Shared):Prop :=
 match r with
 | .ok (.ret u)=>CE outer P w H s Q u s'
 | .ok _=>False
 | .error e=>CX outer H s E e s'
structure FnOk (P:Program) (w:World) (K:PySem.W.Frag) (mg:Str→Option Value) (base:Heap) (CX:CXT) (k:Nat) (f:Addr) (fd:FuncData) (ps:List Str) (sp:Sp):Prop where
 len:∀ vs H Q E,sp vs H Q E→vs.length=ps.length
 run:∀ (A:Around) (outer:List Env) (s:Shared) (H:Hp) (args:Args) (us:List Value) (vs:List V) (Q:VK) (E:XK),Room k A→Env0 P w K mg base A outer s H→BindsTo s fd args (ps.zip us)→Vals vs us→sp vs H Q E →
  codeAny (model P w) A (.call (.ref f) args) (CR CX outer P w H s Q E) s
theorem FnOk.mono {P:Program} {w:World} {K:PySem.W.Frag} {mg:Str→Option Value} {base:Heap} {CX:CXT} {j k:Nat} {f:Addr} {fd:FuncData} {ps:List Str} {sp:Sp} (F:FnOk P w K mg base CX j f fd ps sp) (h:j≤k) :
  FnOk P w K mg base CX k f fd ps sp:=⟨F.len,fun A outer s H args us vs Q E hr=>F.run A outer s H args us vs Q E (hr.mono h)⟩
theorem FnOk.imp {P:Program} {w:World} {K:PySem.W.Frag} {mg:Str→Option Value} {base:Heap} {CX:CXT} {k:Nat} {f:Addr} {fd:FuncData} {ps:List Str} {sp sp':Sp} (F:FnOk P w K mg base CX k f fd ps sp)
  (h:∀ vs H Q E,sp' vs H Q E→sp vs H Q E):FnOk P w K mg base CX k f fd ps sp' :=
 ⟨fun vs H Q E q=>F.len vs H Q E (h _ _ _ _ q),fun A outer s H args us vs Q E hr he hb hv hs=>F.run A outer s H args us vs Q E hr he hb hv (h _ _ _ _ hs)⟩

section
variable {X:Cx} {pins:List (Addr × Obj)} {σ:St} {H:Hp} {s s':Shared}
theorem Inv.env0 (I:Inv X pins σ H s):Env0 X.prog X.w X.K X.mg X.base X.A X.stack s H :=
 ⟨I.ok.frames,I.ok.mod,I.bs,Nat.le_trans I.ok.bsz I.sz,I.stack,I.stkFree,I.hok,I.bare⟩
theorem Inv.after {Q:VK} {u:Value} (I:Inv X pins σ H s) (h:CE X.stack X.prog X.w H s Q u s'):EP X pins σ Q u s':=by
 obtain ⟨v,H',os,bare,un,hok,r,q⟩:=h
 obtain ⟨hh,g,d,t,os'⟩:=s'
 obtain rfl:os'=s.os:=os
 exact ⟨v,H',I.call (h':=hh) (g':=g) (d':=d) (t':=t) (ch:=[]) un hok bare (fun b z=>absurd z (by simp)),r,q⟩
end

def tCall (sp:Sp) (dvs:List V) (E:XK) (t:TA):TE:=fun σ H Q=>t σ H fun vs H1=>sp (vs ++ dvs) H1 Q E
def Binds (K:PySem.W.Frag) (fd:FuncData) (ps:List Str) (ds:List Value):Prop :=
 ∀ (s:Shared) (us:List Value),K.In s.heap→(us ++ ds).length=ps.length→BindsTo s fd ⟨us,[]⟩ (ps.zip (us ++ ds))
theorem Binds.all {K:PySem.W.Frag} {fd:FuncData} {ps:List Str} (h:∀ us:List Value,us.length=ps.length→bindArgs fd ⟨us,[]⟩=pure (ps.zip us)):Binds K fd ps []:=fun s us _ hl=>by
 rw [List.append_nil] at hl ⊢
 exact .of_eq (h us hl)

def Passes (CX:CXT) (X:Cx) (E:XK):Prop:=∀ (pins:List (Addr × Obj)) (σ:St) (H:Hp) (s:Shared) (e:Value) (s':Shared),Inv X pins σ H s→CX X.stack H s E e s'→X.xe e s'

section
variable {X:Cx} {CX:CXT} {k:Nat} {f C:Addr} {fd:FuncData} {ps:List Str} {sp:Sp} {dvs:List V} {ds:List Value} {E:XK} {x m:Str} {p pos apos:Pos} {e o:Expr} {es:List Expr} {ta:TE} {t:TA}

theorem run_fn {pins:List (Addr × Obj)} {σ:St} {H:Hp} {s:Shared} {Q:VK} {us:List Value} {vs:List V} (F:FnOk X.prog X.w X.K X.mg X.base CX k f fd ps sp) (hr:Room k X.A) (hb:Binds X.K fd ps ds) (hd:Vals dvs ds) (hx:Passes CX X E)
  (I:Inv X pins σ H s) (r:Vals vs us) (h:sp (vs ++ dvs) H Q E):wpAny (model X.prog X.w) X.A (call (.ref f) us) (EP X pins σ Q) X.xe s:=by
 have r2:Vals (vs ++ dvs) (us ++ ds):=r.append hd
 have hl:(us ++ ds).length=ps.length:=by rw [← r2.length];exact F.len _ _ _ _ h
 refine wpAny_call (codeAny_mono (F.run X.A X.stack s H ⟨us,[]⟩ (us ++ ds) (vs ++ dvs) Q E hr I.env0 (hb s us I.kIn hl) r2 h) fun r s' hq=>?_)
 cases r with
 | error e=>exact hx pins σ H s e s' I hq
 | ok fl =>
  cases fl with
  | ret u=>exact I.after hq
  | next=>exact False.elim hq
  | brk=>exact False.elim hq
  | cont=>exact False.elim hq

theorem pe_call (F:FnOk X.prog X.w X.K X.mg X.base CX k f fd ps sp) (hr:Room k X.A) (hg:Gl X x) (hm:X.mg x=some (.ref f)) (hk:PySem.W.keepIn X.K (.ref f)=true) (hb:Binds X.K fd ps ds) (hd:Vals dvs ds) (hx:Passes CX X E)
  (ha:PA X (e :: es) t) (hdb:(x == ("__debug__" : Str))=false:=by decide) (he:starEach (e :: es) X.env=(false,eval e X.env) :: starEach es X.env:=by rfl) (hpl:(backTo pos (starEach es X.env)).any (·.1)=false:=by rfl) :
  PE X (.Call (.Name x p) (e :: es) [] pos) (tCall sp dvs E t):=by
 intro pins s σ H Q I h
 refine wpAny_Call_Name_kw (ld_glob I hg hm ?_ hdb)
 refine PySem.W.callWith_K (h₀:=X.base) I.ok.mod.kin hk (thn (ha pos pins s σ H _ I h) fun us s1 ⟨vs,H1,I1,r,q⟩=>⟨I1.kIn,?_⟩) he hpl
 exact run_fn F hr hb hd hx I1 r q
theorem pe_call0 (F:FnOk X.prog X.w X.K X.mg X.base CX k f fd ps sp) (hr:Room k X.A) (hg:Gl X x) (hm:X.mg x=some (.ref f)) (hk:PySem.W.keepIn X.K (.ref f)=true) (hb:Binds X.K fd ps ds) (hd:Vals dvs ds) (hx:Passes CX X E)
  (hdb:(x == ("__debug__" : Str))=false:=by decide):PE X (.Call (.Name x p) [] [] pos) (tCall sp dvs E tNil):=by
 intro pins s σ H Q I h
 refine wpAny_Call_Name_kw (ld_glob I hg hm ?_ hdb)
 exact PySem.W.callWith_K0 I.kIn hk (run_fn (us:=[]) F hr hb hd hx I .nil h)

end

section
variable {X:Cx} {CX:CXT} {k:Nat} {f C:Addr} {fd:FuncData} {ps ks:List Str} {sp:Sp} {E:XK} {x m:Str} {p pos apos kpos:Pos} {e o:Expr} {es:List Expr} {kws:List Keyword} {te ta:TE} {t tk:TA} {nm:Option Str}
variable {g:List Value→List Value→List Value} {gV:List V→List V→List V}
end

structure FnScope (N P:List Str) (sc:Scope):Prop where
 kind:sc.kind=.function
 co:sc.isCoroutine=false
 gen:sc.isGenerator=false
 nd:N.Nodup
 pre:N.take P.length=P
 par:∀ x∈P,sc.names.lookup x=some .local∨sc.names.lookup x=some .cell
 nofree:∀ y∈sc.names,y.2≠.free

theorem bindL_out {kindOf:Str→Option NameKind} {x:Str}:∀ {binds:List (Str × Value)} {m:Str→Option Value},(∀ v,(x,v) ∉ binds)→bindL kindOf binds m x=m x
 | [],_,_=>rfl
 | (n,v) :: r,m,h=>by
  unfold bindL
  rw [bindL_out fun w hw=>h w (List.mem_cons_of_mem _ hw)]
  split
  ·have:x≠n:=by rintro rfl;exact h v List.mem_cons_self
   simp [this]
  ·rfl
theorem bindC_out {kindOf:Str→Option NameKind} {x:Str}:∀ {binds:List (Str × Value)} {m:Str→Option Value},(∀ v,(x,v) ∉ binds)→bindC kindOf binds m x=m x
 | [],_,_=>rfl
 | (n,v) :: r,m,h=>by
  unfold bindC
  rw [bindC_out fun w hw=>h w (List.mem_cons_of_mem _ hw)]
  split
  ·rfl
  ·have:x≠n:=by rintro rfl;exact h v List.mem_cons_self
   simp [this]
theorem bindL_get {kindOf:Str→Option NameKind} {x:Str} {v:Value}:∀ {P:List Str} {vs:List Value} {i:Nat} {m:Str→Option Value},P.Nodup→P[i]?=some x→vs[i]?=some v→kindOf x=some .local →
  bindL kindOf (P.zip vs) m x=some v
 | [],_,_,_,_,h,_,_=>by simp at h
 | _ :: _,[],_,_,_,_,h,_=>by simp at h
 | p :: P,w :: vs,0,m,nd,h1,h2,hk=>by
  simp at h1 h2;subst h1;subst h2
  show bindL kindOf ((p,w) :: P.zip vs) m p=_
  unfold bindL
  rw [bindL_out fun v hv=>(List.nodup_cons.mp nd).1 (List.of_mem_zip hv).1,if_pos hk]
  simp
 | p :: P,w :: vs,i + 1,m,nd,h1,h2,hk=>by
  show bindL kindOf ((p,w) :: P.zip vs) m x=_
  unfold bindL
  exact bindL_get (i:=i) (List.nodup_cons.mp nd).2 (by simpa using h1) (by simpa using h2) hk
theorem bindC_get {kindOf:Str→Option NameKind} {x:Str} {v:Value}:∀ {P:List Str} {vs:List Value} {i:Nat} {m:Str→Option Value},P.Nodup→P[i]?=some x→vs[i]?=some v→kindOf x≠some .local →
  bindC kindOf (P.zip vs) m x=some v
 | [],_,_,_,_,h,_,_=>by simp at h
 | _ :: _,[],_,_,_,_,h,_=>by simp at h
 | p :: P,w :: vs,0,m,nd,h1,h2,hk=>by
  simp at h1 h2;subst h1;subst h2
  show bindC kindOf ((p,w) :: P.zip vs) m p=_
  unfold bindC
  rw [bindC_out fun v hv=>(List.nodup_cons.mp nd).1 (List.of_mem_zip hv).1,if_neg hk]
  simp
 | p :: P,w :: vs,i + 1,m,nd,h1,h2,hk=>by
  show bindC kindOf ((p,w) :: P.zip vs) m x=_
  unfold bindC
  exact bindC_get (i:=i) (List.nodup_cons.mp nd).2 (by simpa using h1) (by simpa using h2) hk

def start (N:List Str) (vs:List V):St:=vs.map some ++ List.replicate (N.length - vs.length) none

def cxOf (CX:CXT) (P:Program) (w:World) (K:PySem.W.Frag) (mg:Str→Option Value) (base:Heap) (N:List Str) (qual:Str) (scope:Scope) (f:Addr) (cd:Value) (A:Around) (outer:List Env) (s:Shared) (H:Hp) (E:XK):Cx where
 prog:=P
 w:=w
 K:=K
 mg:=mg
 base:=base
 A:=A.deeper (envOfC qual scope s.heap.objs.size f cd)
 N:=N
 s₀:=s
 H₀:=H
 env:=envOfC qual scope s.heap.objs.size f cd
 outer:=outer
 stack:=envOfC qual scope s.heap.objs.size f cd :: outer
 ex:=[]
 calm:=true
 fn:=fun _=>true
 pn:=[]
 xe:=fun e s'=>wpAny (model P w) (A.deeper (envOfC qual scope s.heap.objs.size f cd)) (leaving (envOfC qual scope s.heap.objs.size f cd) e) (fun _ s''=>CX outer H s E e s'') (fun e' s''=>CX outer H s E e' s'') s'

theorem cell_has {sc:Scope} {n:Nat} {x:Str} (h:sc.names.lookup x=some .cell):∃ c,(cellsFrom n sc.names []).lookup x=some c:=by
 have q:=PySem.W.cellsFrom_some sc.names n [] (.inl h)
 exact Option.isSome_iff_exists.mp q

theorem inv_start {CX:CXT} {P:Program} {w:World} {K:PySem.W.Frag} {mg:Str→Option Value} {base:Heap} {N ps:List Str} {qual:Str} {scope:Scope} {f:Addr} {cd:Value} {A:Around} {outer:List Env} {s s1:Shared} {H:Hp} {E:XK} {us:List Value} {vs:List V}
  (S:FnScope N ps scope) (hd:A.handled=none) (e0:Env0 P w K mg base A outer s H) (hl:vs.length=ps.length) (r:Vals vs us)
  (x:InCallC s s.heap.objs.size (bindL (envOfC qual scope s.heap.objs.size f cd).kindOf (ps.zip us) fun _=>none) (cellsFrom (s.heap.objs.size + 1) scope.names []) (bindC (envOfC qual scope s.heap.objs.size f cd).kindOf (ps.zip us) fun _=>none) s1) :
  Inv (cxOf CX P w K mg base N qual scope f cd A outer s H E) [] (start N vs) H s1:=by
 have hpl:ps.length≤N.length:=by have:=congrArg List.length S.pre;rw [List.length_take] at this;walk_at"q"
 obtain ⟨h1,tk,rfl,hk⟩:=x.done
 have noA:∀ b:Addr,b ∉ (cxOf CX P w K mg base N qual scope f cd A outer s H E).ex:=fun b z=>absurd (show b∈([]:List Addr) from z) (by simp)
 refine ⟨⟨e0.mod,S.kind,rfl,rfl,Nat.le_refl _,fun y z c h1 h2=>?_,fun y hy=>?_,fun y c _ h=>?_,fun _=>hd,Around.frames_deeper e0.frames,.inr ⟨rfl,rfl⟩,fun b z=>absurd z (noA b),e0.bs,e0.bsz,fun b _ _=>noA b,fun b z=>absurd z (noA b),e0.funs,e0.frf⟩,
  rfl,e0.bare,Un.kept hk,⟨_,x.toInCall.ns,fun i y v h1 h2 h3=>?_⟩,fun y c h=>⟨_,x.cell y c h⟩,e0.hok.fresh (Nat.le_refl _),fun y c h=>?_,fun p hp=>absurd (show p∈([]:List (Addr × Obj)) from hp) (by simp),e0.hok.kept hk,?_⟩
 ·exact name_of_addr x.apart (PySem.mem_of_lookup h1) (PySem.mem_of_lookup h2)
 ·have hy:scope.names.lookup y=some .cell∨scope.names.lookup y=some .free:=hy
  rcases hy with hy | hy
  ·exact cell_has hy
  ·exact absurd rfl (S.nofree _ (PySem.mem_of_lookup hy))
 ·exact Nat.le_of_lt (x.above y c (PySem.mem_of_lookup h))
 ·have hi:i < vs.length:=by
   unfold start at h2
   by_cases hi:i < vs.length
   ·exact hi
   ·rw [List.getElem?_append_right (by simpa using hi)] at h2
    rw [List.getElem?_replicate] at h2
    split at h2 <;> cases h2
  have ha:vs[i]?=some v:=by
   unfold start at h2
   rw [List.getElem?_append_left (by simpa using hi),List.getElem?_map] at h2
   cases e:vs[i]? with
   | none=>rw [e] at h2;cases h2
   | some a=>rw [e] at h2;cases h2;rfl
  obtain ⟨u,hu,rv⟩:=r.get ha
  have hp:ps[i]?=some y:=by
   rw [← S.pre,List.getElem?_take_of_lt (by walk_at"q")];exact h1
  have ndP:ps.Nodup:=by rw [← S.pre];exact S.nd.sublist (List.take_sublist _ _)
  refine ⟨u,rv,?_⟩
  rcases S.par y (List.mem_of_getElem? hp) with k | k
  ·exact .inl ⟨k,bindL_get ndP hp hu k⟩
  ·obtain ⟨c,e⟩:=cell_has (n:=s.heap.objs.size + 1) k
   refine .inr ⟨.inl k,c,e,?_⟩
   have q:=x.cell y c e
   rw [bindC_get ndP hp hu (by show scope.names.lookup y≠_;rw [k];decide)] at q
   exact q
 ·exact e0.hok.fresh (Nat.le_of_lt (x.above y c (PySem.mem_of_lookup h)))
 ·unfold start
  show _=N.length
  rw [List.length_append,List.length_map,List.length_replicate]
  walk_at"q"

theorem fn_of {CX:CXT} {P:Program} {w:World} {K:PySem.W.Frag} {mg:Str→Option Value} {base:Heap} {k:Nat} {f:Addr} {name qual:Str} {params:Arguments} {body:List Stmt} {scope:Scope} {dV kV doc pm cdv ct oc:Value} {an od:Option Addr}
  {osl:Array (Option Value)} {N ps:List Str} {sp:Sp} (lk:K.lookup f=some ⟨oc,od,.func (PySem.W.fnOf name qual params body scope dV kV doc pm an cdv ct),osl⟩) (hcd:PySem.W.codeIn K cdv qual=true) (S:FnScope N ps scope)
  (len:∀ vs H Q E,sp vs H Q E→vs.length=ps.length)
  (hbody:∀ (A:Around) (outer:List Env) (s:Shared) (H:Hp) (vs:List V) (Q:VK) (E:XK),Room k (A.deeper (envOfC qual scope s.heap.objs.size f cdv))→sp vs H Q E →
   ∃ t,PSs (cxOf CX P w K mg base N qual scope f cdv A outer s H E) body t∧t { nx:=fun _ H'=>Q .non H',rt:=Q } (start N vs) H) :
  FnOk P w K mg base CX (k + 1) f (PySem.W.fnOf name qual params body scope dV kV doc pm an cdv ct) ps sp:=by
 refine ⟨len,fun A outer s H args us vs Q E hr e0 hb r hsp=>?_⟩
 have hl:=len _ _ _ _ hsp
 have KX:K.In s.heap:=e0.mod.kin.keeps fun b o e=>(e0.bs b o e).1
 have lim:s.heap.NoLimit:=e0.mod.nolimit.keeps fun b o e=>(e0.bs b o e).1
 have hkind:∀ y∈ps.zip us,scope.names.lookup y.1=some .local∨(scope.names.lookup y.1=some .cell∧((cellsFrom (s.heap.objs.size + 1) scope.names []).lookup y.1).isSome=true):=fun ⟨n,v⟩ hy=>by
  rcases S.par n (List.of_mem_zip hy).1 with q | q
  ·exact .inl q
  ·exact .inr ⟨q,PySem.W.cellsFrom_some _ _ _ (.inl q)⟩
 refine codeAny_call_function hr.depth (KX _ _ lk) rfl S.co S.gen rfl (PySem.W.codeRec_of KX hcd) (hb _ _ _ _ ?_)
 refine wpAny_newFunctionEnv_cells S.kind hkind fun env he s1 x=>?_
 subst he
 refine ⟨lim.keeps x.toInCall.keep,codeAny_func ?_⟩
 obtain ⟨t,ht,hq⟩:=hbody A outer s H vs Q E (hr.deeper _) hsp
 have I:Inv (cxOf CX P w K mg base N qual scope f cdv A outer s H E) [] (start N vs) H s1:=inv_start S hr.hd e0 hl r x
 refine wpAny_mono (ht [] s1 (start N vs) H _ I hq) (fun fl s' hs=>?_) fun e s' hs=>hs
 have fin:∀ {σ':St} {H':Hp} {v:V} {u:Value},Inv (cxOf CX P w K mg base N qual scope f cdv A outer s H E) [] σ' H' s'→RelV v u→Q v H'→CE outer P w H s Q u s' :=
  fun {σ' H' v u} J rv q=>⟨v,H',J.os,J.bare,J.base,J.hok,rv,q⟩
 cases fl with
 | ret u =>
  obtain ⟨v,σ',H',J,rv,q⟩:=hs
  exact fin J rv q
 | next =>
  obtain ⟨σ',H',J,q⟩:=hs
  exact fin (v:=V.non) (u:=Value.none) J rfl q
 | brk =>
  obtain ⟨_,_,_,q⟩:=hs
  exact False.elim q
 | cont =>
  obtain ⟨_,_,_,q⟩:=hs
  exact False.elim q
end L2

namespace L2
open PySem PySem.Spec PyProof.Rows
section
variable {X:Cx} {x:Str} {p pos:Pos} {e:Expr} {es:List Expr} {t:TA} {id T:String} {r:List V→Hp→VK→Prop}

def tCB (r:List V→Hp→VK→Prop) (t:TA):TE:=fun σ H Q=>t σ H fun vs H1=>r vs H1 Q
theorem pe_callB (hc:CallR X (.builtin id) r) (hg:Gl X x) (hm:X.mg x=none) (hv:bootBuiltins x=some (.builtin id)) (ha:PA X (e :: es) t) (hn:x ≠ "__name__" := by decide) (hdb:(x == ("__debug__" : Str))=false:=by decide)
  (he:starEach (e :: es) X.env=(false,eval e X.env) :: starEach es X.env:=by rfl) (hpl:(backTo pos (starEach es X.env)).any (·.1)=false:=by rfl):PE X (.Call (.Name x p) (e :: es) [] pos) (tCB r t):=by
 intro pins s σ H Q I h
 refine wpAny_Call_Name_kw (ld_blt I hg hm hv ?_ hn hdb)
 exact PyProof.Rows.callWith_builtin1 (thn (ha pos pins s σ H _ I h) fun us s1 ⟨vs,H1,I1,r1,q1⟩=>hc pins s1 σ H1 vs us Q I1 r1 q1) he hpl
theorem pe_callTy (hc:CallR X (.type T) r) (hg:Gl X x) (hm:X.mg x=none) (hv:bootBuiltins x=some (.type T)) (ha:PA X (e :: es) t) (hn:x ≠ "__name__" := by decide) (hdb:(x == ("__debug__" : Str))=false:=by decide)
  (he:starEach (e :: es) X.env=(false,eval e X.env) :: starEach es X.env:=by rfl) (hpl:(backTo pos (starEach es X.env)).any (·.1)=false:=by rfl):PE X (.Call (.Name x p) (e :: es) [] pos) (tCB r t):=by
 intro pins s σ H Q I h
 refine wpAny_Call_Name_kw (ld_blt I hg hm hv ?_ hn hdb)
 exact PyProof.Rows.callWith_type1 (thn (ha pos pins s σ H _ I h) fun us s1 ⟨vs,H1,I1,r1,q1⟩=>hc pins s1 σ H1 vs us Q I1 r1 q1) he hpl
end
end L2

namespace HT
open PySem PyProof.Rows

section
open PySem.SeqAt
open PySem.AutoSeq1 (wpAny_loadPart')
open PySem.MeetsSeq PySem.MeetsSeq2 PySem.MeetsSeq3

end

section
variable {prog:Program} {w:World} {A:Around} {E:Value→Shared→Prop} {s:Shared}

theorem cat_tup {t b:Addr} {vs ws:List Value} {Q:Value→Shared→Prop} (ht:IsTup s.heap t vs.toArray) (hb:IsTup s.heap b ws.toArray) (hv:vs≠[])
  (h1:ws=[]→Q (.ref t) s) (h2:ws≠[]→Q (.ref s.heap.objs.size) { s with heap:=s.heap.push { cls:=.type "tuple", data:=.seq (vs ++ ws).toArray } })
  (hsz:vs.length + ws.length≤sizeLine):wpAny (model prog w) A (binaryOp .Add (.ref t) (.ref b)) Q E s:=by
 obtain ⟨⟨cls,dd,data,sl⟩,ho,hc,n,hd⟩:=id ht
 obtain ⟨⟨cls2,dd2,data2,sl2⟩,ho2,hc2,n2,hd2⟩:=id hb
 simp only at hc hd hc2 hd2
 subst hc hd hc2 hd2
 have e:vs.toArray ++ ws.toArray=(vs ++ ws).toArray:=by simp
 by_cases hw:ws=[]
 ·exact concat_meets ⟨_,ho,rfl⟩ ⟨_,ho2,rfl⟩ noFill_tuple_add seq_tuple_add PySem.F.slot_tuple_add PySem.F.entry_tuple_add (PySem.F.args_tuple_add_2 _ _)
   (tuple_addW1 t b vs.toArray ws.toArray n n2 dd dd2 sl sl2 (by simpa using hv) (by simp [hw])) ⟨ho,ho2,h1 hw⟩
 ·refine concat_meets ⟨_,ho,rfl⟩ ⟨_,ho2,rfl⟩ noFill_tuple_add seq_tuple_add PySem.F.slot_tuple_add PySem.F.entry_tuple_add (PySem.F.args_tuple_add_2 _ _)
   (tuple_addW2 t b vs.toArray ws.toArray n n2 dd dd2 sl sl2 (by simpa using hv) (by simpa using hw) (by rw [List.size_toArray,List.size_toArray];exact hsz)) ⟨ho,ho2,?_⟩
  rw [e]
  exact h2 hw

def sIx (n d:Nat):Option Int→Nat
 | none=>d
 | some v=>if v < 0 then (v + (n:Int)).toNat else min v.toNat n
theorem sIx_none (n d:Nat):sIx n d none=d:=rfl
theorem sIx_nat (n d k:Nat):sIx n d (some (k:Int))=min k n:=by
 show (if (k:Int) < 0 then ((k:Int) + (n:Int)).toNat else min (k:Int).toNat n)=min k n
 rw [if_neg (by walk_at"q"),Int.toNat_natCast]
theorem sIx_le (n d:Nat) (hd:d≤n) (o:Option Int):sIx n d o≤n:=by
 cases o with
 | none=>exact hd
 | some v =>
  show (if v < 0 then (v + (n:Int)).toNat else min v.toNat n)≤n
  by_cases hv:v < 0
  ·rw [if_pos hv];walk_at"q"
  ·rw [if_neg hv];exact Nat.min_le_right _ _
theorem clip_eq (v:Int) (n d:Nat):(if v < 0 then max (v + (n:Int)) 0 else min v (n:Int))=((sIx n d (some v):Nat):Int):=by
 show (if v < 0 then max (v + (n:Int)) 0 else min v (n:Int))=(((if v < 0 then (v + (n:Int)).toNat else min v.toNat n):Nat):Int)
 by_cases hv:v < 0
 ·simp only [if_pos hv];walk_at"q"
 ·simp only [if_neg hv];walk_at"q"
theorem adjust_gen (lo hi:Option Int) (n:Nat):Builtin.Slice.sliceAdjust lo hi 1 (n:Int)=(((sIx n 0 lo:Nat):Int),((sIx n n hi:Nat):Int)):=by
 have h1:¬ ((1:Int) < 0):=by walk_at"q"
 unfold Builtin.Slice.sliceAdjust
 simp only [h1,if_false]
 refine Prod.ext ?_ ?_
 ·cases lo with
  | none=>rfl
  | some v=>exact clip_eq v n 0
 ·cases hi with
  | none=>rfl
  | some v=>exact clip_eq v n n
theorem places_gen (i j:Nat):Builtin.Slice.slicePlaces (i:Int) (j:Int) 1=j - i:=by
 unfold Builtin.Slice.slicePlaces
 have h1:(1:Int) > 0:=by walk_at"q"
 simp only [h1,if_true,Int.ediv_one]
 split <;> walk_at"q"
theorem slicePart_ {v:Value} {o:Option Int} {Q:Option Int→Shared→Prop} (p:IsPart v o) (h:Q o s):wpAny (model prog w) A (Builtin.Slice.slicePartIndex v) Q E s:=by
 cases p with
 | none=>exact slicePart_none h
 | int i t=>exact slicePart_int h
theorem sliceApplied_gen {sl:Addr} {vl vu:Value} {lo hi:Option Int} {n:Nat} {Q:Int × Int × Nat→Shared→Prop} (hs:s.heap.IsSliceOf sl vl vu .none) (pl:IsPart vl lo) (pu:IsPart vu hi)
  (h:Q (((sIx n 0 lo:Nat):Int),1,sIx n n hi - sIx n 0 lo) s):wpAny (model prog w) A (Builtin.Slice.sliceApplied (.ref sl) (pure (n:Int))) Q E s:=by
 obtain ⟨os,hos,hcs,hds⟩:=id hs
 unfold Builtin.Slice.sliceApplied Builtin.Slice.sliceFields
 refine wpAny_bind (wpAny_bind (wpAny_field hos hds (x:=vl) rfl (wpAny_bind (wpAny_field hos hds (x:=vu) rfl (wpAny_bind (wpAny_field hos hds (x:=.none) rfl (wpAny_pure ?_)))))))
 refine wpAny_bind (slicePart_none ?_)
 show wpAny _ _ (if ((1:Int) == 0)=true then _ else _) _ _ s
 rw [if_neg (by decide)]
 refine wpAny_bind (slicePart_ pl (wpAny_bind (slicePart_ pu (wpAny_bind (wpAny_pure ?_)))))
 show wpAny _ _ (match Builtin.Slice.sliceAdjust lo hi 1 (n:Int) with | (lo,hi)=>pure (lo,(1:Int),Builtin.Slice.slicePlaces lo hi 1)) _ _ s
 rw [adjust_gen lo hi n]
 show wpAny _ _ (pure (((sIx n 0 lo:Nat):Int),(1:Int),Builtin.Slice.slicePlaces ((sIx n 0 lo:Nat):Int) ((sIx n n hi:Nat):Int) 1)) _ _ s
 rw [places_gen]
 exact wpAny_pure h
theorem pick_gen (xs:Array Value) (i k:Nat):((List.range k).filterMap fun (m:Nat)=>xs[((i:Int) + (m:Int) * 1).toNat]?).toArray=((xs.toList.drop i).take k).toArray:=by
 have e:(fun (m:Nat)=>xs[((i:Int) + (m:Int) * 1).toNat]?)=fun m=>xs[i + m]?:=by
  funext m
  have:((i:Int) + (m:Int) * 1).toNat=i + m:=by walk_at"q"
  rw [this]
 rw [e]
 have:=pick_run xs i k
 rw [List.filterMap_map] at this
 have e2:((fun x=>xs[x]?) ∘ fun x=>i + x)=fun m=>xs[i + m]?:=rfl
 rw [e2] at this
 rw [this]

theorem getItem_tuple_cut {t sl:Addr} {items:Array Value} {vl vu:Value} {lo hi:Option Int} {Q:Value→Shared→Prop} (ht:IsTup s.heap t items) (hs:s.heap.IsSliceOf sl vl vu .none) (pl:IsPart vl lo) (pu:IsPart vu hi)
  (hw:¬ (sIx items.size 0 lo=0∧sIx items.size items.size hi=items.size))
  (h:Q (.ref s.heap.objs.size) { s with heap:=s.heap.push { cls:=.type "tuple", data:=.seq ((items.toList.drop (sIx items.size 0 lo)).take (sIx items.size items.size hi - sIx items.size 0 lo)).toArray } })
  (hsz:items.size≤sizeLine):wpAny (model prog w) A (getItem (.ref t) (.ref sl)) Q E s:=by
 have htake:sizeOk (.seq ((items.toList.drop (sIx items.size 0 lo)).take (sIx items.size items.size hi - sIx items.size 0 lo)).toArray):=by
  show ((items.toList.drop (sIx items.size 0 lo)).take (sIx items.size items.size hi - sIx items.size 0 lo)).toArray.size≤sizeLine
  rw [List.size_toArray,List.length_take,List.length_drop,Array.length_toList]
  walk_at"q"
 have hj:sIx items.size items.size hi≤items.size:=sIx_le _ _ (Nat.le_refl _) hi
 obtain ⟨os,hos,hcs,hds⟩:=id hs
 have hTs:s.TypeIs (.ref sl) "slice" := ⟨os,hos,hcs⟩
 unfold getItem
 try with_reducible refine wpAny_holding ?_
 first | refine wpAny_bind (wpAny_pure ?_) | skip
 refine wpAny_bind (wpAny_sequenceKey ht.typeIs (by decide) ?_)
 refine wpAny_bind (wpAny_callSpecial?_slot (name:=Str.ofString "__getitem__") ht.typeIs PyProof.Rows.slot_tuple_getitem
  (wpAny_call_entry PyProof.Rows.slot_tuple_getitem ht.typeIs entry_tuple_getitem ?_ (args_tuple_getitem _ _)))
 show wpAny _ _ (Builtin.Tuple.tupleItemsOf (.ref t) >>= _) _ _ s
 refine wpAny_bind (tupleItemsOf_ ht ?_)
 refine wpAny_bind (wpAny_typeOf hTs ?_)
 rw [if_pos (by decide)]
 refine wpAny_bind (sliceApplied_gen hs pl pu ?_)
 have hno:¬ ((((sIx items.size 0 lo:Nat):Int) == 0 && (1:Int) == 1 && (sIx items.size items.size hi - sIx items.size 0 lo) == items.size)=true):=by
  intro q
  rw [Bool.and_eq_true,Bool.and_eq_true] at q
  have q1:((sIx items.size 0 lo:Nat):Int)=0:=eq_of_beq q.1.1
  have q2:sIx items.size items.size hi - sIx items.size 0 lo=items.size:=eq_of_beq q.2
  exact hw ⟨by walk_at"q", by walk_at"q"⟩
 show wpAny _ _ (if (((sIx items.size 0 lo:Nat):Int) == 0 && (1:Int) == 1 && (sIx items.size items.size hi - sIx items.size 0 lo) == items.size)=true then _ else _) _ _ s
 rw [if_neg hno,pick_gen]
 first
  | exact wpAny_bind (m:=Builtin.Tuple.tupleExact _) (wpAny_newObj_type (wpAny_pure ⟨_,rfl,wpAny_pure h⟩) htake)
  | exact wpAny_bind (m:=Builtin.Tuple.tupleExact _) (wpAny_newObj_type (wpAny_bind (wpAny_pure (wpAny_pure ⟨_,rfl,wpAny_pure h⟩))) htake)
  | exact wpAny_bind (wpAny_bind (m:=Builtin.Tuple.tupleExact _) (wpAny_newObj_type (wpAny_pure (wpAny_pure ⟨_,rfl,wpAny_pure h⟩)) htake))
  | exact wpAny_bind (wpAny_bind (m:=Builtin.Tuple.tupleExact _) (wpAny_newObj_type (wpAny_pure ⟨_,rfl,wpAny_pure h⟩) htake))
end
end HT

namespace L2
open PySem PySem.Spec PyProof.Rows

abbrev TO:=St→Hp→(Option Int→Hp→Prop)→Prop
def PO (X:Cx) (e:Option Expr) (t:TO):Prop :=
 ∀ (pins:List (Addr × Obj)) (s:Shared) (σ:St) (H:Hp) (Q:Option Int→Hp→Prop),Inv X pins σ H s→t σ H Q →
  wpAny (model X.prog X.w) X.A (evalPart e X.env) (fun u s'=>∃ o H',Inv X pins σ H' s'∧IsPart u o∧Q o H') X.xe s
def tNoPart:TO:=fun _ H Q=>Q none H
def tPart (t:TE):TO:=fun σ H Q=>t σ H fun x H1=>OfI x H1 fun i H1=>Q (some i) H1

theorem intsAre_of {ns:List Int}:∀ {us:List Value},Vals (ns.map V.int) us→IntsAre us ns:=by
 induction ns with
 | nil=>intro us r;rw [List.map_nil] at r;cases r;exact .nil
 | cons n ns ih =>
  intro us r
  rw [List.map_cons] at r
  cases r with
  | cons r1 r2 =>
   obtain ⟨t,e⟩:=r1
   subst e
   exact .cons n t (ih r2)

section
variable {X:Cx} {e:Expr} {te:TE} {lo hi:Option Expr} {tl th:TO} {pos p2:Pos}

theorem po_none:PO X none tNoPart:=by
 intro pins s σ H Q I h
 rw [evalPart_none]
 exact wpAny_pure ⟨none,H,I,.none,h⟩
theorem po_some (h:PE X e te):PO X (some e) (tPart te):=by
 intro pins s σ H Q I hw
 rw [evalPart_some]
 refine thn (h pins s σ H _ I hw) fun u s1 ⟨x,H1,I1,r1,q1⟩=>?_
 obtain ⟨i,rfl,q⟩:=q1
 obtain ⟨t,rfl⟩:=r1
 exact ⟨some i,H1,I1,.int i t,q⟩

def SlR (X:Cx) (r:V→Option Int→Option Int→Hp→VK→Prop):Prop :=
 ∀ (pins:List (Addr × Obj)) (s:Shared) (σ:St) (H:Hp) (x:V) (v vl vu:Value) (lo hi:Option Int) (sl:Addr) (Q:VK),Inv X pins σ H s→RelV x v→s.heap.IsSliceOf sl vl vu .none→IsPart vl lo→IsPart vu hi→r x lo hi H Q →
  ∃ T id,typeLookup (.type T) "__getitem__" = pure (some (.builtin id))∧s.TypeIs v T∧wpAny (model X.prog X.w) X.A (getItem v (.ref sl)) (EP X pins σ Q) X.xe s
def tSl (r:V→Option Int→Option Int→Hp→VK→Prop) (te:TE) (tl th:TO):TE:=fun σ H Q=>te σ H fun x H1=>tl σ H1 fun l H2=>th σ H2 fun u H3=>r x l u H3 Q
theorem pe_slice {r:V→Option Int→Option Int→Hp→VK→Prop} (hr:SlR X r) (he:PE X e te) (hl:PO X lo tl) (hu:PO X hi th):PE X (.Subscript e (.Slice lo hi none p2) pos) (tSl r te tl th):=by
 intro pins s σ H Q I h
 refine Subscript_ (thn (he pins s σ H _ I h) fun v s1 ⟨x,H1,I1,r1,q1⟩=>?_)
 refine wpAny_Slice (thn (hl pins s1 σ H1 _ I1 q1) fun vl s2 ⟨l,H2,I2,pl,q2⟩=>thn (hu pins s2 σ H2 _ I2 q2) fun vu s3 ⟨u,H3,I3,pu,q3⟩=>?_)
 rw [evalPart_none]
 refine wpAny_pure ?_
 have I4:Inv X pins σ H3 { s3 with heap:=s3.heap.push { cls:=.type "slice", data:=.fields #[vl,vu,.none] } }:=I3.kept (t':=s3.toks) fun b ob q=>Heap.get?_push_of_some _ q
 obtain ⟨T,id,hT,ht,hg⟩:=hr pins { s3 with heap:=s3.heap.push { cls:=.type "slice", data:=.fields #[vl,vu,.none] } } σ H3 x v vl vu l u s3.heap.objs.size Q I4 r1 (Heap.IsSliceOf.new ..) pl pu q3
 show wpAny (model X.prog X.w) X.A (subscriptTail e (.Slice lo hi none p2) v (.ref s3.heap.objs.size)) (EP X pins σ Q) X.xe { s3 with heap:=s3.heap.push { cls:=.type "slice", data:=.fields #[vl,vu,.none] } }
 exact tail_any (ops:=[.ref s3.heap.objs.size,v]) ht hT hg (by with_unfolding_all rfl)

def cutV (xs:List V) (lo hi:Option Int):List V:=(xs.drop (HT.sIx xs.length 0 lo)).take (HT.sIx xs.length xs.length hi - HT.sIx xs.length 0 lo)
theorem cutV_length (xs:List V) (lo hi:Option Int):(cutV xs lo hi).length≤xs.length:=by
 unfold cutV
 rw [List.length_take,List.length_drop]
 walk_at"q"
def rSlT (K:PySem.W.Frag):V→Option Int→Option Int→Hp→VK→Prop:=fun x lo hi H Q=>∃ a xs,x=.ref a∧SqT K H a xs ∧
 ¬ (HT.sIx xs.length 0 lo=0∧HT.sIx xs.length xs.length hi=xs.length)∧∀ p,H p=none→Q (.ref p) (upd H p (.tup (cutV xs lo hi)))
theorem sl_tup:SlR X (rSlT X.K):=by
 intro pins s σ H x v vl vu lo hi sl Q I rx hs pl pu h
 obtain ⟨a,xs,rfl,hx,hw,q⟩:=h
 cases rx
 obtain ⟨its,r,ht,hz⟩:=I.tuple hx
 have hlen:its.toArray.size=xs.length:=by rw [List.size_toArray];exact r.length.symm
 refine ⟨"tuple", _,PyProof.Rows.slot_tuple_getitem.lookup,ht.typeIs,?_⟩
 refine HT.getItem_tuple_cut ht hs pl pu (by rw [hlen];exact hw) ?_ (by rw [hlen];exact hz)
 rw [hlen]
 refine ⟨.ref s.heap.objs.size,_,I.laid (t':=s.toks) (o:=.tup (cutV xs lo hi)) (fun b ob q=>Heap.get?_push_of_some _ q) (Nat.le_refl _) ?_,rfl,q _ (I.hok.fresh (Nat.le_refl _))⟩
 exact ⟨Nat.le_trans (cutV_length xs lo hi) hz,_,(r.drop (HT.sIx xs.length 0 lo)).take (HT.sIx xs.length xs.length hi - HT.sIx xs.length 0 lo),IsTupD.new _ _⟩

def rCatT (K:PySem.W.Frag):R2:=fun x y H Q=>∃ a b xs ys,x=.ref a∧y=.ref b∧SqT K H a xs∧SqT K H b ys∧xs≠[]∧xs.length + ys.length≤sizeLine ∧
 (ys=[]→Q (.ref a) H)∧(ys≠[]→∀ p,H p=none→Q (.ref p) (upd H p (.tup (xs ++ ys))))
theorem Vals.nil_iff {xs:List V} {us:List Value} (r:Vals xs us):us=[]↔xs=[]:=by
 cases r with
 | nil=>simp
 | cons _ _=>simp
theorem op_catT:OpR X (binaryOp .Add) (rCatT X.K):=by
 intro pins s σ H x y v u Q I rx ry h
 obtain ⟨a,b,xs,ys,rfl,rfl,ha,hb,hx,hz,q1,q2⟩:=h
 cases rx
 cases ry
 obtain ⟨its,r1,p1,_⟩:=I.tuple ha
 obtain ⟨its2,r2,p2,_⟩:=I.tuple hb
 refine HT.cat_tup p1 p2 (fun z=>hx (r1.nil_iff.mp z)) (fun z=>⟨.ref a,H,I,rfl,q1 (r2.nil_iff.mp z)⟩) (fun z=>?_) (by rw [← r1.length,← r2.length];exact hz)
 refine ⟨.ref s.heap.objs.size,_,I.laid (t':=s.toks) (o:=.tup (xs ++ ys)) (fun b ob q=>Heap.get?_push_of_some _ q) (Nat.le_refl _) ?_,rfl,q2 (fun w=>z (r2.nil_iff.mpr w)) _ (I.hok.fresh (Nat.le_refl _))⟩
 exact ⟨by rw [List.length_append];exact hz,_,r1.append r2,IsTupD.new _ _⟩
end
end L2

namespace L2
open PySem PySem.Spec PyProof.Rows

def ixN (n:Nat) (i:Int):Option Nat:=if 0≤i then (if i < n then some i.toNat else none) else if -(n:Int)≤i then some (i + n).toNat else none
def atI {α:Type} (xs:List α) (i:Int):Option α:=(ixN xs.length i).bind fun j=>xs[j]?
theorem ixN_seq {n:Nat} {i:Int} {j:Nat} (h:ixN n i=some j):seqIndex? i n=some j∧j < n∧-(n:Int)≤i∧i < n:=by
 unfold ixN at h
 by_cases h0:0≤i
 ·rw [if_pos h0] at h
  by_cases h1:i < n
  ·rw [if_pos h1] at h
   have e:i.toNat=j:=Option.some.inj h
   exact ⟨by rw [seqIndex_of h0 h1,e],by walk_at"q", by walk_at"q", h1⟩
  ·rw [if_neg h1] at h;cases h
 ·rw [if_neg h0] at h
  by_cases h1:-(n:Int)≤i
  ·rw [if_pos h1] at h
   have e:(i + n).toNat=j:=Option.some.inj h
   exact ⟨by rw [seqIndex_neg (by walk_at"q") h1,e],by walk_at"q", h1,by walk_at"q"⟩
  ·rw [if_neg h1] at h;cases h
theorem atI_get {α:Type} {xs:List α} {i:Int} {v:α} (h:atI xs i=some v):∃ j,seqIndex? i xs.length=some j∧xs[j]?=some v∧j < xs.length∧-(xs.length:Int)≤i∧i < xs.length:=by
 unfold atI at h
 cases e:ixN xs.length i with
 | none=>rw [e] at h;cases h
 | some j =>
  rw [e] at h
  obtain ⟨h1,h2,h3,h4⟩:=ixN_seq e
  exact ⟨j,h1,h,h2,h3,h4⟩
theorem atI_nat {α:Type} {xs:List α} {j:Nat} {v:α} (h:xs[j]?=some v):atI xs (j:Int)=some v:=by
 have hj:j < xs.length:=(List.getElem?_eq_some_iff.mp h).1
 have e:ixN xs.length (j:Int)=some j:=by
  unfold ixN
  rw [if_pos (by walk_at"q"),if_pos (by walk_at"q")];simp
 unfold atI;rw [e];exact h
def PlainIx (b:Expr):Prop:=∀ o i,subscripted b false o i=operate [o,i] (getItem o i)
def IxR (X:Cx) (r:R2):Prop :=
 ∀ (value slice:Expr) (pins:List (Addr × Obj)) (s:Shared) (σ:St) (H:Hp) (x y:V) (v u:Value) (Q:VK),Inv X pins σ H s→RelV x v→RelV y u→r x y H Q →
  subscripted slice false v u=operate [v,u] (getItem v u)→wpAny (model X.prog X.w) X.A (subscriptTail value slice v u) (EP X pins σ Q) X.xe s
def MtR (X:Cx) (id:String) (r:V→List V→Hp→VK→Prop):Prop :=
 ∀ (pins:List (Addr × Obj)) (s:Shared) (σ:St) (H:Hp) (x:V) (xs:List V) (v:Value) (us:List Value) (Q:VK),Inv X pins σ H s→RelV x v→Vals xs us→r x xs H Q →
  wpAny (model X.prog X.w) X.A (call (.builtin id) (v :: us)) (EP X pins σ Q) X.xe s
section
variable {X:Cx} {a b:Expr} {ta tb:TE} {pos:Pos}
theorem pe_ix {r:R2} (hr:IxR X r) (ha:PE X a ta) (hb:PE X b tb) (hs:PlainIx b):PE X (.Subscript a b pos) (tOp r ta tb):=by
 intro pins s σ H Q I h
 exact Subscript_ (binT ha hb I h fun v u s2 x y H2 I2 rx ry q=>hr a b pins s2 σ H2 x y v u Q I2 rx ry q (hs _ _))

inductive RIxLP (K:PySem.W.Frag) (x:V) (y:V) (H:Hp) (Q:VK):Prop
 | mk (p:_) (xs:_) (i:_) (v:_) (h1:x=.ref p) (h2:y=.int i) (h3:SqL K H p xs) (h4:atI xs i=some v) (h5:Q v H):RIxLP K x y H Q
def rIxL (K:PySem.W.Frag):R2:=fun x y H Q=>RIxLP K x y H Q
inductive RIxTP (K:PySem.W.Frag) (x:V) (y:V) (H:Hp) (Q:VK):Prop
 | mk (p:_) (xs:_) (i:_) (v:_) (h1:x=.ref p) (h2:y=.int i) (h3:SqT K H p xs) (h4:atI xs i=some v) (h5:Q v H):RIxTP K x y H Q
def rIxT (K:PySem.W.Frag):R2:=fun x y H Q=>RIxTP K x y H Q
theorem ix_list:IxR X (rIxL X.K):=by
 intro value slice pins s σ H x y v u Q I rx ry h hs
 obtain ⟨p,xs,i,z,rfl,rfl,hq,he,q⟩:=h
 cases rx
 obtain ⟨t,rfl⟩:=ry
 obtain ⟨its,r,pl,hz⟩:=I.list hq
 obtain ⟨j,h1,h2,h3,h4,h5⟩:=atI_get he
 obtain ⟨w,ew,rw'⟩:=r.get h2
 have hl:=r.length
 have hn:=line63
 have fin:EP X pins σ Q w s:=⟨z,H,I,rw',q⟩
 by_cases h0:0≤i
 ·have hj:i.toNat=j:=by
   rw [seqIndex_of h0 h5] at h1
   exact Option.some.inj h1
  exact item_listR pl.isList h0 (by walk_at"q") (by rw [hj];simpa using ew) fin hs
 ·have hj:(i + (its.toArray.size:Int)).toNat=j:=by
   rw [seqIndex_neg (by walk_at"q") h4] at h1
   rw [List.size_toArray,← hl]
   exact Option.some.inj h1
  exact subscriptTail_builtinR (x:=w) pl.isList.typeIs slot_list_getitem.lookup
   (wpAny_getItem_list_neg (Q:=fun r s'=>r=w∧EP X pins σ Q r s') pl.isList (by walk_at"q") (by rw [List.size_toArray] <;> walk_at"q") (by walk_at"q") (by rw [hj];simpa using ew) ⟨rfl,fin⟩) hs
theorem ix_tup:IxR X (rIxT X.K):=by
 intro value slice pins s σ H x y v u Q I rx ry h hs
 obtain ⟨p,xs,i,z,rfl,rfl,hq,he,q⟩:=h
 cases rx
 obtain ⟨t,rfl⟩:=ry
 obtain ⟨its,r,pl,hz⟩:=I.tuple hq
 obtain ⟨j,h1,h2,h3,h4,h5⟩:=atI_get he
 obtain ⟨w,ew,rw'⟩:=r.get h2
 have hl:=r.length
 have hn:=line63
 have fin:EP X pins σ Q w s:=⟨z,H,I,rw',q⟩
 exact subscriptTail_builtinR (x:=w) pl.typeIs slot_tuple_getitem.lookup
  (getItem_tuple (j:=j) (Q:=fun r s'=>r=w∧EP X pins σ Q r s') pl (by walk_at"q") (by walk_at"q") (by rw [List.size_toArray,← hl];exact h1) (by simpa using ew) ⟨rfl,fin⟩) hs
theorem mapSeq_set (its:List Value) (n j:Nat) (u:Value):Obj.mapSeq (·.setIfInBounds j u) { cls:=.type "list", data:=.seq its.toArray n }={ cls:=.type "list", data:=.seq (its.set j u).toArray n }:=by
 simp [Obj.mapSeq]
theorem Inv.lst {pins:List (Addr × Obj)} {σ:St} {H:Hp} {s:Shared} {p:Addr} {xs:List V} (I:Inv X pins σ H s) (h:H p=some (.lst xs)) :
  ∃ (its:List Value) (n:Nat),Vals xs its∧s.heap.get? p=some { cls:=.type "list", data:=.seq its.toArray n }∧xs.length≤sizeLine:=by
 obtain ⟨z,its,n,r,e⟩:=I.hok p _ h
 exact ⟨its,n,r,e,z⟩
theorem Inv.lstUpd {pins:List (Addr × Obj)} {σ:St} {H:Hp} {s:Shared} {p:Addr} {xs ys:List V} {its its':List Value} {n n':Nat} {f:Obj→Obj} (I:Inv X pins σ H s) (h:H p=some (.lst xs))
  (ho:s.heap.get? p=some { cls:=.type "list", data:=.seq its.toArray n }) (hf:f { cls:=.type "list", data:=.seq its.toArray n }={ cls:=.type "list", data:=.seq its'.toArray n' }) (r:Vals ys its') (hz:ys.length≤sizeLine) (t:Nat) :
  Inv X pins σ (upd H p (.lst ys)) { s with heap:=s.heap.update p f,toks:=t }:=by
 have e:(s.heap.update p f).get? p=some { cls:=.type "list", data:=.seq its'.toArray n' }:=by
  rw [Heap.get?_update_self f ho (by rw [hf] <;> rfl),hf]
 refine I.write (x:=p) (e:=p) (by rw [h];trivial) (.inl rfl) (fun b u hb q=>(Heap.get?_update_other _ _ (Ne.symm hb)).trans q) ⟨_,e⟩ ?_
 exact ⟨hz,its',n',r,e⟩
inductive RSetLP (o:V) (i:V) (v:V) (H:Hp) (Q:Hp→Prop):Prop
 | mk (p:_) (xs:_) (k:_) (j:_) (h1:o=.ref p) (h2:i=.int k) (h3:H p=some (.lst xs)) (h4:ixN xs.length k=some j) (h5:Q (upd H p (.lst (xs.set j v)))):RSetLP o i v H Q
def rSetL:V→V→V→Hp→(Hp→Prop)→Prop:=fun o i v H Q=>RSetLP  o i v H Q
theorem set_list:PSet X rSetL:=by
 intro pins s σ H o i v ov iv u Q I ro ri rv h
 obtain ⟨p,xs,k,j,rfl,rfl,hp,hj,q⟩:=h
 cases ro
 obtain ⟨t,rfl⟩:=ri
 obtain ⟨its,n,r,ho,hz⟩:=I.lst hp
 obtain ⟨h1,h2,h3,h4⟩:=ixN_seq hj
 have hl:=r.length
 have hn:=line63
 have I':Inv X pins σ (upd H p (.lst (xs.set j v))) { s with heap:=s.heap.update p (Obj.mapSeq (·.setIfInBounds j u)) } :=
  I.lstUpd hp ho (mapSeq_set its n j u) (r.set rv j) (by rw [List.length_set];exact hz) s.toks
 by_cases h0:0≤k
 ·have hk:k.toNat=j:=by
   rw [seqIndex_of h0 h4] at h1
   exact Option.some.inj h1
  exact PySem.W.ki_setAt ho h0 (by walk_at"q") (by rw [List.size_toArray,← hl];exact h4) (by rw [hk];exact ⟨_,I',q⟩)
 ·have hk:(k + (its.toArray.size:Int)).toNat=j:=by
   rw [seqIndex_neg (by walk_at"q") h3] at h1
   rw [List.size_toArray,← hl]
   exact Option.some.inj h1
  exact PySem.W.ki_setBack ho (by walk_at"q") (by rw [List.size_toArray,← hl];exact h3) (by walk_at"q") (by rw [hk];exact ⟨_,I',q⟩)

theorem slice_bounds (lo hi:Option Int) (n:Nat):(sliceBounds lo hi none n).1=((HT.sIx n 0 lo:Nat):Int)∧(sliceBounds lo hi none n).2.1=((HT.sIx n n hi:Nat):Int)∧(sliceBounds lo hi none n).2.2=1:=by
 refine ⟨?_,?_,rfl⟩
 ·cases lo with
  | none=>simp [sliceBounds,HT.sIx]
  | some i =>
   simp only [sliceBounds,HT.sIx,Option.getD_none,show (1:Int) > 0 by decide,if_true]
   by_cases h:i < 0
   ·simp only [h,if_true] <;> walk_at"q"
   ·simp only [h,if_false] <;> walk_at"q"
 ·cases hi with
  | none=>simp [sliceBounds,HT.sIx]
  | some i =>
   simp only [sliceBounds,HT.sIx,Option.getD_none,show (1:Int) > 0 by decide,if_true]
   by_cases h:i < 0
   ·simp only [h,if_true] <;> walk_at"q"
   ·simp only [h,if_false] <;> walk_at"q"
theorem slicePick_cut (its:List Value) (lo hi:Option Int):slicePick its.toArray lo hi none=((its.drop (HT.sIx its.length 0 lo)).take (HT.sIx its.length its.length hi - HT.sIx its.length 0 lo)).toArray:=by
 obtain ⟨h1,h2,h3⟩:=slice_bounds lo hi its.toArray.size
 unfold slicePick
 rw [h1,h2,h3]
 simp only [sliceRange_one,pick_run,List.size_toArray] <;> rfl
inductive RSlLP (K:PySem.W.Frag) (x:V) (lo:Option Int) (hi:Option Int) (H:Hp) (Q:VK):Prop
 | mk (a:_) (xs:_) (h1:x=.ref a) (h2:SqL K H a xs) (h3:∀ p,H p=none→Q (.ref p) (upd H p (.lst (cutV xs lo hi)))):RSlLP K x lo hi H Q
def rSlL (K:PySem.W.Frag):V→Option Int→Option Int→Hp→VK→Prop:=fun x lo hi H Q=>RSlLP K x lo hi H Q
theorem sl_list:SlR X (rSlL X.K):=by
 intro pins s σ H x v vl vu lo hi sl Q I rx hs pl pu h
 obtain ⟨a,xs,rfl,hx,q⟩:=h
 cases rx
 obtain ⟨its,r,ht,hz⟩:=I.list hx
 have hlen:=r.length
 refine ⟨"list", _,slot_list_getitem.lookup,ht.isList.typeIs,?_⟩
 refine wpAny_getItem_list_slice ht.isList hs pl pu .none (by simp) ?_ (by rw [List.size_toArray] <;> walk_at"q")
 rw [slicePick_cut,← hlen]
 refine ⟨.ref s.heap.objs.size,_,I.laid (t':=s.toks) (o:=.lst (cutV xs lo hi)) (fun b ob q=>Heap.get?_push_of_some _ q) (Nat.le_refl _) ?_,rfl,q _ (I.hok.fresh (Nat.le_refl _))⟩
 exact ⟨Nat.le_trans (cutV_length xs lo hi) hz,_,0,(r.drop (HT.sIx xs.length 0 lo)).take (HT.sIx xs.length xs.length hi - HT.sIx xs.length 0 lo),Heap.get?_push_size _ rfl⟩

def flatV:V→Bool
 | .non=>true
 | .bl _=>true
 | .int _=>true
 | .str _=>true
 | _=>false
def eqV:V→V→Bool
 | .non,.non=>true
 | .bl a,.bl b=>a == b
 | .bl a,.int b=>(if a then 1 else 0) == b
 | .int a,.bl b=>a == (if b then 1 else 0)
 | .int a,.int b=>a == b
 | .str a,.str b=>a == b
 | _,_=>false
theorem eqAt_V {A:Around} {s:Shared} {y x:V} {u v:Value} (ry:RelV y u) (rx:RelV x v) (fy:flatV y=true) (fx:flatV x=true):SeqAt.EqAt A s u v (eqV y x):=by
 cases y with
 | non =>
  cases ry
  cases x with
  | non=>cases rx;exact SeqAt.EqAt.same _
  | bl b=>cases rx;exact SeqAt.EqAt.none_bool b
  | int b=>obtain ⟨t,rfl⟩:=rx;exact SeqAt.EqAt.none_int b t
  | str b=>obtain ⟨t,rfl⟩:=rx;exact SeqAt.EqAt.none_str b t
  | _=>exact absurd (show false=true from fx) Bool.false_ne_true
 | bl a =>
  cases ry
  cases x with
  | non=>cases rx;exact SeqAt.EqAt.bool_none a
  | bl b=>cases rx;exact SeqAt.EqAt.bool_bool a b
  | int b=>obtain ⟨t,rfl⟩:=rx;exact SeqAt.EqAt.bool_int a b t
  | str b=>obtain ⟨t,rfl⟩:=rx;exact SeqAt.EqAt.bool_str a b t
  | _=>exact absurd (show false=true from fx) Bool.false_ne_true
 | int a =>
  obtain ⟨t',rfl⟩:=ry
  cases x with
  | non=>cases rx;exact SeqAt.EqAt.int_none a t'
  | bl b=>cases rx;exact SeqAt.EqAt.int_bool a t' b
  | int b=>obtain ⟨t,rfl⟩:=rx;exact SeqAt.EqAt.int_int a t' b t
  | str b=>obtain ⟨t,rfl⟩:=rx;exact SeqAt.EqAt.int_str a t' b t
  | _=>exact absurd (show false=true from fx) Bool.false_ne_true
 | str a =>
  obtain ⟨t',rfl⟩:=ry
  cases x with
  | non=>cases rx;exact SeqAt.EqAt.str_none a t'
  | bl b=>cases rx;exact SeqAt.EqAt.str_bool a t' b
  | int b=>obtain ⟨t,rfl⟩:=rx;exact SeqAt.EqAt.str_int a t' b t
  | str b=>obtain ⟨t,rfl⟩:=rx;exact SeqAt.EqAt.str_str a t' b t
  | _=>exact absurd (show false=true from fx) Bool.false_ne_true
 | _=>exact absurd (show false=true from fy) Bool.false_ne_true
def eqU (x:V) (u:Value):Bool:=match u with
 | .none=>eqV .non x
 | .bool b=>eqV (.bl b) x
 | .int i _=>eqV (.int i) x
 | .str z _=>eqV (.str z) x
 | _=>false
theorem eqU_of {x y:V} {u:Value} (r:RelV y u) (f:flatV y=true):eqU x u=eqV y x:=by
 cases y with
 | non=>cases r;rfl
 | bl b=>cases r;rfl
 | int i=>obtain ⟨t,rfl⟩:=r;rfl
 | str z=>obtain ⟨t,rfl⟩:=r;rfl
 | _=>exact absurd (show false=true from f) Bool.false_ne_true
theorem any_eqU {x:V}:∀ {xs:List V} {us:List Value},Vals xs us→xs.all flatV=true→us.any (eqU x)=xs.any fun y=>eqV y x
 | _,_,.nil,_=>rfl
 | y :: xs,u :: us,.cons r t,f=>by
  rw [List.all_cons,Bool.and_eq_true] at f
  rw [List.any_cons,List.any_cons,eqU_of r f.1,any_eqU t f.2]
theorem mem_eqAt {A:Around} {s:Shared} {x:V} {v:Value} (rx:RelV x v) (fx:flatV x=true):∀ {xs:List V} {us:List Value},Vals xs us→xs.all flatV=true→∀ u∈us,SeqAt.EqAt A s u v (eqU x u)
 | _,_,.nil,_=>fun u hu=>by cases hu
 | y :: xs,u :: us,.cons r t,f=>fun u' hu=>by
  rw [List.all_cons,Bool.and_eq_true] at f
  rcases List.mem_cons.mp hu with rfl | hu
  ·rw [eqU_of r f.1];exact eqAt_V r rx f.1 fx
  ·exact mem_eqAt rx fx t f.2 u' hu
def inV (x:V) (xs:List V):Bool:=xs.any fun y=>eqV y x
inductive RInP (K:PySem.W.Frag) (neg:Bool) (x:V) (y:V) (H:Hp) (Q:VK):Prop
 | mk (p:_) (xs:_) (h1:y=.ref p) (h2:(SqL K H p xs∨SqT K H p xs)) (h3:flatV x=true) (h4:xs.all flatV=true) (h5:Q (.bl (if neg then !inV x xs else inV x xs)) H):RInP K neg x y H Q
def rIn (K:PySem.W.Frag) (neg:Bool):R2:=fun x y H Q=>RInP K neg x y H Q
theorem op_in_seq:OpR X (compareOp .In) (rIn X.K false):=by
 intro pins s σ H x y v u Q I rx ry h
 obtain ⟨p,xs,rfl,hq,fx,fs,q⟩:=h
 cases ry
 rcases hq with hq | hq
 ·obtain ⟨its,r,pl,hz⟩:=I.list hq
  refine SeqAt.in_listAt (eqU x) pl.isList (fun w hw=>mem_eqAt rx fx r fs w (by simpa using hw)) ⟨.bl _,H,I,rfl,?_⟩
  rw [show its.toArray.any (eqU x)=its.any (eqU x) by simp,any_eqU r fs]
  exact q
 ·obtain ⟨its,r,pl,hz⟩:=I.tuple hq
  refine SeqAt.in_tupleAt (eqU x) pl (fun w hw=>mem_eqAt rx fx r fs w (by simpa using hw)) ⟨.bl _,H,I,rfl,?_⟩
  rw [show its.toArray.any (eqU x)=its.any (eqU x) by simp,any_eqU r fs]
  exact q
inductive P_call_len_seq (K:PySem.W.Frag) (xs:List V) (H:Hp) (Q:VK):Prop
 | mk (p:_) (ys:_) (h1:xs=[.ref p]) (h2:(SqL K H p ys∨SqT K H p ys)) (h3:Q (.int ys.length) H):P_call_len_seq K xs H Q
theorem call_len_seq:CallR X (.builtin "len") (P_call_len_seq X.K):=by
 intro pins s σ H xs us Q I r h
 obtain ⟨p,ys,rfl,hq,q⟩:=h
 obtain ⟨u,rfl,rx⟩:=vals1 r
 cases rx
 have hn:=line63
 rcases hq with hq | hq
 ·obtain ⟨its,r',pl,hz⟩:=I.list hq
  have hlen:=r'.length
  exact Calls.call_len_list pl.isList (by simp only [List.size_toArray] <;> walk_at"q") ⟨.int ys.length,H,I.tok _,⟨s.toks + 1,by rw [List.size_toArray,hlen]⟩,q⟩
 ·obtain ⟨its,r',pl,hz⟩:=I.tuple hq
  have hlen:=r'.length
  exact len_tuple pl (by simp only [List.size_toArray] <;> walk_at"q") ⟨.int ys.length,H,I.tok _,⟨s.toks + 1,by rw [List.size_toArray,hlen]⟩,q⟩
inductive P_call_list_of (K:PySem.W.Frag) (xs:List V) (H:Hp) (Q:VK):Prop
 | mk (p:_) (ys:_) (h1:xs=[.ref p]) (h2:(SqL K H p ys∨SqT K H p ys)) (h3:∀ l,H l=none→Q (.ref l) (upd H l (.lst ys))):P_call_list_of K xs H Q
theorem call_list_of:CallR X (.type "list") (P_call_list_of X.K):=by
 intro pins s σ H xs us Q I r h
 obtain ⟨p,ys,rfl,hq,q⟩:=h
 obtain ⟨u,rfl,rx⟩:=vals1 r
 cases rx
 have fin:∀ (its:List Value),Vals ys its→ys.length≤sizeLine→∀ (h':Heap) (c':Nat),(∀ b o',s.heap.get? b=some o'→h'.get? b=some o') →
   h'.get? s.heap.objs.size=some { cls:=.type "list", dict:=none,data:=.seq its.toArray c',slots:=#[] }→EP X pins σ Q (.ref s.heap.objs.size) { s with heap:=h' }:=fun its r' hz h' c' kp e =>
  ⟨.ref s.heap.objs.size,_,I.laid (t':=s.toks) kp (Nat.le_refl _) (show ObjOk X.prog X.w _ h' _ (.lst ys) from ⟨hz,its,c',r',e⟩),rfl,q _ (I.hok.fresh (Nat.le_refl _))⟩
 rcases hq with hq | hq
 ·obtain ⟨its,r',pl,hz⟩:=I.list hq
  have hlen:=r'.length
  obtain ⟨o,ho,hc,n,hd⟩:=pl.isList
  exact call_list_seq p (.inl rfl) ho hc hd (fun h' c' kp e=>fin its r' hz h' c' kp e) (by simp only [List.size_toArray] <;> walk_at"q")
 ·obtain ⟨its,r',pl,hz⟩:=I.tuple hq
  have hlen:=r'.length
  obtain ⟨o,ho,hc,n,hd⟩:=pl
  exact call_list_seq p (.inr rfl) ho hc hd (fun h' c' kp e=>fin its r' hz h' c' kp e) (by simp only [List.size_toArray] <;> walk_at"q")
inductive P_call_tuple_of (K:PySem.W.Frag) (xs:List V) (H:Hp) (Q:VK):Prop
 | mk (p:_) (ys:_) (h1:xs=[.ref p]) (h2:((SqL K H p ys∧∀ l,H l=none→Q (.ref l) (upd H l (.tup ys)))∨(SqT K H p ys∧Q (.ref p) H))):P_call_tuple_of K xs H Q
theorem call_tuple_of:CallR X (.type "tuple") (P_call_tuple_of X.K):=by
 intro pins s σ H xs us Q I r h
 obtain ⟨p,ys,rfl,h⟩:=h
 obtain ⟨u,rfl,rx⟩:=vals1 r
 cases rx
 rcases h with ⟨hq,q⟩ | ⟨hq,q⟩
 ·obtain ⟨its,r',pl,hz⟩:=I.list hq
  have hlen:=r'.length
  refine call_tuple_list pl.isList (fun h' kp=>?_) (by simp only [List.size_toArray] <;> walk_at"q")
  have I1:Inv X pins σ H { s with heap:=h' }:=I.kept (t':=s.toks) kp
  have I2:Inv X pins σ (upd H h'.objs.size (.tup ys)) { s with heap:=h'.push { cls:=.type "tuple", data:=.seq its.toArray } } :=
   I1.laid (t':=s.toks) (fun b o e=>Heap.get?_push_of_some _ e) (Nat.le_refl _) (show ObjOk X.prog X.w _ _ _ (.tup ys) from ⟨hz,its,r',IsTupD.new _ _⟩)
  exact ⟨.ref h'.objs.size,_,I2,rfl,q _ (I1.hok.fresh (Nat.le_refl _))⟩
 ·obtain ⟨its,r',pl,hz⟩:=I.tuple hq
  exact call_tuple_same pl ⟨.ref p,H,I,rfl,q⟩

def tyV (K:PySem.W.Frag) (T:String) (x:V) (H:Hp):Prop:=match x with
 | .str _=>T = "str"
 | .int _=>T = "int"
 | .ref p=>(T = "list" ∧ ∃ xs,SqL K H p xs)∨(T = "tuple" ∧ ((∃ o,K.lookup p=some o∧o.cls=.type "tuple" ∧ o.dict=none)∨∃ xs,H p=some (.tup xs))) ∨
   (T = "dict" ∧ ((∃ kvs,H p=some (.dK kvs))∨∃ kvs,H p=some (.dT kvs)))∨(T = "set" ∧ ∃ S n,H p=some (.set S n))
 | _=>False
theorem tyV_is {pins:List (Addr × Obj)} {σ:St} {H:Hp} {s:Shared} {T:String} {x:V} {v:Value} (I:Inv X pins σ H s) (r:RelV x v) (ty:tyV X.K T x H) :
  s.TypeIs v T∧∀ a,v=.ref a→∃ ob,s.heap.get? a=some ob∧ob.dict=none:=by
 cases x with
 | str z =>
  obtain ⟨t,rfl⟩:=r
  cases (show T = "str" from ty)
  exact ⟨typeIs_str s z t,fun _ e=>nomatch e⟩
 | int i =>
  obtain ⟨t,rfl⟩:=r
  cases (show T = "int" from ty)
  exact ⟨typeIs_int s i t,fun _ e=>nomatch e⟩
 | ref p =>
  cases r
  rcases ty with ⟨rfl,xs,hq⟩ | ⟨rfl,⟨o,hk,hc,hd⟩ | ⟨xs,hk⟩⟩ | ⟨rfl,hk⟩ | ⟨rfl,S,n,hk⟩
  ·obtain ⟨its,_,pl,_⟩:=I.list hq
   refine ⟨pl.isList.typeIs,fun a e=>?_⟩
   cases e
   obtain ⟨o,n,e,c,hd,_⟩:=pl
   exact ⟨o,e,hd⟩
  ·refine ⟨⟨o,I.kIn p o hk,hc⟩,fun a e=>?_⟩
   cases e
   exact ⟨o,I.kIn _ o hk,hd⟩
  ·obtain ⟨_,_,_,o,e1,c1,n,d1,dn⟩:=(show ObjOk X.prog X.w H s.heap p (.tup xs) from I.hok p _ hk)
   refine ⟨⟨o,e1,c1⟩,fun a e=>?_⟩
   cases e
   exact ⟨o,e1,dn⟩
  ·have z:∃ o,s.heap.get? p=some o∧o.ExactDict:=by
    rcases hk with ⟨kvs,hk⟩ | ⟨kvs,hk⟩
    ·obtain ⟨_,_,_,_,o,_,_,e,ex,_⟩:=I.hok p _ hk
     exact ⟨o,e,ex⟩
    ·obtain ⟨_,_,_,_,o,_,_,e,ex,_⟩:=I.hok p _ hk
     exact ⟨o,e,ex⟩
   obtain ⟨o,e,ex⟩:=z
   refine ⟨⟨o,e,ex.1⟩,fun a e2=>?_⟩
   cases e2
   exact ⟨o,e,ex.2.1⟩
  ·obtain ⟨o,_,_,_,e,ex,_⟩:=I.hok p _ hk
   refine ⟨⟨o,e,ex.1⟩,fun a e2=>?_⟩
   cases e2
   exact ⟨o,e,ex.2.1⟩
 | _=>exact False.elim ty
def tBM (K:PySem.W.Frag) (T:String) (r:V→List V→Hp→VK→Prop) (to:TE) (t:TA):TE:=fun σ H Q=>to σ H fun x H1=>tyV K T x H1∧t σ H1 fun xs H2=>r x xs H2 Q
variable {o e:Expr} {es:List Expr} {to:TE} {t:TA} {name:Str} {apos cpos:Pos} {T id:String} {r:V→List V→Hp→VK→Prop}
theorem pe_bm (pa:PlainAttrs T) (slot:Slot T name id) (hty:typeOf (.builtin id)=pure (.type "method_descriptor")) (hm:MtR X id r) (ho:PE X o to) (ha:PA X (e :: es) t)
  (hbase:attributeBase o name X.env (eval o X.env)=eval o X.env:=by rfl)
  (hfew:((backTo cpos (starEach (e :: es) X.env)).all (fun x=>!x.1) && (backToKw cpos (keywordEach [] X.env)).all (fun x=>x.1.isSome)
   && decide ((e :: es).length + ([]:List Keyword).length + (if ([]:List Keyword).isEmpty then 0 else 1) < 30))=true:=by rfl)
  (hline:(apos.endLine == cpos.line)=true:=by rfl) (hs:starEach (e :: es) X.env=(false,eval e X.env) :: starEach es X.env:=by rfl) (hplain:(backTo cpos (starEach es X.env)).any (·.1)=false:=by rfl) :
  PE X (.Call (.Attribute o name apos) (e :: es) [] cpos) (tBM X.K T r to t):=by
 intro pins s σ H Q I h
 refine wpAny_Call_method_late hbase hfew hline rfl (thn (ho pins s σ H _ I h) fun v s1 ⟨x,H1,I1,r1,ty,q1⟩=>?_)
 obtain ⟨h1,h2⟩:=tyV_is I1 r1 ty
 refine ⟨T,id,pa,slot,hty,h1,h2,?_⟩
 have hA:=ha cpos pins s1 σ H1 _ I1 q1
 rw [hs] at hA ⊢
 refine Calls.callWith_builtin (by show (false || (backTo cpos (starEach es X.env)).any (·.1))=false;rw [hplain] <;> rfl) (Calls.evalArgs_plain ?_)
 exact thn hA fun us s2 ⟨vs,H2,I2,r2,q2⟩=>hm pins s2 σ H2 x vs v us Q I2 r1 r2 q2
/- xs.append(e),list.index on a module's tuple .. are MtR facts of 06m -/
end
end L2

namespace L2
open PySem PySem.Spec PyProof.Rows

def MtM (X:Cx) (id:String) (r:V→List V→Hp→VK→Prop):Prop :=
 ∀ (pins:List (Addr × Obj)) (s:Shared) (σ:St) (H:Hp) (x:V) (xs:List V) (v:Value) (us:List Value) (Q:VK),Inv X pins σ H s→RelV x v→Vals xs us→r x xs H Q →
  wpAny (model X.prog X.w) X.A (call (.builtin id) (v :: us)) (EP X pins σ Q) X.xe s

theorem Vals.one:∀ {x:V} {us:List Value},Vals [x] us→∃ u,us=[u]∧RelV x u
 | _,_,.cons r .nil=>⟨_,rfl,r⟩
theorem Vals.two:∀ {x y:V} {us:List Value},Vals [x,y] us→∃ u v,us=[u,v]∧RelV x u∧RelV y v
 | _,_,_,.cons r (.cons q .nil)=>⟨_,_,rfl,r,q⟩
theorem Vals.eraseIdx:∀ {xs:List V} {us:List Value} (i:Nat),Vals xs us→Vals (xs.eraseIdx i) (us.eraseIdx i)
 | _,_,_,.nil=>.nil
 | _,_,0,.cons _ t=>t
 | _,_,i + 1,.cons r t=>.cons r (Vals.eraseIdx i t)
theorem Vals.rep {xs:List V} {us:List Value} (h:Vals xs us):∀ k:Nat,Vals (List.replicate k xs).flatten (List.replicate k us).flatten
 | 0=>.nil
 | k + 1=>by
  rw [List.replicate_succ,List.replicate_succ,List.flatten_cons,List.flatten_cons]
  exact Vals.append h (Vals.rep h k)
theorem len_erase {α:Type}:∀ (l:List α) (i:Nat),(l.eraseIdx i).length≤l.length
 | [],_=>Nat.le_refl _
 | _ :: _,0=>Nat.le_succ _
 | _ :: r,i + 1=>Nat.succ_le_succ (len_erase r i)
theorem foldl_rep (its:List Value):∀ (k:Nat) (acc:List Value),
  List.foldl (fun x1 x2=>x1 ++ x2) acc.toArray (List.replicate k its.toArray)=(acc ++ (List.replicate k its).flatten).toArray
 | 0,acc=>by simp
 | k + 1,acc=>by
  have e:acc.toArray ++ its.toArray=(acc ++ its).toArray:=by simp
  have e2:(acc ++ its) ++ (List.replicate k its).flatten=acc ++ (List.replicate (k + 1) its).flatten:=by
   rw [List.replicate_succ,List.flatten_cons,List.append_assoc]
  rw [← e2,← foldl_rep its k (acc ++ its),← e,List.replicate_succ,List.foldl_cons]

section
variable {X:Cx} {pins:List (Addr × Obj)} {σ:St} {H:Hp} {s:Shared} {l b:Addr} {xs ys zs:List V}

theorem Inv.lset {its its':List Value} {n:Nat} {f:Array Value→Array Value} {t':Nat} (I:Inv X pins σ H s) (hH:H l=some (.lst xs))
  (e:s.heap.get? l=some { cls:=.type "list", data:=.seq its.toArray n }) (hf:f its.toArray=its'.toArray) (hv:Vals ys its') (hz:ys.length≤sizeLine) :
  Inv X pins σ (upd H l (.lst ys)) { s with heap:=s.heap.update l (Obj.mapSeq f),toks:=t' }:=by
 have q:=PySem.IsL.update e f
 rw [hf] at q
 refine I.write (x:=l) (e:=l) (by rw [hH];exact trivial) (.inl rfl) (fun b' u hb hu=>(Heap.get?_update_other s.heap (Obj.mapSeq f) (Ne.symm hb)).trans hu) ⟨_,q⟩ ?_
 exact ⟨hz,its',_,hv,q⟩
theorem Inv.lnew {its:List Value} {t':Nat} (I:Inv X pins σ H s) (hv:Vals ys its) (hz:ys.length≤sizeLine) :
  Inv X pins σ (upd H s.heap.objs.size (.lst ys)) { s with heap:=s.heap.push { cls:=.type "list", data:=.seq its.toArray },toks:=t' } :=
 I.laid (fun _ _ q=>Heap.get?_push_of_some _ q) (Nat.le_refl _) ⟨hz,its,0,hv,Heap.get?_push_size _ rfl⟩
theorem Inv.fresh (I:Inv X pins σ H s):H s.heap.objs.size=none:=I.hok.fresh (Nat.le_refl _)
theorem Inv.lstM (I:Inv X pins σ H s) (hH:H l=some (.lst xs)):xs.length≤sizeLine∧∃ (its:List Value) (n:Nat),Vals xs its∧xs.length=its.length∧s.heap.get? l=some { cls:=.type "list", data:=.seq its.toArray n }:=by
 obtain ⟨z,its,n,r,e⟩:=I.hok l _ hH
 exact ⟨z,its,n,r,r.length,e⟩

theorem notLongL {n:Nat} (h:n≤sizeLine):Builtin.List.listTooLong n=false:=by
 unfold Builtin.List.listTooLong
 exact decide_eq_false (by walk_at"q")
end

section
variable {X:Cx}

inductive RAppendP (x:V) (vs:List V) (H:Hp) (Q:VK):Prop
 | mk (l:_) (xs:_) (y:_) (h1:x=.ref l) (h2:vs=[y]) (h3:H l=some (.lst xs)) (h4:xs.length < sizeLine) (h5:Q .non (upd H l (.lst (xs ++ [y])))):RAppendP x vs H Q
def rAppend:V→List V→Hp→VK→Prop:=fun x vs H Q=>RAppendP  x vs H Q
theorem mt_append:MtM X "list.append" rAppend:=by
 intro pins s σ H x vs v us Q I rx rv h
 obtain ⟨l,xs,y,rfl,rfl,hH,hz,q⟩:=h
 cases rx
 obtain ⟨u,rfl,ru⟩:=rv.one
 obtain ⟨z,its,n,r,hl,e⟩:=I.lstM hH
 refine call_meets F.slot_list_append ⟨_,e,rfl⟩ F.entry_list_append (F.args_list_append_2 _ _) (PySem.list_append l its.toArray n u (by rw [List.size_toArray];walk_at"q")) ⟨e,?_⟩
 refine ⟨.non,_,I.lset (its':=its ++ [u]) hH e (by simp) (r.append (.cons ru .nil)) ?_,rfl,q⟩
 rw [List.length_append,List.length_singleton]
 walk_at"q"

def rPopAt:V→List V→Hp→VK→Prop:=fun x vs H Q=>∃ l xs i k y,x=.ref l∧vs=[.int i]∧H l=some (.lst xs)∧-(2 ^ 63)≤i∧i < 2 ^ 63∧seqIndex? i xs.length=some k∧xs[k]?=some y∧Q y (upd H l (.lst (xs.eraseIdx k)))
theorem mt_popAt:MtM X "list.pop" rPopAt:=by
 intro pins s σ H x vs v us Q I rx rv h
 obtain ⟨l,xs,i,k,y,rfl,rfl,hH,h1,h2,hk,hy,q⟩:=h
 cases rx
 obtain ⟨u,rfl,ru⟩:=rv.one
 obtain ⟨t,rfl⟩:=ru
 obtain ⟨z,its,n,r,hl,e⟩:=I.lstM hH
 obtain ⟨w,hw,rw'⟩:=r.get hy
 refine call_meets F.slot_list_pop ⟨_,e,rfl⟩ F.entry_list_pop (F.args_list_pop_2 _ _)
  (MeetsSeq.list_pop_at l its.toArray n i t k w (fitsIndex_both h1 h2) (by rw [List.size_toArray,← hl];exact hk) (by rw [← Array.getElem?_toList];exact hw) (by rw [List.size_toArray];walk_at"q")) ⟨e,?_⟩
 refine ⟨y,_,I.lset (its':=its.eraseIdx k) hH e ?_ (r.eraseIdx k) ?_,rw',q⟩
 ·show its.toArray.eraseIdxIfInBounds k=(its.eraseIdx k).toArray
  rw [List.eraseIdxIfInBounds_toArray]
 ·have:=len_erase xs k
  walk_at"q"

inductive RCatP (x:V) (y:V) (H:Hp) (Q:VK):Prop
 | mk (l:_) (b:_) (xs:_) (zs:_) (h1:x=.ref l) (h2:y=.ref b) (h3:H l=some (.lst xs)) (h4:H b=some (.lst zs)) (h5:xs.length + zs.length≤sizeLine) (h6:∀ p,H p=none→Q (.ref p) (upd H p (.lst (xs ++ zs)))):RCatP x y H Q
def rCat:R2:=fun x y H Q=>RCatP  x y H Q
theorem op_cat:OpR X (binaryOp .Add) rCat:=by
 intro pins s σ H x y v u Q I rx ry h
 obtain ⟨l,b,xs,zs,rfl,rfl,hH,hB,hz,q⟩:=h
 cases rx
 cases ry
 obtain ⟨z,its,n,r,hl,e⟩:=I.lstM hH
 obtain ⟨z2,its2,n2,r2,hl2,e2⟩:=I.lstM hB
 refine PySem.P.add_list e e2 ?_ (by rw [List.size_toArray,List.size_toArray];walk_at"q")
 have ea:its.toArray ++ its2.toArray=(its ++ its2).toArray:=by simp
 rw [ea]
 exact ⟨.ref _,_,I.lnew (t':=s.toks) (r.append r2) (by rw [List.length_append];walk_at"q"),rfl,q _ I.fresh⟩
inductive RRepP (x:V) (y:V) (H:Hp) (Q:VK):Prop
 | mk (l:_) (k:_) (xs:_) (h1:x=.ref l) (h2:y=.int k) (h3:H l=some (.lst xs)) (h4:-(2 ^ 63)≤k) (h5:k < 2 ^ 63) (h6:xs.length * k.toNat≤sizeLine) (h7:∀ p,H p=none→Q (.ref p) (upd H p (.lst (List.replicate k.toNat xs).flatten))):RRepP x y H Q
def rRep:R2:=fun x y H Q=>RRepP  x y H Q
theorem len_rep {α:Type} (xs:List α) (k:Nat):(List.replicate k xs).flatten.length=k * xs.length:=by
 induction k with
 | zero=>simp
 | succ k ih=>rw [List.replicate_succ,List.flatten_cons,List.length_append,ih,Nat.succ_mul,Nat.add_comm]
theorem op_rep:OpR X (binaryOp .Mult) rRep:=by
 intro pins s σ H x y v u Q I rx ry h
 obtain ⟨l,k,xs,rfl,rfl,hH,h1,h2,hz,q⟩:=h
 cases rx
 obtain ⟨t,rfl⟩:=ry
 obtain ⟨z,its,n,r,hl,e⟩:=I.lstM hH
 have hlen:its.toArray.size * k.toNat≤sizeLine:=by rw [List.size_toArray,← hl];exact hz
 have hcap:¬ its.toArray.size * k.toNat > (2 ^ 63 - 1) / 8:=by
  have:(sizeLine:Nat)≤(2 ^ 63 - 1) / 8:=by decide
  walk_at"q"
 have hfit:¬ (!Builtin.List.listFitsIndex k)=true:=by
  rw [fitsIndex_both h1 h2]
  exact Bool.false_ne_true
 have hlong:¬ Builtin.List.listTooLong (its.toArray.size * k.toNat)=true:=by
  rw [notLongL hlen]
  exact Bool.false_ne_true
 have hnew:List.foldl (fun x1 x2=>x1 ++ x2) #[] (List.replicate (if its.toArray.isEmpty=true then 0 else k.toNat) its.toArray)=(List.replicate k.toNat its).flatten.toArray:=by
  have f0:∀ m:Nat,List.foldl (fun x1 x2=>x1 ++ x2) #[] (List.replicate m its.toArray)=(List.replicate m its).flatten.toArray:=fun m=>by
   have:=foldl_rep its m []
   rw [List.nil_append] at this
   exact this
  rw [f0]
  cases its with
  | nil=>simp
  | cons a r'=>rw [if_neg (by simp)]
 refine wpAny_binaryOp_repeat_ref (T := "list") (U := "int") (by decide) ⟨_,e,rfl⟩ (fun s'=>typeIs_int s' k t) noFill_list_mul F.fills_int_mul F.slot_int_rmul repeat_list F.slot_int_index.lookup
  (call_meets F.slot_int_rmul (typeIs_int s k t) F.entry_int_rmul (F.args_int_rmul_2 _ _) (int___rmul___int_list k t l its.toArray n)
   ⟨e,rfl,⟨_,e,rfl⟩,call_meets F.slot_list_mul ⟨_,e,rfl⟩ F.entry_list_mul (F.args_list_mul_2 _ _) (AutoListH.list___mul___list_int_3 l its.toArray n k t hfit hcap hlong) ⟨e,?_⟩⟩)
 rw [hnew]
 exact ⟨.ref _,_,I.lnew (t':=s.toks) (r.rep k.toNat) (by rw [len_rep,Nat.mul_comm];exact hz),rfl,q _ I.fresh⟩

end

section
variable {prog:Program} {w:World} {A:Around} {E:Value→Shared→Prop} {s:Shared}
end

section
variable {X:Cx}
end
end L2

namespace Att
open PySem PySem.W PySem.Calls PyProof.Rows

theorem ints_of_wellAll {P:Params} {h:Heap}:∀ (ns:List Int) (vs:List Value),WellAll P h vs (ns.map WData.int)→IntsAre vs ns:=by
 intro ns
 induction ns with
 | nil =>
  intro vs w
  rw [List.map_nil] at w
  cases w
  exact .nil
 | cons n ns ih =>
  intro vs w
  rw [List.map_cons] at w
  cases w with
  | cons a b =>
   cases a
   exact .cons _ _ (ih _ b)

theorem script_of {l:OpenLaw} {n:Nat} (hn:l.most=some n) {P:Params} {h:Heap} {args:List WData} {vals:List Value}
  (hpre:l.row.toRowW.claim.pre args=true) (hwl:WellAll P h vals args) :
  ∃ a vs ns,vals=[Value.ref a]∧args=[WData.list (ns.map WData.int)]∧h.get? a=some { cls:=.type "list", data:=.seq vs.toArray }∧IntsAre vs ns∧ns.length≤n:=by
 have hsh:WShape.hasAll [] args [.list .int]=true:=(pre_splitW hpre).1
 have hc:l.pre.holds [] { args:=args }=true:=(pre_splitW hpre).2
 obtain ⟨d,r,rfl,h1,h2⟩:=hasAllW_cons hsh
 obtain rfl:=hasAllW_nil h2
 obtain ⟨xs,rfl,h3⟩:=hasW_list h1
 obtain ⟨ns,rfl⟩:=items_int h3
 have hlen:ns.length≤n:=by
  unfold OpenLaw.pre at hc
  have h4:(WTm.not (.lt (.lit (.int (n:Int))) (.len (.arg 0)))).holds [] { args:=[.list (ns.map .int)] }=true:=by
   have h4:=(holds_andW hc).1
   rw [hn] at h4
   exact h4
  have h5:=condW_of h4 (w_not (w_lt w_lit (w_len_list (w_arg rfl))))
  rw [List.length_map] at h5
  refine Nat.le_of_not_lt fun q=>?_
  have q':(n:Int) < ((ns.length:Nat):Int):=by walk_at"q"
  first
   | (rw [decide_eq_true q'] at h5;exact absurd h5 (by decide))
   | (simp at h5;walk_at"q")
 cases hwl with
 | cons w1 w2 =>
  cases w2
  cases w1 with
  | list ho hall=>exact ⟨_,_,ns,rfl,rfl,ho,ints_of_wellAll ns _ hall,hlen⟩

theorem post_true (l:OpenLaw) (args:List WData):l.row.toRowW.claim.post args (.bool true) args=true :=
 postW_of (r:=l.row.toRowW) (X:=(true == true))
  (show WShape.has [] (.bool true) .bool=true by first | rfl | decide | simp [WShape.has,WShape.arms,WShape.armsAll])
  (show (WTm.eq .res (.lit (.bool true))).value [] { args:=args,res:=some (.bool true),after:=args }=some (.bool (true == true)) from w_eq_bool (w_res rfl) w_lit) rfl

theorem attach_call {l:OpenLaw} {n:Nat} {q:Program} {loose:List Str} {XP:(Str→Option Value)→Heap→Prop} {YP:World→Heap→Prop} {d:DefRec}
  (hn:l.most=some n) (hdf:d.params.defaults=[])
  (call:∀ (w:World) (s₀ s₁:Shared) (mg mb:Str→Option Value) (fa:Addr) (o:Obj) (pm cd doc:Value) (a:Addr) (vs:List Value) (ns:List Int),
   Ground q loose [] XP w s₀ mg mb s₁.heap→YP w s₁.heap →
   s₁.heap.get? fa=some o→o.data=.func (docDef d.name d.params d.body d.scope pm cd doc)→s₁.heap.CodeRec cd d.name→mg d.name=some (.ref fa) →
   s₁.heap.get? a=some { cls:=.type "list", data:=.seq vs.toArray }→IntsAre vs ns→ns.length≤n→s₁.gens=#[] →
   codeAny (model l.prog w) callerA (.call (.ref fa) ⟨[.ref a],[]⟩) (fun r s'=>r=.ok (.ret (.bool true))∧OldK s₁.heap s'.heap∧s'.os=s₁.os∧AllBare s'.gens) s₁) :
  WalkO q loose XP YP l.row.toRowW d [] (fun f vs=>PySem.call f vs):=by
 intro w s₀ s₁ mg mb G Y fa o pm cd doc dV kV ho hd hcd hD hmg hg args vals as hpre hlay hrd hwl hlo
 obtain rfl:dV=.none:=Dflts.none hD hdf
 obtain rfl:kV=.none:=Dflts.noKw hD
 obtain ⟨a,vs,ns,rfl,rfl,hobj,hints,hlen⟩:=script_of hn hpre hwl
 refine enter_call (codeAny_mono (call w s₀ s₁ mg mb fa o pm cd doc a vs ns G Y ho (fd_plain hd) hcd hmg hobj hints hlen hg) fun r s' hq=>?_)
 obtain ⟨rfl,h2,h3,h4⟩:=hq
 exact ⟨.inl ⟨.bool true,.bool true,[],rfl,fun _=>rfl,.bool true,post_true l _,fun _=>⟨List.Pairwise.nil,fun _ hm=>(nomatch hm)⟩⟩,h2,h3,h4⟩

section
variable {prog:Program} {w:World} {A:Around} {E:Value→Shared→Prop} {s:Shared} {K:Frag}

def ledger (h:Heap) (L d:Addr):List (Addr × Obj):=(List.range h.objs.size).filterMap fun a=>if a=L∨a=d then none else (h.get? a).map fun o=>(a,o)
end
end Att

namespace L2
open PySem PySem.Spec PyProof.Rows

theorem vals_ints:∀ {vs:List Value} {ns:List Int},IntsAre vs ns→Vals (ns.map V.int) vs
 | _,_,.nil=>.nil
 | _,_,.cons n t h=>.cons ⟨t,rfl⟩ (vals_ints h)

def Only (H:Hp):Prop:=∀ b,H b=none∨∃ o xs,H b=some (.frz o (.lst xs))

theorem law_call {P:Program} {w:World} {K:PySem.W.Frag} {mg mb:Str→Option Value} {CX:CXT} {k:Nat} {fa a:Addr} {fd:FuncData} {x:Str} {sp:Sp} {s₁:Shared} {vs:List Value} {ns:List Int}
  (KX:K.In s₁.heap) (hns:s₁.heap.Ns mainGlobals mg) (hb:s₁.heap.Ns builtinsNs mb) (hbb:∀ x:Str,x ≠ "__name__" → mb x=bootBuiltins x) (hlim:s₁.heap.NoLimit) (hg:s₁.gens=#[])
  (ha:s₁.heap.get? a=some { cls:=.type "list", data:=.seq vs.toArray }) (hi:IntsAre vs ns) (hl:ns.length≤sizeLine) (hr:Room k callerA)
  (F:∀ base:Heap,K.In base→base.Ns mainGlobals mg→FnOk P w K mg base CX k fa fd [x] sp) (hbind:∀ (s:Shared) (u:Value),BindsTo s fd ⟨[u],[]⟩ [(x,u)])
  (hsp:∀ H:Hp,Only H→SqL K H a (ns.map V.int)→sp [.ref a] H (fun v _=>v=.bl true) fun _ _ _=>False)
  (hCX:∀ H e s',CX [] H s₁ (fun _ _ _=>False) e s'→False) :
  codeAny (model P w) callerA (.call (.ref fa) ⟨[.ref a],[]⟩) (fun r s'=>r=.ok (.ret (.bool true))∧OldK s₁.heap s'.heap∧s'.os=s₁.os∧AllBare s'.gens) s₁:=by
 have rv:=vals_ints hi
 have lenV:=hi.length
 -- from an abstract heap in which nothing but the script may be tracked
 have core:∀ H:Hp,Only H→SqL K H a (ns.map V.int)→HOk P w H s₁.heap→(∀ b,H b≠none→b=a)→(H a≠none→K.lookup a=none) →
   codeAny (model P w) callerA (.call (.ref fa) ⟨[.ref a],[]⟩) (fun r s'=>r=.ok (.ret (.bool true))∧OldK s₁.heap s'.heap∧s'.os=s₁.os∧AllBare s'.gens) s₁:=by
  intro H hO hS hok hA hK
  have base_of:∀ {b:Addr} {o:Obj},s₁.heap.get? b=some o→H b=none→(hidT s₁.heap H).get? b=some o:=fun e n=>hidT_get e n
  have noA:∀ {b:Addr} {o:Obj} {es:Array DictEntry} {ep:Nat},s₁.heap.get? b=some o→o.data=.dict es ep→H b=none:=fun {b o es ep} e d=>by
   cases q:H b with
   | none=>rfl
   | some u =>
    have e':b=a:=hA b (by rw [q];simp)
    subst e'
    rw [ha] at e;cases e
    have d':Data.seq vs.toArray _=Data.dict es ep:=d
    cases d'
  have nsK:∀ {b:Addr} {m:Str→Option Value},s₁.heap.Ns b m→(hidT s₁.heap H).Ns b m:=fun {b m} ⟨o,es,ep,e,d,r⟩=>⟨o,es,ep,base_of e (noA e d),d,r⟩
  have hKb:K.In (hidT s₁.heap H):=fun b o e=>base_of (KX b o e) (by
   cases q:H b with
   | none=>rfl
   | some u =>
    have e':b=a:=hA b (by rw [q];simp)
    subst e'
    rw [hK (by rw [q];simp)] at e;cases e)
  have hM:Mod K mg (hidT s₁.heap H):=⟨hKb,nsK hns,⟨mb,nsK hb,hbb⟩,let ⟨mc,h1,h2⟩:=hlim;⟨mc,nsK h1,h2⟩⟩
  have e0:Env0 P w K mg (hidT s₁.heap H) callerA [] s₁ H:=⟨rfl,hM,fun b o e=>of_hidT e,Nat.le_of_eq (hidT_size _ _),trivial,fun b hb=>absurd (show b∈([]:List Addr) from hb) (by simp),hok,.of_eq hg⟩
  refine codeAny_mono ((F _ hKb (nsK hns)).run callerA [] s₁ H ⟨[.ref a],[]⟩ [.ref a] [.ref a] _ _ hr e0 (hbind s₁ (.ref a)) (.cons rfl .nil) (hsp H hO hS)) fun r s' h=>?_
  cases r with
  | error e=>exact (hCX H e s' h).elim
  | ok fl =>
   cases fl with
   | next=>exact False.elim h
   | brk=>exact False.elim h
   | cont=>exact False.elim h
   | ret u =>
    obtain ⟨v,H',os,bare,un,hok',r',q⟩:=h
    have q':v=.bl true:=q
    subst q'
    obtain rfl:u=Value.bool true:=r'
    refine ⟨rfl,OldK.of_keep fun b o e=>?_,os,bare⟩
    cases q:H b with
    | none=>exact un.keep b o e q (by intro z;exact absurd (show b∈([]:List Addr) from z) (by simp)) (by simp)
    | some u =>
     rcases hO b with z | ⟨ob,xs,z⟩
     ·rw [q] at z;cases z
     ·have z2:=un.frzs b ob _ z
      obtain ⟨e1,_⟩:=hok b _ z
      obtain ⟨e2,_⟩:=hok' b _ z2
      rw [e] at e1;cases e1
      exact e2
 cases hk:K.lookup a with
 | some o =>
  -- the script is one of the module's own objects
  have e:=KX a o hk
  rw [ha] at e
  cases e
  refine core (fun _=>none) (fun _=>.inl rfl) (.inr ⟨_,vs.toArray,_,hk,rfl,rfl,rfl,by rw [List.size_toArray,lenV];exact hl,by simpa using rv⟩) (fun b u z=>by have z':(none:Option HO)=some u:=z;cases z') (fun b z=>absurd rfl z) fun z=>absurd rfl z
 | none =>
  refine core (fun b=>if b=a then some (.frz { cls:=.type "list", data:=.seq vs.toArray } (.lst (ns.map V.int))) else none) (fun b=>?_) (.inl (.inr ⟨{ cls:=.type "list", data:=.seq vs.toArray },if_pos rfl⟩)) (fun b u z=>?_) (fun b z=>?_) fun _=>hk
  ·by_cases hb:b=a
   ·exact .inr ⟨_,_,if_pos hb⟩
   ·exact .inl (if_neg hb)
  ·by_cases hb:b=a
   ·have z':=(if_pos hb).symm.trans z
    cases z'
    subst hb
    exact ⟨ha,by rw [List.length_map];exact hl,vs,_,rv,ha⟩
   ·have z':=(if_neg hb).symm.trans z
    cases z'
  ·by_cases hb:b=a
   ·exact hb
   ·exact absurd (if_neg hb) z
end L2

namespace L2
open PySem PySem.Spec PyProof.Rows

theorem walk_of {l:PySem.W.OpenLaw} {n k:Nat} {q:Program} {loose:List Str} {XP:(Str→Option Value)→Heap→Prop} {YP:World→Heap→Prop} {d:DefRec} {K:Params→PySem.W.Frag} {CX:World→CXT} {sp:World→Sp} {x:Str}
  (hn:l.most=some n) (hn2:n≤sizeLine) (hdf:d.params.defaults=[]) (hr:Room k callerA)
  (hY:∀ (w:World) (h:Heap),YP w h→(K w.params).In h)
  (F:∀ (w:World) (mg:Str→Option Value) (fa:Addr) (h:Heap),(K w.params).In h→h.Ns mainGlobals mg→mg d.name=some (.ref fa) →
   ∃ fd:FuncData,(∀ (s:Shared) (u:Value),BindsTo s fd ⟨[u],[]⟩ [(x,u)]) ∧
    ∀ base:Heap,(K w.params).In base→base.Ns mainGlobals mg→FnOk l.prog w (K w.params) mg base (CX w) k fa fd [x] (sp w))
  (hsp:∀ (w:World) (H:Hp) (a:Addr) (ns:List Int),ns.length≤n→Only H→SqL (K w.params) H a (ns.map V.int)→sp w [.ref a] H (fun v _=>v=.bl true) fun _ _ _=>False)
  (hCX:∀ (w:World) (H:Hp) (s:Shared) (e:Value) (s':Shared),CX w [] H s (fun _ _ _=>False) e s'→False) :
  PySem.W.WalkO q loose XP YP l.row.toRowW d [] (fun f vs=>PySem.call f vs):=by
 refine Att.attach_call hn hdf fun w s₀ s₁ mg mb fa o pm cd doc a vs ns G Y ho hd hcd hmg hobj hints hlen hg=>?_
 have KX:=hY w _ Y
 obtain ⟨fd,hb,hF⟩:=F w mg fa _ KX G.T.g hmg
 exact law_call KX G.T.g G.T.b G.T.builtins G.T.nolimit hg hobj hints (Nat.le_trans hlen hn2) hr hF hb (fun H hO hS=>hsp w H a ns hlen hO hS) fun H e s'=>hCX w H s₁ e s'
end L2

namespace L2
open PySem PySem.Spec PyProof.Rows

def defArgs (s:Stmt):Arguments:=match s with
 | .FunctionDef _ a _ _ _ _ _ _ _ _=>a
 | _=>{ posonlyargs:=[],args:=[],vararg:=none,kwonlyargs:=[],kw_defaults:=[],kwarg:=none,defaults:=[] }
def defBody (s:Stmt):List Stmt:=match s with
 | .FunctionDef _ _ b _ _ _ _ _ _ _=>b
 | _=>[]
def defScope (s:Stmt):Scope:=match s with
 | .FunctionDef _ _ _ _ _ _ sc _ _ _=>sc
 | _=>{ kind:=.function,names:=[],isGenerator:=false,isCoroutine:=false }

abbrev CX0:CXT:=fun _ _ _ _ _ _=>False
abbrev E0:XK:=fun _ _ _=>False
theorem pass0 {X:Cx}:Passes CX0 X E0:=fun _ _ _ _ _ _ _ h=>h.elim

structure Fun (K:PySem.W.Frag) (x qual:Str) (st:Stmt) (f:Addr) (fd:FuncData):Prop where
 ex:∃ (oc:Value) (od:Option Addr) (kV doc pm:Value) (an:Option Addr) (cdv ct:Value) (osl:Array (Option Value)),
  fd=PySem.W.fnOf x qual (defArgs st) (defBody st) (defScope st) .none kV doc pm an cdv ct∧K.lookup f=some ⟨oc,od,.func fd,osl⟩∧PySem.W.codeIn K cdv qual=true
 kp:PySem.W.keepIn K (.ref f)=true
section
variable {P:Program} {w:World} {K:PySem.W.Frag} {mg:Str→Option Value} {base:Heap}
theorem Fun.ok {x qual:Str} {st:Stmt} {f:Addr} {fd:FuncData} {N ps:List Str} {k:Nat} {sp:Sp} (F:Fun K x qual st f fd) (S:FnScope N ps (defScope st)) (len:∀ vs H Q E,sp vs H Q E→vs.length=ps.length)
  (hbody:∀ (cdv:Value) (A:Around) (outer:List Env) (s:Shared) (H:Hp) (vs:List V) (Q:VK) (E:XK),Room k (A.deeper (envOfC qual (defScope st) s.heap.objs.size f cdv))→sp vs H Q E →
   ∃ t,PSs (cxOf CX0 P w K mg base N qual (defScope st) f cdv A outer s H E).nox (defBody st) t∧t { nx:=fun _ H'=>Q .non H',rt:=Q } (start N vs) H):FnOk P w K mg base CX0 (k + 1) f fd ps sp:=by
 obtain ⟨oc,od,kV,doc,pm,an,cdv,ct,osl,rfl,lk,hcd⟩:=F.ex
 refine fn_of lk hcd S len fun A outer s H vs Q E hr hsp=>?_
 obtain ⟨t,h,q⟩:=hbody cdv A outer s H vs Q E hr hsp
 exact ⟨t,h.nox,q⟩
theorem Fun.binds {x qual:Str} {st:Stmt} {f:Addr} {fd:FuncData} {ps:List Str} (F:Fun K x qual st f fd)
  (h:∀ (kV doc pm:Value) (an:Option Addr) (cdv ct:Value) (us:List Value),us.length=ps.length→bindArgs (PySem.W.fnOf x qual (defArgs st) (defBody st) (defScope st) .none kV doc pm an cdv ct) ⟨us,[]⟩=pure (ps.zip us)):Binds K fd ps []:=by
 obtain ⟨oc,od,kV,doc,pm,an,cdv,ct,osl,rfl,lk,hcd⟩:=F.ex
 exact .all (h kV doc pm an cdv ct)
theorem fun_mk {x qual:Str} {st:Stmt} {f:Addr} {oc:Value} {od an:Option Addr} {osl:Array (Option Value)} {kV doc pm cdv ct:Value} (l:K.lookup f=some ⟨oc,od,.func (PySem.W.fnOf x qual (defArgs st) (defBody st) (defScope st) .none kV doc pm an cdv ct),osl⟩)
  (c:PySem.W.codeIn K cdv qual=true) (k:PySem.W.keepIn K (.ref f)=true):Fun K x qual st f (PySem.W.fnOf x qual (defArgs st) (defBody st) (defScope st) .none kV doc pm an cdv ct):=⟨⟨oc,od,kV,doc,pm,an,cdv,ct,osl,rfl,l,c⟩,k⟩
end
theorem small1000 {n:Nat} (h:n≤1000):n < sizeLine:=Nat.lt_of_le_of_lt h (by decide)

section
variable {X:Cx}
theorem pv (i:Nat) {x:Str} {pos:Pos} (hN:X.N[i]?=some x:=by rfl) (hv:Vis X.env.scope x:=by first | exact Or.inl rfl | exact Or.inr (Or.inl rfl) | exact Or.inr (Or.inr rfl)) (hd:(x == ("__debug__" : Str))=false:=by decide)
  (hcd:(x == ("__classdict__" : Str))=false:=by decide):PE X (.Name x pos) (tVar i):=pe_var hN hv hd hcd
end

theorem ite2 {c A B:Prop} [Decidable c] (h1:c→A) (h2:¬ c→B):if c then A else B:=by
 by_cases h:c
 ·rw [if_pos h]
  exact h1 h
 ·rw [if_neg h]
  exact h2 h
def Same (H H':Hp):Prop:=∀ b o,H b=some o→H' b=some o
theorem Same.refl (H:Hp):Same H H:=fun _ _ h=>h
theorem Same.trans {H H1 H2:Hp} (a:Same H H1) (b:Same H1 H2):Same H H2:=fun c o h=>b c o (a c o h)
theorem Same.free {H H':Hp} (e:Same H H') {l:Addr} (h:H' l=Option.none):H l=Option.none:=by
 cases q:H l with
 | none=>rfl
 | some o =>
  rw [e l o q] at h
  cases h
theorem Same.seq {K:PySem.W.Frag} {H H':Hp} {a:Addr} {xs:List V} (e:Same H H') (h:SqL K H a xs):SqL K H' a xs:=by
 rcases h with (h | ⟨o,h⟩) | h
 ·exact .inl (.inl (e _ _ h))
 ·exact .inl (.inr ⟨o,e _ _ h⟩)
 ·exact .inr h

end L2

namespace L2
open PySem PySem.Spec PyProof.Rows

def clo (env:Env):List (Str × NameKind)→List (Str × Addr)→List (Str × Addr)
 | [],acc=>acc
 | (n,k) :: r,acc=>if k == .free then clo env r ((n,(env.cells.lookup n).getD 0) :: acc) else clo env r acc
theorem clo_run {env:Env} {f:Str × NameKind→List (Str × Addr)→Sem (ForInStep (List (Str × Addr)))}
  (hf:∀ n k acc,f (n,k) acc=if k == .free then (do let a ← cellOf env n;pure (ForInStep.yield ((n,a) :: acc))) else pure (ForInStep.yield acc)) :
  ∀ (names:List (Str × NameKind)) (acc:List (Str × Addr)),(∀ p∈names,p.2=.free→∃ a,env.cells.lookup p.1=some a) →
  (forIn names acc f:Sem (List (Str × Addr)))=pure (clo env names acc)
 | [],acc,_=>rfl
 | (n,k) :: r,acc,h=>by
  rw [List.forIn_cons,hf]
  unfold clo
  by_cases hk:(k == NameKind.free)=true
  ·rw [if_pos hk,if_pos hk]
   obtain ⟨a,ha⟩:=h (n,k) List.mem_cons_self (by simpa using hk)
   have e:cellOf env n=pure a:=by
    unfold cellOf
    rw [show env.cells.lookup n=some a from ha]
   rw [e,show env.cells.lookup n=some a from ha]
   simp only [pure_bind]
   exact clo_run hf r _ fun p hp=>h p (List.mem_cons_of_mem _ hp)
  ·rw [if_neg hk,if_neg hk,pure_bind]
   exact clo_run hf r _ fun p hp=>h p (List.mem_cons_of_mem _ hp)
theorem closureFor_clo {env:Env} {scope:Scope} (h:∀ p∈scope.names,p.2=.free→∃ a,env.cells.lookup p.1=some a):closureFor scope env=pure (clo env scope.names []):=by
 simp only [closureFor]
 rw [clo_run (env:=env) (fun n k acc=>?_) scope.names [] h]
 ·rfl
 ·by_cases hk:(k == NameKind.free)=true
  ·simp only [hk,if_true]
  ·simp only [hk,if_false]
theorem clo_mem {env:Env}:∀ {names:List (Str × NameKind)} {acc:List (Str × Addr)},(∀ p∈names,p.2=.free→∃ a,env.cells.lookup p.1=some a)→∀ p∈clo env names acc,p∈acc∨(env.cells.lookup p.1=some p.2)
 | [],acc,_,p,hp=>.inl hp
 | (n,k) :: r,acc,h,p,hp=>by
  unfold clo at hp
  have hr:∀ p∈r,p.2=.free→∃ a,env.cells.lookup p.1=some a:=fun p hp=>h p (List.mem_cons_of_mem _ hp)
  by_cases hk:(k == NameKind.free)=true
  ·rw [if_pos hk] at hp
   obtain ⟨a,ha⟩:=h (n,k) List.mem_cons_self (by simpa using hk)
   rcases clo_mem hr p hp with q | q
   ·rcases List.mem_cons.mp q with q | q
    ·subst q
     right
     show env.cells.lookup n=some ((env.cells.lookup n).getD 0)
     rw [show env.cells.lookup n=some a from ha];rfl
    ·exact .inl q
   ·exact .inr q
  ·rw [if_neg hk] at hp
   exact clo_mem hr p hp
theorem clo_acc {env:Env}:∀ {names:List (Str × NameKind)} {acc:List (Str × Addr)},∀ p∈acc,p∈clo env names acc
 | [],acc,p,hp=>hp
 | (n,k) :: r,acc,p,hp=>by
  unfold clo
  by_cases hk:(k == NameKind.free)=true
  ·rw [if_pos hk];exact clo_acc p (List.mem_cons_of_mem _ hp)
  ·rw [if_neg hk];exact clo_acc p hp
theorem clo_has {env:Env}:∀ {names:List (Str × NameKind)} {acc:List (Str × Addr)} {x:Str},(x,NameKind.free)∈names→∃ a,(x,a)∈clo env names acc
 | [],_,_,h=>by cases h
 | (n,k) :: r,acc,x,h=>by
  unfold clo
  rcases List.mem_cons.mp h with q | q
  ·cases q
   rw [if_pos (show (NameKind.free == NameKind.free)=true from rfl)]
   exact ⟨_,clo_acc _ List.mem_cons_self⟩
  ·by_cases hk:(k == NameKind.free)=true
   ·rw [if_pos hk];exact clo_has q
   ·rw [if_neg hk];exact clo_has q
theorem look_of_mem {β:Type}:∀ {l:List (Str × β)} {x:Str} {b:β},(x,b)∈l→∃ b',l.lookup x=some b'
 | [],_,_,h=>by cases h
 | (n,k) :: r,x,b,h=>by
  rw [List.lookup_cons]
  cases hx:x == n with
  | true=>exact ⟨k,rfl⟩
  | false =>
   rcases List.mem_cons.mp h with q | q
   ·cases q;simp at hx
   ·exact look_of_mem q
theorem mem_of_look {β:Type}:∀ {l:List (Str × β)} {x:Str} {b:β},l.lookup x=some b→(x,b)∈l
 | [],_,_,h=>by simp at h
 | (n,k) :: r,x,b,h=>by
  rw [List.lookup_cons] at h
  cases hx:x == n with
  | true =>
   rw [hx] at h
   have:x=n:=by simpa using hx
   subst this
   cases h
   exact List.mem_cons_self
  | false =>
   rw [hx] at h
   exact List.mem_cons_of_mem _ (mem_of_look h)

theorem relabel_lookup {env:Env} {x:Str}:∀ (names:List (Str × NameKind)),
  (names.map fun (p:Str × NameKind)=>match p with | (n,k)=>if (k == .free && env.scope.kind == .function && env.kindOf n == some .cell) then (n,NameKind.cell) else (n,k)).lookup x =
   (names.lookup x).map fun k=>if (k == .free && env.scope.kind == .function && env.kindOf x == some .cell) then NameKind.cell else k
 | []=>rfl
 | (n,k) :: r=>by
  have ih:=@relabel_lookup env x r
  rw [List.map_cons]
  show List.lookup x ((if (k == NameKind.free && env.scope.kind == .function && env.kindOf n == some .cell)=true then (n,NameKind.cell) else (n,k)) :: _)=_
  cases hx:x == n with
  | true =>
   have e:x=n:=by simpa using hx
   subst e
   by_cases hc:(k == NameKind.free && env.scope.kind == .function && env.kindOf x == some .cell)=true
   ·rw [if_pos hc];simp only [List.lookup_cons,hx,Option.map_some,if_pos hc]
   ·rw [if_neg hc];simp only [List.lookup_cons,hx,Option.map_some,if_neg hc]
  | false =>
   by_cases hc:(k == NameKind.free && env.scope.kind == .function && env.kindOf n == some .cell)=true
   ·rw [if_pos hc];simp only [List.lookup_cons,hx];exact ih
   ·rw [if_neg hc];simp only [List.lookup_cons,hx];exact ih
theorem relabel_names {env:Env} {scope:Scope} {x:Str}:(relabel scope env).names.lookup x=(scope.names.lookup x).map fun k=>if (k == .free && env.scope.kind == .function && env.kindOf x == some .cell) then NameKind.cell else k :=
 relabel_lookup scope.names

def cxComp (X:Cx) (N':List Str) (scope:Scope) (cl:List (Str × Addr)) (C:Addr) (s:Shared) (H:Hp) (fp:List Addr) (pn:List (Addr × Obj)):Cx :=
 { X with N:=N',s₀:=s,H₀:=H,env:=compEnvC scope cl C X.env,outer:=X.stack,stack:=X.stack,ex:=fp,fn:=fun _=>false,pn:=pn,xe:=fun _ _=>False }

def Wk:St→St→Prop
 | [],[]=>True
 | a :: r,b :: q=>(a=none∨a=b)∧Wk r q
 | _,_=>False
theorem Wk.len:∀ {a b:St},Wk a b→a.length=b.length
 | [],[],_=>rfl
 | _ :: _,_ :: _,h=>by simp [Wk.len h.2]
 | [],_ :: _,h=>False.elim h
 | _ :: _,[],h=>False.elim h
theorem Wk.get:∀ {a b:St},Wk a b→∀ (i:Nat) v,a[i]?=some (some v)→b[i]?=some (some v)
 | [],[],_,i,v,h=>by simp at h
 | x :: r,y :: q,h,0,v,e=>by
  simp at e
  rcases h.1 with z | z
  ·rw [z] at e;cases e
  ·simp [← z,e]
 | x :: r,y :: q,h,i + 1,v,e=>by
  simp at e ⊢
  exact Wk.get h.2 i v e
 | [],_ :: _,h,_,_,_=>False.elim h
 | _ :: _,[],h,_,_,_=>False.elim h

def stC (own:Nat) (caps:List Nat) (σ:St):St:=List.replicate own none ++ caps.map fun j=>(σ[j]?).join

def PTs (X:Cx) (ifs:List Expr) (t:TT):Prop :=
 ∀ (pins:List (Addr × Obj)) (s:Shared) (σ:St) (H:Hp) (Q:Bool→Hp→Prop),Inv X pins σ H s→t σ H Q →
  wpAny (model X.prog X.w) X.A (forIn ifs true fun c r=>if r=true then do let ok ← isTrue c X.env (eval c X.env);pure (ForInStep.yield ok) else pure (ForInStep.yield r)) (TP X pins σ Q) X.xe s
def tTru:TT:=fun _ H Q=>Q true H
theorem tru_if {σ:St} {H:Hp} {A B:Hp→Prop} (h:A H):tTru σ H (fun b H3=>if b=true then A H3 else B H3):=by
 show if true=true then A H else B H
 rw [if_pos rfl]
 exact h
theorem pts_nil {X:Cx}:PTs X [] tTru:=fun _ _ _ H _ I h=>wpAny_tests_nil ⟨H,I,h⟩
theorem pts_one {X:Cx} {c:Expr} {t:TT} (h:PT X c t):PTs X [c] t:=fun pins s σ H Q I q=>wpAny_tests_one (h pins s σ H Q I q)

theorem compLoop_go {prog:Program} {w:World} {A:Around} {R:Result→Shared→Prop} {s:Shared} {elt target iter:Expr} {ifs:List Expr} {scope:Scope} {pos:Pos} {it acc:Value} {env:Env} (I:Nat→Shared→Prop)
  (turn:∀ n s,I n s→wpAny (model prog w) A (pyNext it) (fun r s₁=>match r with
   | none=>R (.ok .next) s₁
   | some v=>wpAny (model prog w) A (letOwnedTupleGo target it v) (fun _ s₁'=>wpAny (model prog w) A (assign target env v) (fun _ s₂ =>
     wpAny (model prog w) A (forIn ifs true fun c r=>if r=true then do let ok ← isTrue c env (eval c env);pure (ForInStep.yield ok) else pure (ForInStep.yield r)) (fun ok s₃ =>
      if ok=true then wpAny (model prog w) A (eval elt env) (fun x s₄ =>
       wpAny (model prog w) A (call (.builtin "list.append") [acc,x]) (fun _ s₅=>∃ m,m < n∧I m s₅) (fun _ _=>False) s₄) (fun _ _=>False) s₃
      else ∃ m,m < n∧I m s₃) (fun _ _=>False) s₂) (fun _ _=>False) s₁') (fun _ _=>False) s₁) (fun _ _=>False) s)
  (n:Nat) (h:I n s) :
  codeAny (model prog w) A (.compLoop (.ListComp elt [⟨target,iter,ifs,0⟩] scope pos) 0 it acc env) R s:=by
 refine codeAny_loop rfl I (fun n s hI=>?_) n h
 show wpAny _ A ((compTurn (.ListComp elt [⟨target,iter,ifs,0⟩] scope pos) 0 it acc env).onRaise (fun x=>do noteFrame x env;theTreesLotGoes x)) _ _ s
 refine wpAny_noted ?_
 rw [compTurn_list]
 refine wpAny_bind (wpAny_standAt (wpAny_bind (wpAny_mono (turn n s hI) (fun r s₁ h₁=>?_) fun _ _ h'=>False.elim h')))
 cases r with
 | none=>exact wpAny_pure h₁
 | some v =>
  refine wpAny_bind (wpAny_mono h₁ (fun _ s₁' h₁'=>?_) fun _ _ h'=>False.elim h')
  refine wpAny_bind (wpAny_mono h₁' (fun _ s₂ h₂=>wpAny_bind (wpAny_mono h₂ (fun ok s₃ h₃=>?_) fun _ _ h'=>False.elim h')) fun _ _ h'=>False.elim h')
  cases ok with
  | false=>exact wpAny_pure ⟨rfl,h₃⟩
  | true =>
   exact wpAny_bind (wpAny_bind (wpAny_mono h₃ (fun x s₄ h₄=>wpAny_bind (wpAny_mono h₄ (fun _ s₅ h₅=>wpAny_pure (wpAny_pure ⟨rfl,h₅⟩)) fun _ _ h'=>False.elim h')) fun _ _ h'=>False.elim h'))

def tComp (wi:TI) (own:Nat) (caps:List Nat) (g:TG) (tt:TT) (te:TE):TE:=fun σ H Q=>wi σ H fun J H1=>∀ l,H1 l=none→∃ W:Nat→Nat→List V→Hp→Prop,(∃ m,W 0 m [] (upd H1 l (.lst []))) ∧
 ∀ i m ys H,W i m ys H→H l=some (.lst ys)∧((J.stop i H∧Q (.ref l) H)∨(J.go i H∧ys.length < sizeLine∧∃ N:List V→Hp→Prop,(∀ ys' H',N ys' H'→∃ m',m' < m∧W (i + 1) m' ys' H') ∧
  ∀ x H',J.yld i H x H'→g x (stC own caps σ) H' fun σ2 H2=>Wk (stC own caps σ) σ2 ∧
  tt σ2 H2 fun b H3=>if b=true then te σ2 H3 fun y H4=>H4 l=some (.lst ys)∧N (ys ++ [y]) (upd H4 l (.lst (ys ++ [y]))) else N ys H3))

section
variable {X:Cx} {tg elt iter:Expr} {ifs:List Expr} {scope:Scope} {pos:Pos} {wi:TI} {g:TG} {tt:TT} {te:TE} {ownN:List Str} {caps:List (Str × Nat)}
theorem inv_comp {pins:List (Addr × Obj)} {σ:St} {H:Hp} {s:Shared} {fp:List Addr} {h₁:Heap}
  (I:Inv X pins σ H s) (hf:∀ b∈fp,FpOk X pins H b) (hfl:∀ b∈fp,b < s.heap.objs.size)
  (hkind:scope.kind=.function) (hcell:∀ y∈scope.names,y.2≠.cell)
  (hfree:∀ p∈scope.names,p.2=.free→X.env.scope.names.lookup p.1=some .cell)
  (hcaps:∀ c∈caps,X.N[c.2]?=some c.1∧X.env.scope.names.lookup c.1=some .cell∧scope.names.lookup c.1=some .free)
  (hn:h₁.Ns s.heap.objs.size (fun _=>none)) (hk:∀ b o,s.heap.get? b=some o→h₁.get? b=some o) {tk:Nat} :
  Inv (cxComp X (ownN ++ caps.map (·.1)) scope (clo X.env scope.names []) s.heap.objs.size s H fp (X.pn ++ pins)) [] (stC ownN.length (caps.map (·.2)) σ) H { s with heap:=h₁,toks:=tk }:=by
 have has:∀ p∈scope.names,p.2=.free→∃ a,X.env.cells.lookup p.1=some a:=fun p hp hfr=>I.ok.has p.1 (.inl (hfree p hp hfr))
 have cmem:∀ {x:Str} {c:Addr},(clo X.env scope.names []).lookup x=some c→X.env.cells.lookup x=some c:=fun {x c} e=>by
  rcases clo_mem has _ (mem_of_look e) with q | q
  ·cases q
  ·exact q
 have clt:∀ {x:Str} {c:Addr},X.env.cells.lookup x=some c→c < s.heap.objs.size:=fun {x c} e=>by
  obtain ⟨v,q⟩:=I.cell x c e
  exact q.lt
 refine ⟨⟨I.ok.mod,?_,I.ok.glob,I.ok.blt,Nat.le_refl _,fun x y c h1 h2=>I.ok.inj x y c (cmem h1) (cmem h2),fun x hx=>?_,fun x c h=>(by cases h),I.ok.hd,I.ok.frames,.inl rfl,fun b hb=>⟨Nat.ne_of_lt (hfl b hb),fun x c e=>(hf b hb).2.2.2.2.1 x c (cmem e)⟩,
  fun b o e=>I.bs b o e,Nat.le_trans I.ok.bsz I.sz,fun b o e z=>?_,fun b hb z=>?_,I.stack,I.stkFree⟩,rfl,I.bare,Un.kept hk,⟨_,hn,fun i x v h1 h2 h3=>?_⟩,fun x c e=>?_,I.hok.fresh (Nat.le_refl _),fun x c e=>I.freeC x c (cmem e),fun p hp=>?_,I.hok.kept hk,?_⟩
 ·show (relabel scope X.env).kind=.function
  exact hkind
 ·-- a cell for each free name
  have e0:(relabel scope X.env).names.lookup x=some .cell∨(relabel scope X.env).names.lookup x=some .free:=hx
  rw [relabel_names] at e0
  have e1:scope.names.lookup x=some .free:=by
   cases q:scope.names.lookup x with
   | none=>rw [q] at e0;simp at e0
   | some k =>
    have hk':=hcell _ (mem_of_look q)
    rw [q] at e0
    cases k with
    | free=>rfl
    | cell=>exact absurd rfl hk'
    | _=>simp at e0
  obtain ⟨a,ha⟩:=clo_has (env:=X.env) (acc:=[]) (mem_of_look e1)
  exact look_of_mem ha
 ·-- the base has no iterator of ours
  rcases (hf b z).2.2.2.1 with q | q
  ·exact I.ok.noex b o e q
  ·exact absurd (Nat.lt_of_lt_of_le (Heap.lt_size e) (Nat.le_trans I.ok.bsz q)) (Nat.lt_irrefl _)
 ·rcases List.mem_cons.mp (I.stkSub b z) with q | q
  ·exact (hf b hb).2.1 q
  ·exact (hf b hb).2.2.1 q
 ·-- captured names
  have hi:ownN.length≤i:=by
   unfold stC at h2
   by_cases hi:ownN.length≤i
   ·exact hi
   ·rw [List.getElem?_append_left (by simp;walk_at"q"),List.getElem?_replicate] at h2
    split at h2 <;> cases h2
  have h1':(ownN ++ caps.map (·.1))[i]?=some x:=h1
  unfold stC at h2
  rw [List.getElem?_append_right (by simp;walk_at"q"),List.length_replicate,List.getElem?_map,List.getElem?_map] at h2
  rw [List.getElem?_append_right hi,List.getElem?_map] at h1'
  cases hc:caps[i - ownN.length]? with
  | none=>rw [hc] at h1';cases h1'
  | some c =>
   rw [hc] at h1' h2
   have ex:c.1=x:=Option.some.inj h1'
   have ev:(σ[c.2]?).join=some v:=Option.some.inj h2
   have ev':σ[c.2]?=some (some v):=by
    cases q:σ[c.2]? with
    | none=>rw [q] at ev;cases ev
    | some z=>rw [q] at ev;simp at ev;rw [ev]
   obtain ⟨k1,k2,k3⟩:=hcaps c (List.mem_of_getElem? hc)
   rw [ex] at k1 k2 k3
   obtain ⟨m,hm,hl⟩:=I.loc
   obtain ⟨u,ru,lk⟩:=hl c.2 x v k1 ev' (.inr (.inl k2))
   refine ⟨u,ru,.inr ⟨.inl ?_,?_⟩⟩
   ·show (relabel scope X.env).names.lookup x=some .cell
    rw [relabel_names,k3]
    have e1:X.env.scope.kind=.function:=I.ok.kind
    have e2:X.env.kindOf x=some .cell:=k2
    simp [e1,e2]
   ·rcases lk with ⟨z,_⟩ | ⟨_,cc,e1,e2⟩
    ·have z':X.env.scope.names.lookup x=some .local:=z
     rw [k2] at z';cases z'
    ·obtain ⟨a,ha⟩:=clo_has (env:=X.env) (acc:=[]) (mem_of_look k3)
     obtain ⟨a',ha'⟩:=look_of_mem ha
     have e3:a'=cc:=Option.some.inj ((cmem ha').symm.trans e1)
     rw [e3] at ha'
     obtain ⟨o,ho,hd⟩:=e2
     exact ⟨cc,ha',o,hk _ _ ho,hd⟩
 ·obtain ⟨v,o,ho,hd⟩:=I.cell x c (cmem e)
  exact ⟨v,o,hk _ _ ho,hd⟩
 ·have hp':p∈X.pn ++ pins:=by
   have:p∈(X.pn ++ pins) ++ []:=hp
   simpa using this
  obtain ⟨e,n,ne,nf,d⟩:=I.pin p hp'
  refine ⟨hk _ _ e,n,Nat.ne_of_lt (Heap.lt_size e),fun z=>?_,d⟩
  rcases List.mem_cons.mp (I.stkSub p.1 z) with q | q
  ·exact ne q
  ·exact nf q
 ·show (stC ownN.length (caps.map (·.2)) σ).length=(ownN ++ caps.map (·.1)).length
  unfold stC
  simp

theorem pe_comp (ownN:List Str) (caps:List (Str × Nat)) (hc:X.calm=true) (hi:PI X tg iter wi)
  (hg:∀ cl C s H fp pn,PG (cxComp X (ownN ++ caps.map (·.1)) scope cl C s H fp pn) tg g)
  (ht:∀ cl C s H fp pn,PTs (cxComp X (ownN ++ caps.map (·.1)) scope cl C s H fp pn) ifs tt)
  (he:∀ cl C s H fp pn,PE (cxComp X (ownN ++ caps.map (·.1)) scope cl C s H fp pn) elt te)
  (hkind:scope.kind=.function:=by rfl) (hcell:∀ y∈scope.names,y.2≠.cell:=by decide)
  (hfr:(scope.names.all fun p=>p.2 != .free || X.env.scope.names.lookup p.1 == some .cell)=true:=by rfl)
  (hcp:(caps.all fun c=>X.N[c.2]? == some c.1 && (X.env.scope.names.lookup c.1 == some .cell && scope.names.lookup c.1 == some .free))=true:=by rfl)
  (hnames:∀ x∈scope.names,x.2=.local→scope.names.lookup x.1=some .local:=by decide)
  (hs:∀ x,foldedSetIterable iter X.env x=pure x:=by intro _;rfl) :
  PE X (.ListComp elt [⟨tg,iter,ifs,0⟩] scope pos) (tComp wi ownN.length (caps.map (·.2)) g tt te):=by
 intro pins s σ H Q I h
 have hfree:∀ p∈scope.names,p.2=.free→X.env.scope.names.lookup p.1=some .cell:=fun p hp e=>by
  have z:=List.all_eq_true.mp hfr p hp
  rw [e] at z
  simpa using z
 have hcaps:∀ c∈caps,X.N[c.2]?=some c.1∧X.env.scope.names.lookup c.1=some .cell∧scope.names.lookup c.1=some .free:=fun c hc=>by
  have z:=List.all_eq_true.mp hcp c hc
  simpa using z
 have has:∀ p∈scope.names,p.2=.free→∃ a,X.env.cells.lookup p.1=some a:=fun p hp hfr=>I.ok.has p.1 (.inl (hfree p hp hfr))
 rw [eval_ListComp]
 refine wpAny_comprehension_free (use:=none) rfl hs (closureFor_clo has) hkind hnames (thn (hi pins s σ H _ I h) fun v s1 h1=>thn h1 fun itv s2 h2=>?_)
 obtain ⟨it,fp,tn,J,H2,rfl,I2,T,st2,f2,red⟩:=h2
 have hf2:H2 s2.heap.objs.size=none:=I2.hok.fresh (Nat.le_refl _)
 obtain ⟨W,⟨m0,w0⟩,turn⟩:=red s2.heap.objs.size hf2
 refine wpAny_newObj_type ?_
 generalize hac:s2.heap.objs.size=ac at hf2 turn w0 ⊢
 have I3:Inv X pins σ (upd H2 ac (.lst [])) { s2 with heap:=s2.heap.push { cls:=.type "list", dict:=none,data:=.seq ([]:List Value).toArray } }:=by
  subst hac
  exact I2.laid (t':=s2.toks) (o:=.lst []) (fun b u e=>Heap.get?_push_of_some _ e) (Nat.le_refl _) ⟨Nat.zero_le _,[],0,.nil,Heap.get?_push_size _ rfl⟩
 generalize hs3:({ s2 with heap:=s2.heap.push { cls:=.type "list", dict:=none,data:=.seq ([]:List Value).toArray } }:Shared)=s3 at I3 ⊢
 have obj2:=T.obj 0 s2.heap st2
 have fne:∀ b∈fp,b≠ac:=fun b hb z=>by
  obtain ⟨o,e,_⟩:=obj2 b hb
  exact absurd (Heap.lt_size e) (by rw [z,hac];exact Nat.lt_irrefl _)
 have f3:∀ b∈fp,FpOk X pins (upd H2 ac (.lst [])) b:=fun b hb=>⟨by rw [upd_ne (fne b hb)];exact (f2 b hb).1,(f2 b hb).2⟩
 have st3:tn 0 s3.heap:=T.keep 0 _ _ st2 fun b hb o e=>by subst hs3;exact Heap.get?_push_of_some _ e
 have fl3:∀ b∈fp,b < s3.heap.objs.size:=fun b hb=>by
  obtain ⟨o,e,_⟩:=T.obj 0 s3.heap st3 b hb
  exact Heap.lt_size e
 have acl:ac < s3.heap.objs.size:=by subst hs3;subst hac;simp [Heap.size_push]
 refine wpAny_newFunctionEnv hcell (by intro y hy;simp at hy) (fun h₁ hns₁ hsb₁=>?_) hkind
 have old:∀ b o,s3.heap.get? b=some o→h₁.get? b=some o:=fun b o e=>hsb₁.extBut b o (Nat.ne_of_lt (Heap.lt_size e)) (Heap.get?_push_of_some _ e)
 have I4:=inv_comp (ownN:=ownN) (caps:=caps) (tk:=s3.toks + ([]:List (Str × Value)).length) I3 f3 fl3 hkind hcell hfree hcaps hns₁ old
 have st4:tn 0 h₁:=T.keep 0 _ _ st3 fun b hb o e=>old b o e
 -- behind the block
 have after:∀ (s5:Shared) (σ5:St) (H5:Hp),Inv (cxComp X (ownN ++ caps.map (·.1)) scope (clo X.env scope.names []) s3.heap.objs.size s3 (upd H2 ac (.lst [])) fp (X.pn ++ pins)) [] σ5 H5 s5→Q (.ref ac) H5 →
   compPost (model X.prog X.w) X.A X.xe none (EP X pins σ Q) (.ref ac) s3.heap.objs.size (.ok .next) s5:=by
  intro s5 σ5 H5 J5 q
  obtain ⟨m,hm,_⟩:=J5.loc
  refine ⟨m,hm,fun h' hs'=>?_⟩
  have nC:H5 s3.heap.objs.size=none:=J5.free
  refine ⟨.ref ac,H5,?_,rfl,q⟩
  have ub:=J5.base
  have u:Un (frs X.stack) fp (upd H2 ac (.lst [])) H5 s3.heap h' :=
   ⟨fun b o e n hb hx=>hs'.extBut b o (Nat.ne_of_lt (Heap.lt_size e)) (ub.keep b o e n hb hx),fun b o e n hb hx=>by
    obtain ⟨sl,z⟩:=ub.slot b o e n hb hx
    exact ⟨sl,hs'.extBut b _ (Nat.ne_of_lt (Heap.lt_size e)) z⟩,ub.free,fun b o e hx=>by
    obtain ⟨o',z⟩:=ub.there b o e hx
    exact ⟨o',hs'.extBut b _ (Nat.ne_of_lt (Heap.lt_size e)) z⟩,ub.tups,ub.frzs,fun b ps q=>⟨(ub.tbls b ps q).1,fun c o ec x=>let z:=(ub.tbls b ps q).2 c o ec x;⟨z.1,hs'.extBut c o (ne_of_none z.1 nC) z.2⟩⟩⟩
  refine I3.call' (s':={ s5 with heap:=h' }) (ch:=fp) J5.os u (fun b u e=>?_) J5.bare (fun b hb=>⟨(f3 b hb).2.2.2.1,(f3 b hb).2.1,(f3 b hb).2.2.2.2.1,(f3 b hb).2.2.2.2.2⟩)
  refine (J5.hok b u e).stay (fun c v hc z=>hs'.extBut c v ?_ z) (fun _ z=>z) fun _ _ z=>z
  rintro rfl
  rcases hc with z' | z'
  ·rw [z',e] at nC;cases nC
  ·rw [nC] at z';cases z'
 have loop:∀ s4:Shared,s4={ s3 with heap:=h₁,toks:=s3.toks + ([]:List (Str × Value)).length }→codeAny (model X.prog X.w) X.A (.compLoop (.ListComp elt [⟨tg,iter,ifs,0⟩] scope pos) 0 (.ref it) (.ref ac) (compEnvC scope (clo X.env scope.names []) s3.heap.objs.size X.env))
   (compPost (model X.prog X.w) X.A X.xe none (EP X pins σ Q) (.ref ac) s3.heap.objs.size) s4:=by
  rintro s4 rfl
  refine compLoop_go (fun n s'=>∃ i ys H',Inv (cxComp X (ownN ++ caps.map (·.1)) scope (clo X.env scope.names []) s3.heap.objs.size s3 (upd H2 ac (.lst [])) fp (X.pn ++ pins)) [] (stC ownN.length (caps.map (·.2)) σ) H' s'∧tn i s'.heap∧(∀ b∈fp,H' b=none)∧W i n ys H') ?_ m0
   ⟨0,[],_,I4,st4,fun b hb=>(f3 b hb).1,w0⟩
  rintro n s6 ⟨i,ys,H6,I6,st6,fr6,w6⟩
  obtain ⟨hl6,alt⟩:=turn i n ys H6 w6
  have fpok:∀ {H':Hp},(∀ b∈fp,H' b=none)→∀ b∈fp,FpOk (cxComp X (ownN ++ caps.map (·.1)) scope (clo X.env scope.names []) s3.heap.objs.size s3 (upd H2 ac (.lst [])) fp (X.pn ++ pins)) [] H' b:=fun {H'} hn b hb =>
   ⟨hn b hb,Nat.ne_of_lt (fl3 b hb),I6.ok.exfs b hb,.inl hb,(I6.ok.exf b hb).2,fun p hp z=>(f3 b hb).2.2.2.2.2 p (by
    have hp':p∈(X.pn ++ pins) ++ []:=hp
    simpa using hp') z⟩
  rcases alt with ⟨stop,qn⟩ | ⟨go,hsz,N,hN,step⟩
  ·refine thn (T.done (cxComp X (ownN ++ caps.map (·.1)) scope (clo X.env scope.names []) s3.heap.objs.size s3 (upd H2 ac (.lst [])) fp (X.pn ++ pins)) rfl rfl rfl hc i [] s6 _ H6 _ I6 (fpok fr6) st6 stop) fun r s7 ⟨hr,I7⟩=>?_
   subst hr
   exact after s7 _ H6 I7 qn
  ·refine thn (T.item (cxComp X (ownN ++ caps.map (·.1)) scope (clo X.env scope.names []) s3.heap.objs.size s3 (upd H2 ac (.lst [])) fp (X.pn ++ pins)) rfl rfl rfl hc i [] s6 _ H6 _ I6 (fpok fr6) st6 go) fun r s7 ⟨u,hr,h7⟩=>?_
   subst hr
   refine thn h7 fun _ s8 ⟨x,H8,I8,r8,y8,st8,fr8⟩=>?_
   have I8':=I8.pinned (fpok fr8) (T.obj _ _ st8)
   have fin:∀ {σ':St} {H':Hp} {s':Shared},Inv (cxComp X (ownN ++ caps.map (·.1)) scope (clo X.env scope.names []) s3.heap.objs.size s3 (upd H2 ac (.lst [])) fp (X.pn ++ pins)) ([] ++ pinsAt fp s8.heap) σ' H' s'→tn (i + 1) s'.heap∧∀ b∈fp,H' b=none:=fun {σ' H' s'} J =>
    ⟨T.keep _ _ _ st8 fun b hb o e=>(J.pin (b,o) (List.mem_append_right _ (List.mem_append_right _ (mem_pinsAt hb e)))).1,fun b hb=>by
     obtain ⟨o,e,_⟩:=T.obj _ _ st8 b hb
     exact (J.pin (b,o) (List.mem_append_right _ (List.mem_append_right _ (mem_pinsAt hb e)))).2.1⟩
   refine thn (hg _ _ _ _ _ _ _ s8 _ H8 x u _ I8' r8 (step x H8 y8)) fun _ s9 ⟨σ9,H9,I9,wk,q9⟩=>?_
   refine thn (ht _ _ _ _ _ _ _ s9 σ9 H9 _ I9 q9) fun b s10 ⟨H10,I10,q10⟩=>?_
   cases b with
   | false =>
    rw [if_neg Bool.false_ne_true] at q10 ⊢
    obtain ⟨m',hm',w'⟩:=hN _ _ q10
    obtain ⟨e1,e2⟩:=fin I10
    exact ⟨m',hm',i + 1,ys,H10,(I10.weak wk.len wk.get).unpinned,e1,e2,w'⟩
   | true =>
    rw [if_pos rfl] at q10 ⊢
    refine thn (he _ _ _ _ _ _ _ s10 σ9 H10 _ I10 q10) fun y s11 ⟨yv,H11,I11,r11,hl11,q11⟩=>?_
    obtain ⟨m',hm',w'⟩:=hN _ _ q11
    refine thn (mt_append (X:=cxComp X (ownN ++ caps.map (·.1)) scope (clo X.env scope.names []) s3.heap.objs.size s3 (upd H2 ac (.lst [])) fp (X.pn ++ pins)) (pinsAt fp s8.heap) s11 σ9 H11 (.ref ac) [yv] (.ref ac) [y] (fun v H'=>H'=upd H11 ac (.lst (ys ++ [yv]))) I11 rfl (.cons r11 .nil) ⟨ac,ys,yv,rfl,rfl,hl11,hsz,rfl⟩) fun _ s12 ⟨v12,H12,I12,_,e12⟩=>?_
    subst e12
    obtain ⟨e1,e2⟩:=fin I12
    exact ⟨m',hm',i + 1,_,_,(I12.weak wk.len wk.get).unpinned,e1,e2,w'⟩
 exact codeAny_compStart_list (loop _ rfl) (T.self _ 0 _ _ _ st4 (loop _ rfl))

theorem ps_setComp {i:Nat} {x:Str} {pos' spos:Pos} (hN:X.N.Nodup) (hix:X.N[i]?=some x) (hxl:Loc X.env.scope x) (ownN:List Str) (caps:List (Str × Nat)) (hc:X.calm=true) (hi:PI X tg iter wi)
  (hg:∀ cl C s H fp pn,PG (cxComp X (ownN ++ caps.map (·.1)) scope cl C s H fp pn) tg g)
  (ht:∀ cl C s H fp pn,PTs (cxComp X (ownN ++ caps.map (·.1)) scope cl C s H fp pn) ifs tt)
  (he:∀ cl C s H fp pn,PE (cxComp X (ownN ++ caps.map (·.1)) scope cl C s H fp pn) elt te)
  (hkind:scope.kind=.function:=by rfl) (hcell:∀ y∈scope.names,y.2≠.cell:=by decide)
  (hfr:(scope.names.all fun p=>p.2 != .free || X.env.scope.names.lookup p.1 == some .cell)=true:=by rfl)
  (hcp:(caps.all fun c=>X.N[c.2]? == some c.1 && (X.env.scope.names.lookup c.1 == some .cell && scope.names.lookup c.1 == some .free))=true:=by rfl)
  (hnames:∀ x∈scope.names,x.2=.local→scope.names.lookup x.1=some .local:=by decide)
  (hs:∀ x,foldedSetIterable iter X.env x=pure x:=by intro _;rfl)
  (hsw:swapsWith (.ListComp elt [⟨tg,iter,ifs,0⟩] scope pos) (some (.Name x pos')) spos.line X.env=pure true:=by rfl)
  (hf:X.fn x=true∨X.env.scope.names.lookup x=some .local:=by first | exact .inl rfl | exact .inr rfl | assumption) :
  PS X (.Assign [.Name x pos'] (.ListComp elt [⟨tg,iter,ifs,0⟩] scope pos) spos) (tAsg (tComp wi ownN.length (caps.map (·.2)) g tt te) (gName i)):=by
 intro pins s σ H D I h
 let Q:VK:=fun v H'=>D.nx (σ.set i (some v)) H'
 have hfree:∀ p∈scope.names,p.2=.free→X.env.scope.names.lookup p.1=some .cell:=fun p hp e=>by
  have z:=List.all_eq_true.mp hfr p hp
  rw [e] at z
  simpa using z
 have hcaps:∀ c∈caps,X.N[c.2]?=some c.1∧X.env.scope.names.lookup c.1=some .cell∧scope.names.lookup c.1=some .free:=fun c hc=>by
  have z:=List.all_eq_true.mp hcp c hc
  simpa using z
 have has:∀ p∈scope.names,p.2=.free→∃ a,X.env.cells.lookup p.1=some a:=fun p hp hfr=>I.ok.has p.1 (.inl (hfree p hp hfr))
 rw [exec_Assign_Name_used _ _ _ _ hsw]
 refine wpAny_bind (wpAny_standAt (wpAny_bind ?_))
 show wpAny _ X.A (do let _ ← comprehension (.ListComp elt [⟨tg,iter,ifs,0⟩] scope pos) scope X.env _ (newList []) false (eval iter X.env) (some (assign (.Name x pos') X.env))) _ _ s
 refine wpAny_bind (thn (Q:=fun _ s'=>∃ σ' H',Inv X pins σ' H' s'∧D.nx σ' H') (wpAny_comprehension_free (use:=some (assign (.Name x pos') X.env)) rfl hs (closureFor_clo has) hkind hnames (thn (hi pins s σ H _ I h) fun v s1 h1=>thn h1 fun itv s2 h2=>?_)) fun _ s' hq=>wpAny_pure (wpAny_pure hq))
 obtain ⟨it,fp,tn,J,H2,rfl,I2,T,st2,f2,red⟩:=h2
 have hf2:H2 s2.heap.objs.size=none:=I2.hok.fresh (Nat.le_refl _)
 obtain ⟨W,⟨m0,w0⟩,turn⟩:=red s2.heap.objs.size hf2
 refine wpAny_newObj_type ?_
 generalize hac:s2.heap.objs.size=ac at hf2 turn w0 ⊢
 have I3:Inv X pins σ (upd H2 ac (.lst [])) { s2 with heap:=s2.heap.push { cls:=.type "list", dict:=none,data:=.seq ([]:List Value).toArray } }:=by
  subst hac
  exact I2.laid (t':=s2.toks) (o:=.lst []) (fun b u e=>Heap.get?_push_of_some _ e) (Nat.le_refl _) ⟨Nat.zero_le _,[],0,.nil,Heap.get?_push_size _ rfl⟩
 generalize hs3:({ s2 with heap:=s2.heap.push { cls:=.type "list", dict:=none,data:=.seq ([]:List Value).toArray } }:Shared)=s3 at I3 ⊢
 have obj2:=T.obj 0 s2.heap st2
 have fne:∀ b∈fp,b≠ac:=fun b hb z=>by
  obtain ⟨o,e,_⟩:=obj2 b hb
  exact absurd (Heap.lt_size e) (by rw [z,hac];exact Nat.lt_irrefl _)
 have f3:∀ b∈fp,FpOk X pins (upd H2 ac (.lst [])) b:=fun b hb=>⟨by rw [upd_ne (fne b hb)];exact (f2 b hb).1,(f2 b hb).2⟩
 have st3:tn 0 s3.heap:=T.keep 0 _ _ st2 fun b hb o e=>by subst hs3;exact Heap.get?_push_of_some _ e
 have fl3:∀ b∈fp,b < s3.heap.objs.size:=fun b hb=>by
  obtain ⟨o,e,_⟩:=T.obj 0 s3.heap st3 b hb
  exact Heap.lt_size e
 have acl:ac < s3.heap.objs.size:=by subst hs3;subst hac;simp [Heap.size_push]
 refine wpAny_newFunctionEnv hcell (by intro y hy;simp at hy) (fun h₁ hns₁ hsb₁=>?_) hkind
 have old:∀ b o,s3.heap.get? b=some o→h₁.get? b=some o:=fun b o e=>hsb₁.extBut b o (Nat.ne_of_lt (Heap.lt_size e)) (Heap.get?_push_of_some _ e)
 have I4:=inv_comp (ownN:=ownN) (caps:=caps) (tk:=s3.toks + ([]:List (Str × Value)).length) I3 f3 fl3 hkind hcell hfree hcaps hns₁ old
 have st4:tn 0 h₁:=T.keep 0 _ _ st3 fun b hb o e=>old b o e
 -- behind the block
 have after:∀ (s5:Shared) (σ5:St) (H5:Hp),Inv (cxComp X (ownN ++ caps.map (·.1)) scope (clo X.env scope.names []) s3.heap.objs.size s3 (upd H2 ac (.lst [])) fp (X.pn ++ pins)) [] σ5 H5 s5→Q (.ref ac) H5 →
   compPost (model X.prog X.w) X.A X.xe (some (assign (.Name x pos') X.env)) (fun _ s'=>∃ σ' H',Inv X pins σ' H' s'∧D.nx σ' H') (.ref ac) s3.heap.objs.size (.ok .next) s5:=by
  intro s5 σ5 H5 J5 q
  obtain ⟨m,hm,_⟩:=J5.loc
  have nC:H5 s3.heap.objs.size=none:=J5.free
  have I5:Inv X pins σ H5 s5:=I3.call' (s':=s5) (ch:=fp) J5.os J5.base J5.hok J5.bare (fun b hb=>⟨(f3 b hb).2.2.2.1,(f3 b hb).2.1,(f3 b hb).2.2.2.2.1,(f3 b hb).2.2.2.2.2⟩)
  have fC:=I3.fpOk (Nat.le_refl _) nC
  show wpAny _ X.A (assign (.Name x pos') X.env (.ref ac)) _ _ s5
  refine wpAny_assign_Name (store_ok2 I5 hN hix hxl (v:=.ref ac) rfl (fun s6 I6 ⟨a,sb,ha⟩=>?_) hf)
  have aC:s3.heap.objs.size≠a:=by
   rcases ha with z | z
   ·rw [z];exact fC.2.1
   ·exact Ne.symm (fC.2.2.2.2.1 x a z)
  refine ⟨m,hm.sameBut sb aC,fun h' hs'=>?_⟩
  exact ⟨_,H5,I6.turned (it:=s3.heap.objs.size) (t':=s6.toks) (fun b o hb e=>hs'.extBut b o hb e) nC fC.2.1 fC.2.2.2.1 fC.2.2.2.2.1 fC.2.2.2.2.2,q⟩
 have loop:∀ s4:Shared,s4={ s3 with heap:=h₁,toks:=s3.toks + ([]:List (Str × Value)).length }→codeAny (model X.prog X.w) X.A (.compLoop (.ListComp elt [⟨tg,iter,ifs,0⟩] scope pos) 0 (.ref it) (.ref ac) (compEnvC scope (clo X.env scope.names []) s3.heap.objs.size X.env))
   (compPost (model X.prog X.w) X.A X.xe (some (assign (.Name x pos') X.env)) (fun _ s'=>∃ σ' H',Inv X pins σ' H' s'∧D.nx σ' H') (.ref ac) s3.heap.objs.size) s4:=by
  rintro s4 rfl
  refine compLoop_go (fun n s'=>∃ i ys H',Inv (cxComp X (ownN ++ caps.map (·.1)) scope (clo X.env scope.names []) s3.heap.objs.size s3 (upd H2 ac (.lst [])) fp (X.pn ++ pins)) [] (stC ownN.length (caps.map (·.2)) σ) H' s'∧tn i s'.heap∧(∀ b∈fp,H' b=none)∧W i n ys H') ?_ m0
   ⟨0,[],_,I4,st4,fun b hb=>(f3 b hb).1,w0⟩
  rintro n s6 ⟨i,ys,H6,I6,st6,fr6,w6⟩
  obtain ⟨hl6,alt⟩:=turn i n ys H6 w6
  have fpok:∀ {H':Hp},(∀ b∈fp,H' b=none)→∀ b∈fp,FpOk (cxComp X (ownN ++ caps.map (·.1)) scope (clo X.env scope.names []) s3.heap.objs.size s3 (upd H2 ac (.lst [])) fp (X.pn ++ pins)) [] H' b:=fun {H'} hn b hb =>
   ⟨hn b hb,Nat.ne_of_lt (fl3 b hb),I6.ok.exfs b hb,.inl hb,(I6.ok.exf b hb).2,fun p hp z=>(f3 b hb).2.2.2.2.2 p (by
    have hp':p∈(X.pn ++ pins) ++ []:=hp
    simpa using hp') z⟩
  rcases alt with ⟨stop,qn⟩ | ⟨go,hsz,N,hN,step⟩
  ·refine thn (T.done (cxComp X (ownN ++ caps.map (·.1)) scope (clo X.env scope.names []) s3.heap.objs.size s3 (upd H2 ac (.lst [])) fp (X.pn ++ pins)) rfl rfl rfl hc i [] s6 _ H6 _ I6 (fpok fr6) st6 stop) fun r s7 ⟨hr,I7⟩=>?_
   subst hr
   exact after s7 _ H6 I7 qn
  ·refine thn (T.item (cxComp X (ownN ++ caps.map (·.1)) scope (clo X.env scope.names []) s3.heap.objs.size s3 (upd H2 ac (.lst [])) fp (X.pn ++ pins)) rfl rfl rfl hc i [] s6 _ H6 _ I6 (fpok fr6) st6 go) fun r s7 ⟨u,hr,h7⟩=>?_
   subst hr
   refine thn h7 fun _ s8 ⟨xv,H8,I8,r8,y8,st8,fr8⟩=>?_
   have I8':=I8.pinned (fpok fr8) (T.obj _ _ st8)
   have fin:∀ {σ':St} {H':Hp} {s':Shared},Inv (cxComp X (ownN ++ caps.map (·.1)) scope (clo X.env scope.names []) s3.heap.objs.size s3 (upd H2 ac (.lst [])) fp (X.pn ++ pins)) ([] ++ pinsAt fp s8.heap) σ' H' s'→tn (i + 1) s'.heap∧∀ b∈fp,H' b=none:=fun {σ' H' s'} J =>
    ⟨T.keep _ _ _ st8 fun b hb o e=>(J.pin (b,o) (List.mem_append_right _ (List.mem_append_right _ (mem_pinsAt hb e)))).1,fun b hb=>by
     obtain ⟨o,e,_⟩:=T.obj _ _ st8 b hb
     exact (J.pin (b,o) (List.mem_append_right _ (List.mem_append_right _ (mem_pinsAt hb e)))).2.1⟩
   refine thn (hg _ _ _ _ _ _ _ s8 _ H8 xv u _ I8' r8 (step xv H8 y8)) fun _ s9 ⟨σ9,H9,I9,wk,q9⟩=>?_
   refine thn (ht _ _ _ _ _ _ _ s9 σ9 H9 _ I9 q9) fun b s10 ⟨H10,I10,q10⟩=>?_
   cases b with
   | false =>
    rw [if_neg Bool.false_ne_true] at q10 ⊢
    obtain ⟨m',hm',w'⟩:=hN _ _ q10
    obtain ⟨e1,e2⟩:=fin I10
    exact ⟨m',hm',i + 1,ys,H10,(I10.weak wk.len wk.get).unpinned,e1,e2,w'⟩
   | true =>
    rw [if_pos rfl] at q10 ⊢
    refine thn (he _ _ _ _ _ _ _ s10 σ9 H10 _ I10 q10) fun y s11 ⟨yv,H11,I11,r11,hl11,q11⟩=>?_
    obtain ⟨m',hm',w'⟩:=hN _ _ q11
    refine thn (mt_append (X:=cxComp X (ownN ++ caps.map (·.1)) scope (clo X.env scope.names []) s3.heap.objs.size s3 (upd H2 ac (.lst [])) fp (X.pn ++ pins)) (pinsAt fp s8.heap) s11 σ9 H11 (.ref ac) [yv] (.ref ac) [y] (fun v H'=>H'=upd H11 ac (.lst (ys ++ [yv]))) I11 rfl (.cons r11 .nil) ⟨ac,ys,yv,rfl,rfl,hl11,hsz,rfl⟩) fun _ s12 ⟨v12,H12,I12,_,e12⟩=>?_
    subst e12
    obtain ⟨e1,e2⟩:=fin I12
    exact ⟨m',hm',i + 1,_,_,(I12.weak wk.len wk.get).unpinned,e1,e2,w'⟩
 exact codeAny_compStart_list (loop _ rfl) (T.self _ 0 _ _ _ st4 (loop _ rfl))

theorem comp_range {lo:Int} {n own:Nat} {caps:List Nat} {g:TG} {tt:TT} {te:TE} {σ:St} {R:Hp→Prop} {l:Addr} {H1:Hp} (Pv:Nat→List V→Hp→Prop) (h0:Pv 0 [] (upd H1 l (.lst []))) (hz:n≤sizeLine)
  (hl:∀ i ys H,Pv i ys H→H l=some (.lst ys)∧ys.length≤i)
  (hs:∀ i ys H,i < n→Pv i ys H→g (.int (lo + i)) (stC own caps σ) H fun σ2 H2=>Wk (stC own caps σ) σ2 ∧
   tt σ2 H2 fun b H3=>if b=true then te σ2 H3 fun y H4=>H4 l=some (.lst ys)∧Pv (i + 1) (ys ++ [y]) (upd H4 l (.lst (ys ++ [y]))) else Pv (i + 1) ys H3)
  (hd:∀ ys H,Pv n ys H→R H) :
  ∃ W:Nat→Nat→List V→Hp→Prop,(∃ m,W 0 m [] (upd H1 l (.lst []))) ∧
   ∀ i m ys H,W i m ys H→H l=some (.lst ys)∧(((Itr lo n).stop i H∧R H)∨((Itr lo n).go i H∧ys.length < sizeLine∧∃ N:List V→Hp→Prop,(∀ ys' H',N ys' H'→∃ m',m' < m∧W (i + 1) m' ys' H') ∧
    ∀ x H',(Itr lo n).yld i H x H'→g x (stC own caps σ) H' fun σ2 H2=>Wk (stC own caps σ) σ2 ∧
    tt σ2 H2 fun b H3=>if b=true then te σ2 H3 fun y H4=>H4 l=some (.lst ys)∧N (ys ++ [y]) (upd H4 l (.lst (ys ++ [y]))) else N ys H3)):=by
 refine ⟨fun i m ys H=>m=n - i∧i≤n∧Pv i ys H,⟨n,by simp,Nat.zero_le _,h0⟩,?_⟩
 rintro i m ys H ⟨rfl,hi,p⟩
 obtain ⟨e1,e2⟩:=hl i ys H p
 refine ⟨e1,?_⟩
 by_cases hlt:i < n
 ·refine .inr ⟨hlt,by walk_at"q", Pv (i + 1),fun ys' H' p'=>⟨n - (i + 1),by walk_at"q", rfl,hlt,p'⟩,fun x H' y=>?_⟩
  obtain ⟨e,y⟩:=y
  subst e y
  exact hs i ys _ hlt p
 ·have e:i=n:=by walk_at"q"
  subst e
  exact .inl ⟨Nat.le_refl _,hd ys H p⟩
theorem comp_list {K:PySem.W.Frag} {a:Addr} {xs:List V} {own:Nat} {caps:List Nat} {g:TG} {tt:TT} {te:TE} {σ:St} {R:Hp→Prop} {l:Addr} {H1:Hp} (Pv:Nat→List V→Hp→Prop) (h0:Pv 0 [] (upd H1 l (.lst []))) (hz:xs.length≤sizeLine)
  (hl:∀ i ys H,i≤xs.length→Pv i ys H→SqL K H a xs∧H l=some (.lst ys)∧ys.length≤i)
  (hs:∀ i x ys H,xs[i]?=some x→Pv i ys H→g x (stC own caps σ) H fun σ2 H2=>Wk (stC own caps σ) σ2 ∧
   tt σ2 H2 fun b H3=>if b=true then te σ2 H3 fun y H4=>H4 l=some (.lst ys)∧Pv (i + 1) (ys ++ [y]) (upd H4 l (.lst (ys ++ [y]))) else Pv (i + 1) ys H3)
  (hd:∀ ys H,Pv xs.length ys H→R H) :
  ∃ W:Nat→Nat→List V→Hp→Prop,(∃ m,W 0 m [] (upd H1 l (.lst []))) ∧
   ∀ i m ys H,W i m ys H→H l=some (.lst ys)∧(((Itl K a).stop i H∧R H)∨((Itl K a).go i H∧ys.length < sizeLine∧∃ N:List V→Hp→Prop,(∀ ys' H',N ys' H'→∃ m',m' < m∧W (i + 1) m' ys' H') ∧
    ∀ x H',(Itl K a).yld i H x H'→g x (stC own caps σ) H' fun σ2 H2=>Wk (stC own caps σ) σ2 ∧
    tt σ2 H2 fun b H3=>if b=true then te σ2 H3 fun y H4=>H4 l=some (.lst ys)∧N (ys ++ [y]) (upd H4 l (.lst (ys ++ [y]))) else N ys H3)):=by
 refine ⟨fun i m ys H=>m=xs.length - i∧i≤xs.length∧Pv i ys H,⟨xs.length,by simp,Nat.zero_le _,h0⟩,?_⟩
 rintro i m ys H ⟨rfl,hi,p⟩
 obtain ⟨q,e1,e2⟩:=hl i ys H hi p
 refine ⟨e1,?_⟩
 by_cases hlt:i < xs.length
 ·refine .inr ⟨⟨xs,xs[i],q,by simp [hlt]⟩,by walk_at"q", Pv (i + 1),fun ys' H' p'=>⟨xs.length - (i + 1),by walk_at"q", rfl,hlt,p'⟩,fun x H' y=>?_⟩
  obtain ⟨e,y⟩:=y
  subst e
  exact hs i x ys _ (y xs q) p
 ·have e:i=xs.length:=by walk_at"q"
  subst e
  exact .inl ⟨⟨xs,q,Nat.le_refl _⟩,hd ys H p⟩
theorem comp_tup {K:PySem.W.Frag} {a:Addr} {xs:List V} {own:Nat} {caps:List Nat} {g:TG} {tt:TT} {te:TE} {σ:St} {R:Hp→Prop} {l:Addr} {H1:Hp} (Pv:Nat→List V→Hp→Prop) (h0:Pv 0 [] (upd H1 l (.lst []))) (hz:xs.length≤sizeLine)
  (hl:∀ i ys H,i≤xs.length→Pv i ys H→SqT K H a xs∧H l=some (.lst ys)∧ys.length≤i)
  (hs:∀ i x ys H,xs[i]?=some x→Pv i ys H→g x (stC own caps σ) H fun σ2 H2=>Wk (stC own caps σ) σ2 ∧
   tt σ2 H2 fun b H3=>if b=true then te σ2 H3 fun y H4=>H4 l=some (.lst ys)∧Pv (i + 1) (ys ++ [y]) (upd H4 l (.lst (ys ++ [y]))) else Pv (i + 1) ys H3)
  (hd:∀ ys H,Pv xs.length ys H→R H) :
  ∃ W:Nat→Nat→List V→Hp→Prop,(∃ m,W 0 m [] (upd H1 l (.lst []))) ∧
   ∀ i m ys H,W i m ys H→H l=some (.lst ys)∧(((Itt K a).stop i H∧R H)∨((Itt K a).go i H∧ys.length < sizeLine∧∃ N:List V→Hp→Prop,(∀ ys' H',N ys' H'→∃ m',m' < m∧W (i + 1) m' ys' H') ∧
    ∀ x H',(Itt K a).yld i H x H'→g x (stC own caps σ) H' fun σ2 H2=>Wk (stC own caps σ) σ2 ∧
    tt σ2 H2 fun b H3=>if b=true then te σ2 H3 fun y H4=>H4 l=some (.lst ys)∧N (ys ++ [y]) (upd H4 l (.lst (ys ++ [y]))) else N ys H3)):=by
 refine ⟨fun i m ys H=>m=xs.length - i∧i≤xs.length∧Pv i ys H,⟨xs.length,by simp,Nat.zero_le _,h0⟩,?_⟩
 rintro i m ys H ⟨rfl,hi,p⟩
 obtain ⟨q,e1,e2⟩:=hl i ys H hi p
 refine ⟨e1,?_⟩
 by_cases hlt:i < xs.length
 ·refine .inr ⟨⟨xs,xs[i],q,by simp [hlt]⟩,by walk_at"q", Pv (i + 1),fun ys' H' p'=>⟨xs.length - (i + 1),by walk_at"q", rfl,hlt,p'⟩,fun x H' y=>?_⟩
  obtain ⟨e,y⟩:=y
  subst e
  exact hs i x ys _ (y xs q) p
 ·have e:i=xs.length:=by walk_at"q"
  subst e
  exact .inl ⟨⟨xs,q,Nat.le_refl _⟩,hd ys H p⟩
end
end L2

namespace L2
open PySem PySem.Spec PyProof.Rows

section
variable {X:Cx}
def rEqL (K:PySem.W.Frag) (neg:Bool):R2:=fun x y H Q=>∃ (a b:Addr) (ns ms:List Int),x=.ref a∧y=.ref b∧SqL K H a (ns.map V.int)∧SqL K H b (ms.map V.int)∧Q (.bl (if neg then !decide (ns=ms) else decide (ns=ms))) H
theorem op_eqL (hu:X.A.units + 64 < cLine):OpR X (compareOp .Eq) (rEqL X.K false):=by
 intro pins s σ H x y v u Q I rx ry h
 obtain ⟨a,b,ns,ms,rfl,rfl,ha,hb,q⟩:=h
 cases rx
 cases ry
 obtain ⟨its,r1,p1,_⟩:=I.list ha
 obtain ⟨its2,r2,p2,_⟩:=I.list hb
 exact PySem.W.eq_intsK p1.isList (intsAre_of r1) p2.isList (intsAre_of r2) hu ⟨.bl _,H,I,rfl,q⟩
theorem op_neL (hu:X.A.units + 64 < cLine):OpR X (compareOp .NotEq) (rEqL X.K true):=by
 intro pins s σ H x y v u Q I rx ry h
 obtain ⟨a,b,ns,ms,rfl,rfl,ha,hb,q⟩:=h
 cases rx
 cases ry
 obtain ⟨its,r1,p1,_⟩:=I.list ha
 obtain ⟨its2,r2,p2,_⟩:=I.list hb
 exact PySem.W.ne_intsK p1.isList (intsAre_of r1) p2.isList (intsAre_of r2) hu ⟨.bl _,H,I,rfl,q⟩
def rEqNil (K:PySem.W.Frag):R2:=fun x y H Q=>∃ (a b:Addr) (xs:List V),x=.ref a∧y=.ref b∧SqL K H a xs∧SqL K H b []∧Q (.bl (decide (xs=[]))) H
theorem op_eqNil (hu:X.A.units < cLine):OpR X (compareOp .Eq) (rEqNil X.K):=by
 intro pins s σ H x y v u Q I rx ry h
 obtain ⟨a,b,xs,rfl,rfl,ha,hb,q⟩:=h
 cases rx
 cases ry
 obtain ⟨its,r1,p1,_⟩:=I.list ha
 obtain ⟨its2,r2,p2,_⟩:=I.list hb
 cases r2
 cases r1 with
 | nil=>exact SeqAt.eq_listAt (e:=fun _=>true) p1.isList p2.isList rfl hu (fun j h1 h2=>absurd h1 (by simp)) ⟨.bl true,H,I,rfl,by simpa using q⟩
 | cons r rr=>exact SeqAt.eq_list_lengthsAt p1.isList p2.isList (by simp) hu ⟨.bl false,H,I,rfl,by simpa using q⟩

inductive P_call_isinst (K:PySem.W.Frag) (xs:List V) (H:Hp) (Q:VK):Prop
 | mk (x:_) (T:_) (t:_) (b:_) (h1:xs=[x,.ty T]) (h2:TyOf K H x t) (h3:PySem.W.kitOne K t (.type T)=some b) (h4:Q (.bl b) H):P_call_isinst K xs H Q
theorem call_isinst:CallR X (.builtin "isinstance") (P_call_isinst X.K):=by
 intro pins s σ H xs us Q I r h
 obtain ⟨x,T,t,b,rfl,ty,e,q⟩:=h
 obtain ⟨u,v,rfl,ru,rv⟩:=r.two
 cases rv
 exact isinst_ok I ru ty e fun tk=>⟨.bl b,H,I.tok tk,rfl,q⟩

inductive P_call_allB (K:PySem.W.Frag) (xs:List V) (H:Hp) (Q:VK):Prop
 | mk (p:Addr) (bs:List Bool) (h1:xs=[.ref p]) (h2:SqL K H p (bs.map V.bl)) (h3:Q (.bl (bs.all id)) H):P_call_allB K xs H Q
theorem call_allB (hc:X.calm=true):CallR X (.builtin "all") (P_call_allB X.K):=by
 intro pins s σ H xs us Q I r h
 obtain ⟨p,bs,rfl,hp,q⟩:=h
 obtain ⟨u,rfl,ru⟩:=r.one
 cases ru
 obtain ⟨its,rv,pl,hz⟩:=I.list hp
 have lts:p < s.heap.objs.size:=by
  obtain ⟨o,n,e,_⟩:=pl
  exact Heap.lt_size e
 refine call_all_walk (wpAny_pyIter_list pl.isList ?_)
 refine ⟨_,_,_,_,_,_,fun i=>bs.getD i true,rfl,Walks.list (A:=X.A.in1) (I.ok.hd hc) s.heap.objs.size p (Nat.ne_of_lt lts) its.toArray,⟨⟨_,Heap.get?_push_size _ rfl,rfl,rfl⟩,?_⟩,?_,fun h' tk hk=>?_⟩
 ·obtain ⟨o,n,e,c,d,e2⟩:=pl
  exact ⟨o,Heap.get?_push_of_some _ e,c,n,e2⟩
 ·intro i v s' Q' E' hP hQ
  have hi:its[i]?=some v:=by simpa using hP
  have hl:=rv.length
  cases e:bs[i]? with
  | none =>
   have h1:its.length≤i:=by
    have:=List.getElem?_eq_none_iff.mp e
    rw [← hl,List.length_map];exact this
   rw [List.getElem?_eq_none_iff.mpr h1] at hi;cases hi
  | some b =>
   have e':(bs.map V.bl)[i]?=some (.bl b):=by rw [List.getElem?_map,e];rfl
   obtain ⟨u,hu,ru⟩:=rv.get e'
   rw [hi] at hu;cases hu
   cases ru
   have eg:bs.getD i true=b:=by simp [List.getD,e]
   have hQ2:Q' (bs.getD i true) s':=hQ
   rw [eg] at hQ2
   exact wpAny_truthy_bool hQ2
 ·have hl:its.toArray.size=bs.length:=by
   have:=rv.length
   rw [List.length_map] at this
   simp [this]
  have e:(List.range its.toArray.size).all (fun i=>bs.getD i true)=bs.all id:=by
   rw [hl]
   clear q hl rv hp hk
   rw [Bool.eq_iff_iff,List.all_eq_true,List.all_eq_true]
   constructor
   ·intro h b hb
    obtain ⟨i,hi,rfl⟩:=List.mem_iff_getElem.mp hb
    have:=h i (by simpa using hi)
    simpa [List.getD,hi] using this
   ·intro h i hi
    have hi':i < bs.length:=by simpa using hi
    have:=h bs[i] (List.getElem_mem hi')
    simpa [List.getD,hi'] using this
  refine ⟨.bl (bs.all id),H,?_,congrArg Value.bool e,q⟩
  ·exact I.kept (t':=tk) fun b o e=>hk b o (by
    intro z
    have:b=s.heap.objs.size:=by simpa using z
    exact absurd (Heap.lt_size e) (by rw [this];exact Nat.lt_irrefl _)) (Heap.get?_push_of_some _ e)

def IsMax (ns:List Int) (m:Int):Prop:=m∈ns∧∀ a∈ns,a≤m
theorem mx_turns {P:Program} {w:World} {A:Around} {R:Result→Shared→Prop} {it l B:Addr} {vals:List Value} {ns:List Int} {kw:List (Str × Value)} (hh:A.handled=none) (hi:IntsAre vals ns) (h1:l≠it) (h2:B≠it) (h3:B≠l) :
  ∀ (k j:Nat) (s:Shared) (m:Int) (t:Tok) (c:Nat),ns.length - j=k→j≤ns.length→s.heap.IsListIter it l j→s.heap.IsList l vals.toArray→IsMax (ns.take j) m →
   s.heap.get? B=some { cls:=.type "list", dict:=none,data:=.seq #[.int m t,.int m t] c,slots:=#[] } →
   (∀ (m':Int) (t':Tok) h' tk,IsMax ns m'→(∀ b o,b≠it→b≠B→s.heap.get? b=some o→h'.get? b=some o)→R (.ok (.ret (.int m' t'))) { s with heap:=h',toks:=tk }) →
   codeAny (model P w) A (.builtin "max.loop" ⟨[.ref it,.none,.ref B],kw⟩) R s:=by
 have nm:(toString "max" ++ toString ".loop" : String) = "max.loop" := by decide
 have hlen:=hi.length
 intro k
 induction k with
 | zero =>
  intro j s m t c hk hj st sl im hB done
  have ej:j=ns.length:=by walk_at"q"
  subst ej
  refine codeAny_builtin F.entry_max_loop ?_
  rw [Around.under_plainId F.plain_max_loop _]
  show wpAny (model P w) A.in1 (seqItems? (.ref B) >>= _) _ _ s
  refine wpAny_bind (wpAny_seqItems hB rfl ?_)
  show wpAny (model P w) A.in1 (tryCatch (pyNext (.ref it)) _ >>= _) _ _ s
  refine wpAny_bind (wpAny_tryCatch (wpAny_pyNext_list_end hh st sl (by simp;walk_at"q") fun h' ek=>?_))
  have hB':=ek B _ h2 hB
  show wpAny (model P w) A.in1 (updateSeq B (fun _=>#[]) >>= _) _ _ _
  refine wpAny_bind (wpAny_updateSeq hB' rfl (wpAny_bind (wpAny_letGo (wpAny_pure ?_))))
  rw [List.take_length] at im
  exact done m t _ s.toks im fun b o n1 n2 e=>(Heap.get?_update_other _ _ (Ne.symm n2)).trans (ek b o n1 e)
 | succ k ih =>
  intro j s m t c hk hj st sl im hB done
  have lt:j < ns.length:=by walk_at"q"
  obtain ⟨t2,e2⟩:∃ t2,vals[j]?=some (.int ns[j] t2):=by
   have e1:(ns.map V.int)[j]?=some (.int ns[j]):=by rw [List.getElem?_map];simp [lt]
   obtain ⟨u,hu,t2,rfl⟩:=(vals_ints hi).get e1
   exact ⟨t2,hu⟩
  refine codeAny_builtin F.entry_max_loop ?_
  rw [Around.under_plainId F.plain_max_loop _]
  show wpAny (model P w) A.in1 (seqItems? (.ref B) >>= _) _ _ s
  refine wpAny_bind (wpAny_seqItems hB rfl ?_)
  show wpAny (model P w) A.in1 (tryCatch (pyNext (.ref it)) _ >>= _) _ _ s
  refine wpAny_bind (wpAny_tryCatch (wpAny_pyNext_list_item st sl (x:=.int ns[j] t2) (by simpa using e2) fun h' st' sb=>?_))
  have keep:∀ b o,b≠it→s.heap.get? b=some o→h'.get? b=some o:=fun b o n e=>(sb.2 b n).trans e
  have hB':=keep B _ h2 hB
  have sl':h'.IsList l vals.toArray:=sl.at fun o e=>keep l o h1 e
  show wpAny (model P w) A.in1 (tryCatch (holding [Value.int ns[j] t2,Value.int ns[j] t2] (richCompare .Gt (Value.int ns[j] t2) (Value.int m t) >>= _)) _ >>= _) _ _ _
  refine wpAny_bind (wpAny_tryCatch (wpAny_holding (wpAny_bind (gt_int (show _ from ?_)))))
  refine wpAny_bind (wpAny_holding (wpAny_truthy_bool ?_))
  refine wpAny_bind (wpAny_letGo (wpAny_pure ?_))
  have tk1:ns.take (j + 1)=ns.take j ++ [ns[j]]:=by rw [List.take_add_one];simp [lt]
  by_cases hb:m < ns[j]
  ·rw [decide_eq_true hb]
   simp only [if_true]
   refine wpAny_bind (wpAny_updateSeq hB' rfl (wpAny_bind (wpAny_letGo ?_)))
   rw [nm]
   refine wpAny_pure ⟨plainId_quiet F.plain_max_loop _,ih (j + 1) _ ns[j] t2 _ (by walk_at"q") lt ?_ ?_ ?_ (Heap.get?_update_self _ hB' rfl) fun m' t' h'' tk im' kk=>?_⟩
   ·exact st'.at fun o e=>(Heap.get?_update_other _ _ h2).trans e
   ·exact sl'.at fun o e=>(Heap.get?_update_other _ _ h3).trans e
   ·rw [tk1]
    exact ⟨List.mem_append_right _ (List.mem_singleton.mpr rfl),fun a ha=>by
     rcases List.mem_append.mp ha with q | q
     ·have:=im.2 a q;walk_at"q"
     ·have:a=ns[j]:=by simpa using q
      walk_at"q"⟩
   ·exact done m' t' h'' tk im' fun b o n1 n2 e=>kk b o n1 n2 ((Heap.get?_update_other _ _ (Ne.symm n2)).trans (keep b o n1 e))
  ·rw [decide_eq_false hb]
   simp only [Bool.false_eq_true,if_false]
   refine wpAny_bind (wpAny_letGo ?_)
   rw [nm]
   refine wpAny_pure ⟨plainId_quiet F.plain_max_loop _,ih (j + 1) _ m t c (by walk_at"q") lt st' sl' ?_ hB' fun m' t' h'' tk im' kk=>?_⟩
   ·rw [tk1]
    exact ⟨List.mem_append_left _ im.1,fun a ha=>by
     rcases List.mem_append.mp ha with q | q
     ·exact im.2 a q
     ·have:a=ns[j]:=by simpa using q
      walk_at"q"⟩
   ·exact done m' t' h'' tk im' fun b o n1 n2 e=>kk b o n1 n2 (keep b o n1 e)
theorem mx_first {P:Program} {w:World} {A:Around} {R:Result→Shared→Prop} {it l B:Addr} {vals:List Value} {ns:List Int} {d:Value} {s:Shared} {c:Nat} (hh:A.handled=none) (hi:IntsAre vals ns) (h1:l≠it) (h2:B≠it) (h3:B≠l)
  (st:s.heap.IsListIter it l 0) (sl:s.heap.IsList l vals.toArray) (hB:s.heap.get? B=some { cls:=.type "list", dict:=none,data:=.seq #[] c,slots:=#[] })
  (nil:ns=[]→∀ h',(∀ b o,b≠it→b≠B→s.heap.get? b=some o→h'.get? b=some o)→R (.ok (.ret d)) { s with heap:=h' })
  (done:ns≠[]→∀ (m':Int) (t':Tok) h' tk,IsMax ns m'→(∀ b o,b≠it→b≠B→s.heap.get? b=some o→h'.get? b=some o)→R (.ok (.ret (.int m' t'))) { s with heap:=h',toks:=tk }) :
  codeAny (model P w) A (.builtin "max.loop" ⟨[.ref it,.none,.ref B],[("default", d)]⟩) R s:=by
 have nm:(toString "max" ++ toString ".loop" : String) = "max.loop" := by decide
 have hlen:=hi.length
 refine codeAny_builtin F.entry_max_loop ?_
 rw [Around.under_plainId F.plain_max_loop _]
 show wpAny (model P w) A.in1 (seqItems? (.ref B) >>= _) _ _ s
 refine wpAny_bind (wpAny_seqItems hB rfl ?_)
 show wpAny (model P w) A.in1 (tryCatch (pyNext (.ref it)) _ >>= _) _ _ s
 cases ns with
 | nil =>
  refine wpAny_bind (wpAny_tryCatch (wpAny_pyNext_list_end hh st sl (by simpa using hlen) fun h' ek=>?_))
  refine wpAny_bind (wpAny_rule (wpAny_pure ?_))
  exact nil rfl h' fun b o n1 n2 e=>ek b o n1 e
 | cons n0 rest =>
  obtain ⟨t2,e2⟩:∃ t2,vals[0]?=some (.int n0 t2):=by
   have e1:((n0 :: rest).map V.int)[0]?=some (.int n0):=rfl
   obtain ⟨u,hu,t2,rfl⟩:=(vals_ints hi).get e1
   exact ⟨t2,hu⟩
  refine wpAny_bind (wpAny_tryCatch (wpAny_pyNext_list_item st sl (x:=.int n0 t2) (by simpa using e2) fun h' st' sb=>?_))
  have keep:∀ b o,b≠it→s.heap.get? b=some o→h'.get? b=some o:=fun b o n e=>(sb.2 b n).trans e
  have hB':=keep B _ h2 hB
  show wpAny (model P w) A.in1 (updateSeq B (fun _=>#[Value.int n0 t2,Value.int n0 t2]) >>= _) _ _ _
  refine wpAny_bind (wpAny_updateSeq hB' rfl ?_)
  rw [nm]
  refine wpAny_pure ⟨plainId_quiet F.plain_max_loop _,mx_turns hh hi h1 h2 h3 _ 1 _ n0 t2 _ rfl (by simp) ?_ ?_ ?_ (Heap.get?_update_self _ hB' rfl) fun m' t' h'' tk im' kk=>?_⟩
  ·exact st'.at fun o e=>(Heap.get?_update_other _ _ h2).trans e
  ·exact (sl.at fun o e=>keep l o h1 e).at fun o e=>(Heap.get?_update_other _ _ h3).trans e
  ·exact ⟨by simp,fun a ha=>by
    have:a=n0:=by simpa using ha
    walk_at"q"⟩
  ·exact done (by simp) m' t' h'' tk im' fun b o n1 n2 e=>kk b o n1 n2 ((Heap.get?_update_other _ _ (Ne.symm n2)).trans (keep b o n1 e))
theorem args_maxd (a v:Value):argsOk "max" ⟨[a],[(Str.ofString "default", v)]⟩:=by unfold argsOk;kernel_rfl
theorem call_maxD {P:Program} {w:World} {A:Around} {E Q:Value→Shared→Prop} {l:Addr} {vals:List Value} {ns:List Int} {d:Value} {s:Shared} (hh:A.handled=none) (hi:IntsAre vals ns) (sl:s.heap.IsList l vals.toArray)
  (nil:ns=[]→∀ h',(∀ b o,s.heap.get? b=some o→h'.get? b=some o)→Q d { s with heap:=h' })
  (done:ns≠[]→∀ (m':Int) (t':Tok) h' tk,IsMax ns m'→(∀ b o,s.heap.get? b=some o→h'.get? b=some o)→Q (.int m' t') { s with heap:=h',toks:=tk }) :
  wpAny (model P w) A (call (.builtin "max") [.ref l] [(Str.ofString "default", d)]) Q E s:=by
 have nm:(toString "max" ++ toString ".loop" : String) = "max.loop" := by decide
 have ll:l < s.heap.objs.size:=by
  obtain ⟨o,e,_⟩:=sl
  exact Heap.lt_size e
 refine kmk_tree F.kind_max F.plain_max F.entry_max (args_maxd _ _) ?_
 show wpAny (model P w) A.in1 (Builtin.Builtins.bindParams "max" ["key", "default"] 0 ⟨[],[(Str.ofString "default", d)]⟩ >>= _) _ _ s
 refine wpAny_bind (wpAny_of_eq (show Builtin.Builtins.bindParams "max" ["key", "default"] 0 ⟨[],[(Str.ofString "default", d)]⟩=pure [none,some d] from rfl) ?_)
 refine wpAny_bind (wpAny_pure ?_)
 refine wpAny_bind (wpAny_pyIter_list sl ?_)
 refine wpAny_bind (wpAny_newObj_type ?_)
 rw [nm]
 have grow:∀ b o,s.heap.get? b=some o→((s.heap.push { cls:=.type "list_iterator", data:=.fields #[.ref l,.int 0 0] }).push { cls:=.type "list", dict:=none,data:=.seq ([]:List Value).toArray }).get? b=some o:=fun b o e =>
  Heap.get?_push_of_some _ (Heap.get?_push_of_some _ e)
 have z:(s.heap.push { cls:=.type "list_iterator", data:=.fields #[.ref l,.int 0 0] }).objs.size=s.heap.objs.size + 1:=Heap.size_push ..
 refine wpAny_pure ⟨plainId_quiet F.plain_max_loop _,mx_first (l:=l) (B:=(s.heap.push { cls:=.type "list_iterator", data:=.fields #[.ref l,.int 0 0] }).objs.size) hh hi (Nat.ne_of_lt ll) (by rw [z];exact Nat.succ_ne_self _) (by rw [z];exact Nat.ne_of_gt (Nat.lt_succ_of_lt ll)) ?_ (sl.at fun o e=>grow l o e) (Heap.get?_push_size _ rfl) (fun e h' kk=>?_) fun e m' t' h' tk im kk=>?_⟩
 ·exact ⟨_,Heap.get?_push_of_some _ (Heap.get?_push_size _ rfl),rfl,rfl⟩
 ·exact nil e h' fun b o q=>kk b o (Nat.ne_of_lt (Heap.lt_size q)) (by rw [z];exact Nat.ne_of_lt (Nat.lt_succ_of_lt (Heap.lt_size q))) (grow b o q)
 ·exact done e m' t' h' tk im fun b o q=>kk b o (Nat.ne_of_lt (Heap.lt_size q)) (by rw [z];exact Nat.ne_of_lt (Nat.lt_succ_of_lt (Heap.lt_size q))) (grow b o q)
def tMaxD (K:PySem.W.Frag) (te td:TE):TE:=fun σ H Q=>te σ H fun x H1=>td σ H1 fun d H2=>∃ (l:Addr) (ns:List Int),x=.ref l∧SqL K H2 l (ns.map V.int)∧(ns=[]→Q d H2)∧∀ m,IsMax ns m→Q (.int m) H2
theorem pe_maxD {e d:Expr} {te td:TE} {p pos kp:Pos} (hc:X.calm=true) (hg:Gl X "max") (hm:X.mg "max" = none) (he:PE X e te) (hd:PE X d td)
  (hst:starEach [e] X.env=[(false,eval e X.env)]:=by rfl):PE X (.Call (.Name "max" p) [e] [⟨some "default", d,kp⟩] pos) (tMaxD X.K te td):=by
 intro pins s σ H Q I h
 refine wpAny_Call_Name_kw (ld_blt I hg hm PyProof.Rows.boot_max ?_)
 rw [hst]
 refine PyProof.Rows.callWith_builtin_kwB rfl rfl (PyProof.Rows.evalArgs_kwB rfl ?_)
 refine Calls.spliced_cons (thn (he pins s σ H _ I h) fun u s1 ⟨x,H1,I1,r1,q1⟩=>Calls.spliced_nil ?_)
 refine PyProof.Rows.kws_cons (thn (hd pins s1 σ H1 _ I1 q1) fun dv s2 ⟨dx,H2,I2,r2,q2⟩=>PyProof.Rows.kws_nil ?_)
 obtain ⟨l,ns,rfl,hl,qn,qm⟩:=q2
 cases r1
 obtain ⟨its,rv,pl,hz⟩:=I2.list hl
 exact call_maxD (I2.ok.hd hc) (intsAre_of rv) pl.isList (fun e h' kk=>⟨dx,H2,I2.kept (t':=s2.toks) kk,r2,qn e⟩) fun e m' t' h' tk im kk=>⟨.int m',H2,I2.kept (t':=tk) kk,⟨_,rfl⟩,qm m' im⟩
end
end L2

namespace L2
open PySem PySem.Spec PyProof.Rows

structure Callee (P:Program) (w:World) (K:PySem.W.Frag) (mg:Str→Option Value) (base:Heap) (x:Str) (k:Nat) (ps:List Str) (sp:Sp):Prop where
 ex:∃ (f:Addr) (fd:FuncData),FnOk P w K mg base CX0 k f fd ps sp∧Binds K fd ps []∧PySem.W.keepIn K (.ref f)=true∧mg x=some (.ref f)
theorem Callee.mono {P:Program} {w:World} {K:PySem.W.Frag} {mg:Str→Option Value} {base:Heap} {x:Str} {k j:Nat} {ps:List Str} {sp:Sp} (C:Callee P w K mg base x k ps sp) (h:k≤j):Callee P w K mg base x j ps sp :=
 let ⟨f,fd,a,b,c,d⟩:=C.ex
 ⟨f,fd,a.mono h,b,c,d⟩
theorem Callee.imp {P:Program} {w:World} {K:PySem.W.Frag} {mg:Str→Option Value} {base:Heap} {x:Str} {k:Nat} {ps:List Str} {sp sp':Sp} (C:Callee P w K mg base x k ps sp) (h:∀ vs H Q E,sp' vs H Q E→sp vs H Q E):Callee P w K mg base x k ps sp' :=
 let ⟨f,fd,a,b,c,d⟩:=C.ex
 ⟨f,fd,a.imp h,b,c,d⟩
theorem pe_callC {X:Cx} {x:Str} {k:Nat} {ps:List Str} {sp:Sp} {e:Expr} {es:List Expr} {t:TA} {p pos:Pos} (C:Callee X.prog X.w X.K X.mg X.base x k ps sp) (hr:Room k X.A) (hg:Gl X x) (ha:PA X (e :: es) t)
  (hdb:(x == ("__debug__" : Str))=false:=by decide) (he:starEach (e :: es) X.env=(false,eval e X.env) :: starEach es X.env:=by rfl) (hpl:(backTo pos (starEach es X.env)).any (·.1)=false:=by rfl) :
  PE X (.Call (.Name x p) (e :: es) [] pos) (tCall sp [] E0 t):=by
 obtain ⟨f,fd,F,hb,hk,hm⟩:=C.ex
 exact pe_call F hr hg hm hk hb .nil pass0 ha hdb he hpl
structure Here (K:PySem.W.Frag) (mg:Str→Option Value) (x:Str) (st:Stmt) (f:Addr) (fd:FuncData):Prop where
 fn:Fun K x x st f fd
 at_:mg x=some (.ref f)
theorem Here.callee {P:Program} {w:World} {K:PySem.W.Frag} {mg:Str→Option Value} {base:Heap} {x:Str} {st:Stmt} {f:Addr} {fd:FuncData} {k:Nat} {ps:List Str} {sp:Sp} (h:Here K mg x st f fd) (F:FnOk P w K mg base CX0 k f fd ps sp)
  (hb:∀ (kV doc pm:Value) (an:Option Addr) (cdv ct:Value) (us:List Value),us.length=ps.length→bindArgs (PySem.W.fnOf x x (defArgs st) (defBody st) (defScope st) .none kV doc pm an cdv ct) ⟨us,[]⟩=pure (ps.zip us)):Callee P w K mg base x k ps sp :=
 ⟨f,fd,F,h.fn.binds hb,h.fn.kp,h.at_⟩

theorem boot_intT:bootBuiltins "int" = some (.type "int"):=by decide +kernel
theorem boot_listT:bootBuiltins "list" = some (.type "list"):=by decide +kernel
theorem boot_tupleT:bootBuiltins "tuple" = some (.type "tuple"):=by decide +kernel
theorem boot_isinstance:bootBuiltins "isinstance" = some (.builtin "isinstance"):=by decide +kernel
theorem boot_all:bootBuiltins "all" = some (.builtin "all"):=by decide +kernel

inductive P_call_maxL (K:PySem.W.Frag) (xs:List V) (H:Hp) (Q:VK):Prop
 | mk (p:Addr) (ns:List Int) (h1:xs=[.ref p]) (h2:SqL K H p (ns.map V.int)) (h3:ns≠[]) (h4:∀ m,IsMax ns m→Q (.int m) H):P_call_maxL K xs H Q
theorem call_maxL {X:Cx} (hc:X.calm=true):CallR X (.builtin "max") (P_call_maxL X.K):=by
 intro pins s σ H xs us Q I r h
 obtain ⟨p,ns,rfl,hp,ne,q⟩:=h
 obtain ⟨u,rfl,ru⟩:=r.one
 cases ru
 obtain ⟨its,rv,pl,hz⟩:=I.list hp
 have hi:IntsAre its ns:=intsAre_of rv
 have pos:0 < ns.length:=List.length_pos_iff.mpr ne
 have hlI:=pl.isList
 obtain ⟨ys,ey⟩:=hi.allInts.items
 have en:ns=ys.toList.map (·.1):=by rw [← hi.numsOf,← nums_intItems,← ey]
 have el:ns.length=ys.size:=by rw [en];simp
 rw [ey] at hlI
 refine max_intList (I.ok.hd hc) hlI (by walk_at"q") fun v h' tk hv hk=>?_
 obtain ⟨t,rfl⟩:=intItems_at hv
 obtain ⟨b1,b2⟩:=argBest_gt (numAt ys) (ys.size - 1)
 refine ⟨.int _,H,I.kept (t':=tk) hk,⟨t,rfl⟩,q _ ⟨?_,fun a ha=>?_⟩⟩
 ·rw [en,numAt_eq]
  exact getD_mem (by rw [List.length_map];rw [Array.length_toList];walk_at"q")
 ·rw [en] at ha
  obtain ⟨j,hj,rfl⟩:=mem_getD ha
  rw [← numAt_eq]
  exact b2 j (by simp at hj;walk_at"q")

section
variable {X:Cx} (K:PySem.W.Frag) (hK:X.K=K)
include hK
theorem ix_listK:IxR X (rIxL K):=by subst hK;exact ix_list
theorem ix_tupK:IxR X (rIxT K):=by subst hK;exact ix_tup
theorem op_in_seqK:OpR X (compareOp .In) (rIn K false):=by subst hK;exact op_in_seq
theorem pg_tupK {es:List Expr} {k:Nat} {t:TGs} {n:Nat} {pos:Pos} (hc:X.calm=true) (h:PGs X es t)
  (hn:(assignEach es X.env).length=n:=by rfl) (hst:(assignEach es X.env).findIdx? (·.1)=none:=by rfl):PG X (.Tuple es k pos) (gTup K n t):=by subst hK;exact pg_tup hc h hn hst
end

theorem same_new {H:Hp} {p:Addr} (h:H p=none) (o:HO):Same H (upd H p o):=fun b u q=>by rw [upd_ne (ne_of_none q h)];exact q
def Kp (m:Addr) (H H':Hp):Prop:=∀ b o,H b=some o→b≠m→H' b=some o
theorem Kp.refl (m:Addr) (H:Hp):Kp m H H:=fun _ _ h _=>h
theorem Kp.trans {m:Addr} {H H1 H2:Hp} (a:Kp m H H1) (b:Kp m H1 H2):Kp m H H2:=fun c o h n=>b c o (a c o h n) n
theorem Kp.same {m:Addr} {H H':Hp} (h:Same H H'):Kp m H H':=fun b o e _=>h b o e
theorem Kp.upd {m:Addr} {H:Hp} {o:HO}:Kp m H (upd H m o):=fun b u e n=>by rw [upd_ne n];exact e
theorem Kp.tup {m:Addr} {H H':Hp} {xs ys:List V} (k:Kp m H H') (hm:H m=some (.lst xs)) {b:Addr} (h:H b=some (.tup ys)):H' b=some (.tup ys) :=
 k b _ h (ne_of h hm (by intro z;cases z))
def Pen (H:Hp) (p:Addr):Prop:=∃ a b c:Int,H p=some (.lst [.int a,.int b,.int c])
def Refs (H:Hp):List V→List (Int × Int)→Prop:=Paired fun r w=>∃ t,r=.ref t∧H t=some (.tup [.int w.1,.int w.2])
theorem Refs.mono {H H':Hp} (k:∀ b xs,H b=some (.tup xs)→H' b=some (.tup xs)):∀ {rs:List V} {ws:List (Int × Int)},Refs H rs ws→Refs H' rs ws
 | _,_,.nil=>.nil
 | _,_,.cons ⟨t,e,h⟩ r=>.cons ⟨t,e,k t _ h⟩ (Refs.mono k r)
theorem Refs.same {H H':Hp} (k:Same H H') {rs:List V} {ws:List (Int × Int)} (h:Refs H rs ws):Refs H' rs ws:=h.mono fun b xs e=>k b _ e
theorem Refs.kp {m:Addr} {H H':Hp} {xs:List V} (k:Kp m H H') (hm:H m=some (.lst xs)) {rs:List V} {ws:List (Int × Int)} (h:Refs H rs ws):Refs H' rs ws:=h.mono fun b xs e=>k.tup hm e
theorem Refs.len {H:Hp} {rs:List V} {ws:List (Int × Int)} (h:Refs H rs ws):rs.length=ws.length:=Paired.length h
theorem Refs.app {H:Hp}:∀ {rs qs:List V} {ws us:List (Int × Int)},Refs H rs ws→Refs H qs us→Refs H (rs ++ qs) (ws ++ us)
 | _,_,_,_,.nil,s=>s
 | _,_,_,_,.cons r t,s=>.cons r (Refs.app t s)
theorem Refs.get {H:Hp}:∀ {rs:List V} {ws:List (Int × Int)} {i:Nat} {r:V},Refs H rs ws→rs[i]?=some r→∃ w t,ws[i]?=some w∧r=.ref t∧H t=some (.tup [.int w.1,.int w.2])
 | _,_,_,_,.nil,e=>by simp at e
 | _,_,0,_,.cons ⟨t,e1,h⟩ _,e=>by simp at e;subst e;exact ⟨_,t,rfl,e1,h⟩
 | _,_,i + 1,r,.cons _ q,e=>by
  obtain ⟨w,t,a,b⟩:=Refs.get (i:=i) (r:=r) q (by simpa using e)
  exact ⟨w,t,by simpa using a,b⟩
theorem Refs.take {H:Hp}:∀ {rs:List V} {ws:List (Int × Int)} (n:Nat),Refs H rs ws→Refs H (rs.take n) (ws.take n)
 | _,_,0,_=>.nil
 | _,_,_ + 1,.nil=>.nil
 | _,_,n + 1,.cons r t=>.cons r (Refs.take n t)
theorem Refs.drop {H:Hp}:∀ {rs:List V} {ws:List (Int × Int)} (n:Nat),Refs H rs ws→Refs H (rs.drop n) (ws.drop n)
 | _,_,0,r=>r
 | _,_,_ + 1,.nil=>.nil
 | _,_,n + 1,.cons _ t=>Refs.drop n t
theorem Refs.rep {H:Hp} {rs:List V} {ws:List (Int × Int)} (h:Refs H rs ws):∀ k:Nat,Refs H (List.replicate k rs).flatten (List.replicate k ws).flatten
 | 0=>.nil
 | k + 1=>by
  rw [List.replicate_succ,List.replicate_succ,List.flatten_cons,List.flatten_cons]
  exact h.app (Refs.rep h k)
def WsL (H:Hp) (l:Addr) (ws:List (Int × Int)):Prop:=∃ rs,H l=some (.lst rs)∧Refs H rs ws
theorem WsL.same {H H':Hp} (k:Same H H') {l:Addr} {ws:List (Int × Int)} (h:WsL H l ws):WsL H' l ws:=let ⟨rs,a,b⟩:=h;⟨rs,k l _ a,b.same k⟩
def WOk (wide:Int) (ws:List (Int × Int)):Prop:=∀ w∈ws,0≤w.1∧w.1 < wide∧0≤w.2∧w.2 < wide∧w.1≠w.2
theorem WOk.nil {wide:Int}:WOk wide []:=fun _ h=>nomatch h
theorem WOk.app {wide:Int} {a b:List (Int × Int)} (x:WOk wide a) (y:WOk wide b):WOk wide (a ++ b):=fun w h=>(List.mem_append.mp h).elim (x w) (y w)
theorem WOk.take {wide:Int} {a:List (Int × Int)} (x:WOk wide a) (n:Nat):WOk wide (a.take n):=fun w h=>x w (List.mem_of_mem_take h)
theorem WOk.one {wide a b:Int} (h:0≤a∧a < wide∧0≤b∧b < wide∧a≠b):WOk wide [(a,b)]:=fun w hw=>by
 have:w=(a,b):=by simpa using hw
 subst this
 exact h
def Net (H:Hp) (v:V) (wide:Int) (ws:List (Int × Int)):Prop:=∃ n t rs,v=.ref n∧H n=some (.tup [.int wide,.ref t])∧H t=some (.tup rs)∧Refs H rs ws
theorem Net.mono {H H':Hp} (k:∀ b xs,H b=some (.tup xs)→H' b=some (.tup xs)) {v:V} {wide:Int} {ws:List (Int × Int)} (h:Net H v wide ws):Net H' v wide ws :=
 let ⟨n,t,rs,a,b,c,d⟩:=h
 ⟨n,t,rs,a,k _ _ b,k _ _ c,d.mono k⟩
theorem lenLine {n:Nat} (h:n≤100000):n≤sizeLine:=Nat.le_trans h (by rw [sizeLine_eq];decide)
theorem lenLt {n:Nat} (h:n < 100000):n < sizeLine:=Nat.lt_of_lt_of_le h (by rw [sizeLine_eq];decide)
theorem not_dec {c:Prop} [Decidable c] (h:¬ decide c=true):¬ c:=fun z=>h (decide_eq_true z)
end L2

namespace Ep
open PySem L2
structure Bn (mg:Str→Option Value):Prop where
 n_len:mg "len" = none
 n_max:mg "max" = none
 n_min:mg "min" = none
 n_int:mg "int" = none
 n_bool:mg "bool" = none
 n_list:mg "list" = none
 n_tuple:mg "tuple" = none
 n_str:mg "str" = none
 n_dict:mg "dict" = none
 n_range:mg "range" = none
 n_isinstance:mg "isinstance" = none
 n_all:mg "all" = none
 n_any:mg "any" = none
 n_enumerate:mg "enumerate" = none
 n_sum:mg "sum" = none
 n_abs:mg "abs" = none
 n_sorted:mg "sorted" = none
 n_reversed:mg "reversed" = none
 n_zip:mg "zip" = none
 n_ord:mg "ord" = none
 n_repr:mg "repr" = none
 n_set:mg "set" = none
 n_divmod:mg "divmod" = none
 n_ValueError:mg "ValueError" = none
 n_KeyError:mg "KeyError" = none
def CDivB (i j:Int):Prop:=0 < j∧j < 2 ^ 250
theorem op_fdivB {X:Cx}:OpR X (binaryOp .FloorDiv) (rI CDivB fun i j=>.int (i / j)):=opI fun i j _ _ _ _ _ hc q=>by
 have h1:(0:Int) < j:=hc.1
 have h2:j.natAbs < 2 ^ 250:=by have:=hc.2;walk_at"q"
 refine PyProof.Rows.floordiv_int (by walk_at"q") (by rw [Int.fdiv_eq_ediv_of_nonneg i (by walk_at"q")];exact q) (.inl (PyProof.noPylong_of_log2 ?_))
 have h3:j.natAbs.log2 < 250:=(Nat.log2_lt (by walk_at"q")).mpr h2
 walk_at"q"
theorem _root_.L2.Kp.put {m l:Addr} {H H1:Hp} {o:HO} (hl:H l=none) (k:Kp m H H1):Kp m H (upd H1 l o):=fun b u e n=>by rw [upd_ne (ne_of_none e hl)];exact k b u e n
theorem _root_.L2.Same.put {l:Addr} {H H1:Hp} {o:HO} (hl:H l=none) (k:Same H H1):Same H (upd H1 l o):=fun b u e=>by rw [upd_ne (ne_of_none e hl)];exact k b u e
theorem atI_int {ns:List Int} {i:Int} (h0:0≤i) (h1:i < ns.length):atI (ns.map V.int) i=some (.int (ns.getD i.toNat 0)):=by
 obtain ⟨j,rfl⟩:∃ j:Nat,i=(j:Int):=⟨i.toNat,by walk_at"q"⟩
 have h2:j < ns.length:=by walk_at"q"
 refine atI_nat ?_
 rw [List.getElem?_map,Int.toNat_natCast]
 simp [List.getD,h2]
theorem iteFd {c A B:Prop} [Decidable c] (h:¬ c) (b:B):if c then A else B:=by rw [if_neg h];exact b
theorem iteTd {c A B:Prop} [Decidable c] (h:c) (a:A):if c then A else B:=by rw [if_pos h];exact a
theorem veq {a b:Int} (g:decide (V.int a=V.int b)=true):a=b:=V.int.inj (of_decide_eq_true g)
theorem vne {a b:Int} (g:¬ decide (V.int a=V.int b)=true):a≠b:=fun z=>g (decide_eq_true (by rw [z]))
theorem fresh_step {p u:Addr} {H:Hp} {xs:List V} (hp:H p=some (.lst xs)) (fu:H u=none) (o:HO):Kp p H (upd H u o)∧(upd H u o) p=some (.lst xs)∧(upd H u o) u=some o∧u≠p :=
 ⟨Kp.same (same_new fu o),(same_new fu o) _ _ hp,upd_same,Ne.symm (ne_of_none hp fu)⟩
theorem _root_.L2.Refs.cut {H:Hp} {rs:List V} {ws:List (Int × Int)} (h:Refs H rs ws) (lo hi:Option Int):∃ us,Refs H (cutV rs lo hi) us∧(∀ w∈us,w∈ws)∧us.length≤ws.length :=
 ⟨_,(h.drop _).take _,fun w hw=>List.mem_of_mem_drop (List.mem_of_mem_take hw),by rw [List.length_take,List.length_drop];walk_at"q"⟩
theorem _root_.L2.WOk.sub {wide:Int} {us ws:List (Int × Int)} (h:WOk wide ws) (s:∀ w∈us,w∈ws):WOk wide us:=fun w hw=>h w (s w hw)
theorem atI_ref {H:Hp} {rs:List V} {ws:List (Int × Int)} (h:Refs H rs ws) {i:Int} (h0:0≤i) (h1:i < rs.length):∃ t w,atI rs i=some (.ref t)∧w∈ws∧ws[i.toNat]?=some w∧H t=some (.tup [.int w.1,.int w.2]):=by
 obtain ⟨j,rfl⟩:∃ j:Nat,i=(j:Int):=⟨i.toNat,by walk_at"q"⟩
 have hj:j < rs.length:=by walk_at"q"
 have e:rs[j]?=some rs[j]:=by simp [hj]
 obtain ⟨w,t,hw,et,ht⟩:=h.get e
 rw [et] at e
 exact ⟨t,w,atI_nat e,List.mem_of_getElem? hw,by simpa using hw,ht⟩
inductive SpPenP (K:PySem.W.Frag) (vs:List V) (H:Hp) (Q:VK):Prop
 | mk (a:Addr) (ns:List Int) (k:Int) (h1:vs=[.ref a,.int k]) (h2:SqL K H a (ns.map V.int)) (h3:ns.length≤63) (h4:0≤k) (h5:k < 100) (h6:∀ (p:Addr) (a' b' c':Int),H p=none→Q (.ref p) (upd H p (.lst [.int a',.int b',.int c']))):SpPenP K vs H Q
def spPen (K:PySem.W.Frag):Sp:=fun vs H Q _=>SpPenP K vs H Q
inductive SpTakeP (vs:List V) (H:Hp) (Q:VK):Prop
 | mk (p:Addr) (a b c n:Int) (h1:vs=[.ref p,.int n]) (h2:H p=some (.lst [.int a,.int b,.int c])) (h3:0 < n) (h4:n < 2 ^ 250) (h5:∀ (v a' b' c':Int),0≤v→v < n→Q (.int v) (upd H p (.lst [.int a',.int b',.int c']))):SpTakeP vs H Q
def spTake:Sp:=fun vs H Q _=>SpTakeP  vs H Q
inductive SpWicketsP (vs:List V) (H:Hp) (Q:VK):Prop
 | mk (p:Addr) (wide many:Int) (h1:vs=[.ref p,.int wide,.int many]) (h2:Pen H p) (h3:1≤wide) (h4:wide≤8) (h5:0≤many) (h6:many≤41) (h7:∀ (l:Addr) (ws:List (Int × Int)) (H':Hp),H l=none→Kp p H H'→Pen H' p→WsL H' l ws→WOk wide ws→(ws.length:Int)≤many→Q (.ref l) H'):SpWicketsP vs H Q
def spWickets:Sp:=fun vs H Q _=>SpWicketsP  vs H Q
def lift (by_:Int) (w:Int × Int):Int × Int:=(w.1 + by_,w.2 + by_)
inductive SpLiftedP (vs:List V) (H:Hp) (Q:VK):Prop
 | mk (a:Addr) (ws:List (Int × Int)) (k:Int) (h1:vs=[.ref a,.int k]) (h2:WsL H a ws) (h3:ws.length≤1000) (h4:∀ (l:Addr) (H':Hp),H l=none→Same H H'→WsL H' l (ws.map (lift k))→Q (.ref l) H'):SpLiftedP vs H Q
def spLifted:Sp:=fun vs H Q _=>SpLiftedP  vs H Q
theorem ne1 {H:Hp} {a b:Addr} {o:HO} (n:H b=none) (h:H a=some o):a≠b:=ne_of_none h n
theorem ne2 {H:Hp} {a b:Addr} {o:HO} (n:H a=none) (h:H b=some o):a≠b:=Ne.symm (ne_of_none h n)
theorem ne3 {H:Hp} {a b:Addr} {xs ys:List V} (h1:H a=some (.tup xs)) (h2:H b=some (.lst ys)):a≠b:=ne_of h1 h2 (by intro z;cases z)
theorem ne4 {H:Hp} {a b:Addr} {xs ys:List V} (h1:H a=some (.lst xs)) (h2:H b=some (.tup ys)):a≠b:=ne_of h1 h2 (by intro z;cases z)
theorem free2 {H H':Hp} {l:Addr} (n:H' l=none) (s:Same H H'):H l=none:=s.free n
theorem trans2 {H H1 H2:Hp} (b:Same H1 H2) (a:Same H H1):Same H H2:=Same.trans a b
def KT (H H':Hp):Prop:=∀ b xs,H b=some (.tup xs)→H' b=some (.tup xs)
theorem KT.refl (H:Hp):KT H H:=fun _ _ h=>h
theorem KT.same {G H H':Hp} (s:Same H H') (k:KT G H):KT G H':=fun b xs h=>s b _ (k b xs h)
theorem KT.new {G H:Hp} {l:Addr} {o:HO} (n:H l=none) (k:KT G H):KT G (upd H l o):=fun b xs h=>by rw [upd_ne (ne_of_none (k b xs h) n)];exact k b xs h
theorem KT.lst {G H:Hp} {l:Addr} {o:HO} {ys:List V} (n:H l=some (.lst ys)) (k:KT G H):KT G (upd H l o):=fun b xs h=>by rw [upd_ne (ne3 (k b xs h) n)];exact k b xs h
theorem KT.kp {G H H':Hp} {m:Addr} {ys:List V} (q:Kp m H H') (hm:H m=some (.lst ys)) (k:KT G H):KT G H':=fun b xs h=>q b _ (k b xs h) (ne3 (k b xs h) hm)
theorem _root_.L2.Net.kt {H H':Hp} {v:V} {wide:Int} {ws:List (Int × Int)} (n:Net H v wide ws) (k:KT H H'):Net H' v wide ws:=n.mono k
theorem _root_.L2.Refs.kt {H H':Hp} {rs:List V} {ws:List (Int × Int)} (n:Refs H rs ws) (k:KT H H'):Refs H' rs ws:=n.mono k
end Ep

namespace Ep
open PySem L2
def meetM (x y:Int × Int):Bool:=(decide (x.1=y.1) || decide (x.1=y.2)) || (decide (x.2=y.1) || decide (x.2=y.2))
def maxI (a b:Int):Int:=if b≤a then a else b
theorem if_gt_max (a b:Int):(if b > a then b else a)=maxI a b:=by
 unfold maxI
 by_cases h:b≤a
 ·rw [if_neg (by walk_at"q"),if_pos h]
 ·rw [if_pos (by walk_at"q"),if_neg h]
def layT (st:List Int × List Int) (w:Int × Int):List Int × List Int :=
 let layer:=1 + maxI (st.1.getD w.1.toNat 0) (st.1.getD w.2.toNat 0)
 ((st.1.set w.1.toNat layer).set w.2.toNat layer,st.2 ++ [layer])
def layS (wide:Int) (ws:List (Int × Int)):List Int × List Int:=ws.foldl layT (List.replicate wide.toNat 0,[])
theorem layS_snoc (wide:Int) (ws:List (Int × Int)) (w:Int × Int):layS wide (ws ++ [w])=layT (layS wide ws) w:=by
 unfold layS
 rw [List.foldl_append]
 rfl
theorem lay_set (st:List Int × List Int) (w:Int × Int):((st.1.map V.int).set w.1.toNat (V.int (1 + (if st.1.getD w.2.toNat 0 > st.1.getD w.1.toNat 0 then st.1.getD w.2.toNat 0 else st.1.getD w.1.toNat 0)))).set w.2.toNat
  (V.int (1 + (if st.1.getD w.2.toNat 0 > st.1.getD w.1.toNat 0 then st.1.getD w.2.toNat 0 else st.1.getD w.1.toNat 0)))=(layT st w).1.map V.int:=by
 rw [if_gt_max]
 show _=List.map V.int ((st.1.set w.1.toNat (1 + maxI (st.1.getD w.1.toNat 0) (st.1.getD w.2.toNat 0))).set w.2.toNat (1 + maxI (st.1.getD w.1.toNat 0) (st.1.getD w.2.toNat 0)))
 rw [List.map_set,List.map_set]
theorem lay_app (st:List Int × List Int) (w:Int × Int):st.2.map V.int ++ [V.int (1 + (if st.1.getD w.2.toNat 0 > st.1.getD w.1.toNat 0 then st.1.getD w.2.toNat 0 else st.1.getD w.1.toNat 0))]=(layT st w).2.map V.int:=by
 rw [if_gt_max]
 show _=List.map V.int (st.2 ++ [1 + maxI (st.1.getD w.1.toNat 0) (st.1.getD w.2.toNat 0)])
 rw [List.map_append]
 rfl
theorem layS_len (wide:Int) (ws:List (Int × Int)):(layS wide ws).1.length=wide.toNat∧(layS wide ws).2.length=ws.length:=by
 have key:∀ (ws:List (Int × Int)) (st:List Int × List Int),(ws.foldl layT st).1.length=st.1.length∧(ws.foldl layT st).2.length=st.2.length + ws.length:=by
  intro ws
  induction ws with
  | nil=>intro st;exact ⟨rfl,rfl⟩
  | cons w r ih =>
   intro st
   obtain ⟨h1,h2⟩:=ih (layT st w)
   rw [List.foldl_cons]
   refine ⟨h1.trans ?_,h2.trans ?_⟩
   ·show ((st.1.set _ _).set _ _).length=_
    rw [List.length_set,List.length_set]
   ·show (st.2 ++ [_]).length + r.length=_
    rw [List.length_append,List.length_singleton,List.length_cons]
    walk_at"q"
 obtain ⟨h1,h2⟩:=key ws (List.replicate wide.toNat 0,[])
 exact ⟨by unfold layS;rw [h1];simp,by unfold layS;rw [h2];simp⟩
theorem ixN_of {n:Nat} {i:Int} (h0:0≤i) (h1:i < n):ixN n i=some i.toNat:=by
 unfold ixN
 rw [if_pos h0,if_pos h1]
inductive SpLayersP (vs:List V) (H:Hp) (Q:VK):Prop
 | mk (v:V) (wide:Int) (ws:List (Int × Int)) (h1:vs=[v]) (h2:Net H v wide ws) (h3:1≤wide) (h4:wide≤8) (h5:WOk wide ws) (h6:ws.length≤41) (h7:∀ (l:Addr) (H':Hp),H l=none→Same H H'→H' l=some (.lst ((layS wide ws).2.map V.int))→Q (.ref l) H'):SpLayersP vs H Q
def spLayers:Sp:=fun vs H Q _=>SpLayersP  vs H Q
inductive SpDepthP (vs:List V) (H:Hp) (Q:VK):Prop
 | mk (v:V) (wide:Int) (ws:List (Int × Int)) (h1:vs=[v]) (h2:Net H v wide ws) (h3:1≤wide) (h4:wide≤8) (h5:WOk wide ws) (h6:ws.length≤41) (h7:∀ (m:Int) (H':Hp),Same H H'→((layS wide ws).2=[]→m=0)→((layS wide ws).2≠[]→IsMax (layS wide ws).2 m)→Q (.int m) H'):SpDepthP vs H Q
def spDepth:Sp:=fun vs H Q _=>SpDepthP  vs H Q
def Mx (v:Int) (S:Int→Prop):Prop:=0≤v∧(∀ a,S a→a≤v)∧(v=0∨S v)
theorem Mx.le {v u:Int} {S:Int→Prop} (a:Mx v S) (b:Mx u S):v≤u:=by
 rcases a.2.2 with h | h
 ·rw [h];exact b.1
 ·exact b.2.1 v h
theorem Mx.uniq {v u:Int} {S:Int→Prop} (a:Mx v S) (b:Mx u S):v=u:=Int.le_antisymm (a.le b) (b.le a)
theorem Mx.congr {v:Int} {S S':Int→Prop} (h:∀ a,S a↔S' a) (m:Mx v S):Mx v S':=⟨m.1,fun a z=>m.2.1 a ((h a).mpr z),m.2.2.imp id (h v).mp⟩
theorem Mx.or {v u:Int} {S U:Int→Prop} (a:Mx v S) (b:Mx u U):Mx (maxI v u) (fun z=>S z∨U z):=by
 unfold maxI
 by_cases h:u≤v
 ·rw [if_pos h]
  exact ⟨a.1,fun z hz=>hz.elim (a.2.1 z) fun q=>Int.le_trans (b.2.1 z q) h,a.2.2.imp id .inl⟩
 ·rw [if_neg h]
  exact ⟨b.1,fun z hz=>hz.elim (fun q=>Int.le_trans (a.2.1 z q) (by walk_at"q")) (b.2.1 z),b.2.2.imp id .inr⟩
def wAt (ws:List (Int × Int)) (j:Nat):Int × Int:=ws.getD j (0,0)
def Bef (ws:List (Int × Int)) (d:List Int) (k:Nat) (a:Int):Prop:=∃ j,j < k∧meetM (wAt ws j) (wAt ws k)=true∧d.getD j 0=a
def Due (ws:List (Int × Int)) (d:List Int) (n:Nat):Prop:=d.length=n∧∀ k,k < n→∃ v,d.getD k 0=1 + v∧Mx v (Bef ws d k)
theorem getD_app {d:List Int} {z:Int} {j:Nat} (h:j < d.length):(d ++ [z]).getD j 0=d.getD j 0:=by simp [List.getD,List.getElem?_append_left h]
theorem getD_last {d:List Int} {z:Int}:(d ++ [z]).getD d.length 0=z:=by simp [List.getD]
theorem Bef.app {ws:List (Int × Int)} {d:List Int} {z:Int} {k:Nat} (h:k≤d.length) (a:Int):Bef ws d k a↔Bef ws (d ++ [z]) k a:=by
 constructor
 ·rintro ⟨j,h1,h2,h3⟩
  exact ⟨j,h1,h2,by rw [getD_app (by walk_at"q")];exact h3⟩
 ·rintro ⟨j,h1,h2,h3⟩
  exact ⟨j,h1,h2,by rw [getD_app (by walk_at"q")] at h3;exact h3⟩
theorem Due.nil {ws:List (Int × Int)}:Due ws [] 0:=⟨rfl,fun k h=>absurd h (by walk_at"q")⟩
theorem Due.snoc {ws:List (Int × Int)} {d:List Int} {n:Nat} {v:Int} (h:Due ws d n) (m:Mx v (Bef ws d n)):Due ws (d ++ [1 + v]) (n + 1):=by
 obtain ⟨l,g⟩:=h
 subst l
 refine ⟨by simp,fun k hk=>?_⟩
 by_cases e:k < d.length
 ·obtain ⟨u,h1,h2⟩:=g k e
  exact ⟨u,by rw [getD_app e];exact h1,h2.congr (Bef.app (by walk_at"q"))⟩
 ·have e':k=d.length:=by walk_at"q"
  subst e'
  exact ⟨v,getD_last,m.congr (Bef.app (Nat.le_refl _))⟩
def Lan (ws:List (Int × Int)) (d:List Int) (n:Nat) (x a:Int):Prop:=∃ j,j < n∧((wAt ws j).1=x∨(wAt ws j).2=x)∧d.getD j 0=a
theorem meet_lan {ws:List (Int × Int)} {d:List Int} {k:Nat} (a:Int):(Lan ws d k (wAt ws k).1 a∨Lan ws d k (wAt ws k).2 a)↔Bef ws d k a:=by
 have e:∀ x y:Int × Int,meetM x y=true↔((x.1=y.1∨x.2=y.1)∨(x.1=y.2∨x.2=y.2)):=fun x y=>by
  simp only [meetM,Bool.or_eq_true,decide_eq_true_eq]
  constructor
  ·rintro ((h | h) | (h | h)) <;> simp [h]
  ·rintro ((h | h) | (h | h)) <;> simp [h]
 constructor
 ·rintro (⟨j,h1,h2,h3⟩ | ⟨j,h1,h2,h3⟩)
  ·exact ⟨j,h1,(e _ _).mpr (.inl h2),h3⟩
  ·exact ⟨j,h1,(e _ _).mpr (.inr h2),h3⟩
 ·rintro ⟨j,h1,h2,h3⟩
  rcases (e _ _).mp h2 with z | z
  ·exact .inl ⟨j,h1,z,h3⟩
  ·exact .inr ⟨j,h1,z,h3⟩
theorem getD_set {l:List Int} {i j:Nat} {z:Int} (hi:i < l.length):(l.set i z).getD j 0=if j=i then z else l.getD j 0:=by
 by_cases h:j=i
 ·subst h
  simp [List.getD,hi]
 ·have h':¬ i=j:=fun q=>h q.symm
  simp [List.getD,h,h']
theorem layS_due {wide:Int} {ws:List (Int × Int)} (ok:WOk wide ws):∀ i,i≤ws.length→Due ws (layS wide (ws.take i)).2 i∧∀ x,0≤x→x < wide→Mx ((layS wide (ws.take i)).1.getD x.toNat 0) (Lan ws (layS wide (ws.take i)).2 i x):=by
 intro i
 induction i with
 | zero =>
  intro _
  refine ⟨Due.nil,fun x h0 h1=>?_⟩
  have e:(layS wide (ws.take 0)).1.getD x.toNat 0=0:=by
   show (List.replicate wide.toNat (0:Int)).getD x.toNat 0=0
   simp only [List.getD,List.getElem?_replicate]
   split <;> rfl
  rw [e]
  exact ⟨Int.le_refl _,fun a ⟨j,h,_⟩=>absurd h (by walk_at"q"),.inl rfl⟩
 | succ i ih =>
  intro hi
  obtain ⟨dd,ll⟩:=ih (by walk_at"q")
  have hw:ws[i]?=some ws[i]:=by simp [show i < ws.length by walk_at"q"]
  have ew:wAt ws i=ws[i]:=by simp [wAt,List.getD,hw]
  have et:ws.take (i + 1)=ws.take i ++ [ws[i]]:=by rw [List.take_add_one,hw];rfl
  obtain ⟨o1,o2,o3,o4,o5⟩:=ok ws[i] (List.getElem_mem _)
  obtain ⟨ln1,ln2⟩:=layS_len wide (ws.take i)
  rw [List.length_take] at ln2
  have ln2':(layS wide (ws.take i)).2.length=i:=by walk_at"q"
  rw [et,layS_snoc]
  generalize layS wide (ws.take i)=st at dd ll ln1 ln2'
  rw [← ew] at o1 o2 o3 o4 o5 ⊢
  generalize hwe:wAt ws i=w at o1 o2 o3 o4 o5 ⊢
  have mm:Mx (maxI (st.1.getD w.1.toNat 0) (st.1.getD w.2.toNat 0)) (Bef ws st.2 i):=by
   refine ((ll w.1 o1 o2).or (ll w.2 o3 o4)).congr fun a=>?_
   rw [← hwe]
   exact meet_lan a
  refine ⟨dd.snoc mm,fun x h0 h1=>?_⟩
  show Mx (((st.1.set w.1.toNat (1 + maxI (st.1.getD w.1.toNat 0) (st.1.getD w.2.toNat 0))).set w.2.toNat (1 + maxI (st.1.getD w.1.toNat 0) (st.1.getD w.2.toNat 0))).getD x.toNat 0)
   (Lan ws (st.2 ++ [1 + maxI (st.1.getD w.1.toNat 0) (st.1.getD w.2.toNat 0)]) (i + 1) x)
  generalize hL:maxI (st.1.getD w.1.toNat 0) (st.1.getD w.2.toNat 0)=L at mm
  have b1:st.1.getD w.1.toNat 0≤L:=by rw [← hL];unfold maxI;split <;> walk_at"q"
  have b2:st.1.getD w.2.toNat 0≤L:=by rw [← hL];unfold maxI;split <;> walk_at"q"
  rw [getD_set (by rw [List.length_set];walk_at"q"),getD_set (by walk_at"q")]
  have old:∀ a,Lan ws st.2 i x a→Lan ws (st.2 ++ [1 + L]) (i + 1) x a:=fun a ⟨j,z1,z2,z3⟩=>⟨j,by walk_at"q", z2,by rw [getD_app (by walk_at"q")];exact z3⟩
  have new:∀ a,Lan ws (st.2 ++ [1 + L]) (i + 1) x a→Lan ws st.2 i x a∨((w.1=x∨w.2=x)∧a=1 + L):=fun a ⟨j,z1,z2,z3⟩=>by
   by_cases e:j < i
   ·exact .inl ⟨j,e,z2,by rw [getD_app (by walk_at"q")] at z3;exact z3⟩
   ·have e':j=i:=by walk_at"q"
    subst e'
    rw [hwe] at z2
    have:(st.2 ++ [1 + L]).getD j 0=1 + L:=by
     have q:=getD_last (d:=st.2) (z:=1 + L)
     rw [ln2'] at q
     exact q
    exact .inr ⟨z2,by walk_at"q"⟩
  have here:(w.1=x∨w.2=x)→Lan ws (st.2 ++ [1 + L]) (i + 1) x (1 + L):=fun z=>⟨i,by walk_at"q", by rw [hwe];exact z,by
   have q:=getD_last (d:=st.2) (z:=1 + L)
   rw [ln2'] at q
   exact q⟩
  have mx:=ll x h0 h1
  have up:(w.1=x∨w.2=x)→Mx (1 + L) (Lan ws (st.2 ++ [1 + L]) (i + 1) x):=fun z=>by
   have bx:st.1.getD x.toNat 0≤L:=by
    rcases z with z | z
    ·rw [← z];exact b1
    ·rw [← z];exact b2
   have m1:=mm.1
   refine ⟨by walk_at"q", fun a ha=>?_,.inr (here z)⟩
   rcases new a ha with q | ⟨_,q⟩
   ·have:=mx.2.1 a q
    walk_at"q"
   ·walk_at"q"
  by_cases c2:x.toNat=w.2.toNat
  ·rw [if_pos c2]
   exact up (.inr (by walk_at"q"))
  ·rw [if_neg c2]
   by_cases c1:x.toNat=w.1.toNat
   ·rw [if_pos c1]
    exact up (.inl (by walk_at"q"))
   ·rw [if_neg c1]
    refine mx.congr fun a=>⟨old a,fun q=>?_⟩
    rcases new a q with q | ⟨q,_⟩
    ·exact q
    ·walk_at"q"
theorem lay_due {wide:Int} {ws:List (Int × Int)} (ok:WOk wide ws):Due ws (layS wide ws).2 ws.length:=by
 have h:=(layS_due ok ws.length (Nat.le_refl _)).1
 rw [List.take_length] at h
 exact h
inductive SpLawP (K:PySem.W.Frag) (vs:List V) (H:Hp) (Q:VK):Prop
 | mk (a:Addr) (ns:List Int) (h1:vs=[.ref a]) (h2:SqL K H a (ns.map V.int)) (h3:ns.length≤63) (h4:∀ H',Q (.bl true) H'):SpLawP K vs H Q
def spLaw (K:PySem.W.Frag):Sp:=fun vs H Q _=>SpLawP K vs H Q
end Ep

namespace L2
open PySem PySem.Spec PyProof.Rows
section
variable {P:Program} {w:World} {A:Around} {s:Shared}
theorem next_tup {E:Value→Shared→Prop} {it t:Addr} {i:Nat} {ys:Array Value} {x:Value} {Q:Value→Shared→Prop} (gi:s.heap.IsTupleIter it t i) (gt:s.heap.IsTuple t ys) (gx:ys[i]?=some x)
  (q:∀ h',h'.IsTupleIter it t (i + 1)→Heap.SameBut it s.heap h'→Q x { s with heap:=h' }):wpAny (model P w) A (Builtin.SmallTypes.nextOf (.ref it)) Q E s:=by
 obtain ⟨oi,g1,g2,g3⟩:=id gi
 obtain ⟨ot,g4,_,nt,g5⟩:=gt
 have no:¬ ((Value.ref t == Value.none)=true):=Bool.false_ne_true
 unfold Builtin.SmallTypes.nextOf
 refine wpAny_bind (wpAny_callSpecial?_slot (name:=Str.ofString "__next__") gi.typeIs F.slot_tuple_iterator_next (wpAny_call_entry F.slot_tuple_iterator_next gi.typeIs F.entry_tuple_iterator_next ?_ (F.args_tuple_iterator_next_1 _)))
 show wpAny _ A.in1 (field (.ref it) 0 >>= _) _ _ s
 refine wpAny_bind (wpAny_field g1 g3 (x:=.ref t) rfl ?_)
 show wpAny _ _ (if (Value.ref t == Value.none)=true then _ else (field (.ref it) 1 >>= _)) _ _ s
 rw [if_neg no]
 refine wpAny_bind (wpAny_field g1 g3 (x:=.int i 0) rfl (show wpAny _ _ (seqItems? (.ref t) >>= _) _ _ s from wpAny_bind (wpAny_seqItems g4 g5 ?_)))
 simp only [gx,Int.toNat_natCast]
 refine wpAny_bind (wpAny_setField g1 g3 (by simp) (wpAny_pure ⟨x,rfl,wpAny_pure (q _ ⟨_,Heap.get?_update_self _ g1 (Obj.isFreed_of_fields (Obj.data_mapFields g3 _)),(Obj.cls_mapFields ..).trans g2,?_⟩ (Heap.SameBut.update ..))⟩))
 rw [Obj.data_mapFields g3]
 simp [rawInt]
theorem next_tup_end {E:Value→Shared→Prop} {it t:Addr} {i:Nat} {ys:Array Value} {Q:Value→Shared→Prop} (hh:A.handled=none) (gi:s.heap.IsTupleIter it t i) (gt:s.heap.IsTuple t ys) (gx:ys[i]?=none)
  (q:∀ h' e,Heap.ExtBut it s.heap h'→(∃ o,h'.get? e=some o∧o.cls=.type "StopIteration")→E (.ref e) { s with heap:=h' }):wpAny (model P w) A (Builtin.SmallTypes.nextOf (.ref it)) Q E s:=by
 obtain ⟨oi,g1,g2,g3⟩:=id gi
 obtain ⟨ot,g4,_,nt,g5⟩:=gt
 have no:¬ ((Value.ref t == Value.none)=true):=Bool.false_ne_true
 unfold Builtin.SmallTypes.nextOf
 refine wpAny_bind (wpAny_callSpecial?_slot (name:=Str.ofString "__next__") gi.typeIs F.slot_tuple_iterator_next (wpAny_call_entry F.slot_tuple_iterator_next gi.typeIs F.entry_tuple_iterator_next ?_ (F.args_tuple_iterator_next_1 _)))
 show wpAny _ A.in1 (field (.ref it) 0 >>= _) _ _ s
 refine wpAny_bind (wpAny_field g1 g3 (x:=.ref t) rfl ?_)
 show wpAny _ _ (if (Value.ref t == Value.none)=true then _ else (field (.ref it) 1 >>= _)) _ _ s
 rw [if_neg no]
 refine wpAny_bind (wpAny_field g1 g3 (x:=.int i 0) rfl (show wpAny _ _ (seqItems? (.ref t) >>= _) _ _ s from wpAny_bind (wpAny_seqItems g4 g5 ?_)))
 simp only [gx,Int.toNat_natCast]
 refine wpAny_bind (wpAny_rule (wpAny_bind (wpAny_setField g1 g3 (by simp) (show wpAny _ _ (newExc (.type "StopIteration") [] >>= _) _ _ _ from wpAny_bind ?_))))
 simp only [newTuple,newExc]
 refine wpAny_bind (wpAny_newObj_type (wpAny_bind (m:=firstArgMember _ _) (wpAny_of_eq (a:=Value.none) (by first | rfl | (simp only [firstArgMember];rfl)) (wpAny_newObj_type ?_ (by size_fits)))) (by size_fits))
 simp only [raiseNew]
 refine wpAny_bind (wpAny_handled ?_)
 first | rw [show A.in1.handled=none from hh] | rw [hh]
 exact wpAny_bind (wpAny_pure (wpAny_throw (q _ _ (((Heap.SameBut.update ..).extBut.push _).push _) ⟨_,Heap.get?_push_size _ rfl,rfl⟩)))
theorem draws_tup (hh:A.handled=none) (it t:Addr) (hne:t≠it) (ys:Array Value):Draws P w A it [it,t] ys.size (fun i v=>ys[i]?=some v) (fun i h=>h.IsTupleIter it t i∧h.IsTuple t ys) where
 live:=fun _ _ g=>let ⟨o,go,_⟩:=g.1;⟨o,go⟩
 frame:=fun _ _ _ g k=>⟨g.1.at fun o e=>k it (by simp) o e,let ⟨o,e,r⟩:=g.2;⟨o,k t (by simp) o e,r⟩⟩
 item:=fun i s Q E hi g q=>next_tup g.1 g.2 (x:=ys[i]) (by simp [hi]) fun h' gi sb=>q _ h' s.toks (by simp [hi]) ⟨gi,let ⟨o,e,r⟩:=g.2;⟨o,sb.extBut t o hne e,r⟩⟩ sb
 done:=fun s Q E g q=>next_tup_end hh g.1 g.2 (by simp) q
theorem new_enum_tup (t:Addr) (ys:Array Value) (n:Nat) (dc:Option Addr) (sl:Array (Option Value)) :
  Meets (Builtin.«enumerate.__new__» ⟨[.type "enumerate", .ref t],[]⟩) (fun _ R s=>s.heap.get? t=some { cls:=.type "tuple", dict:=dc,data:=.seq ys n,slots:=sl } ∧
   R (.ok (.ret (.ref (s.heap.push { cls:=.type "tuple_iterator", data:=.fields #[.ref t,.int 0 0] }).objs.size)))
    { s with heap:=(s.heap.push { cls:=.type "tuple_iterator", data:=.fields #[.ref t,.int 0 0] }).push { cls:=.type "enumerate", data:=.fields #[.none,.bool false,.ref s.heap.objs.size,rawInt 0,.none,.none] } }) :=
 .of_wp fun prog w A R s h=>by
  obtain ⟨hp,g,d,tk,os⟩:=s
  obtain ⟨gt,q⟩:=h
  have hsub:=sub_enumerate
  have gT:Heap.IsTuple (Shared.heap ⟨hp,g,d,tk,os⟩) t ys:=⟨_,gt,rfl,n,rfl⟩
  wp_walk using AutoSeq1.wpAny_loadPart' gt
  refine wpAny_stack_any fun st=>wpAny_pure ?_
  split
  ·rename_i c _ _ _ _ _
   cases (c == Value.type "enumerate") <;> (wp_walk using AutoSeq1.wpAny_loadPart' gt,wpAny_pyIter_tuple gT) <;> exact ⟨_,rfl,q⟩
  ·wp_walk using AutoSeq1.wpAny_loadPart' gt,wpAny_pyIter_tuple gT
   exact ⟨_,rfl,q⟩
theorem call_enum_tup {E:Value→Shared→Prop} {t:Addr} {ys:Array Value} {Q:Value→Shared→Prop} (gT:s.heap.IsTuple t ys)
  (q:∀ h',IsEnum h' (s.heap.objs.size + 1) s.heap.objs.size 0 .none→h'.IsTupleIter s.heap.objs.size t 0→h'.objs.size=s.heap.objs.size + 2→(∀ b o,s.heap.get? b=some o→h'.get? b=some o)→Q (.ref (s.heap.objs.size + 1)) { s with heap:=h' }) :
  wpAny (model P w) A (call (.type "enumerate") [.ref t]) Q E s:=by
 obtain ⟨⟨c,dc,dt,sl⟩,gt,e1,n,e2⟩:=gT
 obtain rfl:c=.type "tuple" := e1
 obtain rfl:dt=.seq ys n:=e2
 refine callType_new F.called_enumerate (by decide) (F.typeCall_enumerate_1 _) (F.newCall_enumerate_1 _) (fun o=>F.args_object_init_2 o _) F.entry_enumerate_new (new_enum_tup t ys n dc sl) ⟨gt,?_⟩
 have z:(s.heap.push { cls:=.type "tuple_iterator", data:=.fields #[.ref t,.int 0 0] }).objs.size=s.heap.objs.size + 1:=Heap.size_push ..
 have ge:IsEnum ((s.heap.push { cls:=.type "tuple_iterator", data:=.fields #[.ref t,.int 0 0] }).push { cls:=.type "enumerate", data:=.fields #[.none,.bool false,.ref s.heap.objs.size,rawInt 0,.none,.none] }) (s.heap.objs.size + 1) s.heap.objs.size 0 .none:=by
  have u:=Heap.get?_push_size (s.heap.push { cls:=.type "tuple_iterator", data:=.fields #[.ref t,.int 0 0] }) (o:={ cls:=.type "enumerate", data:=.fields #[.none,.bool false,.ref s.heap.objs.size,rawInt 0,.none,.none] }) rfl
  rw [z] at u
  exact u
 show _∧_
 rw [z]
 exact ⟨⟨_,ge,rfl⟩,q _ ge ⟨_,Heap.get?_push_of_some _ (Heap.get?_push_size _ rfl),rfl,rfl⟩ (by rw [Heap.size_push,z]) fun b o e=>Heap.get?_push_of_some _ (Heap.get?_push_of_some _ e)⟩
end
def Ite (sq:Hp→List V→Prop):It :=
 ⟨fun i H=>∃ xs x,sq H xs∧xs[i]?=some x,fun i H x H'=>∃ T v,H T=none∧x=.ref T∧H'=upd H T (.tup [.int i,v])∧∀ xs,sq H xs→xs[i]?=some v,fun i H=>∃ xs,sq H xs∧xs.length=i⟩
theorem Inv.turned2 {X:Cx} {pins:List (Addr × Obj)} {σ:St} {H:Hp} {s:Shared} {h':Heap} {t':Nat} {e it:Addr} {ys:List V} (I:Inv X pins σ H s) (k:∀ b o,b≠e→b≠it→s.heap.get? b=some o→h'.get? b=some o)
  (fe:FpOk X pins H e) (fi:FpOk X pins H it) (new:ObjOk X.prog X.w (upd H s.heap.objs.size (.tup ys)) h' s.heap.objs.size (.tup ys)):Inv X pins σ (upd H s.heap.objs.size (.tup ys)) { s with heap:=h',toks:=t' }:=by
 have hT:H s.heap.objs.size=none:=I.hok.fresh (Nat.le_refl _)
 have nT:∀ b o,s.heap.get? b=some o→b≠s.heap.objs.size:=fun b o q=>Nat.ne_of_lt (Heap.lt_size q)
 have nc:∀ b,b ∉ [e,it]→b≠e∧b≠it:=fun b hb=>⟨fun z=>hb (by simp [z]),fun z=>hb (by simp [z])⟩
 have ntr:∀ b u,H b=some u→b≠e∧b≠it:=fun b u q=>⟨(fun z=>by rw [z,fe.1] at q;cases q),(fun z=>by rw [z,fi.1] at q;cases q)⟩
 have up:∀ b u,H b=some u→upd H s.heap.objs.size (.tup ys) b=some u:=fun b u q=>by rw [upd_ne (ne_of_none q hT)];exact q
 refine I.step (g':=s.gens) (d':=s.drawn) (ch:=[e,it]) (fun b hb=>?_) (fun b o _ _ hc q _=>k b o (nc b hc).1 (nc b hc).2 q) (fun b o _ _ hc q _=>⟨o.slots,k b o (nc b hc).1 (nc b hc).2 q⟩) (fun b o _ q n=>by rw [upd_ne (nT b o q)];exact n)
  (fun b o hc q=>⟨o,k b o (nc b hc).1 (nc b hc).2 q⟩) (fun b xs q=>up b _ q) (fun b o u q=>up b _ q) (fun b ps q=>⟨up b _ q,fun c o ec x=>⟨up c _ ec,k c o (ntr c _ ec).1 (ntr c _ ec).2 x⟩⟩) (fun m hm=>?_) (fun b u q=>?_) I.bare
 ·have z:b=e∨b=it:=by simpa using hb
  rcases z with rfl | rfl
  ·exact ⟨fe.2.2.2.1,fe.2.1,fe.2.2.2.2.1,fe.2.2.2.2.2⟩
  ·exact ⟨fi.2.2.2.1,fi.2.1,fi.2.2.2.2.1,fi.2.2.2.2.2⟩
 ·obtain ⟨o,es,ep,ho,r⟩:=hm
  exact ⟨o,es,ep,k _ o (Ne.symm fe.2.1) (Ne.symm fi.2.1) ho,r⟩
 ·by_cases hb:b=s.heap.objs.size
  ·subst hb
   rw [upd_same] at q
   cases q
   exact new
  ·rw [upd_ne hb] at q
   refine (I.hok b u q).stay (fun c v hc z=>?_) (fun c z=>up c _ z) fun c xs z=>up c _ z
   have hc':c≠e∧c≠it:=by
    rcases hc with z | z
    ·rw [z];exact ntr b u q
    ·exact ntr c _ z
   exact k c v hc'.1 hc'.2 z
section
variable {X:Cx} {elts:List Expr} {kk:Nat} {ps:Pos}
theorem turn_enumT {P:Program} {w:World} {K:PySem.W.Frag} (a e it:Addr) (hei:e≠it):Turn P w K (.Tuple elts kk ps) (Ite (fun H xs=>SqT K H a xs)) [e,it] e (fun i h=>(∃ old,IsEnum h e it i old)∧h.IsTupleIter it a i) where
 mem:=by simp
 obj:=fun i h st b hb=>by
  obtain ⟨⟨old,he⟩,o,e1,c,d⟩:=st
  have z:b=e∨b=it:=by simpa using hb
  rcases z with rfl | rfl
  ·exact ⟨_,he,fun v z=>by have z':Data.fields _=Data.cell v:=z;cases z'⟩
  ·exact ⟨o,e1,fun v z=>by rw [d] at z;cases z⟩
 keep:=fun i h h' st k=>by
  obtain ⟨⟨old,he⟩,o,e1,r⟩:=st
  exact ⟨⟨old,k e (by simp) _ he⟩,o,k it (by simp) o e1,r⟩
 item:=by
  intro X hP hw hK hc i pins s σ H E I hf st hg
  subst hP hw hK
  obtain ⟨⟨old,he⟩,hit⟩:=st
  obtain ⟨xs,x,hq,hx⟩:=hg
  obtain ⟨its,rv,p,hz⟩:=I.tuple hq
  obtain ⟨u,hu,ru⟩:=rv.get hx
  have pT:s.heap.IsTuple a its.toArray:=p
  have nai:a≠it:=fun z=>by
   obtain ⟨o1,q1,c1,_⟩:=pT
   obtain ⟨o2,q2,c2,_⟩:=hit
   rw [z,q2] at q1;cases q1;rw [c2] at c1;exact absurd (Value.type.inj c1) (by decide)
  have nae:e≠a:=fun z=>by
   obtain ⟨o1,q1,c1,_⟩:=pT
   rw [← z,he] at q1;cases q1;exact absurd (Value.type.inj c1) (by decide)
  have il:i < its.toArray.size:=by
   have:=(List.getElem?_eq_some_iff.mp hu).1
   simpa using this
  refine wpAny_pyNext_enum_itemD (draws_tup (A:=X.A.in1) (I.ok.hd hc) it a nai its.toArray) he ⟨hit,pT⟩ il hei (by simp [hei,nae]) fun x' h1 tk hP ho hs hT hsz hk=>?_
  have ex:x'=u:=by
   have:its[i]?=some x':=by simpa using hP
   rw [hu] at this;cases this;rfl
  subst ex
  refine ⟨_,rfl,wpAny_letOwnedTupleGo_enum ho fun h2 he2 sb=>?_⟩
  have eT:e < s.heap.objs.size:=Heap.lt_size he
  have k2:∀ b o,b≠e→b≠it→s.heap.get? b=some o→h2.get? b=some o:=fun b o n1 n2 q=>sb.extBut b o n1 (hk b o n1 n2 q)
  have new:ObjOk X.prog X.w (upd H s.heap.objs.size (.tup [.int i,x])) h2 s.heap.objs.size (.tup [.int i,x]):=⟨by show 2≤sizeLine;rw [sizeLine_eq];decide,[.int i tk,x'],.cons ⟨tk,rfl⟩ (.cons ru .nil),_,sb.extBut _ _ (Nat.ne_of_gt eT) hT,rfl,_,rfl,rfl⟩
  have I2:Inv X pins σ (upd H s.heap.objs.size (.tup [.int i,x])) { s with heap:=h2,toks:=tk + 1 }:=Inv.turned2 I k2 (hf e (by simp)) (hf it (by simp)) new
  refine ⟨.ref s.heap.objs.size,_,I2,rfl,⟨s.heap.objs.size,x,I.hok.fresh (Nat.le_refl _),rfl,rfl,fun zs hzs=>by rw [I.tuple_inj hzs hq];exact hx⟩,⟨⟨x',by simpa using he2⟩,?_⟩,fun b hb=>?_⟩
  ·obtain ⟨⟨o2,q2,r2⟩,_⟩:=hs
   exact ⟨o2,sb.extBut it o2 (Ne.symm hei) q2,r2⟩
  ·have bl:b < s.heap.objs.size:=by
    have z:b=e∨b=it:=by simpa using hb
    rcases z with rfl | rfl
    ·exact eT
    ·obtain ⟨o2,q2,_⟩:=hit
     exact Heap.lt_size q2
   rw [upd_ne (Nat.ne_of_lt bl)]
   exact (hf b hb).1
 done:=by
  intro X hP hw hK hc i pins s σ H E I hf st hg
  subst hP hw hK
  obtain ⟨⟨old,he⟩,hit⟩:=st
  obtain ⟨xs,hq,hx⟩:=hg
  obtain ⟨its,rv,p,hz⟩:=I.tuple hq
  obtain ⟨f0,f1,f2,f3,f4,f5⟩:=hf it (by simp)
  have pT:s.heap.IsTuple a its.toArray:=p
  have hl:=rv.length
  have nai:a≠it:=fun z=>by
   obtain ⟨o1,q1,c1,_⟩:=pT
   obtain ⟨o2,q2,c2,_⟩:=hit
   rw [z,q2] at q1;cases q1;rw [c2] at c1;exact absurd (Value.type.inj c1) (by decide)
  have ei:its.toArray.size=i:=by simp;walk_at"q"
  exact wpAny_pyNext_enum_endD (draws_tup (A:=X.A.in1) (I.ok.hd hc) it a nai its.toArray) he (by rw [ei];exact ⟨hit,pT⟩) fun h' eb=>⟨rfl,I.turned (t':=s.toks) (fun b o hb q=>eb b o hb q) f0 f1 f3 f4 f5⟩
 self:=fun _ _ _ _ _ st h=>wpAny_pyIter_enum st.1.choose_spec h
theorem turn_enumL {P:Program} {w:World} {K:PySem.W.Frag} (a e it:Addr) (hei:e≠it):Turn P w K (.Tuple elts kk ps) (Ite (fun H xs=>SqL K H a xs)) [e,it] e (fun i h=>(∃ old,IsEnum h e it i old)∧h.IsListIter it a i) where
 mem:=by simp
 obj:=fun i h st b hb=>by
  obtain ⟨⟨old,he⟩,o,e1,c,d⟩:=st
  have z:b=e∨b=it:=by simpa using hb
  rcases z with rfl | rfl
  ·exact ⟨_,he,fun v z=>by have z':Data.fields _=Data.cell v:=z;cases z'⟩
  ·exact ⟨o,e1,fun v z=>by rw [d] at z;cases z⟩
 keep:=fun i h h' st k=>by
  obtain ⟨⟨old,he⟩,o,e1,r⟩:=st
  exact ⟨⟨old,k e (by simp) _ he⟩,o,k it (by simp) o e1,r⟩
 item:=by
  intro X hP hw hK hc i pins s σ H E I hf st hg
  subst hP hw hK
  obtain ⟨⟨old,he⟩,hit⟩:=st
  obtain ⟨xs,x,hq,hx⟩:=hg
  obtain ⟨its,rv,p,hz⟩:=I.list hq
  obtain ⟨u,hu,ru⟩:=rv.get hx
  have pT:=p.isList
  have nai:a≠it:=fun z=>by
   obtain ⟨o1,q1,c1,_⟩:=pT
   obtain ⟨o2,q2,c2,_⟩:=hit
   rw [z,q2] at q1;cases q1;rw [c2] at c1;exact absurd (Value.type.inj c1) (by decide)
  have nae:e≠a:=fun z=>by
   obtain ⟨o1,q1,c1,_⟩:=pT
   rw [← z,he] at q1;cases q1;exact absurd (Value.type.inj c1) (by decide)
  have il:i < its.toArray.size:=by
   have:=(List.getElem?_eq_some_iff.mp hu).1
   simpa using this
  refine wpAny_pyNext_enum_itemD (Draws.list (A:=X.A.in1) (I.ok.hd hc) it a nai its.toArray) he ⟨hit,pT⟩ il hei (by simp [hei,nae]) fun x' h1 tk hP ho hs hT hsz hk=>?_
  have ex:x'=u:=by
   have:its[i]?=some x':=by simpa using hP
   rw [hu] at this;cases this;rfl
  subst ex
  refine ⟨_,rfl,wpAny_letOwnedTupleGo_enum ho fun h2 he2 sb=>?_⟩
  have eT:e < s.heap.objs.size:=Heap.lt_size he
  have k2:∀ b o,b≠e→b≠it→s.heap.get? b=some o→h2.get? b=some o:=fun b o n1 n2 q=>sb.extBut b o n1 (hk b o n1 n2 q)
  have new:ObjOk X.prog X.w (upd H s.heap.objs.size (.tup [.int i,x])) h2 s.heap.objs.size (.tup [.int i,x]):=⟨by show 2≤sizeLine;rw [sizeLine_eq];decide,[.int i tk,x'],.cons ⟨tk,rfl⟩ (.cons ru .nil),_,sb.extBut _ _ (Nat.ne_of_gt eT) hT,rfl,_,rfl,rfl⟩
  have I2:Inv X pins σ (upd H s.heap.objs.size (.tup [.int i,x])) { s with heap:=h2,toks:=tk + 1 }:=Inv.turned2 I k2 (hf e (by simp)) (hf it (by simp)) new
  refine ⟨.ref s.heap.objs.size,_,I2,rfl,⟨s.heap.objs.size,x,I.hok.fresh (Nat.le_refl _),rfl,rfl,fun zs hzs=>by rw [I.list_inj hzs hq];exact hx⟩,⟨⟨x',by simpa using he2⟩,?_⟩,fun b hb=>?_⟩
  ·obtain ⟨⟨o2,q2,r2⟩,_⟩:=hs
   exact ⟨o2,sb.extBut it o2 (Ne.symm hei) q2,r2⟩
  ·have bl:b < s.heap.objs.size:=by
    have z:b=e∨b=it:=by simpa using hb
    rcases z with rfl | rfl
    ·exact eT
    ·obtain ⟨o2,q2,_⟩:=hit
     exact Heap.lt_size q2
   rw [upd_ne (Nat.ne_of_lt bl)]
   exact (hf b hb).1
 done:=by
  intro X hP hw hK hc i pins s σ H E I hf st hg
  subst hP hw hK
  obtain ⟨⟨old,he⟩,hit⟩:=st
  obtain ⟨xs,hq,hx⟩:=hg
  obtain ⟨its,rv,p,hz⟩:=I.list hq
  obtain ⟨f0,f1,f2,f3,f4,f5⟩:=hf it (by simp)
  have pT:=p.isList
  have hl:=rv.length
  have nai:a≠it:=fun z=>by
   obtain ⟨o1,q1,c1,_⟩:=pT
   obtain ⟨o2,q2,c2,_⟩:=hit
   rw [z,q2] at q1;cases q1;rw [c2] at c1;exact absurd (Value.type.inj c1) (by decide)
  have ei:its.toArray.size=i:=by simp;walk_at"q"
  exact wpAny_pyNext_enum_endD (Draws.list (A:=X.A.in1) (I.ok.hd hc) it a nai its.toArray) he (by rw [ei];exact ⟨hit,pT⟩) fun h' eb=>⟨rfl,I.turned (t':=s.toks) (fun b o hb q=>eb b o hb q) f0 f1 f3 f4 f5⟩
 self:=fun _ _ _ _ _ st h=>wpAny_pyIter_enum st.1.choose_spec h
def iEnumT (K:PySem.W.Frag) (ta:TA):TI:=fun σ H R=>ta σ H fun vs H1=>∃ a,vs=[.ref a]∧(∃ xs,SqT K H1 a xs)∧R (Ite (fun H xs=>SqT K H a xs)) H1
def iEnumL (K:PySem.W.Frag) (ta:TA):TI:=fun σ H R=>ta σ H fun vs H1=>∃ a,vs=[.ref a]∧(∃ xs,SqL K H1 a xs)∧R (Ite (fun H xs=>SqL K H a xs)) H1
theorem pi_enumT {l:Expr} {ta:TA} {p pos:Pos} (hg:Gl X "enumerate") (hm:X.mg "enumerate" = none) (ha:PA X [l] ta) (hs:starEach [l] X.env=[(false,eval l X.env)]:=by rfl):PI X (.Tuple elts kk ps) (.Call (.Name "enumerate" p) [l] [] pos) (iEnumT X.K ta):=by
 intro pins s σ H R I h
 refine Call_ (ld_blt I hg hm boot_enumerate (PyProof.Rows.callWith_type1 (thn (ha pos pins s σ H _ I h) fun us s1 ⟨vs,H1,I1,r1,q1⟩=>?_) hs rfl))
 obtain ⟨a,e,⟨xs,hq⟩,q⟩:=q1
 subst e
 obtain ⟨u,rfl,ru⟩:=Vals.one r1
 cases ru
 obtain ⟨its,rv,pp,hz⟩:=I1.tuple hq
 refine call_enum_tup (show s1.heap.IsTuple a its.toArray from pp) fun h' ge gi sz kk=>?_
 refine wpAny_pyIter_enum (by simpa using ge) ?_
 refine ⟨s1.heap.objs.size + 1,[s1.heap.objs.size + 1,s1.heap.objs.size],_,_,H1,rfl,I1.kept (t':=s1.toks) kk,turn_enumT a _ _ (Nat.succ_ne_self _),⟨⟨_,by simpa using ge⟩,gi⟩,fun b hb=>?_,q⟩
 have z:b=s1.heap.objs.size + 1∨b=s1.heap.objs.size:=by simpa using hb
 rcases z with rfl | rfl
 ·exact I1.fpOk (Nat.le_succ _) (I1.hok.fresh (Nat.le_succ _))
 ·exact I1.fpOk (Nat.le_refl _) (I1.hok.fresh (Nat.le_refl _))
theorem pi_enumL {l:Expr} {ta:TA} {p pos:Pos} (hg:Gl X "enumerate") (hm:X.mg "enumerate" = none) (ha:PA X [l] ta) (hs:starEach [l] X.env=[(false,eval l X.env)]:=by rfl):PI X (.Tuple elts kk ps) (.Call (.Name "enumerate" p) [l] [] pos) (iEnumL X.K ta):=by
 intro pins s σ H R I h
 refine Call_ (ld_blt I hg hm boot_enumerate (PyProof.Rows.callWith_type1 (thn (ha pos pins s σ H _ I h) fun us s1 ⟨vs,H1,I1,r1,q1⟩=>?_) hs rfl))
 obtain ⟨a,e,⟨xs,hq⟩,q⟩:=q1
 subst e
 obtain ⟨u,rfl,ru⟩:=Vals.one r1
 cases ru
 obtain ⟨its,rv,pp,hz⟩:=I1.list hq
 refine call_enumerate_list pp.isList fun h' ge gi sz kk=>?_
 refine wpAny_pyIter_enum (by simpa using ge) ?_
 refine ⟨s1.heap.objs.size + 1,[s1.heap.objs.size + 1,s1.heap.objs.size],_,_,H1,rfl,I1.kept (t':=s1.toks) kk,turn_enumL a _ _ (Nat.succ_ne_self _),⟨⟨_,by simpa using ge⟩,gi⟩,fun b hb=>?_,q⟩
 have z:b=s1.heap.objs.size + 1∨b=s1.heap.objs.size:=by simpa using hb
 rcases z with rfl | rfl
 ·exact I1.fpOk (Nat.le_succ _) (I1.hok.fresh (Nat.le_succ _))
 ·exact I1.fpOk (Nat.le_refl _) (I1.hok.fresh (Nat.le_refl _))
theorem for_enum {sq:Hp→List V→Prop} {xs:List V} {g:TG} {tb:TS} {D:Ends} {σ:St} {H:Hp} (Pv:Nat→St→Hp→Prop) (h0:Pv 0 σ H) (hl:∀ i σ H,i≤xs.length→Pv i σ H→sq H xs)
  (hs:∀ i x T σ H,xs[i]?=some x→H T=none→Pv i σ H→g (.ref T) σ (upd H T (.tup [.int i,x])) fun σ2 H2=>tb { D with nx:=Pv (i + 1),ct:=Pv (i + 1),bk:=D.nx } σ2 H2) (hd:∀ σ H,Pv xs.length σ H→D.nx σ H) :
  ∃ W:Nat→Nat→St→Hp→Prop,(∃ m,W 0 m σ H)∧∀ i m σ H,W i m σ H →
   ((Ite sq).stop i H∧D.nx σ H)∨((Ite sq).go i H∧∃ N:St→Hp→Prop,(∀ σ' H',N σ' H'→∃ m',m' < m∧W (i + 1) m' σ' H')∧∀ x H',(Ite sq).yld i H x H'→g x σ H' fun σ2 H2=>tb { D with nx:=N,ct:=N,bk:=D.nx } σ2 H2):=by
 refine ⟨fun i m σ H=>m=xs.length - i∧i≤xs.length∧Pv i σ H,⟨xs.length,by simp,Nat.zero_le _,h0⟩,?_⟩
 rintro i m σ H ⟨rfl,hi,p⟩
 have q:=hl i σ H hi p
 by_cases hlt:i < xs.length
 ·refine .inr ⟨⟨xs,xs[i],q,by simp [hlt]⟩,Pv (i + 1),fun σ' H' p'=>⟨xs.length - (i + 1),by walk_at"q", rfl,hlt,p'⟩,fun x H' y=>?_⟩
  obtain ⟨T,v,fT,e1,e2,y⟩:=y
  subst e1 e2
  exact hs i v T σ H (y xs q) fT p
 ·have e:i=xs.length:=by walk_at"q"
  subst e
  exact .inl ⟨⟨xs,q,rfl⟩,hd σ H p⟩
end
end L2

namespace L2
open PySem PySem.Spec PyProof.Rows HT
section
variable {prog:Program} {w:World} {A:Around} {E:Value→Shared→Prop} {s:Shared}
theorem item_tuple_all {t sl:Addr} {ys:Array Value} {vl vu:Value} {lo hi:Option Int} {Q:Value→Shared→Prop} (gt:IsTup s.heap t ys) (gs:s.heap.IsSliceOf sl vl vu .none) (pl:IsPart vl lo) (pu:IsPart vu hi)
  (yes:sIx ys.size 0 lo=0∧sIx ys.size ys.size hi=ys.size) (q:Q (.ref t) s):wpAny (model prog w) A (getItem (.ref t) (.ref sl)) Q E s:=by
 obtain ⟨os,g1,g2,g3⟩:=id gs
 have gT:s.TypeIs (.ref sl) "slice" := ⟨os,g1,g2⟩
 unfold getItem
 try with_reducible refine wpAny_holding ?_
 first | refine wpAny_bind (wpAny_pure ?_) | skip
 refine wpAny_bind (wpAny_sequenceKey gt.typeIs (by decide) (wpAny_bind (wpAny_callSpecial?_slot (name:=Str.ofString "__getitem__") gt.typeIs PyProof.Rows.slot_tuple_getitem (wpAny_call_entry PyProof.Rows.slot_tuple_getitem gt.typeIs entry_tuple_getitem ?_ (args_tuple_getitem _ _)))))
 show wpAny _ A.in1 (Builtin.Tuple.tupleItemsOf (.ref t) >>= _) _ _ s
 refine wpAny_bind (tupleItemsOf_ gt (wpAny_bind (wpAny_typeOf gT ?_)))
 rw [if_pos (by decide)]
 refine wpAny_bind (sliceApplied_gen gs pl pu ?_)
 have yy:(((sIx ys.size 0 lo:Nat):Int) == 0 && (1:Int) == 1 && (sIx ys.size ys.size hi - sIx ys.size 0 lo) == ys.size)=true:=by
  rw [yes.1,yes.2]
  simp
 show wpAny _ A.in1 (if (((sIx ys.size 0 lo:Nat):Int) == 0 && (1:Int) == 1 && (sIx ys.size ys.size hi - sIx ys.size 0 lo) == ys.size)=true then _ else _) _ _ s
 rw [if_pos yy]
 unfold Builtin.Tuple.tupleIsExact
 refine wpAny_bind (wpAny_bind (wpAny_typeOf gt.typeIs (wpAny_pure ?_)))
 rw [if_pos (by decide)]
 exact wpAny_bind (wpAny_rule (wpAny_pure ⟨_,rfl,wpAny_pure q⟩))
end
section
variable {X:Cx}
def whole (n:Nat) (lo hi:Option Int):Prop:=sIx n 0 lo=0∧sIx n n hi=n
def rSlW (K:PySem.W.Frag):V→Option Int→Option Int→Hp→VK→Prop:=fun x lo hi H Q=>∃ a xs,x=.ref a∧SqT K H a xs∧(whole xs.length lo hi→Q (.ref a) H)∧(¬ whole xs.length lo hi→∀ p,H p=none→Q (.ref p) (upd H p (.tup (cutV xs lo hi))))
theorem sl_tupW:SlR X (rSlW X.K):=by
 intro pins s σ H x v vl vu lo hi sl Q I rx hs pl pu h
 obtain ⟨a,xs,rfl,hx,q1,q2⟩:=h
 by_cases hw:whole xs.length lo hi
 ·cases rx
  obtain ⟨its,r,ht,hz⟩:=I.tuple hx
  have el:its.toArray.size=xs.length:=by rw [List.size_toArray];exact r.length.symm
  refine ⟨"tuple", _,PyProof.Rows.slot_tuple_getitem.lookup,ht.typeIs,item_tuple_all ht hs pl pu (by rw [el];exact hw) ⟨.ref a,H,I,rfl,q1 hw⟩⟩
 ·exact sl_tup pins s σ H (.ref a) v vl vu lo hi sl Q I rx hs pl pu ⟨a,xs,rfl,hx,hw,q2 hw⟩
theorem cut_first {xs:List V} {n:Nat} (h:n≤xs.length):cutV xs none (some (n:Int))=xs.take n:=by
 unfold cutV
 rw [sIx_nat,sIx_none]
 simp [Nat.min_eq_left h]
theorem cut_whole {xs:List V} {lo hi:Option Int} (h:whole xs.length lo hi):cutV xs lo hi=xs:=by
 unfold cutV
 rw [h.1,h.2]
 simp
def rSlU:V→Option Int→Option Int→Hp→VK→Prop:=fun x lo hi H Q=>∃ a xs,x=.ref a∧H a=some (.tup xs)∧∀ p H',Same H H'→H' p=some (.tup (cutV xs lo hi))→Q (.ref p) H'
theorem sl_tupU:SlR X rSlU:=by
 intro pins s σ H x v vl vu lo hi sl Q I rx hs pl pu h
 obtain ⟨a,xs,rfl,hx,q⟩:=h
 exact sl_tupW pins s σ H (.ref a) v vl vu lo hi sl Q I rx hs pl pu ⟨a,xs,rfl,SqT.of hx,fun z=>q a H (Same.refl H) (by rw [cut_whole z];exact hx),fun _ p fp=>q p _ (fun b o e=>by rw [upd_ne (ne_of_none e fp)];exact e) upd_same⟩
end
end L2

namespace Ep
open PySem L2
def both (cs:List Int) (w:Int × Int):Int:=cs.getD w.1.toNat 0 + cs.getD w.2.toNat 0
def letM (cs:List Int) (w:Int × Int):List Int:=(cs.set w.1.toNat ((both cs w + 1) / 2)).set w.2.toNat (both cs w / 2)
def thruM (cs:List Int) (ws:List (Int × Int)):List Int:=ws.foldl letM cs
def oddsM:Nat→List Int→List (Int × Int)→List Int
 | _,_,[]=>[]
 | k,cs,w :: r=>(if both cs w % 2=1 then [(k:Int)] else []) ++ oddsM (k + 1) (letM cs w) r
theorem letM_len (cs:List Int) (w:Int × Int):(letM cs w).length=cs.length:=by unfold letM;rw [List.length_set,List.length_set]
theorem thruM_len (ws:List (Int × Int)):∀ cs:List Int,(thruM cs ws).length=cs.length:=by
 unfold thruM
 induction ws with
 | nil=>intro cs;rfl
 | cons w r ih=>intro cs;rw [List.foldl_cons,ih,letM_len]
theorem thruM_snoc (cs:List Int) (ws:List (Int × Int)) (w:Int × Int):thruM cs (ws ++ [w])=letM (thruM cs ws) w:=by
 unfold thruM
 rw [List.foldl_append]
 rfl
theorem thruM_app (cs:List Int) (ws us:List (Int × Int)):thruM cs (ws ++ us)=thruM (thruM cs ws) us:=by
 unfold thruM
 rw [List.foldl_append]
theorem oddsM_snoc (ws:List (Int × Int)) (w:Int × Int):∀ (k:Nat) (cs:List Int),oddsM k cs (ws ++ [w])=oddsM k cs ws ++ (if both (thruM cs ws) w % 2=1 then [((k + ws.length:Nat):Int)] else []):=by
 induction ws with
 | nil=>intro k cs;simp [oddsM,thruM];rfl
 | cons v r ih =>
  intro k cs
  show _ ++ oddsM (k + 1) (letM cs v) (r ++ [w])=(_ ++ oddsM (k + 1) (letM cs v) r) ++ _
  rw [ih,List.append_assoc]
  have e:k + 1 + r.length=k + (v :: r).length:=by simp;walk_at"q"
  rw [e]
  rfl
theorem oddsM_len (ws:List (Int × Int)):∀ (k:Nat) (cs:List Int),(oddsM k cs ws).length≤ws.length:=by
 induction ws with
 | nil=>intro k cs;simp [oddsM]
 | cons v r ih =>
  intro k cs
  show (_ ++ oddsM (k + 1) (letM cs v) r).length≤_
  rw [List.length_append,List.length_cons]
  have:=ih (k + 1) (letM cs v)
  split <;> simp <;> walk_at"q"
theorem take_snoc {α:Type} {ws:List α} {i:Nat} {w:α} (h:ws[i]?=some w):ws.take (i + 1)=ws.take i ++ [w]:=by rw [List.take_add_one,h];rfl
theorem set_map (cs:List Int) (i:Nat) (z:Int):(cs.map V.int).set i (V.int z)=(cs.set i z).map V.int:=by rw [List.map_set]
inductive SpThruP (vs:List V) (H:Hp) (Q:VK):Prop
 | mk (v:V) (wide:Int) (ws:List (Int × Int)) (c:Addr) (cs:List Int) (h1:vs=[v,.ref c]) (h2:Net H v wide ws) (h3:WOk wide ws) (h4:ws.length≤100) (h5:H c=some (.lst (cs.map V.int))) (h6:cs.length=wide.toNat) (h7:∀ (t a b:Addr) (H':Hp),H t=none→H a=none→H b=none→a≠b→Same H H'→H' t=some (.tup [.ref a,.ref b])→H' a=some (.lst ((thruM cs ws).map V.int))→H' b=some (.lst ((oddsM 0 cs ws).map V.int))→Q (.ref t) H'):SpThruP vs H Q
def spThru:Sp:=fun vs H Q _=>SpThruP  vs H Q
inductive SpExitsP (vs:List V) (H:Hp) (Q:VK):Prop
 | mk (v:V) (wide:Int) (ws:List (Int × Int)) (c:Addr) (cs:List Int) (h1:vs=[v,.ref c]) (h2:Net H v wide ws) (h3:WOk wide ws) (h4:ws.length≤100) (h5:H c=some (.lst (cs.map V.int))) (h6:cs.length=wide.toNat) (h7:∀ (a:Addr) (H':Hp),H a=none→Same H H'→H' a=some (.lst ((thruM cs ws).map V.int))→Q (.ref a) H'):SpExitsP vs H Q
def spExits:Sp:=fun vs H Q _=>SpExitsP  vs H Q
theorem WOk.mem {wide:Int} {ws:List (Int × Int)} (h:WOk wide ws) {i:Nat} {x:Int × Int} (e:ws[i]?=some x):0≤x.1∧x.1 < wide∧0≤x.2∧x.2 < wide∧x.1≠x.2:=h x (List.mem_of_getElem? e)
theorem getD_lt {cs:List Int} {i:Nat} (h:i < cs.length):cs[i]?=some (cs.getD i 0):=by simp [List.getD,h]
theorem due_bound {ws:List (Int × Int)} {d:List Int} {n:Nat} (h:Due ws d n):∀ k,k < n→1≤d.getD k 0∧d.getD k 0≤(k:Int) + 1:=by
 have key:∀ m k,k < m→k < n→1≤d.getD k 0∧d.getD k 0≤(k:Int) + 1:=by
  intro m
  induction m with
  | zero=>intro k hk;walk_at"q"
  | succ m ih =>
   intro k hk hn
   obtain ⟨v,h1,h2,h3,h4⟩:=h.2 k hn
   rcases h4 with z | ⟨j,j1,j2,j3⟩
   ·walk_at"q"
   ·have:=ih j (by walk_at"q") (by walk_at"q")
    walk_at"q"
 exact fun k hk=>key (k + 1) k (Nat.lt_succ_self _) hk
theorem lay_bound {wide:Int} {ws:List (Int × Int)} (ok:WOk wide ws):∀ a∈(layS wide ws).2,1≤a∧a≤(ws.length:Int):=fun a ha=>by
 obtain ⟨k,hk,ek⟩:=List.mem_iff_getElem.mp ha
 have du:=lay_due ok
 have l:=du.1
 have b:=due_bound du k (by walk_at"q")
 have e:(layS wide ws).2.getD k 0=a:=by simp [List.getD,hk,ek]
 walk_at"q"
theorem depth_bound {wide:Int} {ws:List (Int × Int)} {m:Int} (ok:WOk wide ws) (h0:(layS wide ws).2=[]→m=0) (h1:(layS wide ws).2≠[]→IsMax (layS wide ws).2 m):0≤m∧m≤(ws.length:Int)∧∀ a∈(layS wide ws).2,a≤m:=by
 by_cases e:(layS wide ws).2=[]
 ·rw [h0 e]
  exact ⟨Int.le_refl _,by walk_at"q", fun a ha=>by rw [e] at ha;cases ha⟩
 ·have im:=h1 e
  have b:=lay_bound ok m im.1
  exact ⟨by walk_at"q", b.2,im.2⟩
theorem lay_keep (us:List (Int × Int)):∀ (st:List Int × List Int) (a:Int),a∈st.2→a∈(us.foldl layT st).2:=by
 induction us with
 | nil=>intro st a h;exact h
 | cons u r ih=>intro st a h;exact ih _ a (List.mem_append_left _ h)
theorem dvd_pow {a b:Nat} {x:Int} (h:a≤b) (d:((2 ^ b:Nat):Int) ∣ x):((2 ^ a:Nat):Int) ∣ x:=Int.dvd_trans (Int.natCast_dvd_natCast.mpr (Nat.pow_dvd_pow 2 h)) d
theorem no_odds_from {wide:Int} {D:Nat} (ws:List (Int × Int)):∀ (st:List Int × List Int) (cs:List Int) (k:Nat),WOk wide ws→st.1.length=wide.toNat→cs.length=wide.toNat →
  (∀ x:Nat,x < wide.toNat→0≤st.1.getD x 0∧st.1.getD x 0≤(D:Int)∧((2 ^ (D - (st.1.getD x 0).toNat):Nat):Int) ∣ cs.getD x 0)→(∀ a∈(ws.foldl layT st).2,a≤(D:Int))→oddsM k cs ws=[]:=by
 induction ws with
 | nil=>intro st cs k _ _ _ _ _;rfl
 | cons u r ih =>
  intro st cs k ok l1 l2 inv fin
  have okr:WOk wide r:=fun x hx=>ok x (List.mem_cons_of_mem _ hx)
  obtain ⟨o1,o2,o3,o4,o5⟩:=ok u List.mem_cons_self
  have i1:=inv u.1.toNat (by walk_at"q")
  have i2:=inv u.2.toNat (by walk_at"q")
  have top:1 + maxI (st.1.getD u.1.toNat 0) (st.1.getD u.2.toNat 0)≤(D:Int):=fin _ (lay_keep r _ _ (List.mem_append_right _ (List.mem_singleton.mpr rfl)))
  generalize hL:maxI (st.1.getD u.1.toNat 0) (st.1.getD u.2.toNat 0)=L at top
  have b1:st.1.getD u.1.toNat 0≤L:=by rw [← hL];unfold maxI;split <;> walk_at"q"
  have b2:st.1.getD u.2.toNat 0≤L:=by rw [← hL];unfold maxI;split <;> walk_at"q"
  obtain ⟨e,he⟩:∃ e:Nat,(D:Int)=1 + L + e:=⟨((D:Int) - (1 + L)).toNat,by walk_at"q"⟩
  have d1:=dvd_pow (a:=e + 1) (by walk_at"q") i1.2.2
  have d2:=dvd_pow (a:=e + 1) (by walk_at"q") i2.2.2
  obtain ⟨m,hm⟩:=Int.dvd_add d1 d2
  have pe:((2 ^ (e + 1):Nat):Int)=((2 ^ e:Nat):Int) * 2:=by rw [Nat.pow_succ,Int.natCast_mul];rfl
  have hb:both cs u=2 * (((2 ^ e:Nat):Int) * m):=by
   unfold both
   rw [hm,pe,Int.mul_assoc,Int.mul_left_comm,Int.mul_left_comm]
  generalize hq:((2 ^ e:Nat):Int) * m=q at hb
  have dq:((2 ^ e:Nat):Int) ∣ q:=⟨m,hq.symm⟩
  show (if both cs u % 2=1 then [(k:Int)] else []) ++ oddsM (k + 1) (letM cs u) r=[]
  rw [if_neg (by walk_at"q"),List.nil_append]
  refine ih (layT st u) (letM cs u) (k + 1) okr ?_ (by rw [letM_len];exact l2) (fun x hx=>?_) fin
  ·show ((st.1.set _ _).set _ _).length=_
   rw [List.length_set,List.length_set]
   exact l1
  ·have e1:(layT st u).1.getD x 0=if x=u.2.toNat then 1 + L else if x=u.1.toNat then 1 + L else st.1.getD x 0:=by
    show ((st.1.set u.1.toNat (1 + maxI (st.1.getD u.1.toNat 0) (st.1.getD u.2.toNat 0))).set u.2.toNat (1 + maxI (st.1.getD u.1.toNat 0) (st.1.getD u.2.toNat 0))).getD x 0=_
    rw [hL,getD_set (by rw [List.length_set];walk_at"q"),getD_set (by walk_at"q")]
   have e2:(letM cs u).getD x 0=if x=u.2.toNat then q else if x=u.1.toNat then q else cs.getD x 0:=by
    unfold letM
    rw [getD_set (by rw [List.length_set];walk_at"q"),getD_set (by walk_at"q"),hb,show (2 * q + 1) / 2=q by walk_at"q", show 2 * q / 2=q by walk_at"q"]
   have i1':=i1.1
   rw [e1,e2]
   by_cases c2:x=u.2.toNat
   ·rw [if_pos c2,if_pos c2]
    exact ⟨by walk_at"q", by walk_at"q", dvd_pow (by walk_at"q") dq⟩
   ·rw [if_neg c2,if_neg c2]
    by_cases c1:x=u.1.toNat
    ·rw [if_pos c1,if_pos c1]
     exact ⟨by walk_at"q", by walk_at"q", dvd_pow (by walk_at"q") dq⟩
    ·rw [if_neg c1,if_neg c1]
     exact inv x hx
end Ep

namespace L2
open PySem PySem.Spec PyProof.Rows
def Itz (sq1 sq2:Hp→List V→Prop):It :=
 ⟨fun i H=>∃ xs x ys y,sq1 H xs∧sq2 H ys∧xs[i]?=some x∧ys[i]?=some y,fun i H x H'=>∃ T v u,H T=none∧x=.ref T∧H'=upd H T (.tup [v,u])∧(∀ xs,sq1 H xs→xs[i]?=some v)∧∀ ys,sq2 H ys→ys[i]?=some u,
  fun i H=>∃ xs ys,sq1 H xs∧sq2 H ys∧(xs[i]?=none∨ys[i]?=none)⟩
theorem Inv.turnedN {X:Cx} {pins:List (Addr × Obj)} {σ:St} {H:Hp} {s:Shared} {h':Heap} {t':Nat} {ch:List Addr} (I:Inv X pins σ H s) (k:∀ b o,b ∉ ch→s.heap.get? b=some o→h'.get? b=some o)
  (fe:∀ b∈ch,FpOk X pins H b):Inv X pins σ H { s with heap:=h',toks:=t' }:=by
 have ntr:∀ b u,H b=some u→b ∉ ch:=fun b u q z=>by rw [(fe b z).1] at q;cases q
 refine I.step (g':=s.gens) (d':=s.drawn) (ch:=ch) (fun b hb=>?_) (fun b o _ _ hc q _=>k b o hc q) (fun b o _ _ hc q _=>⟨o.slots,k b o hc q⟩) (fun _ _ _ _ n=>n)
  (fun b o hc q=>⟨o,k b o hc q⟩) (fun b xs q=>q) (fun b o u q=>q) (fun b ps q=>⟨q,fun c o ec x=>⟨ec,k c o (ntr c _ ec) x⟩⟩) (fun m hm=>?_) (fun b u q=>?_) I.bare
 ·exact ⟨(fe b hb).2.2.2.1,(fe b hb).2.1,(fe b hb).2.2.2.2.1,(fe b hb).2.2.2.2.2⟩
 ·obtain ⟨o,es,ep,ho,r⟩:=hm
  exact ⟨o,es,ep,k _ o (fun z=>(fe _ z).2.1 rfl) ho,r⟩
 ·refine (I.hok b u q).stay (fun c v hc z=>k c v ?_ z) (fun _ z=>z) fun _ _ z=>z
  rcases hc with z | z
  ·rw [z];exact ntr b u q
  ·exact ntr c _ z
theorem Inv.turnedT {X:Cx} {pins:List (Addr × Obj)} {σ:St} {H:Hp} {s:Shared} {h':Heap} {t':Nat} {ch:List Addr} {ys:List V} (I:Inv X pins σ H s) (k:∀ b o,b ∉ ch→s.heap.get? b=some o→h'.get? b=some o)
  (fe:∀ b∈ch,FpOk X pins H b) (new:ObjOk X.prog X.w (upd H s.heap.objs.size (.tup ys)) h' s.heap.objs.size (.tup ys)):Inv X pins σ (upd H s.heap.objs.size (.tup ys)) { s with heap:=h',toks:=t' }:=by
 have hT:H s.heap.objs.size=none:=I.hok.fresh (Nat.le_refl _)
 have nT:∀ b o,s.heap.get? b=some o→b≠s.heap.objs.size:=fun b o q=>Nat.ne_of_lt (Heap.lt_size q)
 have ntr:∀ b u,H b=some u→b ∉ ch:=fun b u q z=>by rw [(fe b z).1] at q;cases q
 have up:∀ b u,H b=some u→upd H s.heap.objs.size (.tup ys) b=some u:=fun b u q=>by rw [upd_ne (ne_of_none q hT)];exact q
 refine I.step (g':=s.gens) (d':=s.drawn) (ch:=ch) (fun b hb=>?_) (fun b o _ _ hc q _=>k b o hc q) (fun b o _ _ hc q _=>⟨o.slots,k b o hc q⟩) (fun b o _ q n=>by rw [upd_ne (nT b o q)];exact n)
  (fun b o hc q=>⟨o,k b o hc q⟩) (fun b xs q=>up b _ q) (fun b o u q=>up b _ q) (fun b ps q=>⟨up b _ q,fun c o ec x=>⟨up c _ ec,k c o (ntr c _ ec) x⟩⟩) (fun m hm=>?_) (fun b u q=>?_) I.bare
 ·exact ⟨(fe b hb).2.2.2.1,(fe b hb).2.1,(fe b hb).2.2.2.2.1,(fe b hb).2.2.2.2.2⟩
 ·obtain ⟨o,es,ep,ho,r⟩:=hm
  exact ⟨o,es,ep,k _ o (fun z=>(fe _ z).2.1 rfl) ho,r⟩
 ·by_cases hb:b=s.heap.objs.size
  ·subst hb
   rw [upd_same] at q
   cases q
   exact new
  ·rw [upd_ne hb] at q
   refine (I.hok b u q).stay (fun c v hc z=>k c v ?_ z) (fun c z=>up c _ z) fun c xs z=>up c _ z
   rcases hc with z | z
   ·rw [z];exact ntr b u q
   ·exact ntr c _ z
section
variable {X:Cx} {elts:List Expr} {kk:Nat} {ps:Pos}
theorem turn_zipL {P:Program} {w:World} {K:PySem.W.Frag} (a1 a2 z TI TO i1 i2:Addr) (D:ZipApart z TI TO i1 i2 a1 a2):Turn P w K (.Tuple elts kk ps) (Itz (fun H xs=>SqL K H a1 xs) (fun H xs=>SqL K H a2 xs)) [z,TI,TO,i1,i2] z
  (fun i h=>IsZip h z TI TO .none∧IsPair h TI (.ref i1) (.ref i2)∧(∃ a b,IsPair h TO a b)∧h.IsListIter i1 a1 i∧h.IsListIter i2 a2 i) where
 mem:=by simp
 obj:=fun i h st b hb=>by
  obtain ⟨hz,hTI,⟨u,v,hTO⟩,⟨o1,e1,c1,d1⟩,⟨o2,e2,c2,d2⟩⟩:=st
  have q:b=z∨b=TI∨b=TO∨b=i1∨b=i2:=by simpa using hb
  rcases q with rfl | rfl | rfl | rfl | rfl
  ·exact ⟨_,hz,fun v q=>by have q':Data.fields _=Data.cell v:=q;cases q'⟩
  ·exact ⟨_,hTI,fun v q=>by have q':Data.seq _ _=Data.cell v:=q;cases q'⟩
  ·exact ⟨_,hTO,fun v q=>by have q':Data.seq _ _=Data.cell v:=q;cases q'⟩
  ·exact ⟨o1,e1,fun v q=>by rw [d1] at q;cases q⟩
  ·exact ⟨o2,e2,fun v q=>by rw [d2] at q;cases q⟩
 keep:=fun i h h' st k=>by
  obtain ⟨hz,hTI,⟨u,v,hTO⟩,h1,h2⟩:=st
  exact ⟨k z (by simp) _ hz,k TI (by simp) _ hTI,⟨u,v,k TO (by simp) _ hTO⟩,h1.at fun o e=>k i1 (by simp) o e,h2.at fun o e=>k i2 (by simp) o e⟩
 item:=by
  intro X hP hw hK hc i pins s σ H E I hf st hg
  subst hP hw hK
  obtain ⟨hz,hTI,⟨u0,v0,hTO⟩,h1,h2⟩:=st
  obtain ⟨xs,x,ys,y,hq,hr,hx,hy⟩:=hg
  obtain ⟨its,rv,p,_⟩:=I.list hq
  obtain ⟨jts,rw',p',_⟩:=I.list hr
  obtain ⟨u,hu,ru⟩:=rv.get hx
  obtain ⟨v,hv,rvv⟩:=rw'.get hy
  refine wpAny_pyNext_zip_item D hz hTI hTO h1 h2 p.isList p'.isList (x:=u) (y:=v) (by simpa using hu) (by simpa using hv) fun h' b1 b2 b3 b4 b5 b6 hk=>?_
  refine ⟨_,rfl,wpAny_letOwnedTupleGo_zip b1 fun h2' hz2 sb=>?_⟩
  have eT:z < s.heap.objs.size:=Heap.lt_size hz
  have k2:∀ b o,b ∉ [z,TO,i1,i2]→s.heap.get? b=some o→h2'.get? b=some o:=fun b o n q=>by
   have n':b≠z∧b≠TO∧b≠i1∧b≠i2:=by simpa using n
   exact sb.extBut b o n'.1 (hk b o n'.1 n'.2.1 n'.2.2.1 n'.2.2.2 q)
  have new:ObjOk X.prog X.w (upd H s.heap.objs.size (.tup [x,y])) h2' s.heap.objs.size (.tup [x,y]):=⟨by show 2≤sizeLine;rw [sizeLine_eq];decide,[u,v],.cons ru (.cons rvv .nil),_,sb.extBut _ _ (Nat.ne_of_gt eT) b5,rfl,_,rfl,rfl⟩
  have sub:∀ b∈[z,TO,i1,i2],b∈[z,TI,TO,i1,i2]:=fun b hb=>by
   simp at hb ⊢
   rcases hb with e | e | e | e <;> simp [e]
  have I2:Inv X pins σ (upd H s.heap.objs.size (.tup [x,y])) { s with heap:=h2',toks:=s.toks }:=Inv.turnedT I k2 (fun b hb=>hf b (sub b hb)) new
  refine ⟨.ref s.heap.objs.size,_,I2,rfl,⟨s.heap.objs.size,x,y,I.hok.fresh (Nat.le_refl _),rfl,rfl,(fun zs hzs=>by rw [I.list_inj hzs hq];exact hx),fun zs hzs=>by rw [I.list_inj hzs hr];exact hy⟩,⟨hz2,?_,⟨u,v,?_⟩,?_,?_⟩,fun b hb=>?_⟩
  ·exact sb.extBut _ _ D.TIz (hk _ _ D.TIz D.TITO D.TIi1 D.TIi2 hTI)
  ·exact sb.extBut _ _ D.TOz b2
  ·exact b3.extBut sb.extBut D.i1z
  ·exact b4.extBut sb.extBut D.i2z
  ·have bl:b < s.heap.objs.size:=by
    have q:b=z∨b=TI∨b=TO∨b=i1∨b=i2:=by simpa using hb
    rcases q with rfl | rfl | rfl | rfl | rfl
    ·exact eT
    ·exact Heap.lt_size hTI
    ·exact Heap.lt_size hTO
    ·obtain ⟨_,q,_⟩:=h1;exact Heap.lt_size q
    ·obtain ⟨_,q,_⟩:=h2;exact Heap.lt_size q
   rw [upd_ne (Nat.ne_of_lt bl)]
   exact (hf b hb).1
 done:=by
  intro X hP hw hK hc i pins s σ H E I hf st hg
  subst hP hw hK
  obtain ⟨hz,hTI,⟨u0,v0,hTO⟩,h1,h2⟩:=st
  obtain ⟨xs,ys,hq,hr,hx⟩:=hg
  obtain ⟨its,rv,p,_⟩:=I.list hq
  obtain ⟨jts,rw',p',_⟩:=I.list hr
  have l1:=rv.length
  have l2:=rw'.length
  have hend:its.toArray[i]?=none∨jts.toArray[i]?=none:=by
   rcases hx with q | q
   ·exact .inl (by rw [List.getElem?_toArray,List.getElem?_eq_none_iff] at *;walk_at"q")
   ·exact .inr (by rw [List.getElem?_toArray,List.getElem?_eq_none_iff] at *;walk_at"q")
  have sub:∀ b∈[z,TO,i1,i2],b∈[z,TI,TO,i1,i2]:=fun b hb=>by
   simp at hb ⊢
   rcases hb with e | e | e | e <;> simp [e]
  refine wpAny_pyNext_zip_end (I.ok.hd hc) D hz hTI hTO h1 h2 p.isList p'.isList hend fun h' hk=>⟨rfl,?_⟩
  exact Inv.turnedN (t':=s.toks) (ch:=[z,TO,i1,i2]) I (fun b o n q=>by
   have n':b≠z∧b≠TO∧b≠i1∧b≠i2:=by simpa using n
   exact hk b o n'.1 n'.2.1 n'.2.2.1 n'.2.2.2 q) fun b hb=>hf b (sub b hb)
 self:=fun _ _ _ _ _ st h=>wpAny_pyIter_zip st.1 h
def iZipL (K:PySem.W.Frag) (ta:TA):TI:=fun σ H R=>ta σ H fun vs H1=>∃ a b,vs=[.ref a,.ref b]∧(∃ xs,SqL K H1 a xs)∧(∃ ys,SqL K H1 b ys)∧R (Itz (fun H xs=>SqL K H a xs) (fun H xs=>SqL K H b xs)) H1
theorem pi_zipL {l r:Expr} {ta:TA} {p pos:Pos} (hg:Gl X "zip") (hm:X.mg "zip" = none) (ha:PA X [l,r] ta) (hs:starEach [l,r] X.env=(false,eval l X.env) :: starEach [r] X.env:=by rfl) (hpl:(backTo pos (starEach [r] X.env)).any (·.1)=false:=by rfl) :
  PI X (.Tuple elts kk ps) (.Call (.Name "zip" p) [l,r] [] pos) (iZipL X.K ta):=by
 intro pins s σ H R I h
 refine Call_ (ld_blt I hg hm boot_zip (PyProof.Rows.callWith_type1 (thn (ha pos pins s σ H _ I h) fun us s1 ⟨vs,H1,I1,r1,q1⟩=>?_) hs hpl))
 obtain ⟨a,b,e,⟨xs,hq⟩,⟨ys,hr⟩,q⟩:=q1
 subst e
 obtain ⟨u,v,rfl,ru,rv⟩:=Vals.two r1
 cases ru
 cases rv
 obtain ⟨its,_,pp,_⟩:=I1.list hq
 obtain ⟨jts,_,pp',_⟩:=I1.list hr
 have la:a < s1.heap.objs.size:=by obtain ⟨o,n,e,_⟩:=pp;exact Heap.lt_size e
 have lb:b < s1.heap.objs.size:=by obtain ⟨o,n,e,_⟩:=pp';exact Heap.lt_size e
 refine call_zip_2 pp.isList pp'.isList fun h' gz gTI gTO g1 g2 sz kk=>?_
 refine wpAny_pyIter_zip (by simpa using gz) ?_
 have ap:ZipApart (s1.heap.objs.size + 4) (s1.heap.objs.size + 2) (s1.heap.objs.size + 3) s1.heap.objs.size (s1.heap.objs.size + 1) a b:=by
  generalize s1.heap.objs.size=n at la lb
  constructor <;> exact fun q=>by simp only [Addr] at *;walk_at"q"
 refine ⟨s1.heap.objs.size + 4,[s1.heap.objs.size + 4,s1.heap.objs.size + 2,s1.heap.objs.size + 3,s1.heap.objs.size,s1.heap.objs.size + 1],_,_,H1,rfl,I1.kept (t':=s1.toks) kk,turn_zipL a b _ _ _ _ _ ap,⟨gz,gTI,⟨_,_,gTO⟩,g1,g2⟩,fun c hb=>?_,q⟩
 have bl:s1.heap.objs.size≤c:=by
  have q:c=s1.heap.objs.size + 4∨c=s1.heap.objs.size + 2∨c=s1.heap.objs.size + 3∨c=s1.heap.objs.size∨c=s1.heap.objs.size + 1:=by simpa using hb
  rcases q with rfl | rfl | rfl | rfl | rfl
  ·exact Nat.le_add_right _ _
  ·exact Nat.le_add_right _ _
  ·exact Nat.le_add_right _ _
  ·exact Nat.le_refl _
  ·exact Nat.le_add_right _ _
 exact I1.fpOk bl (I1.hok.fresh bl)
theorem for_zip {sq1 sq2:Hp→List V→Prop} {xs ys:List V} {g:TG} {tb:TS} {D:Ends} {σ:St} {H:Hp} (hlen:xs.length=ys.length) (Pv:Nat→St→Hp→Prop) (h0:Pv 0 σ H) (hl:∀ i σ H,i≤xs.length→Pv i σ H→sq1 H xs∧sq2 H ys)
  (hs:∀ i x y T σ H,xs[i]?=some x→ys[i]?=some y→H T=none→Pv i σ H→g (.ref T) σ (upd H T (.tup [x,y])) fun σ2 H2=>tb { D with nx:=Pv (i + 1),ct:=Pv (i + 1),bk:=D.nx } σ2 H2) (hd:∀ σ H,Pv xs.length σ H→D.nx σ H) :
  ∃ W:Nat→Nat→St→Hp→Prop,(∃ m,W 0 m σ H)∧∀ i m σ H,W i m σ H →
   ((Itz sq1 sq2).stop i H∧D.nx σ H)∨((Itz sq1 sq2).go i H∧∃ N:St→Hp→Prop,(∀ σ' H',N σ' H'→∃ m',m' < m∧W (i + 1) m' σ' H')∧∀ x H',(Itz sq1 sq2).yld i H x H'→g x σ H' fun σ2 H2=>tb { D with nx:=N,ct:=N,bk:=D.nx } σ2 H2):=by
 refine ⟨fun i m σ H=>m=xs.length - i∧i≤xs.length∧Pv i σ H,⟨xs.length,by simp,Nat.zero_le _,h0⟩,?_⟩
 rintro i m σ H ⟨rfl,hi,p⟩
 obtain ⟨q1,q2⟩:=hl i σ H hi p
 by_cases hlt:i < xs.length
 ·have hlt2:i < ys.length:=by walk_at"q"
  refine .inr ⟨⟨xs,xs[i],ys,ys[i],q1,q2,by simp [hlt],by simp [hlt2]⟩,Pv (i + 1),fun σ' H' p'=>⟨xs.length - (i + 1),by walk_at"q", rfl,hlt,p'⟩,fun x H' y=>?_⟩
  obtain ⟨T,v,u,fT,e1,e2,y1,y2⟩:=y
  subst e1 e2
  exact hs i v u T σ H (y1 xs q1) (y2 ys q2) fT p
 ·have e:i=xs.length:=by walk_at"q"
  subst e
  exact .inl ⟨⟨xs,ys,q1,q2,.inl (by simp)⟩,hd σ H p⟩
theorem comp_zip {sq1 sq2:Hp→List V→Prop} {xs ys':List V} {own:Nat} {caps:List Nat} {g:TG} {tt:TT} {te:TE} {σ:St} {R:Hp→Prop} {l:Addr} {H1:Hp} (hlen:xs.length=ys'.length) (Pv:Nat→List V→Hp→Prop) (h0:Pv 0 [] (upd H1 l (.lst []))) (hz:xs.length≤sizeLine)
  (hl:∀ i ys H,i≤xs.length→Pv i ys H→sq1 H xs∧sq2 H ys'∧H l=some (.lst ys)∧ys.length≤i)
  (hs:∀ i x y T ys H,xs[i]?=some x→ys'[i]?=some y→H T=none→Pv i ys H→g (.ref T) (stC own caps σ) (upd H T (.tup [x,y])) fun σ2 H2=>Wk (stC own caps σ) σ2 ∧
   tt σ2 H2 fun b H3=>if b=true then te σ2 H3 fun y H4=>H4 l=some (.lst ys)∧Pv (i + 1) (ys ++ [y]) (upd H4 l (.lst (ys ++ [y]))) else Pv (i + 1) ys H3)
  (hd:∀ ys H,Pv xs.length ys H→R H) :
  ∃ W:Nat→Nat→List V→Hp→Prop,(∃ m,W 0 m [] (upd H1 l (.lst []))) ∧
   ∀ i m ys H,W i m ys H→H l=some (.lst ys)∧(((Itz sq1 sq2).stop i H∧R H)∨((Itz sq1 sq2).go i H∧ys.length < sizeLine∧∃ N:List V→Hp→Prop,(∀ ys' H',N ys' H'→∃ m',m' < m∧W (i + 1) m' ys' H') ∧
    ∀ x H',(Itz sq1 sq2).yld i H x H'→g x (stC own caps σ) H' fun σ2 H2=>Wk (stC own caps σ) σ2 ∧
    tt σ2 H2 fun b H3=>if b=true then te σ2 H3 fun y H4=>H4 l=some (.lst ys)∧N (ys ++ [y]) (upd H4 l (.lst (ys ++ [y]))) else N ys H3)):=by
 refine ⟨fun i m ys H=>m=xs.length - i∧i≤xs.length∧Pv i ys H,⟨xs.length,by simp,Nat.zero_le _,h0⟩,?_⟩
 rintro i m ys H ⟨rfl,hi,p⟩
 obtain ⟨q1,q2,e1,e2⟩:=hl i ys H hi p
 refine ⟨e1,?_⟩
 by_cases hlt:i < xs.length
 ·have hlt2:i < ys'.length:=by walk_at"q"
  refine .inr ⟨⟨xs,xs[i],ys',ys'[i],q1,q2,by simp [hlt],by simp [hlt2]⟩,by walk_at"q", Pv (i + 1),fun zs H' p'=>⟨xs.length - (i + 1),by walk_at"q", rfl,hlt,p'⟩,fun x H' y=>?_⟩
  obtain ⟨T,v,u,fT,a1,a2,y1,y2⟩:=y
  subst a1 a2
  exact hs i v u T ys H (y1 xs q1) (y2 ys' q2) fT p
 ·have e:i=xs.length:=by walk_at"q"
  subst e
  exact .inl ⟨⟨xs,ys',q1,q2,.inl (by simp)⟩,hd ys H p⟩
end
end L2

namespace L2
open PySem PySem.Spec PyProof.Rows
section
variable {X:Cx}
def ipM:TIp:=fun x y H Q=>∃ i j,x=.int i∧y=.int j∧CMul i j∧Q (.int (i * j)) H
theorem ip_mul:PIp X .Mult ipM:=by
 intro pins s σ H x y v u Q I r1 r2 h
 obtain ⟨i,j,e1,e2,hc,q⟩:=h
 subst e1;subst e2
 obtain ⟨t,rfl⟩:=r1
 obtain ⟨t',rfl⟩:=r2
 exact PyProof.Rows.imul_int ⟨.int _,H,I.tok _,⟨_,rfl⟩,q⟩ hc.ok
end
end L2

namespace Ep
open PySem L2
theorem ext_getD {a b:List Int} (h:a.length=b.length) (g:∀ i,i < a.length→a.getD i 0=b.getD i 0):a=b:=by
 refine List.ext_getElem h fun i h1 h2=>?_
 have:=g i h1
 simpa [List.getD,h1,h2] using this
def addL (a b:List Int):List Int:=List.zipWith (· + ·) a b
def sclL (n:Int) (a:List Int):List Int:=a.map (n * ·)
def onOne (wide:Nat) (i:Nat) (n:Int):List Int:=(List.replicate wide 0).set i n
theorem addL_len {a b:List Int} (h:a.length=b.length):(addL a b).length=a.length:=by unfold addL;rw [List.length_zipWith,h,Nat.min_self]
theorem sclL_len (n:Int) (a:List Int):(sclL n a).length=a.length:=List.length_map ..
theorem onOne_len (wide i:Nat) (n:Int):(onOne wide i n).length=wide:=by unfold onOne;rw [List.length_set,List.length_replicate]
theorem addL_getD {a b:List Int} (h:a.length=b.length) {i:Nat} (hi:i < a.length):(addL a b).getD i 0=a.getD i 0 + b.getD i 0:=by
 have hb:i < b.length:=by walk_at"q"
 simp [addL,List.getD,List.getElem?_zipWith,hi,hb]
theorem sclL_getD (n:Int) (a:List Int) (i:Nat):(sclL n a).getD i 0=n * a.getD i 0:=by
 unfold sclL
 by_cases h:i < a.length
 ·simp [List.getD,h]
 ·simp [List.getD,Nat.le_of_not_lt h]
theorem onOne_getD {wide i j:Nat} {n:Int} (hi:i < wide):(onOne wide i n).getD j 0=if j=i then n else 0:=by
 unfold onOne
 rw [getD_set (by rw [List.length_replicate];exact hi)]
 have e:(List.replicate wide (0:Int)).getD j 0=0:=by
  simp only [List.getD,List.getElem?_replicate]
  split <;> rfl
 rw [e]
abbrev LaneOk (wide:Int) (w:Int × Int):Prop:=0≤w.1∧w.1 < wide∧0≤w.2∧w.2 < wide∧w.1≠w.2
theorem letM_getD {wide:Int} {cs:List Int} {w:Int × Int} (hl:cs.length=wide.toNat) (h:LaneOk wide w) (x:Nat) :
  (letM cs w).getD x 0=if x=w.2.toNat then both cs w / 2 else if x=w.1.toNat then (both cs w + 1) / 2 else cs.getD x 0:=by
 obtain ⟨h1,h2,h3,h4,h5⟩:=h
 unfold letM
 rw [getD_set (by rw [List.length_set];walk_at"q"),getD_set (by walk_at"q")]
theorem both_add {wide:Int} {a b:List Int} {w:Int × Int} (la:a.length=wide.toNat) (lb:b.length=wide.toNat) (h:LaneOk wide w):both (addL a b) w=both a w + both b w:=by
 obtain ⟨h1,h2,h3,h4,h5⟩:=h
 unfold both
 rw [addL_getD (by walk_at"q") (by walk_at"q"),addL_getD (by walk_at"q") (by walk_at"q")]
 walk_at"q"
theorem both_scl (n:Int) (a:List Int) (w:Int × Int):both (sclL n a) w=n * both a w:=by
 unfold both
 rw [sclL_getD,sclL_getD,Int.mul_add]
theorem letM_add {wide:Int} {a b:List Int} {w:Int × Int} (la:a.length=wide.toNat) (lb:b.length=wide.toNat) (h:LaneOk wide w) (e:both b w % 2=0):letM (addL a b) w=addL (letM a w) (letM b w):=by
 have lab:(addL a b).length=wide.toNat:=by rw [addL_len (by walk_at"q")];exact la
 have l1:=letM_len a w
 have l2:=letM_len b w
 have l3:=letM_len (addL a b) w
 refine ext_getD (by rw [addL_len (by walk_at"q")];walk_at"q") fun i hi=>?_
 rw [addL_getD (by walk_at"q") (by walk_at"q"),letM_getD lab h,letM_getD la h,letM_getD lb h,both_add la lb h]
 split
 ·walk_at"q"
 ·split
  ·walk_at"q"
  ·rw [addL_getD (by walk_at"q") (by walk_at"q")]
theorem letM_scl {wide:Int} {n:Int} {b:List Int} {w:Int × Int} (lb:b.length=wide.toNat) (h:LaneOk wide w) (e:both b w % 2=0):letM (sclL n b) w=sclL n (letM b w):=by
 have l1:=letM_len b w
 have l2:=letM_len (sclL n b) w
 have l3:=sclL_len n b
 have l4:=sclL_len n (letM b w)
 refine ext_getD (by walk_at"q") fun i hi=>?_
 rw [sclL_getD,letM_getD (by walk_at"q") h,letM_getD lb h,both_scl]
 obtain ⟨q,hq⟩:∃ q,both b w=2 * q:=⟨both b w / 2,by walk_at"q"⟩
 have e1:n * both b w=2 * (n * q):=by rw [hq,Int.mul_left_comm]
 have e2:n * both b w / 2=n * q:=by walk_at"q"
 have e3:(n * both b w + 1) / 2=n * q:=by walk_at"q"
 have e4:both b w / 2=q:=by walk_at"q"
 have e5:(both b w + 1) / 2=q:=by walk_at"q"
 rw [e2,e3,e4,e5]
 split
 ·rfl
 ·split
  ·rfl
  ·rw [sclL_getD]
theorem odds_cons {k:Nat} {cs:List Int} {w:Int × Int} {r:List (Int × Int)} (h:oddsM k cs (w :: r)=[]):both cs w % 2=0∧oddsM (k + 1) (letM cs w) r=[]:=by
 have h':(if both cs w % 2=1 then [(k:Int)] else []) ++ oddsM (k + 1) (letM cs w) r=[]:=h
 obtain ⟨h1,h2⟩:=List.append_eq_nil_iff.mp h'
 refine ⟨?_,h2⟩
 by_cases c:both cs w % 2=1
 ·rw [if_pos c] at h1;cases h1
 ·walk_at"q"
theorem thru_add {wide:Int} (ws:List (Int × Int)):∀ (a b:List Int) (k:Nat),WOk wide ws→a.length=wide.toNat→b.length=wide.toNat→oddsM k b ws=[]→thruM (addL a b) ws=addL (thruM a ws) (thruM b ws):=by
 induction ws with
 | nil=>intro a b k _ _ _ _;rfl
 | cons w r ih =>
  intro a b k ok la lb no
  obtain ⟨e,no'⟩:=odds_cons no
  show thruM (letM (addL a b) w) r=addL (thruM (letM a w) r) (thruM (letM b w) r)
  rw [letM_add la lb (ok w List.mem_cons_self) e]
  exact ih _ _ (k + 1) (fun x hx=>ok x (List.mem_cons_of_mem _ hx)) (by rw [letM_len];exact la) (by rw [letM_len];exact lb) no'
theorem thru_scl {wide:Int} {n:Int} (ws:List (Int × Int)):∀ (b:List Int) (k:Nat),WOk wide ws→b.length=wide.toNat→oddsM k b ws=[]→thruM (sclL n b) ws=sclL n (thruM b ws):=by
 induction ws with
 | nil=>intro b k _ _ _;rfl
 | cons w r ih =>
  intro b k ok lb no
  obtain ⟨e,no'⟩:=odds_cons no
  show thruM (letM (sclL n b) w) r=sclL n (thruM (letM b w) r)
  rw [letM_scl lb (ok w List.mem_cons_self) e]
  exact ih _ (k + 1) (fun x hx=>ok x (List.mem_cons_of_mem _ hx)) (by rw [letM_len];exact lb) no'
structure Deep (wide:Int) (D:Nat) (st:List Int × List Int) (ws:List (Int × Int)):Prop where
 len:st.1.length=wide.toNat
 low:∀ x:Nat,x < wide.toNat→0≤st.1.getD x 0∧st.1.getD x 0≤(D:Int)
 top:∀ a∈(ws.foldl layT st).2,a≤(D:Int)
theorem Deep.start {wide:Int} {D:Nat} {ws:List (Int × Int)} (h:∀ a∈(layS wide ws).2,a≤(D:Int)):Deep wide D (List.replicate wide.toNat 0,[]) ws:=by
 refine ⟨by simp,fun x hx=>?_,h⟩
 have e:(List.replicate wide.toNat (0:Int)).getD x 0=0:=by
  simp only [List.getD,List.getElem?_replicate]
  split <;> rfl
 show 0≤(List.replicate wide.toNat (0:Int)).getD x 0∧(List.replicate wide.toNat (0:Int)).getD x 0≤(D:Int)
 rw [e]
 exact ⟨Int.le_refl _,by walk_at"q"⟩
def Dvs (D:Nat) (cs:List Int):Prop:=∀ x:Nat,((2 ^ D:Nat):Int) ∣ cs.getD x 0
theorem Deep.no {wide:Int} {D:Nat} {st:List Int × List Int} {ws:List (Int × Int)} (h:Deep wide D st ws) (ok:WOk wide ws) {cs:List Int} (l:cs.length=wide.toNat) (k:Nat) (hc:Dvs D cs):oddsM k cs ws=[] :=
 no_odds_from ws st cs k ok h.len l (fun x hx=>⟨(h.low x hx).1,(h.low x hx).2,dvd_pow (Nat.sub_le _ _) (hc x)⟩) h.top
theorem onOne_dvs {wide i D:Nat} {n:Int} (hi:i < wide) (h:((2 ^ D:Nat):Int) ∣ n):Dvs D (onOne wide i n):=fun x=>by
 rw [onOne_getD hi]
 split
 ·exact h
 ·exact ⟨0,by walk_at"q"⟩
theorem scl_dvs {D:Nat} (cs:List Int):Dvs D (sclL ((2 ^ D:Nat):Int) cs):=fun x=>by
 rw [sclL_getD]
 exact ⟨_,rfl⟩
def shareM (wide D:Nat) (ws:List (Int × Int)) (i:Nat):List Int:=thruM (onOne wide i ((2 ^ D:Nat):Int)) ws
theorem shareM_len (wide D:Nat) (ws:List (Int × Int)) (i:Nat):(shareM wide D ws i).length=wide:=by unfold shareM;rw [thruM_len,onOne_len]
def cutL (cs:List Int) (i:Nat):List Int:=cs.take i ++ List.replicate (cs.length - i) 0
theorem cutL_len (cs:List Int) (i:Nat):(cutL cs i).length=cs.length:=by
 unfold cutL
 rw [List.length_append,List.length_take,List.length_replicate]
 walk_at"q"
theorem cutL_getD (cs:List Int) (i j:Nat):(cutL cs i).getD j 0=if j < i then cs.getD j 0 else 0:=by
 unfold cutL
 by_cases h:j < i
 ·rw [if_pos h]
  by_cases h2:j < cs.length
  ·have:j < (cs.take i).length:=by rw [List.length_take];walk_at"q"
   simp [List.getD,List.getElem?_append_left this,h,List.getElem?_take]
  ·simp only [List.getD]
   rw [List.getElem?_eq_none (by simp;walk_at"q"),List.getElem?_eq_none (by walk_at"q")]
 ·rw [if_neg h]
  simp only [List.getD]
  rw [List.getElem?_append_right (by rw [List.length_take];walk_at"q"),List.getElem?_replicate]
  split <;> rfl
def sumTo (f:Nat→Int):Nat→Int
 | 0=>0
 | n + 1=>sumTo f n + f n
theorem by_shares {wide:Int} {D:Nat} {st:List Int × List Int} {ws:List (Int × Int)} (h:Deep wide D st ws) (ok:WOk wide ws) {cs:List Int} (l:cs.length=wide.toNat) {j:Nat} (hj:j < wide.toNat) :
  ∀ i,i≤wide.toNat→(thruM (sclL ((2 ^ D:Nat):Int) (cutL cs i)) ws).getD j 0=sumTo (fun x=>(shareM wide.toNat D ws x).getD j 0 * cs.getD x 0) i:=by
 intro i
 induction i with
 | zero =>
  intro _
  have e:sclL ((2 ^ D:Nat):Int) (cutL cs 0)=sclL 0 (cutL cs 0):=by
   refine ext_getD (by rw [sclL_len,sclL_len]) fun x _=>?_
   rw [sclL_getD,sclL_getD,cutL_getD,if_neg (by walk_at"q")]
   simp
  have z:Dvs D (cutL cs 0):=fun x=>by rw [cutL_getD,if_neg (by walk_at"q")];exact ⟨0,by walk_at"q"⟩
  rw [e,thru_scl (wide:=wide) ws _ 0 ok (by rw [cutL_len];exact l) (h.no ok (by rw [cutL_len];exact l) 0 z),sclL_getD]
  simp [sumTo]
 | succ i ih =>
  intro hi
  have e:sclL ((2 ^ D:Nat):Int) (cutL cs (i + 1))=addL (sclL ((2 ^ D:Nat):Int) (cutL cs i)) (sclL (cs.getD i 0) (onOne wide.toNat i ((2 ^ D:Nat):Int))):=by
   refine ext_getD (by rw [addL_len (by rw [sclL_len,sclL_len,cutL_len,onOne_len];exact l),sclL_len,sclL_len,cutL_len,cutL_len]) fun x hx=>?_
   rw [sclL_len,cutL_len] at hx
   rw [addL_getD (by rw [sclL_len,sclL_len,cutL_len,onOne_len];exact l) (by rw [sclL_len,cutL_len];exact hx),sclL_getD,sclL_getD,sclL_getD,cutL_getD,cutL_getD,onOne_getD (by walk_at"q")]
   by_cases c:x < i
   ·rw [if_pos (by walk_at"q"),if_pos c,if_neg (by walk_at"q")];walk_at"q"
   ·by_cases c2:x=i
    ·rw [if_pos (by walk_at"q"),if_neg c,if_pos c2,c2,Int.mul_comm];walk_at"q"
    ·rw [if_neg (by walk_at"q"),if_neg c,if_neg c2];walk_at"q"
  have no1:oddsM 0 (onOne wide.toNat i ((2 ^ D:Nat):Int)) ws=[]:=h.no ok (by rw [onOne_len]) 0 (onOne_dvs (by walk_at"q") ⟨1,(Int.mul_one _).symm⟩)
  have no2:oddsM 0 (sclL (cs.getD i 0) (onOne wide.toNat i ((2 ^ D:Nat):Int))) ws=[]:=h.no ok (by rw [sclL_len,onOne_len]) 0 fun x=>by
   rw [sclL_getD]
   exact Int.dvd_mul_of_dvd_right (onOne_dvs (wide:=wide.toNat) (i:=i) (by walk_at"q") ⟨1,(Int.mul_one _).symm⟩ x)
  rw [e,thru_add (wide:=wide) ws _ _ 0 ok (by rw [sclL_len,cutL_len];exact l) (by rw [sclL_len,onOne_len]) no2,addL_getD (by rw [thruM_len,thruM_len,sclL_len,sclL_len,cutL_len,onOne_len];exact l) (by rw [thruM_len,sclL_len,cutL_len];walk_at"q"),
   ih (by walk_at"q"),thru_scl (wide:=wide) ws _ 0 ok (by rw [onOne_len]) no1,sclL_getD]
  show _=sumTo _ i + _
  rw [Int.mul_comm (cs.getD i 0)]
  rfl
theorem cutL_all {cs:List Int} {n:Nat} (h:cs.length≤n):cutL cs n=cs:=by
 unfold cutL
 rw [List.take_of_length_le h,Nat.sub_eq_zero_of_le h]
 simp
end Ep
namespace Ep
open PySem L2
def mxL (L:List Int):Int:=L.foldl maxI 0
theorem mx_fold (L:List Int):∀ x:Int,x≤L.foldl maxI x∧(∀ a∈L,a≤L.foldl maxI x)∧(L.foldl maxI x=x∨L.foldl maxI x∈L):=by
 induction L with
 | nil=>intro x;exact ⟨Int.le_refl _,(fun _ h=>nomatch h),.inl rfl⟩
 | cons b r ih =>
  intro x
  obtain ⟨h1,h2,h3⟩:=ih (maxI x b)
  rw [List.foldl_cons]
  generalize r.foldl maxI (maxI x b)=z at h1 h2 h3
  unfold maxI at h1 h3
  by_cases c:b≤x
  ·rw [if_pos c] at h1 h3
   refine ⟨h1,fun a ha=>?_,h3.imp id (List.mem_cons_of_mem _)⟩
   rcases List.mem_cons.mp ha with e | e
   ·walk_at"q"
   ·exact h2 a e
  ·rw [if_neg c] at h1 h3
   refine ⟨by walk_at"q", fun a ha=>?_,?_⟩
   ·rcases List.mem_cons.mp ha with e | e
    ·walk_at"q"
    ·exact h2 a e
   ·rcases h3 with e | e
    ·exact .inr (by rw [e];exact List.mem_cons_self)
    ·exact .inr (List.mem_cons_of_mem _ e)
theorem mxL_mx (L:List Int):Mx (mxL L) (·∈L):=mx_fold L 0
def depM (wide:Int) (ws:List (Int × Int)):Nat:=(mxL (layS wide ws).2).toNat
theorem depM_cast (wide:Int) (ws:List (Int × Int)):(depM wide ws:Int)=mxL (layS wide ws).2:=by
 have:=(mxL_mx (layS wide ws).2).1
 unfold depM
 walk_at"q"
theorem depM_eq {wide:Int} {ws:List (Int × Int)} {m:Int} (ok:WOk wide ws) (h0:(layS wide ws).2=[]→m=0) (h1:(layS wide ws).2≠[]→IsMax (layS wide ws).2 m):m=(depM wide ws:Int):=by
 rw [depM_cast]
 refine Mx.uniq (S:=(·∈(layS wide ws).2)) ?_ (mxL_mx _)
 obtain ⟨b1,b2,b3⟩:=depth_bound ok h0 h1
 refine ⟨b1,b3,?_⟩
 by_cases e:(layS wide ws).2=[]
 ·exact .inl (h0 e)
 ·exact .inr (h1 e).1
theorem depM_top (wide:Int) (ws:List (Int × Int)):∀ a∈(layS wide ws).2,a≤(depM wide ws:Int):=by
 rw [depM_cast]
 exact (mxL_mx _).2.1
theorem depM_le {wide:Int} {ws:List (Int × Int)} (ok:WOk wide ws):depM wide ws≤ws.length:=by
 have h:=mxL_mx (layS wide ws).2
 have c:=depM_cast wide ws
 rcases h.2.2 with e | e
 ·walk_at"q"
 ·have:=(lay_bound ok _ e).2
  walk_at"q"
abbrev whole (wide:Int) (ws:List (Int × Int)):Int:=((2 ^ depM wide ws:Nat):Int)
theorem whole_pos (wide:Int) (ws:List (Int × Int)):1≤whole wide ws:=by
 have:0 < 2 ^ depM wide ws:=Nat.pow_pos (by decide)
 unfold whole
 walk_at"q"
theorem deep0 (wide:Int) (ws:List (Int × Int)):Deep wide (depM wide ws) (List.replicate wide.toNat 0,[]) ws:=Deep.start (depM_top wide ws)
def Rows (H:Hp):List V→List (List Int)→Prop:=Paired fun r w=>∃ t,r=.ref t∧H t=some (.lst (w.map V.int))
theorem Rows.len {H:Hp} {rs:List V} {M:List (List Int)} (h:Rows H rs M):rs.length=M.length:=Paired.length h
theorem Rows.get {H:Hp}:∀ {rs:List V} {M:List (List Int)} {i:Nat} {r:V},Rows H rs M→rs[i]?=some r→∃ w t,M[i]?=some w∧r=.ref t∧H t=some (.lst (w.map V.int))
 | _,_,_,_,.nil,e=>by simp at e
 | _,_,0,_,.cons ⟨t,e1,h⟩ _,e=>by simp at e;subst e;exact ⟨_,t,rfl,e1,h⟩
 | _,_,i + 1,r,.cons _ q,e=>by
  obtain ⟨w,t,a,b⟩:=Rows.get (i:=i) (r:=r) q (by simpa using e)
  exact ⟨w,t,by simpa using a,b⟩
def RowsN (G H:Hp) (l:Addr):List V→List (List Int)→Prop:=Paired fun r w=>∃ t,r=.ref t∧t≠l∧G t=none∧H t=some (.lst (w.map V.int))
theorem RowsN.rows {G H:Hp} {l:Addr}:∀ {rs:List V} {M:List (List Int)},RowsN G H l rs M→Rows H rs M
 | _,_,.nil=>.nil
 | _,_,.cons ⟨t,e,_,_,h⟩ r=>.cons ⟨t,e,h⟩ (RowsN.rows r)
theorem RowsN.same {G H H':Hp} {l:Addr} (k:Same H H'):∀ {rs:List V} {M:List (List Int)},RowsN G H l rs M→RowsN G H' l rs M
 | _,_,.nil=>.nil
 | _,_,.cons ⟨t,e,a,b,h⟩ r=>.cons ⟨t,e,a,b,k t _ h⟩ (RowsN.same k r)
theorem RowsN.put {G H:Hp} {l:Addr} {o:HO}:∀ {rs:List V} {M:List (List Int)},RowsN G H l rs M→RowsN G (upd H l o) l rs M
 | _,_,.nil=>.nil
 | _,_,.cons ⟨t,e,a,b,h⟩ r=>.cons ⟨t,e,a,b,by rw [upd_ne a];exact h⟩ (RowsN.put r)
theorem RowsN.app {G H:Hp} {l:Addr}:∀ {rs qs:List V} {M N:List (List Int)},RowsN G H l rs M→RowsN G H l qs N→RowsN G H l (rs ++ qs) (M ++ N)
 | _,_,_,_,.nil,s=>s
 | _,_,_,_,.cons r t,s=>.cons r (RowsN.app t s)
theorem RowsN.more {G H H':Hp} {l t:Addr} {rs:List V} {M:List (List Int)} {w:List Int} {o:HO} (h:RowsN G H l rs M) (k:Same H H') (ht:H' t=some (.lst (w.map V.int))) (n:t≠l) (g:G t=none):RowsN G (upd H' l o) l (rs ++ [.ref t]) (M ++ [w]) :=
 ((h.same k).app (.cons ⟨t,rfl,n,g,ht⟩ .nil)).put
theorem RowsN.len {G H:Hp} {l:Addr} {rs:List V} {M:List (List Int)} (h:RowsN G H l rs M):rs.length=M.length:=Paired.length h
theorem RowsN.get {G H:Hp} {l:Addr}:∀ {rs:List V} {M:List (List Int)} {i:Nat} {r:V},RowsN G H l rs M→rs[i]?=some r→∃ w t,M[i]?=some w∧r=.ref t∧t≠l∧G t=none∧H t=some (.lst (w.map V.int))
 | _,_,_,_,.nil,e=>by simp at e
 | _,_,0,_,.cons ⟨t,e1,h⟩ _,e=>by simp at e;subst e;exact ⟨_,t,rfl,e1,h⟩
 | _,_,i + 1,r,.cons _ q,e=>by
  obtain ⟨w,t,a,b⟩:=RowsN.get (i:=i) (r:=r) q (by simpa using e)
  exact ⟨w,t,by simpa using a,b⟩
theorem range_snoc {α:Type} (f:Nat→α) (j:Nat):(List.range (j + 1)).map f=(List.range j).map f ++ [f j]:=by rw [List.range_succ,List.map_append];rfl
theorem range_get {α:Type} {f:Nat→α} {n i:Nat} {x:α} (h:((List.range n).map f)[i]?=some x):i < n∧x=f i:=by
 rw [List.getElem?_map] at h
 have hi:i < n:=by
  by_cases c:i < n
  ·exact c
  ·rw [List.getElem?_eq_none (by simp;walk_at"q")] at h;cases h
 rw [List.getElem?_range hi] at h
 exact ⟨hi,(Option.some.inj h).symm⟩
theorem int_item {cs:List Int} {j:Nat} {x:V} (h:(cs.map V.int)[j]?=some x):∃ z,cs[j]?=some z∧x=V.int z:=by
 rw [List.getElem?_map] at h
 cases e:cs[j]? with
 | none=>rw [e] at h;cases h
 | some z=>rw [e] at h;exact ⟨z,rfl,(Option.some.inj h).symm⟩
def sharesM (wide:Int) (ws:List (Int × Int)):List (List Int):=(List.range wide.toNat).map (shareM wide.toNat (depM wide ws) ws)
inductive SpPowerP (vs:List V) (H:Hp) (Q:VK):Prop
 | mk (v:V) (wide:Int) (ws:List (Int × Int)) (h1:vs=[v]) (h2:Net H v wide ws) (h3:1≤wide) (h4:wide≤8) (h5:WOk wide ws) (h6:ws.length≤41) (h7:∀ H',Same H H'→Q (.int (whole wide ws)) H'):SpPowerP vs H Q
def spPower:Sp:=fun vs H Q _=>SpPowerP  vs H Q
inductive SpOnOneP (vs:List V) (H:Hp) (Q:VK):Prop
 | mk (wide lane n:Int) (h1:vs=[.int wide,.int lane,.int n]) (h2:1≤wide) (h3:wide≤8) (h4:0≤lane) (h5:lane < wide) (h6:∀ (a:Addr) (H':Hp),H a=none→Same H H'→H' a=some (.lst ((onOne wide.toNat lane.toNat n).map V.int))→Q (.ref a) H'):SpOnOneP vs H Q
def spOnOne:Sp:=fun vs H Q _=>SpOnOneP  vs H Q
inductive SpSharesP (vs:List V) (H:Hp) (Q:VK):Prop
 | mk (v:V) (wide:Int) (ws:List (Int × Int)) (h1:vs=[v]) (h2:Net H v wide ws) (h3:1≤wide) (h4:wide≤8) (h5:WOk wide ws) (h6:ws.length≤41) (h7:∀ (l:Addr) (rs:List V) (H':Hp),H l=none→Same H H'→H' l=some (.lst rs)→RowsN H H' l rs (sharesM wide ws)→Q (.ref l) H'):SpSharesP vs H Q
def spShares:Sp:=fun vs H Q _=>SpSharesP  vs H Q
end Ep
namespace Ep
open PySem L2
theorem sharesM_len (wide:Int) (ws:List (Int × Int)):(sharesM wide ws).length=wide.toNat:=by unfold sharesM;simp
theorem sharesM_get {wide:Int} {ws:List (Int × Int)} {i:Nat} {r:List Int} (h:(sharesM wide ws)[i]?=some r):i < wide.toNat∧r=shareM wide.toNat (depM wide ws) ws i:=range_get h
theorem getD_of {cs:List Int} {j:Nat} {z:Int} (h:cs[j]?=some z):cs.getD j 0=z:=by simp [List.getD,h]
end Ep

namespace Ep
open PySem L2
theorem cut_from {xs:List V} {n:Nat} (h:n≤xs.length):cutV xs (some (n:Int)) none=xs.drop n:=by
 unfold cutV
 rw [HT.sIx_nat,HT.sIx_none,Nat.min_eq_left h,List.take_of_length_le (by rw [List.length_drop];walk_at"q")]
theorem cut1 {xs:List V}:cutV xs (some 1) none=xs.drop 1:=by
 by_cases h:1≤xs.length
 ·exact cut_from (n:=1) h
 ·have e:xs=[]:=List.length_eq_zero_iff.mp (by walk_at"q")
  subst e
  rfl
theorem atI_neg1 {rs:List V} {x:V} (h:rs[rs.length - 1]?=some x):atI rs (-1)=some x:=by
 have hl:=(List.getElem?_eq_some_iff.mp h).1
 unfold atI ixN
 rw [if_neg (by decide),if_pos (by walk_at"q")]
 show rs[((-1:Int) + (rs.length:Int)).toNat]?=some x
 rw [show ((-1:Int) + (rs.length:Int)).toNat=rs.length - 1 by walk_at"q"]
 exact h
end Ep
namespace Ep
open PySem L2
end Ep

namespace L2
open PySem PySem.Spec PyProof.Rows PyProof.V PySem.SeqAt
mutual
inductive Dat (H:Hp):V→PyData→Prop
 | non:Dat H .non .none
 | bl (b:Bool):Dat H (.bl b) (.bool b)
 | int (i:Int):Dat H (.int i) (.int i)
 | str (x:Str):Dat H (.str x) (.str x)
 | lst {a:Addr} {xs:List V} {ds:List PyData}:H a=some (.lst xs)→Dats H xs ds→Dat H (.ref a) (.list ds)
 | tup {a:Addr} {xs:List V} {ds:List PyData}:H a=some (.tup xs)→Dats H xs ds→Dat H (.ref a) (.tuple ds)
inductive Dats (H:Hp):List V→List PyData→Prop
 | nil:Dats H [] []
 | cons {v:V} {vs:List V} {d:PyData} {ds:List PyData}:Dat H v d→Dats H vs ds→Dats H (v :: vs) (d :: ds)
end
theorem Dats.ints (H:Hp):∀ ns:List Int,Dats H (ns.map V.int) (ns.map PyData.int)
 | []=>.nil
 | n :: r=>.cons (.int n) (Dats.ints H r)
theorem Dat.ints {H:Hp} {a:Addr} {ns:List Int} (h:H a=some (.lst (ns.map V.int))):Dat H (.ref a) (.list (ns.map PyData.int)):=.lst h (Dats.ints H ns)
theorem Dat.reads {X:Cx} {pins:List (Addr × Obj)} {σ:St} {H:Hp} {s:Shared} (I:Inv X pins σ H s) {v:V} {d:PyData} (h:Dat H v d):∀ u,RelV v u→∃ as,Reads s.heap u d as:=by
 refine Dat.rec (H:=H) (motive_1:=fun v d _=>∀ u,RelV v u→∃ as,Reads s.heap u d as) (motive_2:=fun vs ds _=>∀ us,Vals vs us→∃ as,ReadsAll s.heap us ds as) ?_ ?_ ?_ ?_ ?_ ?_ ?_ ?_ h
 ·intro u r;cases r;exact ⟨_,.none⟩
 ·intro b u r;cases r;exact ⟨_,.bool b⟩
 ·intro i u r;obtain ⟨t,rfl⟩:=r;exact ⟨_,.int i t⟩
 ·intro x u r;obtain ⟨t,rfl⟩:=r;exact ⟨_,.str x t⟩
 ·intro a xs ds e _ ih u r
  cases r
  obtain ⟨its,rv,pl,_⟩:=I.list (SqL.of (K:=X.K) e)
  obtain ⟨as,ra⟩:=ih its rv
  obtain ⟨o,ho,hc,n,hd⟩:=pl.isList
  exact ⟨_,.list ho hc hd (by simpa using ra)⟩
 ·intro a xs ds e _ ih u r
  cases r
  obtain ⟨its,rv,pl,_⟩:=I.tuple (SqT.of (K:=X.K) e)
  obtain ⟨as,ra⟩:=ih its rv
  obtain ⟨o,ho,hc,n,hd⟩:=(show s.heap.IsTuple a its.toArray from pl)
  exact ⟨_,.tuple ho hc hd (by simpa using ra)⟩
 ·intro us r;cases r;exact ⟨_,.nil⟩
 ·intro v vs d ds _ _ ih1 ih2 us r
  cases r with
  | cons r1 r2 =>
   obtain ⟨as,ra⟩:=ih1 _ r1
   obtain ⟨bs,rb⟩:=ih2 _ r2
   exact ⟨_,.cons ra rb⟩
section
variable {X:Cx}
def rEqD (neg:Bool):R2:=fun x y H Q=>∃ dx dy,Dat H x dx∧Dat H y dy∧shaped dx=true∧shaped dy=true∧noMix dx dy=true∧Q (.bl (if neg then !same dx dy else same dx dy)) H
theorem op_eqD (hu:X.A.units + 64 < cLine):OpR X (compareOp .Eq) (rEqD false):=by
 intro pins s σ H x y v u Q I rx ry h
 obtain ⟨dx,dy,d1,d2,s1,s2,nm,q⟩:=h
 obtain ⟨as,r1⟩:=d1.reads I v rx
 obtain ⟨bs,r2⟩:=d2.reads I u ry
 exact eq_dataH_same r1 r2 s1 s2 hu nm ⟨.bl _,H,I,rfl,q⟩
theorem op_neD (hu:X.A.units + 64 < cLine):OpR X (compareOp .NotEq) (rEqD true):=by
 intro pins s σ H x y v u Q I rx ry h
 obtain ⟨dx,dy,d1,d2,s1,s2,nm,q⟩:=h
 obtain ⟨as,r1⟩:=d1.reads I v rx
 obtain ⟨bs,r2⟩:=d2.reads I u ry
 exact ne_dataH_same r1 r2 s1 s2 hu nm ⟨.bl _,H,I,rfl,q⟩
end
end L2

namespace Ep
open PySem L2 PySem.SeqAt
abbrev rowM (M:List (List Int)) (i:Nat):List Int:=M.getD i []
def EvRow (r:List Int):Prop:=∀ x,x < r.length→r.getD x 0=r.getD 0 0
def AllEv (M:List (List Int)):Prop:=∀ i,i < M.length→EvRow (rowM M i)
def Unev (M:List (List Int)) (i k:Nat):Prop:=i < M.length∧(∀ j,j < i→EvRow (rowM M j))∧k < (rowM M i).length∧(rowM M i).getD k 0≠(rowM M i).getD 0 0∧∀ x,x < k→(rowM M i).getD x 0=(rowM M i).getD 0 0
theorem Unev.not {M:List (List Int)} {i k:Nat} (a:Unev M i k) (b:AllEv M):False:=a.2.2.2.1 (b i a.1 k a.2.2.1)
theorem row_get {M:List (List Int)} {i:Nat} {r:List Int} (h:M[i]?=some r):rowM M i=r:=by simp [rowM,List.getD,h]
theorem row_share {wide:Int} {ws:List (Int × Int)} {i:Nat} (hi:i < wide.toNat):rowM (sharesM wide ws) i=shareM wide.toNat (depM wide ws) ws i:=by
 refine row_get ?_
 unfold sharesM
 rw [List.getElem?_map,List.getElem?_range hi]
 rfl
inductive SpUnevenP (vs:List V) (H:Hp) (Q:VK):Prop
 | mk (v:V) (wide:Int) (ws:List (Int × Int)) (h1:vs=[v]) (h2:Net H v wide ws) (h3:1≤wide) (h4:wide≤8) (h5:WOk wide ws) (h6:ws.length≤41) (h7:(∀ H',Same H H'→AllEv (sharesM wide ws)→Q .non H')) (h8:∀ (T:Addr) (i k:Nat) (H':Hp),H T=none→Same H H'→H' T=some (.tup [.int i,.int 0,.int k])→Unev (sharesM wide ws) i k→Q (.ref T) H'):SpUnevenP vs H Q
def spUneven:Sp:=fun vs H Q _=>SpUnevenP  vs H Q
theorem thru_two {wide:Int} {ws:List (Int × Int)} (ok:WOk wide ws) {i:Nat} (hi:i < wide.toNat) (x:Nat):(thruM (onOne wide.toNat i (2 * whole wide ws)) ws).getD x 0=2 * (shareM wide.toNat (depM wide ws) ws i).getD x 0:=by
 have e:onOne wide.toNat i (2 * whole wide ws)=sclL 2 (onOne wide.toNat i (whole wide ws)):=by
  refine ext_getD (by rw [sclL_len,onOne_len,onOne_len]) fun y _=>?_
  rw [sclL_getD,onOne_getD hi,onOne_getD hi]
  split <;> walk_at"q"
 rw [e,thru_scl (wide:=wide) ws _ 0 ok (onOne_len _ _ _) ((deep0 wide ws).no ok (onOne_len _ _ _) 0 (onOne_dvs hi ⟨1,(Int.mul_one _).symm⟩)),sclL_getD]
 rfl
end Ep

namespace L2
open PySem PySem.Spec PyProof.Rows PyProof.V PySem.SeqAt
section
variable {X:Cx} {a:Expr} {ta:TE} {pos:Pos}
theorem pe_notT (ha:PE X a ta):PE X (.UnaryOp .Not a pos) (fun σ H Q=>ta σ H fun x H'=>∃ k,TruV X.K x H' k∧Q (.bl (!k)) H'):=by
 intro pins s σ H Q I h
 refine UnaryOp_ (thn (ha pins s σ H _ I h) fun v s1 ⟨x,H1,I1,r1,q1⟩=>?_)
 exact not_of (thn (tru_ok pins s1 σ H1 x v (fun k H'=>Q (.bl (!k)) H') I1 r1 q1) fun c s2 ⟨H2,I2,q2⟩=>⟨.bl (!c),H2,I2,rfl,q2⟩)
theorem op_notB:OpR X (compareOp .IsNot) (fun x y H Q=>∃ i j,x=.bl i∧y=.bl j∧Q (.bl (!decide (i=j))) H):=by
 intro pins s σ H x y v u Q I rx ry h
 obtain ⟨i,j,rfl,rfl,q⟩:=h
 cases rx
 cases ry
 refine wpAny_isNot_plain rfl ⟨.bl (!decide (i=j)),H,I,?_,q⟩
 cases i <;> cases j <;> rfl
end
theorem for_zipN {sq1 sq2:Hp→List V→Prop} {xs ys:List V} {n:Nat} {g:TG} {tb:TS} {D:Ends} {σ:St} {H:Hp} (h1:n≤xs.length) (h2:n≤ys.length) (h3:xs.length=n∨ys.length=n) (Pv:Nat→St→Hp→Prop) (h0:Pv 0 σ H) (hl:∀ i σ H,i≤n→Pv i σ H→sq1 H xs∧sq2 H ys)
  (hs:∀ i x y T σ H,i < n→xs[i]?=some x→ys[i]?=some y→H T=none→Pv i σ H→g (.ref T) σ (upd H T (.tup [x,y])) fun σ2 H2=>tb { D with nx:=Pv (i + 1),ct:=Pv (i + 1),bk:=D.nx } σ2 H2) (hd:∀ σ H,Pv n σ H→D.nx σ H) :
  ∃ W:Nat→Nat→St→Hp→Prop,(∃ m,W 0 m σ H)∧∀ i m σ H,W i m σ H →
   ((Itz sq1 sq2).stop i H∧D.nx σ H)∨((Itz sq1 sq2).go i H∧∃ N:St→Hp→Prop,(∀ σ' H',N σ' H'→∃ m',m' < m∧W (i + 1) m' σ' H')∧∀ x H',(Itz sq1 sq2).yld i H x H'→g x σ H' fun σ2 H2=>tb { D with nx:=N,ct:=N,bk:=D.nx } σ2 H2):=by
 refine ⟨fun i m σ H=>m=n - i∧i≤n∧Pv i σ H,⟨n,by simp,Nat.zero_le _,h0⟩,?_⟩
 rintro i m σ H ⟨rfl,hi,p⟩
 obtain ⟨q1,q2⟩:=hl i σ H hi p
 by_cases hlt:i < n
 ·have a1:i < xs.length:=by walk_at"q"
  have a2:i < ys.length:=by walk_at"q"
  refine .inr ⟨⟨xs,xs[i],ys,ys[i],q1,q2,by simp [a1],by simp [a2]⟩,Pv (i + 1),fun σ' H' p'=>⟨n - (i + 1),by walk_at"q", rfl,hlt,p'⟩,fun x H' y=>?_⟩
  obtain ⟨T,v,u,fT,e1,e2,y1,y2⟩:=y
  subst e1 e2
  exact hs i v u T σ H hlt (y1 xs q1) (y2 ys q2) fT p
 ·have e:i=n:=by walk_at"q"
  subst e
  refine .inl ⟨⟨xs,ys,q1,q2,?_⟩,hd σ H p⟩
  rcases h3 with z | z
  ·exact .inl (by rw [← z];simp)
  ·exact .inr (by rw [← z];simp)
end L2

namespace L2
open PySem PySem.Spec PyProof.Rows
section
variable {X:Cx} {C:Addr} {x m:Str} {k:Nat} {ps:List Str} {sp:Sp} {o e:Expr} {es:List Expr} {ta:TE} {t:TA} {p pos apos:Pos}
end
end L2
namespace Ep
open PySem L2 PySem.SeqAt
inductive Place where
 | before (k:Nat) (l:Int)
 | exit (l:Int)
 | out (l n:Int)
def hasL (w:Int × Int) (l:Int):Bool:=decide (l=w.1) || decide (l=w.2)
structure PlS where
 fac:List Int
 tal:List Int
 pla:List Place
 chg:List Int
structure PlL where
 dx:Addr
 lf:Addr
 lt:Addr
 lp:Addr
 lc:Addr
inductive SpIsWholeP (vs:List V) (H:Hp) (Q:VK):Prop
 | mk (i:Int) (h1:vs=[.int i]) (h2:Q (.bl true) H):SpIsWholeP vs H Q
def spIsWhole:Sp:=fun vs H Q _=>SpIsWholeP  vs H Q
inductive SpIsLaneP (vs:List V) (H:Hp) (Q:VK):Prop
 | mk (wide i:Int) (h1:vs=[.int wide,.int i]) (h2:0≤i) (h3:i < wide) (h4:Q (.bl true) H):SpIsLaneP vs H Q
def spIsLane:Sp:=fun vs H Q _=>SpIsLaneP  vs H Q
end Ep
namespace L2
open PySem PySem.Spec PyProof.Rows
end L2
namespace Ep
open PySem L2 PySem.SeqAt
end Ep
namespace Ep
open PySem L2 PySem.SeqAt
end Ep
namespace Ep
open PySem L2
theorem eqV_int (u v:Int):eqV (.int u) (.int v)=decide (v=u):=by
 by_cases h:u=v
 ·subst h;simp [eqV]
 ·have h':¬ v=u:=fun z=>h z.symm
  simp [eqV,h,h']
theorem inV_ints (a:Int):∀ ns:List Int,inV (.int a) (ns.map V.int)=decide (a∈ns)
 | []=>by simp [inV]
 | n :: r=>by
  show (eqV (.int n) (.int a) || inV (.int a) (r.map V.int))=_
  rw [eqV_int,inV_ints a r]
  by_cases h:a=n <;> by_cases g:a∈r <;> simp [h,g]
end Ep
namespace Ep
open PySem L2 PySem.SeqAt
theorem dats_refs {H:Hp}:∀ {rs:List V} {ws:List (Int × Int)},Refs H rs ws→Dats H rs (ws.map fun x=>PyData.tuple [.int x.1,.int x.2])
 | _,_,.nil=>.nil
 | _,_,.cons ⟨t,e,h⟩ r=>by
  subst e
  exact .cons (.tup h (.cons (.int _) (.cons (.int _) .nil))) (dats_refs r)
theorem lay_pairs:∀ ws:List (Int × Int),PyData.canLayAll0 (ws.map fun x=>PyData.tuple [.int x.1,.int x.2])=true∧PyData.depthAll (ws.map fun x=>PyData.tuple [.int x.1,.int x.2])≤5
 | []=>by simp [PyData.canLayAll0,PyData.depthAll]
 | w :: r=>by
  obtain ⟨a,b⟩:=lay_pairs r
  constructor
  ·simp [PyData.canLayAll0,PyData.canLay0,a]
  ·simp only [List.map_cons,PyData.depthAll,PyData.depth]
   walk_at"q"
end Ep

namespace Ep
open PySem L2 PySem.SeqAt
def KpS (S:List Addr) (H H':Hp):Prop:=∀ b o,H b=some o→b ∉ S→H' b=some o
theorem KpS.refl (S:List Addr) (H:Hp):KpS S H H:=fun _ _ e _=>e
theorem KpS.trans {S:List Addr} {H H1 H2:Hp} (a:KpS S H H1) (b:KpS S H1 H2):KpS S H H2:=fun c o e n=>b c o (a c o e n) n
theorem KpS.same {S:List Addr} {H H':Hp} (s:Same H H'):KpS S H H':=fun b o e _=>s b o e
theorem KpS.upd {S:List Addr} {H:Hp} {x:Addr} {o:HO} (h:x∈S):KpS S H (upd H x o):=fun b _ e n=>(upd_ne (fun z=>n (by rw [z];exact h))).trans e
structure Sts where
 sa:Addr
 a0:Addr
 a1:Addr
 a2:Addr
def Sts.own (A:Sts):List Addr:=[A.sa,A.a0,A.a1,A.a2]
def z1 (w:Int × Int) (f:Int):Int:=if f=w.1 then 0 else 1
end Ep
namespace Ep
open PySem L2 PySem.SeqAt
end Ep
namespace L2
open PySem
section
variable {X:Cx} (K:PySem.W.Frag) (hK:X.K=K) {tg:Expr}
include hK
end
end L2

namespace Ep
open PySem L2 PySem.SeqAt
def Vf (ws:List (Int × Int)) (e:Int→Int) (P:Nat→Int):Nat→Int→Int
 | 0,x=>e x
 | k + 1,x=>if x=(wAt ws k).1 then (P k + 1) / 2 else if x=(wAt ws k).2 then P k / 2 else Vf ws e P k x
def sumC (p:Place→Bool):List Int→List Place→Int
 | c :: cs,pl :: ps=>(if p pl then c else 0) + sumC p cs ps
 | _,_=>0
def isB (k:Nat):Place→Bool
 | .before j _=>decide (j=k)
 | _=>false
def isX (l:Int):Place→Bool
 | .exit x=>decide (x=l)
 | _=>false
structure Flow (wide:Int) (ws:List (Int × Int)) (st:PlS) (e:Int→Int) (P:Nat→Int):Prop where
 fa:∀ k w,ws[k]?=some w→st.fac.getD k 0=if P k % 2=0 then w.1 else w.2
 pa:∀ k,k < ws.length→P k=Vf ws e P k (wAt ws k).1 + Vf ws e P k (wAt ws k).2 - sumC (isB k) st.chg st.pla
 ta:∀ l,0≤l→l < wide→st.tal.getD l.toNat 0=Vf ws e P ws.length l - sumC (isX l) st.chg st.pla
def clear (ws:List (Int × Int)) (l:Int) (s k:Nat):Prop:=∀ j,s≤j→j < k→hasL (wAt ws j) l=false
-- one more on lane l from level s on,and its place
end Ep
namespace L2
open PySem PySem.Spec PyProof.Rows
theorem while_m {c:TT} {tb:TS} {D:Ends} {σ:St} {H:Hp} (Pv:Nat→St→Hp→Prop) (m0:Nat) (h0:Pv m0 σ H)
  (hs:∀ m σ H,Pv m σ H→c σ H fun b H1=>if b=true then tb { D with nx:=fun σ' H'=>∃ m',m' < m∧Pv m' σ' H',ct:=fun σ' H'=>∃ m',m' < m∧Pv m' σ' H',bk:=D.nx } σ H1 else D.nx σ H1)
  (mono:∀ σ H Q Q',(∀ b H1,Q b H1→Q' b H1)→c σ H Q→c σ H Q'):tWhile c tb D σ H:=by
 refine ⟨Pv,⟨m0,h0⟩,?_⟩
 rintro m σ H p
 refine mono σ H _ _ (fun b H1 q=>?_) (hs m σ H p)
 cases b with
 | true=>exact ⟨_,fun σ' H' z=>z,q⟩
 | false=>exact q
end L2
namespace Ep
open PySem L2 PySem.SeqAt
end Ep
namespace Ep
open PySem L2 PySem.SeqAt
section
variable {C:Addr} {H H':Hp} {p:Addr} {v:V} {wide:Int} {ws:List (Int × Int)} {L:PlL} {A:Sts} {st:PlS} {en:Addr} {cs:List Int}
end
end Ep

namespace L2
open PySem PySem.Spec PyProof.Rows
section
variable {prog:Program} {w:World} {A:Around} {s:Shared}
end
section
variable {X:Cx}
theorem vals_app2:∀ {xs ys:List V} {us vs:List Value},Vals xs us→Vals ys vs→Vals (xs ++ ys) (us ++ vs)
 | _,_,_,_,.nil,s=>s
 | _,_,_,_,.cons r t,s=>.cons r (vals_app2 t s)
theorem rev_vals {xs:List V} {us:List Value} (r:Vals xs us):Vals xs.reverse us.reverse:=by
 induction r with
 | nil=>exact .nil
 | cons a b ih =>
  rw [List.reverse_cons,List.reverse_cons]
  exact vals_app2 ih (.cons a .nil)
end
end L2

namespace L2
open PySem PySem.Spec PyProof.Rows
variable {X:Cx}
theorem vals_of_ints:∀ {us:List Value} {ns:List Int},IntsAre us ns→Vals (ns.map V.int) us
 | _,_,.nil=>.nil
 | _,_,.cons n t h=>.cons ⟨t,rfl⟩ (vals_of_ints h)
end L2
namespace Ep
open PySem L2 PySem.SeqAt
end Ep
namespace L2
open PySem
theorem seq_gen {a b:TS} {D:Ends} {σ:St} {H:Hp} (h:∀ N:St→Hp→Prop,(∀ σ H,b D σ H→N σ H)→a { D with nx:=N } σ H):tSeq a b D σ H:=h (b D) (fun _ _ z=>z)
end L2

namespace L2
open PySem PySem.Spec PyProof.Rows
variable {X:Cx}
theorem bmK (K:PySem.W.Frag) (hK:X.K=K) {e:Expr} {T:String} {r:V→List V→Hp→VK→Prop} {to:TE} {t:TA} (h:PE X e (tBM X.K T r to t)):PE X e (tBM K T r to t):=by subst hK;exact h
end L2
namespace Ep
open PySem L2 PySem.SeqAt
end Ep

namespace L2
open PySem PySem.Spec PyProof.Rows
end L2
namespace Ep
open PySem L2 PySem.SeqAt
end Ep

namespace Ep
open PySem L2 PySem.SeqAt
def meets (w o:Int × Int):Bool:=(o.1 == w.1 || o.1 == w.2) || (o.2 == w.1 || o.2 == w.2)
def lastW (p:Int × Int→Bool) (l:List (Int × Int)):Option (Int × Int):=l.foldl (fun acc o=>if p o then some o else acc) none
def idle (k:List (Int × Int)) (w:Int × Int):Prop:=lastW (meets w) k=some w
instance (k:List (Int × Int)) (w:Int × Int):Decidable (idle k w):=by unfold idle;infer_instance
end Ep
namespace Ep
open PySem L2 PySem.SeqAt
def pairD (w:Int × Int):PyData:=.tuple [.int w.1,.int w.2]
theorem same_pair (a w:Int × Int):PySem.Spec.same (pairD a) (pairD w)=decide (a=w):=by
 obtain ⟨a1,a2⟩:=a
 obtain ⟨b1,b2⟩:=w
 by_cases h:(a1,a2)=(b1,b2)
 ·cases h
  rw [PyProof.Rows.same_refl]
  simp
 ·rw [decide_eq_false h]
  simp only [pairD,PySem.Spec.same,PySem.Spec.sameAll,Bool.and_true]
  rw [Bool.and_eq_false_iff]
  by_cases c:a1=b1
  ·subst c
   right
   simp only [beq_eq_false_iff_ne,ne_eq]
   intro z;subst z;exact h rfl
  ·left
   simpa using c
end Ep

namespace Ep
open PySem L2 PySem.SeqAt
def renM (o:List Int) (w:Int × Int):Int × Int:=(o.getD w.1.toNat 0,o.getD w.2.toNat 0)
structure IsOrd (wide:Int) (o:List Int):Prop where
 len:o.length=wide.toNat
 nd:o.Nodup
 mem:∀ x:Int,x∈o↔0≤x∧x < wide
theorem getD_mem' {o:List Int} {i:Nat} (h:i < o.length):o.getD i 0∈o:=by
 simp [List.getD,h]
theorem IsOrd.at {wide:Int} {o:List Int} (h:IsOrd wide o) {i:Nat} (hi:i < wide.toNat):0≤o.getD i 0∧o.getD i 0 < wide:=(h.mem _).mp (getD_mem' (by rw [h.len];exact hi))
theorem inj_getD {o:List Int} (nd:o.Nodup) {i j:Nat} (hi:i < o.length) (hj:j < o.length) (e:o.getD i 0=o.getD j 0):i=j:=by
 simp only [List.getD,List.getElem?_eq_getElem hi,List.getElem?_eq_getElem hj,Option.getD_some] at e
 have pw:=List.pairwise_iff_getElem.mp nd
 rcases Nat.lt_trichotomy i j with c | c | c
 ·exact absurd e (pw i j hi hj c)
 ·exact c
 ·exact absurd e.symm (pw j i hj hi c)
theorem ren_ok {wide:Int} {o:List Int} (h:IsOrd wide o) {w:Int × Int} (ok:LaneOk wide w):LaneOk wide (renM o w):=by
 obtain ⟨o1,o2,o3,o4,o5⟩:=ok
 obtain ⟨a,b⟩:=h.at (i:=w.1.toNat) (by walk_at"q")
 obtain ⟨c,d⟩:=h.at (i:=w.2.toNat) (by walk_at"q")
 refine ⟨a,b,c,d,fun z=>o5 ?_⟩
 have:=inj_getD h.nd (by rw [h.len];walk_at"q") (by rw [h.len];walk_at"q") z
 walk_at"q"
theorem ren_wok {wide:Int} {o:List Int} (h:IsOrd wide o) {ws:List (Int × Int)} (ok:WOk wide ws):WOk wide (ws.map (renM o)):=fun w hw=>by
 obtain ⟨u,hu,rfl⟩:=List.mem_map.mp hw
 exact ren_ok h (ok u hu)
end Ep
namespace Ep
open PySem L2 PySem.SeqAt
inductive SpOrderP (vs:List V) (H:Hp) (Q:VK):Prop
 | mk (p:Addr) (wide:Int) (h1:vs=[.ref p,.int wide]) (h2:Pen H p) (h3:1≤wide) (h4:wide≤8) (h5:∀ (l:Addr) (os:List Int) (H':Hp),H l=none→Kp p H H'→Pen H' p→H' l=some (.lst (os.map V.int))→IsOrd wide os→Q (.ref l) H'):SpOrderP vs H Q
def spOrder:Sp:=fun vs H Q _=>SpOrderP  vs H Q
end Ep

namespace Ep
open PySem L2
def Level (c:List Int):Prop:=∀ i j,i≤j→j < c.length→0≤c.getD i 0 - c.getD j 0∧c.getD i 0 - c.getD j 0≤1
def levelM (n:Nat) (total:Int):List Int:=(List.range n).map fun i:Nat=>-(((0:Int) + (i:Int) - total) / (n:Int))
theorem levelM_len (n:Nat) (t:Int):(levelM n t).length=n:=by unfold levelM;simp
theorem levelM_getD {n:Nat} {t:Int} {i:Nat} (h:i < n):(levelM n t).getD i 0=-(((0:Int) + (i:Int) - t) / (n:Int)):=by
 unfold levelM
 simp only [List.getD]
 rw [List.getElem?_map,List.getElem?_range h]
 rfl
def stairM (n k:Nat) (m:Int):List Int:=(List.range n).map fun i:Nat=>if i < k then m + 1 else m
theorem stairM_len (n k:Nat) (m:Int):(stairM n k m).length=n:=by unfold stairM;simp
theorem stairM_getD {n k:Nat} {m:Int} {i:Nat} (h:i < n):(stairM n k m).getD i 0=if i < k then m + 1 else m:=by
 unfold stairM
 simp only [List.getD]
 rw [List.getElem?_map,List.getElem?_range h]
 rfl
theorem stairM_sum (n k:Nat) (m:Int) (h:k≤n):(stairM n k m).sum=n * m + k:=by
 induction n generalizing k with
 | zero =>
  have:k=0:=by walk_at"q"
  subst this
  simp [stairM]
 | succ n ih =>
  have e:stairM (n + 1) k m=stairM n k m ++ [if n < k then m + 1 else m]:=by unfold stairM;rw [List.range_succ,List.map_append];rfl
  rw [e,List.sum_append_int]
  have e2:((n + 1:Nat):Int) * m=(n:Int) * m + m:=by rw [Int.natCast_add,Int.add_mul];walk_at"q"
  by_cases c:n < k
  ·rw [if_pos c]
   have hk:k=n + 1:=by walk_at"q"
   subst hk
   have e3:stairM n (n + 1) m=stairM n n m:=by
    unfold stairM
    refine List.map_congr_left fun i hi=>?_
    have:i < n:=List.mem_range.mp hi
    rw [if_pos (by walk_at"q"),if_pos this]
   rw [e3,ih n (Nat.le_refl _),e2]
   simp
   walk_at"q"
  ·rw [if_neg c,ih k (by walk_at"q"),e2]
   simp
   walk_at"q"
theorem level_stair {c:List Int} (h:Level c) (pos:0 < c.length):∃ k m,k < c.length∧c=stairM c.length k m:=by
 have key:∀ q,q < c.length→(∀ i,i < q→c.getD i 0=c.getD (c.length - 1) 0 + 1)→∃ k,k < c.length∧∀ i,i < c.length→c.getD i 0=if i < k then c.getD (c.length - 1) 0 + 1 else c.getD (c.length - 1) 0:=by
  intro q
  induction hd:c.length - q generalizing q with
  | zero=>intro hq;walk_at"q"
  | succ d ih =>
   intro hq hi
   by_cases e:c.getD q 0=c.getD (c.length - 1) 0
   ·refine ⟨q,hq,fun i hl=>?_⟩
    by_cases ci:i < q
    ·rw [if_pos ci];exact hi i ci
    ·rw [if_neg ci]
     have h1:=h q i (by walk_at"q") hl
     have h2:=h i (c.length - 1) (by walk_at"q") (by walk_at"q")
     walk_at"q"
   ·have h2:=h q (c.length - 1) (by walk_at"q") (by walk_at"q")
    have ne:q≠c.length - 1:=fun z=>e (by rw [z])
    refine ih (q + 1) (by walk_at"q") (by walk_at"q") fun i hl=>?_
    by_cases ci:i < q
    ·exact hi i ci
    ·have:i=q:=by walk_at"q"
     subst this
     walk_at"q"
 obtain ⟨k,hk,hh⟩:=key 0 pos (fun i hi=>absurd hi (by walk_at"q"))
 refine ⟨k,c.getD (c.length - 1) 0,hk,ext_getD (stairM_len _ _ _).symm fun i hi=>?_⟩
 rw [stairM_getD hi]
 exact hh i hi
theorem stair_level (n k:Nat) (m:Int):Level (stairM n k m):=fun i j hij hj=>by
 rw [stairM_len] at hj
 rw [stairM_getD (by walk_at"q"),stairM_getD hj]
 split <;> split <;> walk_at"q"
theorem ceil_stair {n k:Nat} {m:Int} (hk:k < n):levelM n (n * m + k)=stairM n k m:=by
 refine ext_getD (by rw [levelM_len,stairM_len]) fun i hi=>?_
 rw [levelM_len] at hi
 rw [levelM_getD hi,stairM_getD hi]
 have hn:(0:Int) < (n:Int):=by walk_at"q"
 by_cases c:i < k
 ·rw [if_pos c]
  have e:(0:Int) + (i:Int) - ((n:Int) * m + (k:Int))=((n:Int) + (i:Int) - (k:Int)) + (n:Int) * (-(m + 1)):=by
   rw [Int.mul_neg,Int.mul_add]
   walk_at"q"
  rw [e,Int.add_mul_ediv_left _ _ (by walk_at"q"),Int.ediv_eq_zero_of_lt (by walk_at"q") (by walk_at"q")]
  walk_at"q"
 ·rw [if_neg c]
  have e:(0:Int) + (i:Int) - ((n:Int) * m + (k:Int))=((i:Int) - (k:Int)) + (n:Int) * (-m):=by
   rw [Int.mul_neg]
   walk_at"q"
  rw [e,Int.add_mul_ediv_left _ _ (by walk_at"q"),Int.ediv_eq_zero_of_lt (by walk_at"q") (by walk_at"q")]
  walk_at"q"
theorem levelM_stair {n:Nat} (hn:0 < n) (t:Int):∃ k m,k < n∧t=n * m + k∧levelM n t=stairM n k m:=by
 have h1:=Int.emod_nonneg t (b:=(n:Int)) (by walk_at"q")
 have h2:=Int.emod_lt_of_pos t (b:=(n:Int)) (by walk_at"q")
 have h3:=Int.mul_ediv_add_emod t (n:Int)
 refine ⟨(t % (n:Int)).toNat,t / (n:Int),by walk_at"q", by walk_at"q", ?_⟩
 rw [← ceil_stair (by walk_at"q")]
 congr 1
 walk_at"q"
theorem levelM_level {n:Nat} (hn:0 < n) (t:Int):Level (levelM n t):=by
 obtain ⟨k,m,hk,et,e⟩:=levelM_stair hn t
 rw [e]
 exact stair_level n k m
theorem level_is {c:List Int} (h:Level c) (pos:0 < c.length):levelM c.length c.sum=c:=by
 obtain ⟨k,m,hk,e⟩:=level_stair h pos
 have s:=stairM_sum c.length k m (by walk_at"q")
 rw [← e] at s
 rw [s,ceil_stair hk,← e]
theorem level_iff {c:List Int} (pos:0 < c.length):Level c↔levelM c.length c.sum=c:=⟨fun h=>level_is h pos,fun e=>by rw [← e];exact levelM_level pos _⟩
def Falls (c:List Int):Prop:=∀ i,i + 1 < c.length→c.getD (i + 1) 0≤c.getD i 0
theorem Falls.le {c:List Int} (h:Falls c):∀ {i j:Nat},i≤j→j < c.length→c.getD j 0≤c.getD i 0:=by
 intro i j hij
 induction j with
 | zero=>intro _;have:i=0:=by walk_at"q"
         subst this;exact Int.le_refl _
 | succ j ih =>
  intro hl
  by_cases e:i=j + 1
  ·subst e;exact Int.le_refl _
  ·have:=ih (by walk_at"q") (by walk_at"q")
   have:=h j hl
   walk_at"q"
theorem level_falls {c:List Int} (pos:0 < c.length):Level c↔Falls c∧c.getD 0 0 - c.getD (c.length - 1) 0≤1:=by
 constructor
 ·intro h
  exact ⟨fun i hi=>by have:=h i (i + 1) (by walk_at"q") hi;walk_at"q", (h 0 (c.length - 1) (by walk_at"q") (by walk_at"q")).2⟩
 ·rintro ⟨h,l⟩ i j hij hj
  have h1:=h.le hij hj
  have h2:=h.le (Nat.zero_le i) (by walk_at"q")
  have h3:=h.le (i:=j) (j:=c.length - 1) (by walk_at"q") (by walk_at"q")
  walk_at"q"
end Ep
namespace Ep
open PySem L2
inductive SpFallsP (vs:List V) (H:Hp) (Q:VK):Prop
 | mk (c:Addr) (cs:List Int) (h1:vs=[.ref c]) (h2:H c=some (.lst (cs.map V.int))) (h3:cs.length≤100) (h4:∀ (b:Bool) (H':Hp),Same H H'→(b=true↔Falls cs)→Q (.bl b) H'):SpFallsP vs H Q
def spFalls:Sp:=fun vs H Q _=>SpFallsP  vs H Q
inductive SpLevelP (vs:List V) (H:Hp) (Q:VK):Prop
 | mk (c:Addr) (cs:List Int) (h1:vs=[.ref c]) (h2:H c=some (.lst (cs.map V.int))) (h3:0 < cs.length) (h4:cs.length≤100) (h5:∀ (b:Bool) (H':Hp),Same H H'→(b=true↔Level cs)→Q (.bl b) H'):SpLevelP vs H Q
def spLevel:Sp:=fun vs H Q _=>SpLevelP  vs H Q
inductive SpLevelCP (vs:List V) (H:Hp) (Q:VK):Prop
 | mk (wide total:Int) (h1:vs=[.int wide,.int total]) (h2:1≤wide) (h3:wide≤100) (h4:∀ (a:Addr) (H':Hp),H a=none→Same H H'→H' a=some (.lst ((levelM wide.toNat total).map V.int))→Q (.ref a) H'):SpLevelCP vs H Q
def spLevelC:Sp:=fun vs H Q _=>SpLevelCP  vs H Q
end Ep

namespace Ep
open PySem L2 PySem.SeqAt
def longM (M:List (List Int)) (ns:List Int):List (List Int):=M.flatMap fun r=>ns.map fun n=>r ++ [n]
def rowsM (C:List (List Int)):List (List Int):=C.foldl longM [[]]
theorem rowsM_snoc (C:List (List Int)) (ns:List Int):rowsM (C ++ [ns])=longM (rowsM C) ns:=by
 unfold rowsM
 rw [List.foldl_append]
 rfl
theorem longM_len (M:List (List Int)) (ns:List Int):(longM M ns).length=M.length * ns.length:=by
 unfold longM
 induction M with
 | nil=>simp
 | cons r q ih=>rw [List.flatMap_cons,List.length_append,ih,List.length_map,List.length_cons,Nat.add_mul];walk_at"q"
def RowOf (C:List (List Int)) (r:List Int):Prop:=r.length=C.length∧∀ i,i < C.length→r.getD i 0∈C.getD i []
theorem rowsM_mem (C:List (List Int)):∀ r,r∈rowsM C↔RowOf C r:=by
 have key:∀ (k:Nat) (C:List (List Int)),C.length=k→∀ r,r∈rowsM C↔RowOf C r:=by
  intro k
  induction k with
  | zero =>
   intro C hC r
   have:C=[]:=List.length_eq_zero_iff.mp hC
   subst this
   show r∈[[]]↔_
   constructor
   ·intro h
    have:r=[]:=by simpa using h
    subst this
    exact ⟨rfl,fun i hi=>absurd hi (by simp)⟩
   ·intro h
    have:r=[]:=List.length_eq_zero_iff.mp h.1
    simp [this]
  | succ k ih =>
   intro C hC r
   obtain ⟨D,ns,rfl⟩:∃ D ns,C=D ++ [ns]:=⟨C.dropLast,C.getLast (by intro z;rw [z] at hC;simp at hC),(List.dropLast_concat_getLast _).symm⟩
   have hD:D.length=k:=by simpa using hC
   rw [rowsM_snoc]
   unfold longM
   rw [List.mem_flatMap]
   constructor
   ·rintro ⟨q,hq,hr⟩
    obtain ⟨n,hn,rfl⟩:=List.mem_map.mp hr
    obtain ⟨l,g⟩:=(ih D hD q).mp hq
    refine ⟨by simp [l],fun i hi=>?_⟩
    by_cases c:i < D.length
    ·rw [show (q ++ [n]).getD i 0=q.getD i 0 by simp [List.getD,List.getElem?_append_left (show i < q.length by walk_at"q")],show (D ++ [ns]).getD i []=D.getD i [] by simp [List.getD,List.getElem?_append_left c]]
     exact g i c
    ·have:i=D.length:=by simp at hi;walk_at"q"
     subst this
     rw [show (q ++ [n]).getD D.length 0=n by rw [← l];simp [List.getD],show (D ++ [ns]).getD D.length []=ns by simp [List.getD]]
     exact hn
   ·rintro ⟨l,g⟩
    have lr:r.length=k + 1:=by rw [l];simp [hD]
    have ne:r≠[]:=fun z=>by rw [z] at lr;simp at lr
    have e:r=r.dropLast ++ [r.getLast ne]:=(List.dropLast_concat_getLast ne).symm
    have ld:r.dropLast.length=k:=by rw [List.length_dropLast];walk_at"q"
    refine ⟨r.dropLast,(ih D hD _).mpr ⟨by walk_at"q", fun i hi=>?_⟩,List.mem_map.mpr ⟨r.getLast ne,?_,e.symm⟩⟩
    ·have:=g i (by simp;walk_at"q")
     rw [e,show (r.dropLast ++ [r.getLast ne]).getD i 0=r.dropLast.getD i 0 by simp only [List.getD];rw [List.getElem?_append_left (by walk_at"q")],show (D ++ [ns]).getD i []=D.getD i [] by simp [List.getD,List.getElem?_append_left hi]] at this
     exact this
    ·have:=g D.length (by simp)
     rw [e,show (r.dropLast ++ [r.getLast ne]).getD D.length 0=r.getLast ne by simp only [List.getD];rw [hD,← ld,List.getElem?_append_right (Nat.le_refl _),Nat.sub_self];rfl,show (D ++ [ns]).getD D.length []=ns by simp [List.getD]] at this
     exact this
 exact key C.length C rfl
end Ep
namespace Ep
open PySem L2
inductive SpLongerP (vs:List V) (H:Hp) (Q:VK):Prop
 | mk (a b:Addr) (rs:List V) (M:List (List Int)) (ns:List Int) (h1:vs=[.ref a,.ref b]) (h2:H a=some (.lst rs)) (h3:Rows H rs M) (h4:H b=some (.lst (ns.map V.int))) (h5:M.length * ns.length≤50000) (h6:ns.length≤50000) (h7:(∀ r∈M,r.length≤50)) (h8:∀ (l:Addr) (rs':List V) (H':Hp),H l=none→Same H H'→H' l=some (.lst rs')→RowsN H H' l rs' (longM M ns)→Q (.ref l) H'):SpLongerP vs H Q
def spLonger:Sp:=fun vs H Q _=>SpLongerP  vs H Q
inductive SpRowsOfP (vs:List V) (H:Hp) (Q:VK):Prop
 | mk (a:Addr) (cs:List V) (C:List (List Int)) (h1:vs=[.ref a]) (h2:H a=some (.lst cs)) (h3:Rows H cs C) (h4:C.length≤40) (h5:(∀ i,i≤C.length→(rowsM (C.take i)).length≤50000)) (h6:(∀ r∈C,r.length≤50000)) (h7:∀ (l:Addr) (rs':List V) (H':Hp),H l=none→Same H H'→H' l=some (.lst rs')→RowsN H H' l rs' (rowsM C)→Q (.ref l) H'):SpRowsOfP vs H Q
def spRowsOf:Sp:=fun vs H Q _=>SpRowsOfP  vs H Q
theorem dat1s {H:Hp} {T:Addr} {x:Str} (h:H T=some (.tup [.str x])):Dat H (.ref T) (.tuple [.str x]):=.tup h (.cons (.str x) .nil)
end Ep
namespace Ep
open PySem L2 PySem.SeqAt
end Ep

namespace Ep
open PySem L2 PySem.SeqAt
def Apart (w u:Int × Int):Prop:=w.1≠u.1∧w.1≠u.2∧w.2≠u.1∧w.2≠u.2
theorem Apart.symm {w u:Int × Int} (h:Apart w u):Apart u w:=⟨Ne.symm h.1,Ne.symm h.2.2.1,Ne.symm h.2.1,Ne.symm h.2.2.2⟩
def First (ws:List (Int × Int)) (i:Nat) (w:Int × Int):Prop:=ws[i]?=some w∧∀ j u,j < i→ws[j]?=some u→Apart w u
def firstL (ws:List (Int × Int)) (d:List Int):List (Int × Int):=((ws.zip d).filter fun p=>decide (p.2=1)).map (·.1)
theorem wAt_get {ws:List (Int × Int)} {i:Nat} {w:Int × Int} (h:ws[i]?=some w):wAt ws i=w:=by simp [wAt,List.getD,h]
theorem first_of {wide:Int} {ws:List (Int × Int)} (ok:WOk wide ws) {i:Nat} {w:Int × Int} (hw:ws[i]?=some w) (hd:(layS wide ws).2.getD i 0=1):First ws i w:=by
 have due:=lay_due ok
 have il:i < ws.length:=(List.getElem?_eq_some_iff.mp hw).1
 obtain ⟨v,e,mx⟩:=due.2 i il
 have v0:v=0:=by walk_at"q"
 subst v0
 refine ⟨hw,fun j u hj hu=>?_⟩
 obtain ⟨v',e',mx'⟩:=due.2 j (by walk_at"q")
 have h0:=mx'.1
 have nm:¬ meetM (wAt ws j) (wAt ws i)=true:=fun z=>by
  have:=mx.2.1 _ ⟨j,hj,z,rfl⟩
  walk_at"q"
 rw [wAt_get hw,wAt_get hu] at nm
 unfold meetM at nm
 simp only [Bool.or_eq_true,decide_eq_true_eq,not_or] at nm
 obtain ⟨⟨a,b⟩,c,d⟩:=nm
 exact ⟨Ne.symm a,Ne.symm c,Ne.symm b,Ne.symm d⟩
theorem firstL_mem {wide:Int} {ws:List (Int × Int)} (ok:WOk wide ws) {w:Int × Int} (h:w∈firstL ws (layS wide ws).2):∃ i,First ws i w:=by
 unfold firstL at h
 obtain ⟨p,hp,rfl⟩:=List.mem_map.mp h
 obtain ⟨hz,h1⟩:=List.mem_filter.mp hp
 obtain ⟨i,hi⟩:=List.mem_iff_getElem?.mp hz
 rw [List.getElem?_zip_eq_some] at hi
 exact ⟨i,first_of ok hi.1 (by simpa [List.getD,hi.2] using h1)⟩
theorem zip_pair {ws:List (Int × Int)} {d:List Int} (P:Int × Int→Int→Prop) (hP:∀ (i j:Nat) (w u:Int × Int) (x y:Int),i < j→ws[i]?=some w→ws[j]?=some u→d[i]?=some x→d[j]?=some y→x=1→y=1→Apart w u) :
  ((ws.zip d).filter fun p=>decide (p.2=1)).Pairwise fun a b=>Apart a.1 b.1:=by
 rw [List.pairwise_filter,List.pairwise_iff_getElem]
 intro i j hi hj hij a b
 have ei:(ws.zip d)[i]?=some (ws.zip d)[i]:=List.getElem?_eq_getElem hi
 have ej:(ws.zip d)[j]?=some (ws.zip d)[j]:=List.getElem?_eq_getElem hj
 obtain ⟨a1,a2⟩:=List.getElem?_zip_eq_some.mp ei
 obtain ⟨b1,b2⟩:=List.getElem?_zip_eq_some.mp ej
 exact hP i j _ _ _ _ hij a1 b1 a2 b2 (by simpa using a) (by simpa using b)
theorem firstL_apart {wide:Int} {ws:List (Int × Int)} (ok:WOk wide ws):(firstL ws (layS wide ws).2).Pairwise Apart:=by
 unfold firstL
 rw [List.pairwise_map]
 refine zip_pair (fun _ _=>True) fun i j w u x y hij hw hu hx hy ex ey=>?_
 have f:=first_of ok hu (by simp [List.getD,hy,ey])
 exact (f.2 i w hij hw).symm
def mvT (c:List Int) (w:Int × Int):List Int:=(c.set w.1.toNat (both c w)).set w.2.toNat 0
theorem mvT_len (c:List Int) (w:Int × Int):(mvT c w).length=c.length:=by unfold mvT;rw [List.length_set,List.length_set]
theorem mvT_getD {wide:Int} {c:List Int} {w:Int × Int} (hl:c.length=wide.toNat) (h:LaneOk wide w) (x:Nat):(mvT c w).getD x 0=if x=w.2.toNat then 0 else if x=w.1.toNat then both c w else c.getD x 0:=by
 obtain ⟨h1,h2,h3,h4,h5⟩:=h
 unfold mvT
 rw [getD_set (by rw [List.length_set];walk_at"q"),getD_set (by walk_at"q")]
theorem mvT_both {wide:Int} {c:List Int} {w:Int × Int} (hl:c.length=wide.toNat) (h:LaneOk wide w):both (mvT c w) w=both c w:=by
 obtain ⟨h1,h2,h3,h4,h5⟩:=id h
 have e1:=mvT_getD hl h w.1.toNat
 have e2:=mvT_getD hl h w.2.toNat
 rw [if_neg (by walk_at"q"),if_pos rfl] at e1
 rw [if_pos rfl] at e2
 show (mvT c w).getD w.1.toNat 0 + (mvT c w).getD w.2.toNat 0=_
 rw [e1,e2,Int.add_zero]
theorem let_mvT {wide:Int} {c:List Int} {w:Int × Int} (hl:c.length=wide.toNat) (h:LaneOk wide w):letM (mvT c w) w=letM c w:=by
 refine ext_getD (by rw [letM_len,mvT_len,letM_len]) fun x hx=>?_
 rw [letM_getD (by rw [mvT_len,hl]) h,letM_getD hl h,mvT_both hl h,mvT_getD hl h]
 split
 ·rfl
 ·split
  ·rfl
  ·rfl
theorem let_mvT_apart {wide:Int} {c:List Int} {w u:Int × Int} (hl:c.length=wide.toNat) (h:LaneOk wide w) (hu:LaneOk wide u) (ap:Apart w u):letM (mvT c w) u=mvT (letM c u) w:=by
 obtain ⟨h1,h2,h3,h4,h5⟩:=id h
 obtain ⟨u1,u2,u3,u4,u5⟩:=id hu
 obtain ⟨a1,a2,a3,a4⟩:=ap
 have bu:both (mvT c w) u=both c u:=by
  unfold both
  rw [mvT_getD hl h,mvT_getD hl h,if_neg (by walk_at"q"),if_neg (by walk_at"q"),if_neg (by walk_at"q"),if_neg (by walk_at"q")]
 have bw:both (letM c u) w=both c w:=by
  unfold both
  rw [letM_getD hl hu,letM_getD hl hu,if_neg (by walk_at"q"),if_neg (by walk_at"q"),if_neg (by walk_at"q"),if_neg (by walk_at"q")]
 refine ext_getD (by rw [letM_len,mvT_len,mvT_len,letM_len]) fun x hx=>?_
 rw [letM_getD (by rw [mvT_len,hl]) hu,mvT_getD (c:=letM c u) (by rw [letM_len,hl]) h,bu,bw,mvT_getD hl h,letM_getD hl hu]
 by_cases c1:x=u.2.toNat
 ·rw [if_pos c1,if_neg (by walk_at"q"),if_neg (by walk_at"q"),if_pos c1]
 ·rw [if_neg c1]
  by_cases c2:x=u.1.toNat
  ·rw [if_pos c2,if_neg (by walk_at"q"),if_neg (by walk_at"q"),if_neg c1,if_pos c2]
  ·rw [if_neg c2,if_neg c1,if_neg c2]
theorem thru_mvT_apart {wide:Int} {w:Int × Int} (h:LaneOk wide w) (us:List (Int × Int)):∀ c:List Int,c.length=wide.toNat→WOk wide us→(∀ u∈us,Apart w u)→thruM (mvT c w) us=mvT (thruM c us) w:=by
 induction us with
 | nil=>intro c _ _ _;rfl
 | cons u r ih =>
  intro c hl ok ap
  show thruM (letM (mvT c w) u) r=mvT (thruM (letM c u) r) w
  rw [let_mvT_apart hl h (ok u (List.mem_cons_self ..)) (ap u (List.mem_cons_self ..))]
  exact ih _ (by rw [letM_len,hl]) (fun x hx=>ok x (List.mem_cons_of_mem _ hx)) fun x hx=>ap x (List.mem_cons_of_mem _ hx)
theorem thru_mvT {wide:Int} {ws:List (Int × Int)} (ok:WOk wide ws) {i:Nat} {w:Int × Int} (f:First ws i w) {c:List Int} (hl:c.length=wide.toNat):thruM (mvT c w) ws=thruM c ws:=by
 have hw:LaneOk wide w:=ok w (List.mem_of_getElem? f.1)
 have il:i < ws.length:=(List.getElem?_eq_some_iff.mp f.1).1
 have e:ws=ws.take i ++ w :: ws.drop (i + 1):=by
  have e1:ws[i]=w:=(List.getElem?_eq_some_iff.mp f.1).2
  rw [← e1,← List.drop_eq_getElem_cons il,List.take_append_drop]
 rw [e,thruM_app,thruM_app,thru_mvT_apart hw (ws.take i) c hl (ok.take i) fun u hu=>by
  obtain ⟨j,hj⟩:=List.mem_iff_getElem?.mp hu
  have jl:=(List.getElem?_eq_some_iff.mp hj).1
  rw [List.length_take] at jl
  rw [List.getElem?_take_of_lt (by walk_at"q")] at hj
  exact f.2 j u (by walk_at"q") hj]
 show thruM (letM (mvT (thruM c (ws.take i)) w) w) _=thruM (letM (thruM c (ws.take i)) w) _
 rw [let_mvT (by rw [thruM_len,hl]) hw]
theorem thru_moves {wide:Int} {ws:List (Int × Int)} (ok:WOk wide ws) (fl:List (Int × Int)):∀ c:List Int,c.length=wide.toNat→(∀ w∈fl,∃ i,First ws i w)→thruM (fl.foldl mvT c) ws=thruM c ws∧(fl.foldl mvT c).length=wide.toNat:=by
 induction fl with
 | nil=>intro c hl _;exact ⟨rfl,hl⟩
 | cons w r ih =>
  intro c hl h
  obtain ⟨i,f⟩:=h w (List.mem_cons_self ..)
  obtain ⟨a,b⟩:=ih (mvT c w) (by rw [mvT_len,hl]) fun x hx=>h x (List.mem_cons_of_mem _ hx)
  exact ⟨a.trans (thru_mvT ok f hl),b⟩
theorem moves_zero {wide:Int} (fl:List (Int × Int)):∀ c:List Int,c.length=wide.toNat→WOk wide fl→fl.Pairwise Apart→(∀ x:Nat,c.getD x 0=0→(∀ w∈fl,x≠w.1.toNat)→(fl.foldl mvT c).getD x 0=0)∧∀ w∈fl,(fl.foldl mvT c).getD w.2.toNat 0=0:=by
 induction fl with
 | nil=>intro c _ _ _;exact ⟨fun x h _=>h,fun w h=>nomatch h⟩
 | cons w r ih =>
  intro c hl ok pw
  obtain ⟨hd,pr⟩:=List.pairwise_cons.mp pw
  have hw:LaneOk wide w:=ok w (List.mem_cons_self ..)
  have okr:WOk wide r:=fun x hx=>ok x (List.mem_cons_of_mem _ hx)
  obtain ⟨a,b⟩:=ih (mvT c w) (by rw [mvT_len,hl]) okr pr
  refine ⟨fun x h n=>?_,fun u hu=>?_⟩
  ·refine a x ?_ fun u hu=>n u (List.mem_cons_of_mem _ hu)
   rw [mvT_getD hl hw]
   split
   ·rfl
   ·rw [if_neg (n w (List.mem_cons_self ..))]
    exact h
  ·rcases List.mem_cons.mp hu with z | z
   ·subst z
    refine a _ ?_ fun v hv=>?_
    ·rw [mvT_getD hl hw,if_pos rfl]
    ·obtain ⟨p1,p2,p3,p4⟩:=hd v hv
     obtain ⟨o1,o2,o3,o4,o5⟩:=okr v hv
     obtain ⟨q1,q2,q3,q4,q5⟩:=hw
     walk_at"q"
   ·exact b u z
def secondsM (wide:Int) (ws:List (Int × Int)):List Int:=(firstL ws (layS wide ws).2).map (·.2)
def choicesM (wide:Int) (ws:List (Int × Int)):List (List Int):=(List.range wide.toNat).map fun l:Nat=>if (l:Int)∈secondsM wide ws then [0] else (List.range (2 ^ depM wide ws)).map fun k:Nat=>(k:Int)
theorem choicesM_len (wide:Int) (ws:List (Int × Int)):(choicesM wide ws).length=wide.toNat:=by simp [choicesM]
theorem even_const {wide:Int} {ws:List (Int × Int)} (ok:WOk wide ws) (ev:AllEv (sharesM wide ws)) {q:List Int} (hq:q.length=wide.toNat) {j:Nat} (hj:j < wide.toNat) :
  (thruM (sclL ((2 ^ depM wide ws:Nat):Int) q) ws).getD j 0=(thruM (sclL ((2 ^ depM wide ws:Nat):Int) q) ws).getD 0 0:=by
 have e:∀ i,i < wide.toNat→(shareM wide.toNat (depM wide ws) ws i).getD j 0=(shareM wide.toNat (depM wide ws) ws i).getD 0 0:=fun i hi=>by
  have:=ev i (by rw [sharesM_len];exact hi)
  rw [row_share hi] at this
  exact this j (by rw [shareM_len];exact hj)
 have b1:=by_shares (deep0 wide ws) ok hq hj wide.toNat (Nat.le_refl _)
 have b2:=by_shares (deep0 wide ws) ok hq (show 0 < wide.toNat by walk_at"q") wide.toNat (Nat.le_refl _)
 rw [cutL_all (by walk_at"q")] at b1 b2
 rw [b1,b2]
 have:∀ n,n≤wide.toNat→sumTo (fun i=>(shareM wide.toNat (depM wide ws) ws i).getD j 0 * q.getD i 0) n=sumTo (fun i=>(shareM wide.toNat (depM wide ws) ws i).getD 0 0 * q.getD i 0) n:=by
  intro n
  induction n with
  | zero=>intro _;rfl
  | succ n ih =>
   intro hn
   show sumTo _ n + _=sumTo _ n + _
   rw [ih (by walk_at"q")]
   show _ + (shareM wide.toNat (depM wide ws) ws n).getD j 0 * _=_ + (shareM wide.toNat (depM wide ws) ws n).getD 0 0 * _
   rw [e n (by walk_at"q")]
 exact this _ (Nat.le_refl _)
theorem level_add {a b:List Int} {k:Int} (h:a.length=b.length) (c:∀ x,x < b.length→b.getD x 0=k) (lv:Level a):Level (addL a b):=fun i j hij hj=>by
 rw [addL_len h] at hj
 rw [addL_getD h (by walk_at"q"),addL_getD h hj,c i (by walk_at"q"),c j (by walk_at"q")]
 have:=lv i j hij hj
 walk_at"q"
theorem trials_all {wide:Int} {ws:List (Int × Int)} (ok:WOk wide ws) (ev:AllEv (sharesM wide ws)) (h:∀ r∈rowsM (choicesM wide ws),Level (thruM r ws)) {c:List Int} (hl:c.length=wide.toNat):Level (thruM c ws):=by
 obtain ⟨e1,l1⟩:=thru_moves ok (firstL ws (layS wide ws).2) c hl fun w hw=>firstL_mem ok hw
 have okf:WOk wide (firstL ws (layS wide ws).2):=fun w hw=>by
  obtain ⟨i,f⟩:=firstL_mem ok hw
  exact ok w (List.mem_of_getElem? f.1)
 obtain ⟨_,z⟩:=moves_zero (firstL ws (layS wide ws).2) c hl okf (firstL_apart ok)
 generalize (firstL ws (layS wide ws).2).foldl mvT c=c1 at e1 l1 z
 rw [← e1]
 have npos:0 < 2 ^ depM wide ws:=Nat.pow_pos (by decide)
 have npi:(0:Int) < ((2 ^ depM wide ws:Nat):Int):=by walk_at"q"
 have er:c1=addL (c1.map (· % ((2 ^ depM wide ws:Nat):Int))) (sclL ((2 ^ depM wide ws:Nat):Int) (c1.map (· / ((2 ^ depM wide ws:Nat):Int)))):=by
  refine ext_getD (by rw [addL_len (by rw [sclL_len,List.length_map,List.length_map]),List.length_map]) fun x hx=>?_
  rw [addL_getD (by rw [sclL_len,List.length_map,List.length_map]) (by rw [List.length_map];exact hx),sclL_getD]
  have g:∀ f:Int→Int,(c1.map f).getD x 0=f (c1.getD x 0):=fun f=>by simp [List.getD,hx]
  rw [g,g]
  have:=Int.emod_add_mul_ediv (c1.getD x 0) ((2 ^ depM wide ws:Nat):Int)
  walk_at"q"
 have hlr:(c1.map (· % ((2 ^ depM wide ws:Nat):Int))).length=wide.toNat:=by rw [List.length_map,l1]
 have hlq:(c1.map (· / ((2 ^ depM wide ws:Nat):Int))).length=wide.toNat:=by rw [List.length_map,l1]
 have no:=(deep0 wide ws).no ok (cs:=sclL ((2 ^ depM wide ws:Nat):Int) (c1.map (· / ((2 ^ depM wide ws:Nat):Int)))) (by rw [sclL_len,hlq]) 0 (scl_dvs _)
 rw [er,thru_add (wide:=wide) ws _ _ 0 ok hlr (by rw [sclL_len,hlq]) no]
 refine level_add (by rw [thruM_len,thruM_len,sclL_len,hlr,hlq]) (fun x hx=>even_const ok ev hlq (by rw [thruM_len,sclL_len,hlq] at hx;exact hx)) (h _ ?_)
 rw [rowsM_mem]
 refine ⟨by rw [hlr,choicesM_len],fun x hx=>?_⟩
 rw [choicesM_len] at hx
 have g:(c1.map (· % ((2 ^ depM wide ws:Nat):Int))).getD x 0=c1.getD x 0 % ((2 ^ depM wide ws:Nat):Int):=by simp [List.getD,show x < c1.length by walk_at"q"]
 have gc:(choicesM wide ws).getD x []=if (x:Int)∈secondsM wide ws then [0] else (List.range (2 ^ depM wide ws)).map fun k:Nat=>(k:Int):=by
  unfold choicesM
  simp [List.getD,hx]
 rw [g,gc]
 split
 ·rename_i m
  unfold secondsM at m
  obtain ⟨w,hw,e⟩:=List.mem_map.mp m
  have:=z w hw
  have ex:x=w.2.toNat:=by walk_at"q"
  rw [ex,this]
  simp
 ·have a:=Int.emod_nonneg (c1.getD x 0) (show ((2 ^ depM wide ws:Nat):Int)≠0 by walk_at"q")
  have b:=Int.emod_lt_of_pos (c1.getD x 0) npi
  refine List.mem_map.mpr ⟨(c1.getD x 0 % ((2 ^ depM wide ws:Nat):Int)).toNat,List.mem_range.mpr (by walk_at"q"),?_⟩
  walk_at"q"
end Ep

namespace L2
open PySem PySem.Spec PyProof.Rows
section
variable {P:Program} {w:World} {A:Around} {E:Value→Shared→Prop} {s:Shared}
structure ZT (h:Heap) (TI i1 i2 t l:Addr) (k:Nat) (xs ys:Array Value):Prop where
 pr:IsPair h TI (.ref i1) (.ref i2)
 g1:h.IsTupleIter i1 t k
 g2:h.IsListIter i2 l k
 gt:h.IsTuple t xs
 gl:h.IsList l ys
theorem tup_but {h h':Heap} {a b:Addr} {xs:Array Value} (g:h.IsTuple a xs) (k:Heap.ExtBut b h h') (n:a≠b):h'.IsTuple a xs:=let ⟨o,e,r⟩:=g;⟨o,k a o n e,r⟩
theorem zipTL_item {z TI TO i1 i2 t l:Addr} {k:Nat} {xs ys:Array Value} {x y u v:Value} {Q:Value→Shared→Prop} (D:ZipApart z TI TO i1 i2 t l) (gz:IsZip s.heap z TI TO .none) (gO:IsPair s.heap TO u v) (Z:ZT s.heap TI i1 i2 t l k xs ys)
  (gx:xs[k]?=some x) (gy:ys[k]?=some y)
  (q:∀ h',IsZip h' z TI TO (rawInt s.heap.objs.size)→IsPair h' TO x y→h'.IsTupleIter i1 t (k + 1)→h'.IsListIter i2 l (k + 1)→IsPair h' s.heap.objs.size x y →
   (∀ c o,c≠z→c≠TO→c≠i1→c≠i2→s.heap.get? c=some o→h'.get? c=some o)→Q (.ref s.heap.objs.size) { s with heap:=h' }) :
  wpAny (model P w) A (Builtin.«zip.__next__» ⟨[.ref z],[]⟩) (fun fin s'=>∃ r,fin=.done (.ret r)∧Q r s') E s:=by
 obtain ⟨gI,g1,g2,gt,gl⟩:=Z
 have free:wpAny (model P w) A (Builtin.SmallTypes.ownedTupleIsFree (.ref z)) (fun b s'=>b=true∧s'=s) E s:=by
  unfold Builtin.SmallTypes.ownedTupleIsFree
  exact wpAny_bind (wpAny_field gz rfl (x:=.none) rfl (wpAny_pure ⟨rfl,rfl⟩))
 refine show wpAny _ _ (field (.ref z) 2 >>= _) _ _ _ from wpAny_bind (wpAny_field gz rfl (x:=.bool false) rfl ?_)
 refine show wpAny _ _ (field (.ref z) 3 >>= _) _ _ _ from wpAny_bind (wpAny_field gz rfl (x:=.ref TI) rfl (wpAny_bind (wpAny_seqItems gI rfl ?_)))
 refine show wpAny _ _ (Builtin.SmallTypes.ownedTupleIsFree (.ref z) >>= _) _ _ _ from wpAny_bind (wpAny_mono free (fun b s' e=>?_) fun _ _ e=>e)
 obtain ⟨rfl,rfl⟩:=e
 simp only [if_true]
 refine wpAny_bind (wpAny_rule (wpAny_bind (wpAny_field gz rfl (x:=.ref TO) rfl (wpAny_bind (wpAny_setField_rec gz (by simp) fun ha ga sa=>?_)))))
 have za:IsZip ha z TI TO .ellipsis:=ga
 refine wpAny_bind ?_
 simp only [List.zipIdx_cons,List.zipIdx_nil,List.forIn_cons,List.forIn_nil]
 refine wpAny_bind (wpAny_bind (wpAny_onRaise (show wpAny _ _ (Builtin.SmallTypes.nextOf (.ref i1) >>= _) _ _ _ from wpAny_bind (next_tup (g1.extBut sa.extBut D.i1z) (tup_but gt sa.extBut D.l1z) gx fun hb g1b sb=>wpAny_pure ?_))))
 have Ob:IsPair hb TO u v:=sb.extBut _ _ D.TOi1 (sa.extBut _ _ D.TOz gO)
 refine wpAny_bind (wpAny_seqItems Ob rfl (wpAny_bind (wpAny_updateSeq_pair Ob fun hc gOc sc=>?_)))
 have Oc:IsPair hc TO x v:=gOc
 have g2c:=((g2.extBut sa.extBut D.i2z).extBut sb.extBut (Ne.symm D.i12)).extBut sc.extBut (Ne.symm D.TOi2)
 have glc:=((gl.extBut sa.extBut D.l2z).extBut sb.extBut D.l2i1).extBut sc.extBut D.l2TO
 refine wpAny_bind (wpAny_letGo (wpAny_pure (wpAny_bind (wpAny_bind (wpAny_onRaise (show wpAny _ _ (Builtin.SmallTypes.nextOf (.ref i2) >>= _) _ _ _ from wpAny_bind (wpAny_nextOf_list_item g2c glc gy fun hd g2d sd=>wpAny_pure ?_)))))))
 have Od:IsPair hd TO x v:=sd.extBut _ _ D.TOi2 Oc
 refine wpAny_bind (wpAny_seqItems Od rfl (wpAny_bind (wpAny_updateSeq_pair Od fun he gOe se=>?_)))
 have Oe:IsPair he TO x y:=gOe
 refine wpAny_bind (wpAny_letGo (wpAny_pure (wpAny_pure (wpAny_bind (wpAny_seqItems Oe rfl (wpAny_bind (wpAny_newTuple ?_)))))))
 have size:he.objs.size=s'.heap.objs.size:=by rw [se.1,sd.1,sc.1,sb.1,sa.1]
 have ze:IsZip he z TI TO .ellipsis:=se.extBut _ _ (Ne.symm D.TOz) (sd.extBut _ _ (Ne.symm D.i2z) (sc.extBut _ _ (Ne.symm D.TOz) (sb.extBut _ _ (Ne.symm D.i1z) za)))
 have ke:∀ c o,c≠z→c≠TO→c≠i1→c≠i2→s'.heap.get? c=some o→he.get? c=some o:=fun c o n1 n2 n3 n4 e=>se.extBut _ _ n2 (sd.extBut _ _ n4 (sc.extBut _ _ n2 (sb.extBut _ _ n3 (sa.extBut _ _ n1 e))))
 have g1e:he.IsTupleIter i1 t (k + 1):=((g1b.extBut sc.extBut (Ne.symm D.TOi1)).extBut sd.extBut D.i12).extBut se.extBut (Ne.symm D.TOi1)
 have g2e:he.IsListIter i2 l (k + 1):=g2d.extBut se.extBut (Ne.symm D.TOi2)
 have ltz:z < he.objs.size:=Heap.lt_size ze
 refine show wpAny _ _ (Builtin.SmallTypes.ownedTupleHandOut (.ref z) (.ref he.objs.size) >>= _) _ _ _ from wpAny_bind ?_
 unfold Builtin.SmallTypes.ownedTupleHandOut
 have zf:IsZip (he.push { cls:=.type "tuple", data:=.seq #[x,y] }) z TI TO .ellipsis:=Heap.get?_push_of_some _ ze
 refine wpAny_bind (wpAny_setField_rec zf (by simp) fun hg gzg sg=>?_)
 have zg:IsZip hg z TI TO (rawInt he.objs.size):=gzg
 refine wpAny_setField_rec zg (by simp) fun hi gzi si=>?_
 have zi:IsZip hi z TI TO (rawInt he.objs.size):=gzi
 have up:∀ c o,c≠z→he.get? c=some o→hi.get? c=some o:=fun c o n e=>si.extBut _ _ n (sg.extBut _ _ n (Heap.get?_push_of_some _ e))
 have Ti:IsPair hi he.objs.size x y:=si.extBut _ _ (Nat.ne_of_gt ltz) (sg.extBut _ _ (Nat.ne_of_gt ltz) (Heap.get?_push_size _ rfl))
 rw [size] at zi Ti
 refine wpAny_pure ⟨_,rfl,show Q (.ref he.objs.size) _ from ?_⟩
 rw [size]
 exact q hi zi (up _ _ D.TOz Oe) (g1e.at fun o e=>up _ o D.i1z e) (g2e.at fun o e=>up _ o D.i2z e) Ti fun c o n1 n2 n3 n4 e=>up c o n1 (ke c o n1 n2 n3 n4 e)
theorem zipTL_end {z TI TO i1 i2 t l:Addr} {k:Nat} {xs ys:Array Value} {u v:Value} {Q:Fin→Shared→Prop} (hh:A.handled=none) (D:ZipApart z TI TO i1 i2 t l) (gz:IsZip s.heap z TI TO .none) (gO:IsPair s.heap TO u v) (Z:ZT s.heap TI i1 i2 t l k xs ys)
  (no:xs[k]?=none∨ys[k]?=none)
  (q:∀ h' e,(∀ c o,c≠z→c≠TO→c≠i1→c≠i2→s.heap.get? c=some o→h'.get? c=some o)→(∃ o,h'.get? e=some o∧o.cls=.type "StopIteration")→E (.ref e) { s with heap:=h' }) :
  wpAny (model P w) A (Builtin.«zip.__next__» ⟨[.ref z],[]⟩) Q E s:=by
 obtain ⟨gI,g1,g2,gt,gl⟩:=Z
 have free:wpAny (model P w) A (Builtin.SmallTypes.ownedTupleIsFree (.ref z)) (fun b s'=>b=true∧s'=s) E s:=by
  unfold Builtin.SmallTypes.ownedTupleIsFree
  exact wpAny_bind (wpAny_field gz rfl (x:=.none) rfl (wpAny_pure ⟨rfl,rfl⟩))
 refine show wpAny _ _ (field (.ref z) 2 >>= _) _ _ _ from wpAny_bind (wpAny_field gz rfl (x:=.bool false) rfl ?_)
 refine show wpAny _ _ (field (.ref z) 3 >>= _) _ _ _ from wpAny_bind (wpAny_field gz rfl (x:=.ref TI) rfl (wpAny_bind (wpAny_seqItems gI rfl ?_)))
 refine show wpAny _ _ (Builtin.SmallTypes.ownedTupleIsFree (.ref z) >>= _) _ _ _ from wpAny_bind (wpAny_mono free (fun b s' e=>?_) fun _ _ e=>e)
 obtain ⟨rfl,rfl⟩:=e
 simp only [if_true]
 refine wpAny_bind (wpAny_rule (wpAny_bind (wpAny_field gz rfl (x:=.ref TO) rfl (wpAny_bind (wpAny_setField_rec gz (by simp) fun ha ga sa=>?_)))))
 have za:IsZip ha z TI TO .ellipsis:=ga
 have apart:∀ {h:Heap} {e:Addr},IsZip h z TI TO .ellipsis→(∃ o,h.get? e=some o∧o.cls=.type "StopIteration")→e≠z:=fun g ⟨o,e1,e2⟩ n=>by
  rw [n,g] at e1
  cases e1
  simp at e2
 refine wpAny_bind ?_
 simp only [List.zipIdx_cons,List.zipIdx_nil,List.forIn_cons,List.forIn_nil]
 refine wpAny_bind (wpAny_bind (wpAny_onRaise (show wpAny _ _ (Builtin.SmallTypes.nextOf (.ref i1) >>= _) _ _ _ from ?_)))
 have g1a:=g1.extBut sa.extBut D.i1z
 have gta:=tup_but gt sa.extBut D.l1z
 cases gx:xs[k]? with
 | none =>
  refine wpAny_bind (next_tup_end hh g1a gta gx fun hb e sb st=>?_)
  have zb:IsZip hb z TI TO .ellipsis:=sb _ _ (Ne.symm D.i1z) za
  have ne:=apart zb st
  obtain ⟨oe,e1,e2⟩:=st
  exact wpAny_setField_rec zb (by simp) fun hc _ sc=>q hc e (fun c o n1 _ n3 _ g=>sc.extBut _ _ n1 (sb _ _ n3 (sa.extBut _ _ n1 g))) ⟨oe,sc.extBut _ _ ne e1,e2⟩
 | some x =>
  have gy:ys[k]?=none:=no.elim (fun h=>by rw [gx] at h;cases h) id
  refine wpAny_bind (next_tup g1a gta gx fun hb g1b sb=>wpAny_pure ?_)
  have Ob:IsPair hb TO u v:=sb.extBut _ _ D.TOi1 (sa.extBut _ _ D.TOz gO)
  refine wpAny_bind (wpAny_seqItems Ob rfl (wpAny_bind (wpAny_updateSeq_pair Ob fun hc gOc sc=>?_)))
  have g2c:=((g2.extBut sa.extBut D.i2z).extBut sb.extBut (Ne.symm D.i12)).extBut sc.extBut (Ne.symm D.TOi2)
  have glc:=((gl.extBut sa.extBut D.l2z).extBut sb.extBut D.l2i1).extBut sc.extBut D.l2TO
  refine wpAny_bind (wpAny_letGo (wpAny_pure (wpAny_bind (wpAny_bind (wpAny_onRaise (show wpAny _ _ (Builtin.SmallTypes.nextOf (.ref i2) >>= _) _ _ _ from wpAny_bind (wpAny_nextOf_list_end hh g2c glc gy fun hd e sd st=>?_)))))))
  have zd:IsZip hd z TI TO .ellipsis:=sd _ _ (Ne.symm D.i2z) (sc.extBut _ _ (Ne.symm D.TOz) (sb.extBut _ _ (Ne.symm D.i1z) za))
  have ne:=apart zd st
  obtain ⟨oe,e1,e2⟩:=st
  exact wpAny_setField_rec zd (by simp) fun he _ se=>q he e (fun c o n1 n2 n3 n4 g=>se.extBut _ _ n1 (sd _ _ n4 (sc.extBut _ _ n2 (sb.extBut _ _ n3 (sa.extBut _ _ n1 g))))) ⟨oe,se.extBut _ _ ne e1,e2⟩
theorem next_zipTL {z TI TO i1 i2 t l:Addr} {k:Nat} {xs ys:Array Value} {x y u v:Value} {Q:Option Value→Shared→Prop} (D:ZipApart z TI TO i1 i2 t l) (gz:IsZip s.heap z TI TO .none) (gO:IsPair s.heap TO u v) (Z:ZT s.heap TI i1 i2 t l k xs ys)
  (gx:xs[k]?=some x) (gy:ys[k]?=some y)
  (q:∀ h',IsZip h' z TI TO (rawInt s.heap.objs.size)→IsPair h' TO x y→h'.IsTupleIter i1 t (k + 1)→h'.IsListIter i2 l (k + 1)→IsPair h' s.heap.objs.size x y →
   (∀ c o,c≠z→c≠TO→c≠i1→c≠i2→s.heap.get? c=some o→h'.get? c=some o)→Q (some (.ref s.heap.objs.size)) { s with heap:=h' }):wpAny (model P w) A (pyNext (.ref z)) Q E s:=by
 have ty:s.TypeIs (.ref z) "zip" := ⟨_,gz,rfl⟩
 unfold pyNext
 refine wpAny_bind (wpAny_attempt (wpAny_callSpecial?_slot (name:=Str.ofString "__next__") ty F.slot_zip_next (wpAny_call_entry F.slot_zip_next ty F.entry_zip_next ?_ (F.args_zip_next_1 _))))
 exact zipTL_item D gz gO Z gx gy fun h' a1 a2 a3 a4 a5 a6=>wpAny_pure (q h' a1 a2 a3 a4 a5 a6)
theorem next_zipTL_end {z TI TO i1 i2 t l:Addr} {k:Nat} {xs ys:Array Value} {u v:Value} {Q:Option Value→Shared→Prop} (hh:A.handled=none) (D:ZipApart z TI TO i1 i2 t l) (gz:IsZip s.heap z TI TO .none) (gO:IsPair s.heap TO u v) (Z:ZT s.heap TI i1 i2 t l k xs ys)
  (no:xs[k]?=none∨ys[k]?=none) (q:∀ h',(∀ c o,c≠z→c≠TO→c≠i1→c≠i2→s.heap.get? c=some o→h'.get? c=some o)→Q none { s with heap:=h' }):wpAny (model P w) A (pyNext (.ref z)) Q E s:=by
 have ty:s.TypeIs (.ref z) "zip" := ⟨_,gz,rfl⟩
 unfold pyNext
 refine wpAny_bind (wpAny_attempt (wpAny_callSpecial?_slot (name:=Str.ofString "__next__") ty F.slot_zip_next (wpAny_call_entry F.slot_zip_next ty F.entry_zip_next ?_ (F.args_zip_next_1 _))))
 refine zipTL_end hh D gz gO Z no fun h' e kk ⟨o,e1,e2⟩=>?_
 exact wpAny_bind (wpAny_isInstance (T := "StopIteration") (b:=true) ⟨o,e1,e2⟩ isSubtype_stop (wpAny_pure (q _ kk)))
abbrev ztA (h:Heap) (t:Addr):Heap:=h.push { cls:=.type "tuple_iterator", data:=.fields #[.ref t,.int 0 0] }
abbrev ztB (h:Heap) (t l:Addr):Heap:=(ztA h t).push { cls:=.type "list_iterator", data:=.fields #[.ref l,.int 0 0] }
abbrev ztC (h:Heap) (t l:Addr):Heap:=(ztB h t l).push { cls:=.type "tuple", data:=.seq #[.ref h.objs.size,.ref (ztA h t).objs.size] }
abbrev ztD (h:Heap) (t l:Addr):Heap:=(ztC h t l).push { cls:=.type "tuple", data:=.seq #[.none,.none] }
abbrev ztE (h:Heap) (t l:Addr):Heap:=(ztD h t l).push { cls:=.type "zip", data:=.fields #[.none,.bool false,.bool false,.ref (ztB h t l).objs.size,.ref (ztC h t l).objs.size] }
theorem new_zipTL (t l:Addr) (xs ys:Array Value):Meets (Builtin.«zip.__new__» ⟨[.type "zip", .ref t,.ref l],[]⟩) (fun _ R s=>s.heap.IsTuple t xs∧s.heap.IsList l ys∧R (.ok (.ret (.ref (ztD s.heap t l).objs.size))) { s with heap:=ztE s.heap t l }) :=
 .of_wp fun prog w A R s h=>by
  obtain ⟨hp,g,d,tk,os⟩:=s
  obtain ⟨gt,gl,q⟩:=h
  have hsub:=sub_zip
  have L1:Heap.IsTuple (Shared.heap ⟨hp,g,d,tk,os⟩) t xs:=gt
  have L2:Heap.IsList (Shared.heap ⟨ztA hp t,g,d,tk,os⟩) l ys:=Heap.IsList.push gl _
  wp_walk using wpAny_pyIter_tuple L1,wpAny_pyIter_list L2
  exact ⟨_,rfl,q⟩
theorem call_zipTL {t l:Addr} {xs ys:Array Value} {Q:Value→Shared→Prop} (gt:s.heap.IsTuple t xs) (gl:s.heap.IsList l ys)
  (q:∀ h',IsZip h' (s.heap.objs.size + 4) (s.heap.objs.size + 2) (s.heap.objs.size + 3) .none→ZT h' (s.heap.objs.size + 2) s.heap.objs.size (s.heap.objs.size + 1) t l 0 xs ys→IsPair h' (s.heap.objs.size + 3) .none .none →
   (∀ c o,s.heap.get? c=some o→h'.get? c=some o)→Q (.ref (s.heap.objs.size + 4)) { s with heap:=h' }):wpAny (model P w) A (call (.type "zip") [.ref t,.ref l]) Q E s:=by
 refine callType_new F.called_zip (by decide) (F.typeCall_zip_2 _ _) (F.newCall_zip_2 _ _) (fun ob=>F.args_object_init_3 ob _ _) F.entry_zip_new (new_zipTL t l xs ys) ⟨gt,gl,?_⟩
 have n1:(ztA s.heap t).objs.size=s.heap.objs.size + 1:=Heap.size_push ..
 have n2:(ztB s.heap t l).objs.size=s.heap.objs.size + 2:=by rw [Heap.size_push,n1]
 have n3:(ztC s.heap t l).objs.size=s.heap.objs.size + 3:=by rw [Heap.size_push,n2]
 have n4:(ztD s.heap t l).objs.size=s.heap.objs.size + 4:=by rw [Heap.size_push,n3]
 have pu:∀ {h:Heap} {c:Addr} {o:Obj} (o':Obj),h.get? c=some o→(h.push o').get? c=some o:=fun o' e=>Heap.get?_push_of_some o' e
 have q5:(ztE s.heap t l).get? (ztD s.heap t l).objs.size=some _:=Heap.get?_push_size _ rfl
 have q4:(ztE s.heap t l).get? (ztC s.heap t l).objs.size=some _:=pu _ (Heap.get?_push_size _ rfl)
 have q3:(ztE s.heap t l).get? (ztB s.heap t l).objs.size=some _:=pu _ (pu _ (Heap.get?_push_size _ rfl))
 have q2:(ztE s.heap t l).get? (ztA s.heap t).objs.size=some _:=pu _ (pu _ (pu _ (Heap.get?_push_size _ rfl)))
 have q1:(ztE s.heap t l).get? s.heap.objs.size=some _:=pu _ (pu _ (pu _ (pu _ (Heap.get?_push_size _ rfl))))
 have kk:∀ c o,s.heap.get? c=some o→(ztE s.heap t l).get? c=some o:=fun c o e=>pu _ (pu _ (pu _ (pu _ (pu _ e))))
 obtain ⟨ot,e1,r1⟩:=gt
 obtain ⟨ol,e2,r2⟩:=gl
 rw [n2,n3,n4] at q5
 rw [n3] at q4
 rw [n1,n2] at q3
 rw [n1] at q2
 refine show _∧_ from ?_
 rw [n4]
 exact ⟨⟨_,q5,rfl⟩,q _ q5 ⟨q3,⟨_,q1,rfl,rfl⟩,⟨_,q2,rfl,rfl⟩,⟨ot,kk _ _ e1,r1⟩,⟨ol,kk _ _ e2,r2⟩⟩ q4 kk⟩
end
section
variable {X:Cx} {elts:List Expr} {kk:Nat} {ps:Pos}
def ztS (z TI TO i1 i2 a1 a2:Addr) (i:Nat) (h:Heap):Prop:=IsZip h z TI TO .none∧IsPair h TI (.ref i1) (.ref i2)∧(∃ a b,IsPair h TO a b)∧h.IsTupleIter i1 a1 i∧h.IsListIter i2 a2 i
theorem turn_zipTL {P:Program} {w:World} {K:PySem.W.Frag} (a1 a2 z TI TO i1 i2:Addr) (D:ZipApart z TI TO i1 i2 a1 a2):Turn P w K (.Tuple elts kk ps) (Itz (fun H xs=>SqT K H a1 xs) (fun H xs=>SqL K H a2 xs)) [z,TI,TO,i1,i2] z (ztS z TI TO i1 i2 a1 a2) where
 mem:=by simp
 obj:=fun i h st b hb=>by
  obtain ⟨hz,hTI,⟨u,v,hTO⟩,⟨o1,e1,c1,d1⟩,⟨o2,e2,c2,d2⟩⟩:=st
  have q:b=z∨b=TI∨b=TO∨b=i1∨b=i2:=by simpa using hb
  rcases q with rfl | rfl | rfl | rfl | rfl
  ·exact ⟨_,hz,fun v q=>by have q':Data.fields _=Data.cell v:=q;cases q'⟩
  ·exact ⟨_,hTI,fun v q=>by have q':Data.seq _ _=Data.cell v:=q;cases q'⟩
  ·exact ⟨_,hTO,fun v q=>by have q':Data.seq _ _=Data.cell v:=q;cases q'⟩
  ·exact ⟨o1,e1,fun v q=>by rw [d1] at q;cases q⟩
  ·exact ⟨o2,e2,fun v q=>by rw [d2] at q;cases q⟩
 keep:=fun i h h' st k=>by
  obtain ⟨hz,hTI,⟨u,v,hTO⟩,h1,h2⟩:=st
  exact ⟨k z (by simp) _ hz,k TI (by simp) _ hTI,⟨u,v,k TO (by simp) _ hTO⟩,h1.at fun o e=>k i1 (by simp) o e,h2.at fun o e=>k i2 (by simp) o e⟩
 item:=by
  intro X hP hw hK hc i pins s σ H E I hf st hg
  subst hP hw hK
  obtain ⟨hz,hTI,⟨u0,v0,hTO⟩,h1,h2⟩:=st
  obtain ⟨xs,x,ys,y,hq,hr,hx,hy⟩:=hg
  obtain ⟨its,rv,p,_⟩:=I.tuple hq
  obtain ⟨jts,rw',p',_⟩:=I.list hr
  obtain ⟨u,hu,ru⟩:=rv.get hx
  obtain ⟨v,hv,rvv⟩:=rw'.get hy
  refine next_zipTL D hz hTO ⟨hTI,h1,h2,p,p'.isList⟩ (x:=u) (y:=v) (by simpa using hu) (by simpa using hv) fun h' b1 b2 b3 b4 b5 hk=>?_
  refine ⟨_,rfl,wpAny_letOwnedTupleGo_zip b1 fun h2' hz2 sb=>?_⟩
  have eT:z < s.heap.objs.size:=Heap.lt_size hz
  have k2:∀ b o,b ∉ [z,TO,i1,i2]→s.heap.get? b=some o→h2'.get? b=some o:=fun b o n q=>by
   have n':b≠z∧b≠TO∧b≠i1∧b≠i2:=by simpa using n
   exact sb.extBut b o n'.1 (hk b o n'.1 n'.2.1 n'.2.2.1 n'.2.2.2 q)
  have new:ObjOk X.prog X.w (upd H s.heap.objs.size (.tup [x,y])) h2' s.heap.objs.size (.tup [x,y]):=⟨by show 2≤sizeLine;rw [sizeLine_eq];decide,[u,v],.cons ru (.cons rvv .nil),_,sb.extBut _ _ (Nat.ne_of_gt eT) b5,rfl,_,rfl,rfl⟩
  have sub:∀ b∈[z,TO,i1,i2],b∈[z,TI,TO,i1,i2]:=fun b hb=>by
   simp at hb ⊢
   rcases hb with e | e | e | e <;> simp [e]
  have I2:Inv X pins σ (upd H s.heap.objs.size (.tup [x,y])) { s with heap:=h2',toks:=s.toks }:=Inv.turnedT I k2 (fun b hb=>hf b (sub b hb)) new
  refine ⟨.ref s.heap.objs.size,_,I2,rfl,⟨s.heap.objs.size,x,y,I.hok.fresh (Nat.le_refl _),rfl,rfl,(fun zs hzs=>by rw [I.tuple_inj hzs hq];exact hx),fun zs hzs=>by rw [I.list_inj hzs hr];exact hy⟩,⟨hz2,?_,⟨u,v,?_⟩,?_,?_⟩,fun b hb=>?_⟩
  ·exact sb.extBut _ _ D.TIz (hk _ _ D.TIz D.TITO D.TIi1 D.TIi2 hTI)
  ·exact sb.extBut _ _ D.TOz b2
  ·exact b3.extBut sb.extBut D.i1z
  ·exact b4.extBut sb.extBut D.i2z
  ·have bl:b < s.heap.objs.size:=by
    have q:b=z∨b=TI∨b=TO∨b=i1∨b=i2:=by simpa using hb
    rcases q with rfl | rfl | rfl | rfl | rfl
    ·exact eT
    ·exact Heap.lt_size hTI
    ·exact Heap.lt_size hTO
    ·obtain ⟨_,q,_⟩:=h1;exact Heap.lt_size q
    ·obtain ⟨_,q,_⟩:=h2;exact Heap.lt_size q
   rw [upd_ne (Nat.ne_of_lt bl)]
   exact (hf b hb).1
 done:=by
  intro X hP hw hK hc i pins s σ H E I hf st hg
  subst hP hw hK
  obtain ⟨hz,hTI,⟨u0,v0,hTO⟩,h1,h2⟩:=st
  obtain ⟨xs,ys,hq,hr,hx⟩:=hg
  obtain ⟨its,rv,p,_⟩:=I.tuple hq
  obtain ⟨jts,rw',p',_⟩:=I.list hr
  have l1:=rv.length
  have l2:=rw'.length
  have hend:its.toArray[i]?=none∨jts.toArray[i]?=none:=by
   rcases hx with q | q
   ·exact .inl (by rw [List.getElem?_toArray,List.getElem?_eq_none_iff] at *;walk_at"q")
   ·exact .inr (by rw [List.getElem?_toArray,List.getElem?_eq_none_iff] at *;walk_at"q")
  have sub:∀ b∈[z,TO,i1,i2],b∈[z,TI,TO,i1,i2]:=fun b hb=>by
   simp at hb ⊢
   rcases hb with e | e | e | e <;> simp [e]
  refine next_zipTL_end (I.ok.hd hc) D hz hTO ⟨hTI,h1,h2,p,p'.isList⟩ hend fun h' hk=>⟨rfl,?_⟩
  exact Inv.turnedN (t':=s.toks) (ch:=[z,TO,i1,i2]) I (fun b o n q=>by
   have n':b≠z∧b≠TO∧b≠i1∧b≠i2:=by simpa using n
   exact hk b o n'.1 n'.2.1 n'.2.2.1 n'.2.2.2 q) fun b hb=>hf b (sub b hb)
 self:=fun _ _ _ _ _ st h=>wpAny_pyIter_zip st.1 h
def iZipTL (K:PySem.W.Frag) (ta:TA):TI:=fun σ H R=>ta σ H fun vs H1=>∃ a b,vs=[.ref a,.ref b]∧(∃ xs,SqT K H1 a xs)∧(∃ ys,SqL K H1 b ys)∧R (Itz (fun H xs=>SqT K H a xs) (fun H xs=>SqL K H b xs)) H1
theorem pi_zipTL {l r:Expr} {ta:TA} {p pos:Pos} (hg:Gl X "zip") (hm:X.mg "zip" = none) (ha:PA X [l,r] ta) (hs:starEach [l,r] X.env=(false,eval l X.env) :: starEach [r] X.env:=by rfl) (hpl:(backTo pos (starEach [r] X.env)).any (·.1)=false:=by rfl) :
  PI X (.Tuple elts kk ps) (.Call (.Name "zip" p) [l,r] [] pos) (iZipTL X.K ta):=by
 intro pins s σ H R I h
 refine Call_ (ld_blt I hg hm boot_zip (PyProof.Rows.callWith_type1 (thn (ha pos pins s σ H _ I h) fun us s1 ⟨vs,H1,I1,r1,q1⟩=>?_) hs hpl))
 obtain ⟨a,b,e,⟨xs,hq⟩,⟨ys,hr⟩,q⟩:=q1
 subst e
 obtain ⟨u,v,rfl,ru,rv⟩:=Vals.two r1
 cases ru
 cases rv
 obtain ⟨its,_,pp,_⟩:=I1.tuple hq
 obtain ⟨jts,_,pp',_⟩:=I1.list hr
 have la:a < s1.heap.objs.size:=by obtain ⟨o,e,_⟩:=pp;exact Heap.lt_size e
 have lb:b < s1.heap.objs.size:=by obtain ⟨o,n,e,_⟩:=pp';exact Heap.lt_size e
 refine call_zipTL pp pp'.isList fun h' gz Z gTO kk=>?_
 refine wpAny_pyIter_zip (by simpa using gz) ?_
 have ap:ZipApart (s1.heap.objs.size + 4) (s1.heap.objs.size + 2) (s1.heap.objs.size + 3) s1.heap.objs.size (s1.heap.objs.size + 1) a b:=by
  generalize s1.heap.objs.size=n at la lb
  constructor <;> exact fun q=>by simp only [Addr] at *;walk_at"q"
 refine ⟨s1.heap.objs.size + 4,[s1.heap.objs.size + 4,s1.heap.objs.size + 2,s1.heap.objs.size + 3,s1.heap.objs.size,s1.heap.objs.size + 1],_,_,H1,rfl,I1.kept (t':=s1.toks) kk,turn_zipTL a b _ _ _ _ _ ap,⟨gz,Z.pr,⟨_,_,gTO⟩,Z.g1,Z.g2⟩,fun c hb=>?_,q⟩
 have bl:s1.heap.objs.size≤c:=by
  have q:c=s1.heap.objs.size + 4∨c=s1.heap.objs.size + 2∨c=s1.heap.objs.size + 3∨c=s1.heap.objs.size∨c=s1.heap.objs.size + 1:=by simpa using hb
  rcases q with rfl | rfl | rfl | rfl | rfl
  ·exact Nat.le_add_right _ _
  ·exact Nat.le_add_right _ _
  ·exact Nat.le_add_right _ _
  ·exact Nat.le_refl _
  ·exact Nat.le_add_right _ _
 exact I1.fpOk bl (I1.hok.fresh bl)
end
end L2

namespace L2
open PySem PySem.Spec PyProof.Rows
theorem ObjOk.ex {P:Program} {w:World} {H:Hp} {h:Heap} {a:Addr} {o:HO} (x:ObjOk P w H h a o):∃ ob,h.get? a=some ob:=by
 cases o with
 | lst xs=>exact let ⟨_,_,_,_,e⟩:=x;⟨_,e⟩
 | tup xs=>exact let ⟨_,_,_,ob,e,_⟩:=x;⟨ob,e⟩
 | dK kvs=>exact let ⟨_,_,_,_,ob,_,_,e,_⟩:=x;⟨ob,e⟩
 | dT kvs=>exact let ⟨_,_,_,_,ob,_,_,e,_⟩:=x;⟨ob,e⟩
 | set S n=>exact let ⟨ob,_,_,_,e,_⟩:=x;⟨ob,e⟩
 | ins C dx fs=>exact let ⟨_,_,_,e,_⟩:=x;⟨_,e⟩
 | own y=>exact x
 | xd fs=>exact let ⟨_,⟨ob,_,_,e,_⟩,_⟩:=x;⟨ob,e⟩
 | rng lo hi=>exact let ⟨_,_,_,e⟩:=x;⟨_,e⟩
 | frz ob u=>exact ⟨ob,x.1⟩
 | tbl q=>exact match (show h.get? a=some { cls:=.none,data:=.fields #[] }∨∃ c,h.get? a=some { cls:=.none,data:=.fields #[rawInt q.2.1,rawInt q.2.2,.ref c] }∧H c=some (.own a)∧h.CodeRec (.ref c) q.1 from x) with | .inl e=>⟨_,e⟩ | .inr ⟨_,e,_⟩=>⟨_,e⟩
 | met f y=>exact ⟨_,x⟩
 | ext φ=>exact x.2.1
def CX1 (P:Program) (w:World):CXT:=fun outer H s E e s'=>∃ (ea:Addr) (cls a0:Value) (B:Heap) (H':Hp),e=.ref ea∧s'.os=s.os∧AllBare s'.gens∧Un (frs outer) [] H H' s.heap s'.heap∧HOk P w H' s'.heap ∧
 Heap.FlyingW B outer ea cls a0 s'.heap∧H' ea=none∧(∀ b o,s'.heap.get? b=some o→b ∉ frs outer→((∃ u,s.heap.get? b=some u)∨∃ u,H' b=some u)→B.get? b=some o)∧E cls none H'
theorem Un.left {L:Addr} {fs:List Addr} {H₀ H':Hp} {g h h2:Heap} (tr:Un (L :: fs) [] H₀ H' g h) (hL:∀ b o,g.get? b=some o→b≠L) (hf:∀ b∈fs,H₀ b=none)
  (k2:∀ b o,h.get? b=some o→b ∉ L :: fs→(∃ u,g.get? b=some u)→h2.get? b=some o) (up:∀ b o,b∈fs→h.get? b=some o→∃ sl,h2.get? b=some { o with slots:=sl }):Un fs [] H₀ H' g h2:=by
 have nm:∀ {b o},g.get? b=some o→b ∉ fs→b ∉ L :: fs:=fun q n z=>by
  rcases List.mem_cons.mp z with z | z
  ·exact hL _ _ q z
  ·exact n z
 refine ⟨fun b o q n hb hx=>k2 b o (tr.keep b o q n (nm q hb) hx) (nm q hb) ⟨o,q⟩,fun b o q n hb hx=>?_,tr.free,fun b o q hx=>?_,tr.tups,tr.frzs,fun b ps q=>⟨(tr.tbls b ps q).1,fun c o ec x=>let z:=(tr.tbls b ps q).2 c o ec x;⟨z.1,k2 c o z.2 (nm x fun m=>by rw [hf c m] at ec;cases ec) ⟨o,x⟩⟩⟩⟩
 ·obtain ⟨sl,e⟩:=tr.slot b o q n (List.mem_cons_of_mem _ hb) hx
  obtain ⟨sl',e'⟩:=up b _ hb e
  exact ⟨sl',e'⟩
 ·obtain ⟨o',e⟩:=tr.there b o q hx
  by_cases hb:b∈fs
  ·obtain ⟨sl,e'⟩:=up b o' hb e
   exact ⟨_,e'⟩
  ·exact ⟨o',k2 b o' e (nm q hb) ⟨o,q⟩⟩
section
variable {P:Program} {w:World} {K:PySem.W.Frag} {mg:Str→Option Value} {base:Heap} {N:List Str} {qual:Str} {scope:Scope} {f:Addr} {cd:Value} {A:Around} {outer:List Env} {s₀:Shared} {H₀:Hp} {E:XK}
 {pins:List (Addr × Obj)} {σ:St} {H:Hp} {s:Shared}
abbrev XC (P:Program) (w:World) (K:PySem.W.Frag) (mg:Str→Option Value) (base:Heap) (N:List Str) (qual:Str) (scope:Scope) (f:Addr) (cd:Value) (A:Around) (outer:List Env) (s₀:Shared) (H₀:Hp) (E:XK):Cx :=
 cxOf (CX1 P w) P w K mg base N qual scope f cd A outer s₀ H₀ E
theorem frame_mem {l:List Env} {env:Env} (he:env∈l) {b:Addr} (hb:env.frame=some b):b∈frs l:=List.mem_filterMap.mpr ⟨env,he,hb⟩
theorem Inv.notL (I:Inv (XC P w K mg base N qual scope f cd A outer s₀ H₀ E) pins σ H s):∀ b o,s₀.heap.get? b=some o→b≠s₀.heap.objs.size:=fun b o q z=>by
 have:=Heap.lt_size q
 rw [z] at this
 exact Nat.lt_irrefl _ this
theorem xe_raise (I:Inv (XC P w K mg base N qual scope f cd A outer s₀ H₀ E) pins σ H s) {h':Heap} {ea:Addr} {cls:Value} {vs:List Value} (hx:Heap.MadeExcOf s.heap h' ea cls vs) (hE:E cls none H) :
  (XC P w K mg base N qual scope f cd A outer s₀ H₀ E).xe (.ref ea) { s with heap:=h' }:=by
 have hst:=I.stack
 have hfr:=I.ok.frames
 have mem:∀ {b:Addr},b∈frs (envOfC qual scope s₀.heap.objs.size f cd :: outer)↔b=s₀.heap.objs.size∨b∈frs outer:=fun {b}=>by
  show b∈s₀.heap.objs.size :: frs outer↔_
  exact List.mem_cons
 refine wpAny_leaves_madeW (base:=PySem.W.hideAll s.heap (frs (envOfC qual scope s₀.heap.objs.size f cd :: outer))) (h:=s.heap) (outer:=outer) hfr rfl (fun b o q=>PySem.W.of_hideAll _ q)
  (PySem.W.funFrames_hide hst (fun env he b hb=>frame_mem he hb)) hx fun h2 t fl tup bt ups=>?_
 have kB:∀ b o,s.heap.get? b=some o→b ∉ frs (envOfC qual scope s₀.heap.objs.size f cd :: outer)→h2.get? b=some o:=fun b o q n=>fl.1 _ _ (PySem.W.hideAll_get _ q n)
 have free:=I.stkFree
 have trk:∀ b u,H b=some u→b ∉ frs (envOfC qual scope s₀.heap.objs.size f cd :: outer):=fun b u q z=>by
  rw [free b z] at q
  cases q
 refine ⟨ea,cls,.ref t,_,H,rfl,I.os,I.bare,?_,?_,fl,?_,?_,hE⟩
 ·refine Un.left (I.base.mono (fs':=s₀.heap.objs.size :: frs outer) (fun b hb=>List.mem_cons_of_mem _ hb) (fun b hb=>hb)) I.notL I.ok.frf (fun b o q n _=>kB b o q n) fun b o hb q=>?_
  obtain ⟨_,o',ho',hd⟩:=hst.mem (b:=b) (mem.mpr (.inr hb))
  rw [q] at ho'
  cases ho'
  exact ups b o (hx.keeps b o q) hd
 ·exact fun a o e=>(I.hok a o e).stay (fun b u hb q=>by
   rcases hb with rfl | hb
   ·exact kB b u q (trk b _ e)
   ·exact kB b u q (trk b _ hb)) (fun _ q=>q) fun _ _ q=>q
 ·cases e:H ea with
  | none=>rfl
  | some u =>
   obtain ⟨ob,z⟩:=(I.hok ea u e).ex
   rw [hx.new] at z
   cases z
 ·intro b o q n c
  have key:∀ ob,s.heap.get? b=some ob→b ∉ frs (envOfC qual scope s₀.heap.objs.size f cd :: outer)→(PySem.W.hideAll s.heap (frs (envOfC qual scope s₀.heap.objs.size f cd :: outer))).get? b=some o:=fun ob z nb=>by
   have:=kB b ob z nb
   rw [q] at this
   cases this
   exact PySem.W.hideAll_get _ z nb
  rcases c with ⟨u,c⟩ | ⟨u,c⟩
  ·obtain ⟨ob,z⟩:=I.base.there b u c (List.not_mem_nil (a:=b))
   refine key ob z fun hm=>?_
   rcases mem.mp hm with e | e
   ·exact I.notL b u c e
   ·exact n e
  ·obtain ⟨ob,z⟩:=(I.hok b u c).ex
   exact key ob z (trk b u c)
theorem pass1:Passes (CX1 P w) (XC P w K mg base N qual scope f cd A outer s₀ H₀ E) E:=by
 rintro pins σ H s e s' I ⟨ea,cls,a0,B,H',rfl,os,bare,un,hok,fl,hea,kB,hE⟩
 have hst:=I.stack
 have hfr:=I.ok.frames
 have mem:∀ {b:Addr},b∈frs (envOfC qual scope s₀.heap.objs.size f cd :: outer)↔b=s₀.heap.objs.size∨b∈frs outer:=fun {b}=>by
  show b∈s₀.heap.objs.size :: frs outer↔_
  exact List.mem_cons
 have free:∀ b∈frs (envOfC qual scope s₀.heap.objs.size f cd :: outer),H' b=none:=fun b hb=>by
  obtain ⟨_,o,ho,_⟩:=hst.mem (b:=b) hb
  exact un.free b o ho (I.stkFree b hb) (List.not_mem_nil (a:=b))
 have trk:∀ b u,H' b=some u→b ∉ frs (envOfC qual scope s₀.heap.objs.size f cd :: outer):=fun b u q z=>by
  rw [free b z] at q
  cases q
 have tr:Un (s₀.heap.objs.size :: frs outer) [] H₀ H' s₀.heap s'.heap:=(I.base.mono (fs':=s₀.heap.objs.size :: frs outer) (fun b hb=>List.mem_cons_of_mem _ hb) (fun b hb=>hb)).trans un
 refine wpAny_leaves_onW (outer:=outer) hfr rfl fl fun h2 fl' ups=>?_
 have k2:∀ b o,s'.heap.get? b=some o→b ∉ frs (envOfC qual scope s₀.heap.objs.size f cd :: outer)→((∃ u,s.heap.get? b=some u)∨∃ u,H' b=some u)→h2.get? b=some o:=fun b o q n c=>fl'.1 _ _ (kB b o q n c)
 refine ⟨ea,cls,a0,B,H',rfl,os.trans I.os,bare,?_,?_,fl',hea,?_,hE⟩
 ·refine Un.left tr I.notL I.ok.frf (fun b o q n ⟨u,c⟩=>k2 b o q n (.inl (I.base.there b u c (List.not_mem_nil (a:=b))))) fun b o hb q=>?_
  obtain ⟨_,o',ho',hd⟩:=fl.2.2.1.mem (b:=b) (mem.mpr (.inr hb))
  rw [q] at ho'
  cases ho'
  exact ups b o q hd
 ·exact fun a o e=>(hok a o e).stay (fun b u hb q=>by
   rcases hb with rfl | hb
   ·exact k2 b u q (trk b _ e) (.inr ⟨_,e⟩)
   ·exact k2 b u q (trk b _ hb) (.inr ⟨_,hb⟩)) (fun _ q=>q) fun _ _ q=>q
 ·intro b o q n c
  have key:∀ ob,s'.heap.get? b=some ob→b ∉ frs (envOfC qual scope s₀.heap.objs.size f cd :: outer)→((∃ u,s.heap.get? b=some u)∨∃ u,H' b=some u)→B.get? b=some o:=fun ob z nb c=>by
   have:=k2 b ob z nb c
   rw [q] at this
   cases this
   exact kB b _ z nb c
  rcases c with ⟨u,c⟩ | ⟨u,c⟩
  ·obtain ⟨ob,z⟩:=tr.there b u c (List.not_mem_nil (a:=b))
   refine key ob z (fun hm=>?_) (.inl (I.base.there b u c (List.not_mem_nil (a:=b))))
   rcases mem.mp hm with e | e
   ·exact I.notL b u c e
   ·exact n e
  ·obtain ⟨ob,z⟩:=(hok b u c).ex
   exact key ob z (trk b u c) (.inr ⟨u,c⟩)
end
theorem Fun.okE {P:Program} {w:World} {K:PySem.W.Frag} {mg:Str→Option Value} {base:Heap} {x qual:Str} {st:Stmt} {f:Addr} {fd:FuncData} {N ps:List Str} {k:Nat} {sp:Sp} (F:Fun K x qual st f fd) (S:FnScope N ps (defScope st)) (len:∀ vs H Q E,sp vs H Q E→vs.length=ps.length)
  (hbody:∀ (cdv:Value) (A:Around) (outer:List Env) (s:Shared) (H:Hp) (vs:List V) (Q:VK) (E:XK),Room k (A.deeper (envOfC qual (defScope st) s.heap.objs.size f cdv))→sp vs H Q E →
   ∃ t,PSs (XC P w K mg base N qual (defScope st) f cdv A outer s H E) (defBody st) t∧t { nx:=fun _ H'=>Q .non H',rt:=Q } (start N vs) H):FnOk P w K mg base (CX1 P w) (k + 1) f fd ps sp:=by
 obtain ⟨oc,od,kV,doc,pm,an,cdv,ct,osl,rfl,lk,hcd⟩:=F.ex
 exact fn_of lk hcd S len fun A outer s H vs Q E hr hsp=>hbody cdv A outer s H vs Q E hr hsp
structure CalleeE (P:Program) (w:World) (K:PySem.W.Frag) (mg:Str→Option Value) (base:Heap) (x:Str) (k:Nat) (ps:List Str) (sp:Sp):Prop where
 ex:∃ (f:Addr) (fd:FuncData),FnOk P w K mg base (CX1 P w) k f fd ps sp∧Binds K fd ps []∧PySem.W.keepIn K (.ref f)=true∧mg x=some (.ref f)
theorem Here.calleeE {P:Program} {w:World} {K:PySem.W.Frag} {mg:Str→Option Value} {base:Heap} {x:Str} {st:Stmt} {f:Addr} {fd:FuncData} {k:Nat} {ps:List Str} {sp:Sp} (h:Here K mg x st f fd) (F:FnOk P w K mg base (CX1 P w) k f fd ps sp)
  (hb:∀ (kV doc pm:Value) (an:Option Addr) (cdv ct:Value) (us:List Value),us.length=ps.length→bindArgs (PySem.W.fnOf x x (defArgs st) (defBody st) (defScope st) .none kV doc pm an cdv ct) ⟨us,[]⟩=pure (ps.zip us)):CalleeE P w K mg base x k ps sp :=
 ⟨f,fd,F,h.fn.binds hb,h.fn.kp,h.at_⟩
theorem pe_callE {P:Program} {w:World} {K:PySem.W.Frag} {mg:Str→Option Value} {base:Heap} {N:List Str} {qual:Str} {scope:Scope} {f:Addr} {cd:Value} {A:Around} {outer:List Env} {s₀:Shared} {H₀:Hp} {E:XK}
  {x:Str} {k:Nat} {ps:List Str} {sp:Sp} {e:Expr} {es:List Expr} {t:TA} {p pos:Pos} (C:CalleeE P w K mg base x k ps sp) (hr:Room k (XC P w K mg base N qual scope f cd A outer s₀ H₀ E).A) (hg:Gl (XC P w K mg base N qual scope f cd A outer s₀ H₀ E) x)
  (ha:PA (XC P w K mg base N qual scope f cd A outer s₀ H₀ E) (e :: es) t)
  (hdb:(x == ("__debug__" : Str))=false:=by decide) (he:starEach (e :: es) (XC P w K mg base N qual scope f cd A outer s₀ H₀ E).env=(false,eval e (XC P w K mg base N qual scope f cd A outer s₀ H₀ E).env) :: starEach es (XC P w K mg base N qual scope f cd A outer s₀ H₀ E).env:=by rfl)
  (hpl:(backTo pos (starEach es (XC P w K mg base N qual scope f cd A outer s₀ H₀ E).env)).any (·.1)=false:=by rfl) :
  PE (XC P w K mg base N qual scope f cd A outer s₀ H₀ E) (.Call (.Name x p) (e :: es) [] pos) (tCall sp [] E t):=by
 obtain ⟨f',fd,F,hb,hk,hm⟩:=C.ex
 exact pe_call F hr hg hm hk hb .nil pass1 ha hdb he hpl
end L2

namespace L2
open PySem PySem.Spec PyProof.Rows
structure ExcAt (h:Heap) (C:Addr) (bmB:List Value) (newId:String):Prop where
 ex:∃ (bm:List Value) (N:Addr) (nm qn:Str) (bs:List Value) (hd:Bool) (sn:List Str) (sub:List Value) (ab:Bool) (col:Option Bool) (dd:Option Addr) (k0 k1 k2 k3 k5:Option Value) (mN:Str→Option Value),
  h.get? C=some (excClassObj nm qn C N bs bm hd sn sub ab col dd k0 k1 k2 k3 k5 newId)∧h.Ns N mN∧mN "__init__" = none∧OwnTail h bmB bm
theorem excAt_of {K:PySem.W.Frag} {h:Heap} {C:Addr} {bmB:List Value} {newId:String} (X:K.In h) (q:PySem.W.excIn K C bmB newId=true):ExcAt h C bmB newId:=by
 unfold PySem.W.excIn at q
 split at q
 case h_1 dd cd sl ho =>
  split at q
  case h_1 C' bm k0 k1 k2 k3 n k5 hm hs =>
   simp only [Bool.and_eq_true,beq_iff_eq,Bool.not_eq_true'] at q
   obtain ⟨⟨⟨⟨⟨e1,e2⟩,e3⟩,e4⟩,e5⟩,e6⟩:=q
   subst e1 e2
   cases cd with
   | mk nm bs mro ns qn hd sn sub ab col del =>
    dsimp only at hm e3 e5 e6
    subst hm e3
    have es:sl=#[k0,k1,k2,k3,some (.builtin n),k5]:=by
     cases sl with
     | mk l=>exact congrArg Array.mk hs
    subst es
    exact ⟨bm,ns,nm,qn,bs,hd,sn,sub,ab,col,dd,k0,k1,k2,k3,k5,_,X _ _ ho,.of_isNs (PySem.W.isNs_of_in X e5),PySem.W.nsMap_none_of_in X e5 e6,PySem.W.tail_of_in X e4⟩
  all_goals cases q
 all_goals cases q
section
variable {P:Program} {w:World} {K:PySem.W.Frag} {mg:Str→Option Value} {base:Heap} {N:List Str} {qual:Str} {scope:Scope} {f:Addr} {cd:Value} {A:Around} {outer:List Env} {s₀:Shared} {H₀:Hp} {E:XK}
abbrev veB:List Value:=[.type "ValueError", .type "Exception", .type "BaseException", .type "object"]
theorem ps_raise {x:Str} {C:Addr} {e:Expr} {ta:TA} {np cpos pos:Pos} (hq:PySem.W.excIn K C veB "ValueError.__new__" = true) (hg:Gl (XC P w K mg base N qual scope f cd A outer s₀ H₀ E) x) (hm:mg x=some (.ref C))
  (ha:PA (XC P w K mg base N qual scope f cd A outer s₀ H₀ E) [e] ta) (hd:(x == ("__debug__" : Str))=false:=by decide)
  (he:starEach [e] (XC P w K mg base N qual scope f cd A outer s₀ H₀ E).env=[(false,eval e (XC P w K mg base N qual scope f cd A outer s₀ H₀ E).env)]:=by rfl) :
  PS (XC P w K mg base N qual scope f cd A outer s₀ H₀ E) (.Raise (some (.Call (.Name x np) [e] [] cpos)) none pos) (fun _ σ H=>ta σ H fun vs H1=>vs.length≤1000∧E (.ref C) none H1):=by
 intro pins s σ H D I h
 obtain ⟨bm,N',nm,qn,bs,hdc,sn,sub,ab,col,dd,k0,k1,k2,k3,k5,mN,hC,hN,hni,T⟩:=(excAt_of I.ok.mod.kin hq).ex
 refine wpAny_Raise_call_subT (C:=C) (nm:=nm) (q:=qn) (N:=N') (bs:=bs) (bm:=bm) (hdct:=hdc) (sn:=sn) (sub:=sub) (ab:=ab) (col:=col) (dd:=dd) (k0:=k0) (k1:=k1) (k2:=k2) (k3:=k3) (k5:=k5)
  PySem.F.excBase_ValueError (mN:=mN) (T.hasType PySem.F.excBase_ValueError.hasBase) (I.ok.hd rfl) (by rw [he];rfl) hni (ld_glob I hg hm ⟨rfl,?_⟩ hd)
 have hA:=ha cpos pins s σ H _ I h
 rw [he] at hA ⊢
 refine Calls.evalArgs_plain (thn hA fun us s1 ⟨vs,H1,I1,r,l,q⟩=>⟨rfl,?_,I1.bk _ _ hC,hN.keeps I1.bk,T.keeps I1.bk,fun h' ea hx=>xe_raise I1 hx q⟩)
 rw [← r.length]
 exact Nat.le_of_lt (small1000 l)
end
def excO (ea:Addr) (cls:Value):HO:=.ext fun h=>∃ o,h.get? ea=some o∧o.cls=cls
section
variable {X:Cx} {pins:List (Addr × Obj)} {σ:St} {H H':Hp} {s s':Shared} {B h5:Heap} {ea:Addr} {cls a0:Value}
theorem landed (I:Inv X pins σ H s) (os:s'.os=s.os) (bare:AllBare s'.gens) (un:Un (frs X.stack) [] H H' s.heap s'.heap) (hok:HOk X.prog X.w H' s'.heap) (fl:Heap.FlyingW B X.stack ea cls a0 s'.heap) (hea:H' ea=none)
  (kB:∀ b o,s'.heap.get? b=some o→b ∉ frs X.stack→((∃ u,s.heap.get? b=some u)∨∃ u,H' b=some u)→B.get? b=some o) (fl5:Heap.FlyingW B X.stack ea cls a0 h5) (up:s'.heap.UpToSlots h5) :
  Inv X pins σ (upd H' ea (excO ea cls)) { s' with heap:=h5 }:=by
 have nn:∀ b:Addr,b ∉ ([]:List Addr):=fun b=>List.not_mem_nil (a:=b)
 have free:∀ b∈frs X.stack,H' b=none:=fun b hb=>by
  obtain ⟨_,o,ho,_⟩:=I.stack.mem (b:=b) hb
  exact un.free b o ho (I.stkFree b hb) (nn b)
 have trk:∀ b u,H' b=some u→b ∉ frs X.stack:=fun b u q z=>by
  rw [free b z] at q
  cases q
 have k5:∀ b o,s'.heap.get? b=some o→b ∉ frs X.stack→((∃ u,s.heap.get? b=some u)∨∃ u,H' b=some u)→h5.get? b=some o:=fun b o q n c=>fl5.1 _ _ (kB b o q n c)
 have nea:∀ b o,s.heap.get? b=some o→b≠ea:=fun b o q z=>by
  subst z
  obtain ⟨o',e'⟩:=un.there b o q (nn b)
  by_cases hm:b∈frs X.stack
  ·obtain ⟨_,o2,ho2,hd⟩:=fl.2.2.1.mem (b:=b) hm
   obtain ⟨oe,vs,h1,_,h2,_⟩:=fl.first
   rw [ho2] at h1
   cases h1
   exact hd vs h2
  ·have:=kB b o' e' hm (.inl ⟨o,q⟩)
   rw [fl.2.1] at this
   cases this
 have slo:∀ b o,b∈frs X.stack→s'.heap.get? b=some o→∃ sl,h5.get? b=some { o with slots:=sl }:=fun b o hb e=>by
  obtain ⟨_,o',ho',hd⟩:=fl.2.2.1.mem (b:=b) hb
  rw [e] at ho'
  cases ho'
  exact up b o e hd
 refine I.call' (ch:=[]) os ⟨fun b o q n hb hx=>k5 b o (un.keep b o q n hb hx) hb (.inl ⟨o,q⟩),fun b o q n hb hx=>?_,fun b o q n hx=>by rw [upd_ne (nea b o q)];exact un.free b o q n hx,fun b o q hx=>?_,
  fun b xs q=>by rw [upd_ne (ne_of_none (un.tups b xs q) hea)];exact un.tups b xs q,fun b u xs q=>by rw [upd_ne (ne_of_none (un.frzs b u xs q) hea)];exact un.frzs b u xs q,fun b ps q=>?_⟩ ?_ bare (fun b z=>absurd z (nn b))
 ·obtain ⟨sl,e⟩:=un.slot b o q n hb hx
  obtain ⟨sl',e'⟩:=slo b _ hb e
  exact ⟨sl',e'⟩
 ·obtain ⟨o',e⟩:=un.there b o q hx
  by_cases hb:b∈frs X.stack
  ·obtain ⟨sl,e'⟩:=slo b o' hb e
   exact ⟨_,e'⟩
  ·exact ⟨o',k5 b o' e hb (.inl ⟨o,q⟩)⟩
 ·have e:=un.tbls b ps q
  exact ⟨by rw [upd_ne (ne_of_none e.1 hea)];exact e.1,fun c o ec x=>let z:=e.2 c o ec x;⟨by rw [upd_ne (ne_of_none z.1 hea)];exact z.1,k5 c o z.2 (trk c _ z.1) (.inl ⟨o,x⟩)⟩⟩
 ·intro a o e
  by_cases c:a=ea
  ·subst c
   rw [upd_same] at e
   cases e
   obtain ⟨ob,hob,hc⟩:=fl5.there
   exact ⟨⟨ob,hob,hc⟩,⟨ob,hob⟩,fun h1 h2 ⟨o1,z1,z2⟩ k=>⟨o1,k o1 z1,z2⟩⟩
  ·rw [upd_ne c] at e
   have ne:∀ b u,H' b=some u→b≠ea:=fun b u q=>ne_of_none q hea
   exact (hok a o e).stay (fun b u hb q=>by
    rcases hb with rfl | hb
    ·exact k5 b u q (trk b _ e) (.inr ⟨_,e⟩)
    ·exact k5 b u q (trk b _ hb) (.inr ⟨_,hb⟩)) (fun b q=>by rw [upd_ne (ne b _ q)];exact q) fun b xs q=>by rw [upd_ne (ne b _ q)];exact q
abbrev Cx.inside (X:Cx) (ea:Addr):Cx:={ X with A:=X.A.mark (some (.ref ea)),calm:=false,xe:=fun _ _=>False }
theorem Inv.inside (I:Inv X pins σ H s) (ea:Addr):Inv (X.inside ea) pins σ H s :=
 ⟨⟨I.ok.mod,I.ok.kind,I.ok.glob,I.ok.blt,I.ok.above,I.ok.inj,I.ok.has,I.ok.cab,(fun z=>by cases z),I.ok.frames,I.ok.stk,I.ok.exf,I.ok.bs,I.ok.bsz,I.ok.noex,I.ok.exfs,I.ok.funs,I.ok.frf⟩,I.os,I.bare,I.base,I.loc,I.cell,I.free,I.freeC,I.pin,I.hok,I.len⟩
theorem Inv.outside {ea:Addr} (ok:X.Ok) (I:Inv (X.inside ea) pins σ H s):Inv X pins σ H s:=⟨ok,I.os,I.bare,I.base,I.loc,I.cell,I.free,I.freeC,I.pin,I.hok,I.len⟩
theorem SP.outside {ea:Addr} {D:Ends} {f:Flow} (ok:X.Ok) (h:SP (X.inside ea) pins D f s):SP X pins D f s:=by
 cases f with
 | next=>exact let ⟨a,b,I,q⟩:=h;⟨a,b,I.outside ok,q⟩
 | brk=>exact let ⟨a,b,I,q⟩:=h;⟨a,b,I.outside ok,q⟩
 | cont=>exact let ⟨a,b,I,q⟩:=h;⟨a,b,I.outside ok,q⟩
 | ret u=>exact let ⟨v,a,b,I,r,q⟩:=h;⟨v,a,b,I.outside ok,r,q⟩
end
def PX (X:Cx) (e:Expr) (t:St→Hp→VK→XK→Prop):Prop:=∀ (pins:List (Addr × Obj)) (s:Shared) (σ:St) (H:Hp) (Q:VK) (E:XK) (xe:Value→Shared→Prop),Inv X pins σ H s→t σ H Q E →
 (∀ H1 s1 e s',Inv X pins σ H1 s1→CX1 X.prog X.w X.stack H1 s1 E e s'→xe e s')→wpAny (model X.prog X.w) X.A (eval e X.env) (EP X pins σ Q) xe s
def PSX (X:Cx) (st:Stmt) (t:Ends→XK→St→Hp→Prop):Prop:=∀ (pins:List (Addr × Obj)) (s:Shared) (σ:St) (H:Hp) (D:Ends) (E:XK) (xe:Value→Shared→Prop),Inv X pins σ H s→t D E σ H →
 (∀ H1 s1 e s',Inv X pins σ H1 s1→CX1 X.prog X.w X.stack H1 s1 E e s'→xe e s')→wpAny (model X.prog X.w) X.A (exec st X.env) (SP X pins D) xe s
section
variable {X:Cx}
theorem px_call {x:Str} {k:Nat} {ps:List Str} {sp:Sp} {e:Expr} {es:List Expr} {t:TA} {p pos:Pos} (C:CalleeE X.prog X.w X.K X.mg X.base x k ps sp) (hr:Room k X.A) (hg:Gl X x) (ha:PA X.nox (e :: es) t)
  (hdb:(x == ("__debug__" : Str))=false:=by decide) (he:starEach (e :: es) X.env=(false,eval e X.env) :: starEach es X.env:=by rfl) (hpl:(backTo pos (starEach es X.env)).any (·.1)=false:=by rfl) :
  PX X (.Call (.Name x p) (e :: es) [] pos) (fun σ H Q E=>t σ H fun vs H1=>sp vs H1 Q E):=by
 intro pins s σ H Q E xe I h hx
 obtain ⟨f,fd,F,hb,hk,hm⟩:=C.ex
 refine wpAny_Call_Name_kw (ld_glob I hg hm ?_ hdb)
 refine PySem.W.callWith_K (h₀:=X.base) I.ok.mod.kin hk (wpAny_mono (ha pos pins s σ H _ (I.wish _) h) (fun us s1 ⟨vs,H1,I1,r,q⟩=>⟨I1.unwish.kIn,?_⟩) (fun _ _ z=>False.elim z)) he hpl
 have I2:=I1.unwish
 have hl:us.length=ps.length:=by rw [← r.length];exact F.len _ _ _ _ q
 have hbb:=hb s1 us I2.kIn (by rw [List.append_nil];exact hl)
 rw [List.append_nil] at hbb
 refine wpAny_call (codeAny_mono (F.run X.A X.stack s1 H1 ⟨us,[]⟩ us vs Q E hr I2.env0 hbb r q) fun res s' hq=>?_)
 cases res with
 | error e=>exact hx H1 s1 e s' I2 hq
 | ok fl=>cases fl with
  | ret u=>exact I2.after hq
  | next=>exact hq.elim
  | brk=>exact hq.elim
  | cont=>exact hq.elim
theorem psx_set {i:Nat} {x:Str} {e:Expr} {tx:St→Hp→VK→XK→Prop} {pos pos':Pos} (hN:X.N.Nodup) (hi:X.N[i]?=some x) (hx:Loc X.env.scope x) (he:PX X e tx) (hs:swapsWith e (some (.Name x pos')) pos.line X.env=pure false:=by rfl)
  (hf:X.fn x=true∨X.env.scope.names.lookup x=some .local:=by first | exact .inl rfl | exact .inr rfl | assumption):PSX X (.Assign [.Name x pos'] e pos) (fun D E σ H=>tx σ H (fun v H1=>D.nx (σ.set i (some v)) H1) E):=by
 intro pins s σ H D E xe I h hxe
 refine wpAny_Assign_Name (thn (he pins s σ H _ E xe I h hxe) fun v s1 ⟨y,H1,I1,r1,q1⟩=>?_) hs
 exact store_ok I1 hN hi hx r1 (fun s2 I2=>⟨_,H1,I2,q1⟩) hf
theorem ps_try0 {st:Stmt} {tx:Ends→XK→St→Hp→Prop} {x:Str} {C:Addr} {b₀:Stmt} {suite:List Stmt} {np hpos pos:Pos} {ts:TS} (hst:X.stack=X.env :: X.outer) (hf:X.env.frame=some X.env.locals) (hb:PSX X st tx) (hg:Gl X x) (hm:X.mg x=some (.ref C))
  (hs:∀ ea,PSs (X.inside ea) (b₀ :: suite) ts) (hd:(x == ("__debug__" : Str))=false:=by decide) :
  PS X (.Try [st] [.ExceptHandler (some (.Name x np)) none (b₀ :: suite) hpos] [] [] pos) (fun D σ H=>tx D (fun cls _ H1=>PySem.W.exmOne X.K cls (.ref C)=some true∧∀ ea,H1 ea=none→ts D σ (upd H1 ea (excO ea cls))) σ H):=by
 intro pins s σ H D I h
 refine wpAny_Try_except (wpAny_execs_cons (thn (hb pins s σ H D _ _ I h fun H1 s1 e s' I1 c=>?_) fun fl s1 q=>?_))
 ·obtain ⟨ea,cls,a0,B,H',rfl,os,bare,un,hok,fl,hea,kB,hE⟩:=c
  have hfr:=I1.ok.frames
  rw [hst] at hfr
  have fl':=fl
  rw [hst] at fl'
  refine wpAny_looks_onW hfr hf fl' fun h4 held up4=>?_
  refine wpAny_landsW held fun h5 fl5 up5=>?_
  have up45:=up4.trans up5
  rw [← hst] at fl5
  have I5:=(landed I1 os bare un hok fl hea kB fl5 up45).inside ea
  obtain ⟨ob,hob,hc⟩:=fl5.there
  have LT:PySem.W.Looks (model X.prog X.w) h5 (typeOf (.ref ea)) cls:=hc ▸ (PySem.W.Looks.ld hob).andThen .now
  refine wpAny_handleBy_cons (codeAny_handlers_test (ld_glob I5 hg hm ?_ hd)) (by intro q;cases q)
  refine PySem.W.exm_one (h:=h5) I5.kIn LT hE.1 _ _ _ _ (fun _ _ z=>z) ?_
  show codeAny _ _ _ _ _
  refine codeAny_handlers_suite ?_
  refine lands_againW fl5 fun h6 fl6 up6=>?_
  have I6:=landed I1 os bare un hok fl hea kB fl6 (up45.trans up6)
  exact wpAny_mono (hs ea pins _ σ _ D (I6.inside ea) (hE.2 ea hea)) (fun f s2 q=>SP.outside I.ok q) (fun _ _ z=>z.elim)
 ·cases fl with
  | next=>exact wpAny_execs_nil (wpAny_execs_nil q)
  | brk=>exact q
  | cont=>exact q
  | ret u=>exact q
end
end L2

namespace L2
open PySem PySem.Spec PyProof.Rows PySem.W Builtin Builtin.ObjectAttr Builtin.Getset_descriptor
section
variable {prog:Program} {w:World} {A:Around} {E:Value→Shared→Prop} {K:PySem.W.Frag} {x C:Addr} {s:Shared}
end
end L2

namespace L2
open PySem PySem.Spec PyProof.Rows
section
variable {X:Cx} {pins:List (Addr × Obj)} {σ:St} {H:Hp} {s:Shared}
end
section
variable {X:Cx}
end
end L2

namespace L2
open PySem PySem.Spec PyProof.Rows
variable {X:Cx}
inductive P_call_rng1 (K:PySem.W.Frag) (xs:List V) (H:Hp) (Q:VK):Prop
 | mk (j:Int) (h1:xs=[.int j]) (h2:∀ r,H r=none→Q (.ref r) (upd H r (.rng 0 j))):P_call_rng1 K xs H Q
theorem call_rng1:CallR X (.type "range") (P_call_rng1 X.K):=by
 intro pins s σ H xs us Q I r h
 obtain ⟨j,rfl,q⟩:=h
 obtain ⟨u,rfl,⟨t,rfl⟩⟩:=vals1 r
 refine call_range_1 ⟨.ref s.heap.objs.size,_,I.laid (t':=s.toks + 1 + 1) (o:=.rng 0 j) (fun b o e=>Heap.get?_push_of_some _ e) (Nat.le_refl _) ⟨_,_,_,Heap.get?_push_size _ rfl⟩,rfl,q _ (I.hok.fresh (Nat.le_refl _))⟩
theorem vals_from (i:Int):∀ (l:List Value) (k:Nat),(∀ (j:Nat) (v:Value),l[j]?=some v→∃ t,v=.int (i + ((k + j:Nat):Int)) t)→Vals ((List.range' k l.length).map fun m:Nat=>V.int (i + (m:Int))) l
 | [],_,_=>.nil
 | v :: r,k,h=>by
  rw [List.length_cons,List.range'_succ,List.map_cons]
  refine .cons ?_ (vals_from i r (k + 1) fun j u e=>?_)
  ·obtain ⟨t,e⟩:=h 0 v rfl
   exact ⟨t,e⟩
  ·obtain ⟨t,e'⟩:=h (j + 1) u (by simpa using e)
   exact ⟨t,by rw [e'];congr 3;walk_at"q"⟩
def rngL (i j:Int):List Int:=(List.range (j - i).toNat).map fun k:Nat=>i + (k:Int)
inductive P_call_listRng (K:PySem.W.Frag) (xs:List V) (H:Hp) (Q:VK):Prop
 | mk (r:Addr) (i j:Int) (h1:xs=[.ref r]) (h2:H r=some (.rng i j)) (h3:-(2 ^ 62)≤i) (h4:i < 2 ^ 62) (h5:-(2 ^ 62)≤j) (h6:j < 2 ^ 62) (h7:(j - i).toNat≤50000) (h8:∀ l,H l=none→Q (.ref l) (upd H l (.lst ((rngL i j).map V.int)))):P_call_listRng K xs H Q
theorem call_listRng (hc:X.calm=true):CallR X (.type "list") (P_call_listRng X.K):=by
 intro pins s σ H xs us Q I r h
 obtain ⟨p,i,j,rfl,hp,i1,i2,j1,j2,hl,q⟩:=h
 obtain ⟨u,rfl,ru⟩:=vals1 r
 cases ru
 obtain ⟨t,u',v,e⟩:=(show ObjOk X.prog X.w H s.heap p (.rng i j) from I.hok p _ hp)
 have hn:Builtin.Range.rangeSize i j 1=((j - i).toNat:Nat):=by rw [rangeSize_one];split <;> walk_at"q"
 refine call_list_range (I.ok.hd hc) e (small_one i1 i2 j1 j2) hn (by walk_at"q") fun h' tk acc c' hk hS ⟨hs,hv⟩=>?_
 have hvals:Vals ((rngL i j).map V.int) acc.toList:=by
  have z:=vals_from i acc.toList 0 fun k v e=>by
   obtain ⟨t,e'⟩:=hv k v (by simpa using e)
   exact ⟨t,by rw [e',Int.mul_one,Nat.zero_add]⟩
  have hl':acc.toList.length=(j - i).toNat:=by rw [Array.length_toList,hs]
  rw [hl',← List.range_eq_range'] at z
  unfold rngL
  rw [List.map_map]
  exact z
 refine ⟨.ref s.heap.objs.size,_,I.laid (t':=tk) (o:=.lst ((rngL i j).map V.int)) hk (Nat.le_refl _) ⟨?_,acc.toList,c',hvals,?_⟩,rfl,q _ (I.hok.fresh (Nat.le_refl _))⟩
 ·simp only [rngL,List.length_map,List.length_range]
  exact lenLine (by walk_at"q")
 ·rw [Array.toArray_toList]
  exact hS
theorem pe_gint {x:Str} {i:Int} {pos:Pos} (hg:Gl X x) (h:∃ t,X.mg x=some (.int i t)) (hd:(x == ("__debug__" : Str))=false:=by decide):PE X (.Name x pos) (tC (.int i)):=by
 obtain ⟨t,h⟩:=h
 exact pe_glob hg h ⟨t,rfl⟩ hd
end L2

namespace L2
open PySem PySem.Spec PyProof.Rows
variable {X:Cx}
theorem boot_rangeT:bootBuiltins "range" = some (.type "range"):=by decide +kernel
end L2
namespace Ep
open PySem L2 PySem.SeqAt
end Ep

namespace L2
open PySem PySem.Spec PyProof.Rows
end L2

namespace L2
open PySem PySem.Spec PyProof.Rows PyProof.V PySem.SeqAt
section
variable {X:Cx}
theorem Room.units65 {k:Nat} {A:Around} (r:Room k A):A.units + 65 < cLine:=by have:=r.un;walk_at"q"
def rInD:R2:=fun x y H Q=>∃ dx ds,Dat H x dx∧Dat H y (.list ds)∧shaped dx=true∧shaped (PyData.list ds)=true∧(∀ d∈ds,noMix d dx=true)∧Q (.bl (decide (countIn dx ds≠0))) H
theorem op_inD (hu:X.A.units + 65 < cLine):OpR X (compareOp .In) rInD:=by
 intro pins s σ H x y v u Q I rx ry h
 obtain ⟨dx,ds,d1,d2,s1,s2,nm,q⟩:=h
 obtain ⟨as,r1⟩:=d1.reads I v rx
 obtain ⟨bs,r2⟩:=d2.reads I u ry
 exact in_list_dataH r2 r1 s2 s1 hu nm ⟨.bl _,H,I,rfl,q⟩
end
end L2
namespace Ep
open PySem L2 PySem.SeqAt PySem.Spec PyProof.Rows
theorem same_prs (a b:Int × Int):same (.tuple [.int a.1,.int a.2]) (.tuple [.int b.1,.int b.2])=decide (a=b):=same_pair a b
theorem count_nonneg (x:PyData):∀ l:List PyData,0≤countIn x l
 | []=>by simp [countIn]
 | y :: r=>by
  have:=count_nonneg x r
  unfold countIn
  split <;> walk_at"q"
theorem count_pairs (w:Int × Int):∀ ws:List (Int × Int),countIn (.tuple [.int w.1,.int w.2]) (ws.map fun x=>PyData.tuple [.int x.1,.int x.2])≠0↔w∈ws
 | []=>by simp [countIn]
 | u :: r=>by
  have ih:=count_pairs w r
  have nn:=count_nonneg (.tuple [.int w.1,.int w.2]) (r.map fun x=>PyData.tuple [.int x.1,.int x.2])
  rw [List.map_cons,countIn,same_prs]
  by_cases c:u=w
  ·subst c
   simp
   walk_at"q"
  ·rw [List.mem_cons,if_neg (by simpa using c),← ih]
   constructor
   ·intro z;right;walk_at"q"
   ·rintro (z | z)
    ·exact absurd z.symm c
    ·walk_at"q"
theorem shaped_prs (w:Int × Int):shaped (.tuple [.int w.1,.int w.2])=true:=by
 show (PyData.canLay0 _ && decide (PyData.depth _≤64))=true
 simp [PyData.canLay0,PyData.canLayAll0,PyData.depth,PyData.depthAll]
theorem shaped_pairs (ws:List (Int × Int)):shaped (.list (ws.map fun x=>PyData.tuple [.int x.1,.int x.2]))=true:=by
 obtain ⟨a,b⟩:=lay_pairs ws
 show (PyData.canLay0 _ && decide (PyData.depth _≤64))=true
 rw [Bool.and_eq_true]
 constructor
 ·simp only [PyData.canLay0,a]
 ·refine decide_eq_true ?_
  simp only [PyData.depth]
  walk_at"q"
theorem mix_prs (w:Int × Int) (ws:List (Int × Int)):∀ d∈ws.map (fun x=>PyData.tuple [.int x.1,.int x.2]),noMix d (.tuple [.int w.1,.int w.2])=true:=fun d hd=>by
 obtain ⟨u,_,rfl⟩:=List.mem_map.mp hd
 simp [noMix,noMixAll]
def secsM (a:Int) (us:List (Int × Int)) (b:Int) (ws:List (Int × Int)):List Int:=((firstL us (layS a us).2).filter fun w=>decide (w∈firstL ws (layS b ws).2)).map (·.2)
def deepM (a:Int) (us:List (Int × Int)) (b:Int) (ws:List (Int × Int)):Nat:=if depM b ws < depM a us then depM a us else depM b ws
def choM (n:Nat) (secs:List Int) (d:Nat):List (List Int):=(List.range n).map fun l:Nat=>if (l:Int)∈secs then [0] else (List.range (2 ^ d)).map fun k:Nat=>(k:Int)
theorem secs_self (a:Int) (us:List (Int × Int)):secsM a us a us=secondsM a us:=by
 unfold secsM secondsM
 rw [List.filter_eq_self.mpr (fun w hw=>decide_eq_true hw)]
theorem deep_self (a:Int) (us:List (Int × Int)):deepM a us a us=depM a us:=by
 unfold deepM
 rw [if_neg (Nat.lt_irrefl _)]
theorem cho_self (a:Int) (us:List (Int × Int)):choM a.toNat (secsM a us a us) (deepM a us a us)=choicesM a us:=by
 unfold choM choicesM
 rw [secs_self,deep_self]
theorem nodup_le:∀ (n:Nat) (l:List Nat),l.Nodup→(∀ x∈l,x < n)→l.length≤n
 | 0,l,_,h=>by
  cases l with
  | nil=>exact Nat.le_refl _
  | cons a r=>exact absurd (h a (.head _)) (Nat.not_lt_zero _)
 | n + 1,l,nd,h=>by
  by_cases c:n∈l
  ·have e:=List.length_erase_of_mem c
   have:=nodup_le n (l.erase n) (nd.erase n) fun x hx=>by
    have h1:=h x (List.mem_of_mem_erase hx)
    have h2:x≠n:=fun z=>by subst z;exact absurd hx (by rw [nd.mem_erase_iff];exact fun q=>q.1 rfl)
    walk_at"q"
   walk_at"q"
  ·have:=nodup_le n l nd fun x hx=>by
    have h1:=h x hx
    have h2:x≠n:=fun z=>by subst z;exact c hx
    walk_at"q"
   walk_at"q"
theorem secs_lt {a b:Int} {us ws:List (Int × Int)} (ok:WOk a us) (h1:1≤a):(secsM a us b ws).length < a.toNat:=by
 have ap:=firstL_apart ok
 have okf:∀ w∈firstL us (layS a us).2,0≤w.1∧w.1 < a∧0≤w.2∧w.2 < a∧w.1≠w.2:=fun w hw=>by
  obtain ⟨i,f⟩:=firstL_mem ok hw
  exact ok w (List.mem_of_getElem? f.1)
 unfold secsM
 have ap2:=ap.filter (fun w=>decide (w∈firstL ws (layS b ws).2))
 have okg:∀ w∈(firstL us (layS a us).2).filter (fun w=>decide (w∈firstL ws (layS b ws).2)),0≤w.1∧w.1 < a∧0≤w.2∧w.2 < a∧w.1≠w.2:=fun w hw=>okf w ((List.mem_filter.mp hw).1)
 generalize (firstL us (layS a us).2).filter (fun w=>decide (w∈firstL ws (layS b ws).2))=fl at ap2 okg
 cases fl with
 | nil=>simp;walk_at"q"
 | cons w r =>
  have key:=nodup_le a.toNat (w.1.toNat :: (w :: r).map fun x=>x.2.toNat) (by
   rw [List.nodup_cons]
   constructor
   ·intro z
    obtain ⟨u,hu,e⟩:=List.mem_map.mp z
    have o1:=okg u hu
    have o2:=okg w (.head _)
    rcases List.mem_cons.mp hu with q | q
    ·subst q;walk_at"q"
    ·have:=(List.pairwise_cons.mp ap2).1 u q
     exact this.2.1 (by walk_at"q")
   ·refine List.Pairwise.map _ (R:=fun x y:Int × Int=>x.2.toNat≠y.2.toNat) (fun x y h=>h) ?_
    refine List.Pairwise.imp_of_mem (fun {x y} hx hy h=>?_) ap2
    have o1:=okg x hx
    have o2:=okg y hy
    exact fun e=>h.2.2.2 (by walk_at"q")) (fun x hx=>by
   rcases List.mem_cons.mp hx with q | q
   ·have:=okg w (.head _);walk_at"q"
   ·obtain ⟨u,hu,e⟩:=List.mem_map.mp q
    have:=okg u hu
    walk_at"q")
  simp at key ⊢
  walk_at"q"
theorem long_len (M:List (List Int)) (ns:List Int):(longM M ns).length=M.length * ns.length:=by
 unfold longM
 rw [List.length_flatMap]
 induction M with
 | nil=>simp
 | cons r M ih =>
  simp at ih ⊢
  rw [ih,Nat.add_mul,Nat.one_mul,Nat.add_comm]
theorem rows_snoc (C:List (List Int)) (ns:List Int):(rowsM (C ++ [ns])).length=(rowsM C).length * ns.length:=by
 unfold rowsM
 rw [List.foldl_append]
 exact long_len _ _
theorem cho_take (n:Nat) (secs:List Int) (d i:Nat) (h:i≤n):(choM n secs d).take i=choM i secs d:=by
 unfold choM
 rw [← List.map_take,List.take_range,Nat.min_eq_left h]
theorem cho_succ (i:Nat) (secs:List Int) (d:Nat):choM (i + 1) secs d=choM i secs d ++ [if (i:Int)∈secs then [0] else (List.range (2 ^ d)).map fun k:Nat=>(k:Int)]:=by
 unfold choM
 rw [List.range_succ,List.map_append]
 rfl
theorem cho_rows (secs:List Int) (d:Nat):∀ n:Nat,(rowsM (choM n secs d)).length=2 ^ (d * ((List.range n).filter fun l:Nat=>decide ((l:Int) ∉ secs)).length)
 | 0=>by simp [choM,rowsM]
 | n + 1=>by
  rw [cho_succ,rows_snoc,cho_rows secs d n,List.range_succ,List.filter_append,List.length_append]
  by_cases c:(n:Int)∈secs
  ·simp [c]
  ·simp [c,Nat.mul_add,Nat.pow_add]
theorem filt_len:∀ (n:Nat) (l:List Nat),l.Nodup→(∀ x∈l,x < n)→((List.range n).filter fun x=>decide (x∈l)).length=l.length
 | 0,l,_,h=>by
  cases l with
  | nil=>rfl
  | cons a r=>exact absurd (h a (.head _)) (Nat.not_lt_zero _)
 | n + 1,l,nd,h=>by
  rw [List.range_succ,List.filter_append,List.length_append]
  by_cases c:n∈l
  ·have e:=List.length_erase_of_mem c
   have pos:=List.length_pos_of_mem c
   have ih:=filt_len n (l.erase n) (nd.erase n) fun x hx=>by
    have h1:=h x (List.mem_of_mem_erase hx)
    have h2:x≠n:=fun z=>by subst z;exact absurd hx (by rw [nd.mem_erase_iff];exact fun q=>q.1 rfl)
    walk_at"q"
   have eq:(List.range n).filter (fun x=>decide (x∈l))=(List.range n).filter (fun x=>decide (x∈l.erase n)):=List.filter_congr fun x hx=>by
    have:x < n:=List.mem_range.mp hx
    have ne:x≠n:=by walk_at"q"
    exact decide_eq_decide.mpr (by rw [nd.mem_erase_iff];exact ⟨fun h=>⟨ne,h⟩,fun h=>h.2⟩)
   rw [eq,ih,show ([n].filter fun x=>decide (x∈l))=[n] by simp [c]]
   simp
   walk_at"q"
  ·have ih:=filt_len n l nd fun x hx=>by
    have h1:=h x hx
    have h2:x≠n:=fun z=>by subst z;exact c hx
    walk_at"q"
   rw [ih,show ([n].filter fun x=>decide (x∈l))=[] by simp [c]]
   simp
theorem filt_add (p:Nat→Bool):∀ l:List Nat,(l.filter p).length + (l.filter fun x=>!p x).length=l.length
 | []=>rfl
 | a :: r=>by
  have:=filt_add p r
  rw [List.filter_cons,List.filter_cons]
  cases h:p a <;> simp <;> walk_at"q"
theorem secs_nd {a b:Int} {us ws:List (Int × Int)} (ok:WOk a us):((secsM a us b ws).map Int.toNat).Nodup∧∀ x∈secsM a us b ws,0≤x∧x < a:=by
 have ap:=firstL_apart ok
 have okf:∀ w∈firstL us (layS a us).2,0≤w.1∧w.1 < a∧0≤w.2∧w.2 < a∧w.1≠w.2:=fun w hw=>by
  obtain ⟨i,f⟩:=firstL_mem ok hw
  exact ok w (List.mem_of_getElem? f.1)
 unfold secsM
 have ap2:=ap.filter (fun w=>decide (w∈firstL ws (layS b ws).2))
 have okg:∀ w∈(firstL us (layS a us).2).filter (fun w=>decide (w∈firstL ws (layS b ws).2)),0≤w.1∧w.1 < a∧0≤w.2∧w.2 < a∧w.1≠w.2:=fun w hw=>okf w (List.mem_filter.mp hw).1
 generalize (firstL us (layS a us).2).filter (fun w=>decide (w∈firstL ws (layS b ws).2))=fl at ap2 okg
 constructor
 ·rw [List.map_map]
  refine List.Pairwise.map _ (R:=fun x y:Int × Int=>x.2.toNat≠y.2.toNat) (fun x y h=>h) ?_
  refine List.Pairwise.imp_of_mem (fun {x y} hx hy h=>?_) ap2
  have o1:=okg x hx
  have o2:=okg y hy
  exact fun e=>h.2.2.2 (by walk_at"q")
 ·intro x hx
  obtain ⟨w,hw,rfl⟩:=List.mem_map.mp hx
  have:=okg w hw
  walk_at"q"
theorem free_len {a b:Int} {us ws:List (Int × Int)} (ok:WOk a us):((List.range a.toNat).filter fun l:Nat=>decide ((l:Int) ∉ secsM a us b ws)).length + (secsM a us b ws).length=a.toNat:=by
 obtain ⟨nd,rg⟩:=secs_nd (b:=b) (ws:=ws) ok
 have f:=filt_len a.toNat _ nd fun x hx=>by
  obtain ⟨y,hy,rfl⟩:=List.mem_map.mp hx
  have:=rg y hy
  walk_at"q"
 have g:=filt_add (fun x=>decide (x∈(secsM a us b ws).map Int.toNat)) (List.range a.toNat)
 rw [f,List.length_map,List.length_range] at g
 have e:(List.range a.toNat).filter (fun l:Nat=>decide ((l:Int) ∉ secsM a us b ws))=(List.range a.toNat).filter (fun x=>!decide (x∈(secsM a us b ws).map Int.toNat)):=List.filter_congr fun x _=>by
  have:x∈(secsM a us b ws).map Int.toNat↔(x:Int)∈secsM a us b ws:=by
   rw [List.mem_map]
   constructor
   ·rintro ⟨y,hy,rfl⟩
    have:=rg y hy
    rw [show ((y.toNat:Nat):Int)=y by walk_at"q"]
    exact hy
   ·exact fun h=>⟨_,h,by walk_at"q"⟩
  simp only [this,decide_not]
 rw [e]
 walk_at"q"
theorem rows_bound {a b:Int} {us ws:List (Int × Int)} (ok:WOk a us) {d:Nat} (h:(d:Int) * (a - ((secsM a us b ws).length:Int))≤10) (h1:1≤a) :
  d≤10∧∀ i,i≤a.toNat→(rowsM (choM i (secsM a us b ws) d)).length≤1024:=by
 have fl:=free_len (b:=b) (ws:=ws) ok
 have lt:=secs_lt (b:=b) (ws:=ws) ok h1
 obtain ⟨m,hm⟩:∃ m:Nat,(secsM a us b ws).length + m=a.toNat:=⟨_,Nat.add_sub_of_le (Nat.le_of_lt lt)⟩
 have e:a - ((secsM a us b ws).length:Int)=(m:Int):=by walk_at"q"
 have dm:d * m≤10:=by
  rw [e] at h
  exact_mod_cast h
 have m1:1≤m:=by walk_at"q"
 refine ⟨Nat.le_trans (Nat.le_mul_of_pos_right d m1) dm,fun i hi=>?_⟩
 rw [cho_rows]
 have up:2 ^ (d * m)≤2 ^ 10:=Nat.pow_le_pow_right (by decide) dm
 refine Nat.le_trans (Nat.pow_le_pow_right (by decide) (Nat.mul_le_mul_left d (m:=m) ?_)) up
 have sub:((List.range i).filter fun l:Nat=>decide ((l:Int) ∉ secsM a us b ws)).length≤((List.range a.toNat).filter fun l:Nat=>decide ((l:Int) ∉ secsM a us b ws)).length:=by
  refine List.Sublist.length_le (List.Sublist.filter _ ?_)
  rw [← Nat.min_eq_left hi,← List.take_range]
  exact List.take_sublist _ _
 walk_at"q"
structure ManyT (K:PySem.W.Frag) (mg:Str→Option Value) (a:Addr):Prop where
 q_TooMany:PySem.W.excIn K a veB "ValueError.__new__" = true
 at_TooMany:mg "TooMany" = some (.ref a)
 m_TooMany:PySem.W.exmOne K (.ref a) (.ref a)=some true
inductive SpFirstP (vs:List V) (H:Hp) (Q:VK):Prop
 | mk (v:V) (wide:Int) (ws:List (Int × Int)) (h1:vs=[v]) (h2:Net H v wide ws) (h3:1≤wide) (h4:wide≤8) (h5:WOk wide ws) (h6:ws.length≤41) (h7:∀ (l:Addr) (H':Hp),H l=none→Same H H'→WsL H' l (firstL ws (layS wide ws).2)→Q (.ref l) H'):SpFirstP vs H Q
def spFirst:Sp:=fun vs H Q _=>SpFirstP  vs H Q
inductive SpCommonP (am:Addr) (vs:List V) (H:Hp) (Q:VK) (E:XK):Prop
 | mk (v1 v2:V) (a b:Int) (us ws:List (Int × Int)) (h1:vs=[v1,v2]) (h2:Net H v1 a us) (h3:Net H v2 b ws) (h4:1≤a) (h5:a≤8) (h6:1≤b) (h7:b≤8) (h8:WOk a us) (h9:WOk b ws) (h10:us.length≤41) (h11:ws.length≤41) (h12:(10 < ((deepM a us b ws:Nat):Int) * (a - ((secsM a us b ws).length:Int))→∀ H',Same H H'→E (.ref am) none H')) (h13:(((deepM a us b ws:Nat):Int) * (a - ((secsM a us b ws).length:Int))≤10→∀ (l:Addr) (rs':List V) (H':Hp),H l=none→Same H H'→H' l=some (.lst rs')→RowsN H H' l rs' (rowsM (choM a.toNat (secsM a us b ws) (deepM a us b ws)))→Q (.ref l) H')):SpCommonP am vs H Q E
def spCommon (am:Addr):Sp:=fun vs H Q E=>SpCommonP am vs H Q E
def MuchM (wide:Int) (ws:List (Int × Int)):Prop:=10 < ((depM wide ws:Nat):Int) * (wide - ((secondsM wide ws).length:Int))
inductive SpTrialsP (am:Addr) (vs:List V) (H:Hp) (Q:VK) (E:XK):Prop
 | mk (v:V) (wide:Int) (ws:List (Int × Int)) (h1:vs=[v]) (h2:Net H v wide ws) (h3:1≤wide) (h4:wide≤8) (h5:WOk wide ws) (h6:ws.length≤41) (h7:(MuchM wide ws→∀ H',Same H H'→E (.ref am) none H')) (h8:(¬ MuchM wide ws→∀ (l:Addr) (rs':List V) (H':Hp),H l=none→Same H H'→H' l=some (.lst rs')→RowsN H H' l rs' (rowsM (choicesM wide ws))→Q (.ref l) H')):SpTrialsP am vs H Q E
def spTrials (am:Addr):Sp:=fun vs H Q E=>SpTrialsP am vs H Q E
inductive SpLevelsP (am:Addr) (vs:List V) (H:Hp) (Q:VK) (E:XK):Prop
 | mk (v:V) (wide:Int) (ws:List (Int × Int)) (h1:vs=[v]) (h2:Net H v wide ws) (h3:1≤wide) (h4:wide≤8) (h5:WOk wide ws) (h6:ws.length≤41) (h7:(AllEv (sharesM wide ws)→MuchM wide ws→∀ H',Same H H'→E (.ref am) none H')) (h8:(¬ (AllEv (sharesM wide ws)∧MuchM wide ws)→∀ (T:Addr) (H':Hp),H T=none→Same H H'→H' T=some (.tup [.str "levels"])→(∀ c:List Int,c.length=wide.toNat→Level (thruM c ws))→Q (.ref T) H')) (h9:(¬ (AllEv (sharesM wide ws)∧MuchM wide ws)→∀ (T l:Addr) (r:List Int) (H':Hp),H T=none→H l=none→Same H H'→H' T=some (.tup [.str "not", .ref l])→H' l=some (.lst (r.map V.int))→r.length=wide.toNat→¬ Level (thruM r ws)→Q (.ref T) H')):SpLevelsP am vs H Q E
def spLevels (am:Addr):Sp:=fun vs H Q E=>SpLevelsP am vs H Q E
end Ep

namespace L2
open PySem PySem.Spec PyProof.Rows
section
variable {X:Cx} {tg:Expr}
end
end L2

namespace L2
open PySem PySem.Spec PyProof.Rows
def n2 (a b:Int):Nat:=((b - a + 1) / 2).toNat
section
variable {X:Cx} {tg:Expr}
end
end L2
namespace Ep
open PySem L2 PySem.SeqAt
def wokB (wide:Int) (ws:List (Int × Int)):Bool:=ws.all fun w=>decide (0≤w.1∧w.1 < wide∧0≤w.2∧w.2 < wide∧w.1≠w.2)
theorem wok_of {wide:Int} {ws:List (Int × Int)} (h:wokB wide ws=true):WOk wide ws:=fun w hw=>by
 have:=List.all_eq_true.mp h w hw
 exact of_decide_eq_true this
end Ep
namespace L2
open PySem
end L2
namespace Ep
open PySem L2 PySem.SeqAt
end Ep

namespace L2
open PySem PySem.Spec PyProof.Rows
section
variable {P:Program} {w:World} {A:Around} {E:Value→Shared→Prop}
variable {s:Shared}
end
section
variable {X:Cx} {pos:Pos}
end
end L2

namespace Ep
open PySem L2 PySem.SeqAt
theorem thru_app (c:List Int) (us ws:List (Int × Int)):thruM c (us ++ ws)=thruM (thruM c us) ws:=by
 unfold thruM
 rw [List.foldl_append]
end Ep
namespace Ep
open PySem L2 PySem.SeqAt
end Ep
namespace Ep
open PySem L2 PySem.SeqAt
end Ep
namespace Ep
open PySem L2 PySem.SeqAt
end Ep
namespace Ep
open PySem L2 PySem.SeqAt
end Ep
namespace Ep
open PySem L2 PySem.SeqAt
end Ep
namespace Ep
open PySem L2 PySem.SeqAt
end Ep

namespace L2
open PySem PySem.Spec PyProof.Rows
variable {X:Cx}
end L2
namespace Ep
open PySem L2 PySem.SeqAt
end Ep

namespace L2
open PySem PySem.Spec PyProof.Rows
section
variable {X:Cx}
structure PEs (X:Cx) (e:Expr) (t:TE):Prop where
 h:PE X e t
structure PAs (X:Cx) (es:List Expr) (t:TA):Prop where
 h:PA X es t
theorem pas_nil:PAs X [] tNil:=PAs.mk pa_nil
theorem pas_consD {e:Expr} {es:List Expr} {te:TE} {t:TA} (ha:PEs X e te) (hr:PAs X es t) (hs:starEach (e :: es) X.env=(false,eval e X.env) :: starEach es X.env:=by rfl):PAs X (e :: es) (tCons te t):=PAs.mk (pa_cons ha.h hr.h hs)
end
end L2
namespace Ep
open PySem L2 PySem.SeqAt
def pw (k:Nat):Int:=((2 ^ k:Nat):Int)
theorem pw_succ (k:Nat):pw (k + 1)=2 * pw k:=by unfold pw;rw [Nat.pow_succ];walk_at"q"
theorem pw_pos (k:Nat):1≤pw k:=by
 have:0 < 2 ^ k:=Nat.pow_pos (by decide)
 unfold pw
 walk_at"q"
theorem pw_le {k:Nat} (h:k≤3):pw k≤8:=by
 have:k=0∨k=1∨k=2∨k=3:=by walk_at"q"
 rcases this with z | z | z | z <;> subst z <;> decide
def acrossM (wide:Int):List (Int × Int):=(List.range (wide / 2).toNat).map fun k:Nat=>((k:Int),wide - 1 - (k:Int))
def blkM:Nat→List (Int × Int)
 | 0=>[]
 | k + 1=>acrossM (pw (k + 1)) ++ (blkM k ++ (blkM k).map (lift (pw k)))
def rndM (k:Nat):List (Int × Int):=(List.replicate k (blkM k)).flatten
inductive Odd (H:Hp):V→Prop
 | bl (b:Bool):Odd H (.bl b)
 | non:Odd H .non
 | str (s:Str):Odd H (.str s)
 | lst {a:Addr} {xs:List V} (h:H a=some (.lst xs)):Odd H (.ref a)
 | tup {a:Addr} {xs:List V} (h:H a=some (.tup xs)):Odd H (.ref a)
 | dct {a:Addr} {kvs:List (Key × V)} (h:H a=some (.dK kvs)):Odd H (.ref a)
theorem Odd.same {H H':Hp} {x:V} (h:Odd H x) (s:Same H H'):Odd H' x:=by
 cases h with
 | bl b=>exact .bl b
 | non=>exact .non
 | str z=>exact .str z
 | lst h=>exact .lst (s _ _ h)
 | tup h=>exact .tup (s _ _ h)
 | dct h=>exact .dct (s _ _ h)
def halved (i:Int):Prop:=i=1∨i=2∨i=4∨i=8
instance (i:Int):Decidable (halved i):=inferInstanceAs (Decidable (i=1∨i=2∨i=4∨i=8))
inductive SpWholeGP (vs:List V) (H:Hp) (Q:VK):Prop
 | mk (x:_) (h1:vs=[x]) (h2:((∃ i,x=.int i∧Q (.bl true) H)∨(Odd H x∧Q (.bl false) H))):SpWholeGP vs H Q
def spWholeG:Sp:=fun vs H Q _=>SpWholeGP  vs H Q
theorem whole_of (vs:List V) (H:Hp) (Q:VK) (E:XK) (h:spIsWhole vs H Q E):spWholeG vs H Q E:=by
 obtain ⟨i,rfl,q⟩:=h
 exact ⟨_,rfl,.inl ⟨i,rfl,q⟩⟩
end Ep

namespace Ep
open PySem L2 PySem.SeqAt
def shM (q:Int) (c:List Int):List Int:=c.map fun x=>x + q
theorem sh_len (q:Int) (c:List Int):(shM q c).length=c.length:=by simp [shM]
theorem sh_getD {q:Int} {c:List Int} {x:Nat} (h:x < c.length):(shM q c).getD x 0=c.getD x 0 + q:=by simp [shM,List.getD,h]
theorem let_sh {wide q:Int} {c:List Int} (hl:c.length=wide.toNat) {w:Int × Int} (h:LaneOk wide w):letM (shM q c) w=shM q (letM c w):=by
 obtain ⟨o1,o2,o3,o4,o5⟩:=h
 have b:both (shM q c) w=both c w + 2 * q:=by unfold both;rw [sh_getD (by walk_at"q"),sh_getD (by walk_at"q")];walk_at"q"
 unfold letM
 rw [b]
 have e1:(both c w + 2 * q + 1) / 2=(both c w + 1) / 2 + q:=by walk_at"q"
 have e2:(both c w + 2 * q) / 2=both c w / 2 + q:=by walk_at"q"
 rw [e1,e2]
 unfold shM
 rw [List.map_set,List.map_set]
theorem thru_sh {wide q:Int} (ws:List (Int × Int)):∀ c:List Int,c.length=wide.toNat→WOk wide ws→thruM (shM q c) ws=shM q (thruM c ws):=by
 induction ws with
 | nil=>intro c _ _;rfl
 | cons w r ih =>
  intro c hl ok
  have e:=let_sh (q:=q) hl (ok w (.head _))
  have:=ih (letM c w) (by unfold letM;rw [List.length_set,List.length_set];exact hl) fun u hu=>ok u (.tail _ hu)
  unfold thruM at *
  rw [List.foldl_cons,List.foldl_cons,e]
  exact this
theorem level_sh {q:Int} {c:List Int} (h:Level c):Level (shM q c):=fun i j hij hj=>by
 rw [sh_len] at hj
 rw [sh_getD (by walk_at"q"),sh_getD hj]
 have:=h i j hij hj
 walk_at"q"
theorem list8:∀ c:List Int,c.length=8→∃ c0 c1 c2 c3 c4 c5 c6 c7,c=[c0,c1,c2,c3,c4,c5,c6,c7]
 | [c0,c1,c2,c3,c4,c5,c6,c7],_=>⟨c0,c1,c2,c3,c4,c5,c6,c7,rfl⟩
theorem list4:∀ c:List Int,c.length=4→∃ c0 c1 c2 c3,c=[c0,c1,c2,c3]
 | [c0,c1,c2,c3],_=>⟨c0,c1,c2,c3,rfl⟩
theorem list2:∀ c:List Int,c.length=2→∃ c0 c1,c=[c0,c1]
 | [c0,c1],_=>⟨c0,c1,rfl⟩
def pr8 (a b c d:Int):List Int:=[(a + 1) / 2,a / 2,(b + 1) / 2,b / 2,(c + 1) / 2,c / 2,(d + 1) / 2,d / 2]
def pr4 (a b:Int):List Int:=[(a + 1) / 2,a / 2,(b + 1) / 2,b / 2]
theorem t07 (c0 c1 c2 c3 c4 c5 c6 c7:Int):letM [c0,c1,c2,c3,c4,c5,c6,c7] (0,7)=[(c0 + c7 + 1) / 2,c1,c2,c3,c4,c5,c6,(c0 + c7) / 2]:=rfl
theorem t16 (c0 c1 c2 c3 c4 c5 c6 c7:Int):letM [c0,c1,c2,c3,c4,c5,c6,c7] (1,6)=[c0,(c1 + c6 + 1) / 2,c2,c3,c4,c5,(c1 + c6) / 2,c7]:=rfl
theorem t25 (c0 c1 c2 c3 c4 c5 c6 c7:Int):letM [c0,c1,c2,c3,c4,c5,c6,c7] (2,5)=[c0,c1,(c2 + c5 + 1) / 2,c3,c4,(c2 + c5) / 2,c6,c7]:=rfl
theorem t34 (c0 c1 c2 c3 c4 c5 c6 c7:Int):letM [c0,c1,c2,c3,c4,c5,c6,c7] (3,4)=[c0,c1,c2,(c3 + c4 + 1) / 2,(c3 + c4) / 2,c5,c6,c7]:=rfl
theorem t03 (c0 c1 c2 c3 c4 c5 c6 c7:Int):letM [c0,c1,c2,c3,c4,c5,c6,c7] (0,3)=[(c0 + c3 + 1) / 2,c1,c2,(c0 + c3) / 2,c4,c5,c6,c7]:=rfl
theorem t12 (c0 c1 c2 c3 c4 c5 c6 c7:Int):letM [c0,c1,c2,c3,c4,c5,c6,c7] (1,2)=[c0,(c1 + c2 + 1) / 2,(c1 + c2) / 2,c3,c4,c5,c6,c7]:=rfl
theorem t01 (c0 c1 c2 c3 c4 c5 c6 c7:Int):letM [c0,c1,c2,c3,c4,c5,c6,c7] (0,1)=[(c0 + c1 + 1) / 2,(c0 + c1) / 2,c2,c3,c4,c5,c6,c7]:=rfl
theorem t23 (c0 c1 c2 c3 c4 c5 c6 c7:Int):letM [c0,c1,c2,c3,c4,c5,c6,c7] (2,3)=[c0,c1,(c2 + c3 + 1) / 2,(c2 + c3) / 2,c4,c5,c6,c7]:=rfl
theorem t47 (c0 c1 c2 c3 c4 c5 c6 c7:Int):letM [c0,c1,c2,c3,c4,c5,c6,c7] (4,7)=[c0,c1,c2,c3,(c4 + c7 + 1) / 2,c5,c6,(c4 + c7) / 2]:=rfl
theorem t56 (c0 c1 c2 c3 c4 c5 c6 c7:Int):letM [c0,c1,c2,c3,c4,c5,c6,c7] (5,6)=[c0,c1,c2,c3,c4,(c5 + c6 + 1) / 2,(c5 + c6) / 2,c7]:=rfl
theorem t45 (c0 c1 c2 c3 c4 c5 c6 c7:Int):letM [c0,c1,c2,c3,c4,c5,c6,c7] (4,5)=[c0,c1,c2,c3,(c4 + c5 + 1) / 2,(c4 + c5) / 2,c6,c7]:=rfl
theorem t67 (c0 c1 c2 c3 c4 c5 c6 c7:Int):letM [c0,c1,c2,c3,c4,c5,c6,c7] (6,7)=[c0,c1,c2,c3,c4,c5,(c6 + c7 + 1) / 2,(c6 + c7) / 2]:=rfl
theorem u03 (c0 c1 c2 c3:Int):letM [c0,c1,c2,c3] (0,3)=[(c0 + c3 + 1) / 2,c1,c2,(c0 + c3) / 2]:=rfl
theorem u12 (c0 c1 c2 c3:Int):letM [c0,c1,c2,c3] (1,2)=[c0,(c1 + c2 + 1) / 2,(c1 + c2) / 2,c3]:=rfl
theorem u01 (c0 c1 c2 c3:Int):letM [c0,c1,c2,c3] (0,1)=[(c0 + c1 + 1) / 2,(c0 + c1) / 2,c2,c3]:=rfl
theorem u23 (c0 c1 c2 c3:Int):letM [c0,c1,c2,c3] (2,3)=[c0,c1,(c2 + c3 + 1) / 2,(c2 + c3) / 2]:=rfl
theorem eb8:blkM 3=[(0,7),(1,6),(2,5),(3,4),(0,3),(1,2),(0,1),(2,3),(4,7),(5,6),(4,5),(6,7)]:=by decide
theorem eb4:blkM 2=[(0,3),(1,2),(0,1),(2,3)]:=by decide
theorem blk8 (c0 c1 c2 c3 c4 c5 c6 c7:Int):∃ q a b c d:Int,0≤a∧a≤5∧0≤b∧b≤5∧0≤c∧c≤5∧0≤d∧d≤5∧thruM [c0,c1,c2,c3,c4,c5,c6,c7] (blkM 3)=shM q (pr8 a b c d):=by
 have e:thruM [c0,c1,c2,c3,c4,c5,c6,c7] (blkM 3)=pr8 ((((c0 + c7 + 1) / 2 + (c3 + c4 + 1) / 2 + 1) / 2) + (((c1 + c6 + 1) / 2 + (c2 + c5 + 1) / 2 + 1) / 2)) ((((c1 + c6 + 1) / 2 + (c2 + c5 + 1) / 2) / 2) + (((c0 + c7 + 1) / 2 + (c3 + c4 + 1) / 2) / 2))
   (((((c3 + c4) / 2 + (c0 + c7) / 2) + 1) / 2) + ((((c2 + c5) / 2 + (c1 + c6) / 2) + 1) / 2)) ((((c2 + c5) / 2 + (c1 + c6) / 2) / 2) + (((c3 + c4) / 2 + (c0 + c7) / 2) / 2)):=by
  rw [eb8]
  simp only [thruM,List.foldl_cons,List.foldl_nil]
  rw [t07,t16,t25,t34,t03,t12,t01,t23,t47,t56,t45,t67]
  rfl
 rw [e]
 have half:∀ t:Int,0≤(t + 1) / 2 - t / 2∧(t + 1) / 2 - t / 2≤1:=fun t=>by walk_at"q"
 have two:∀ x y:Int,0≤x - y→x - y≤2→0≤x / 2 - y / 2∧(x + 1) / 2 - y / 2≤2∧0≤(y + 1) / 2 - y / 2∧(y + 1) / 2 - y / 2≤1∧0≤(x + 1) / 2 - x / 2:=fun x y h1 h2=>by walk_at"q"
 have h0:=half (c0 + c7)
 have h1:=half (c1 + c6)
 have h2:=half (c2 + c5)
 have h3:=half (c3 + c4)
 clear e half
 generalize (c0 + c7 + 1) / 2=a0 at *
 generalize (c0 + c7) / 2=b0 at *
 generalize (c1 + c6 + 1) / 2=a1 at *
 generalize (c1 + c6) / 2=b1 at *
 generalize (c2 + c5 + 1) / 2=a2 at *
 generalize (c2 + c5) / 2=b2 at *
 generalize (c3 + c4 + 1) / 2=a3 at *
 generalize (c3 + c4) / 2=b3 at *
 have z1:=two (a0 + a3) (b3 + b0) (by walk_at"q") (by walk_at"q")
 have z2:=two (a1 + a2) (b2 + b1) (by walk_at"q") (by walk_at"q")
 clear two h0 h1 h2 h3
 generalize (a0 + a3 + 1) / 2=s1 at *
 generalize (a0 + a3) / 2=s0 at *
 generalize (b3 + b0 + 1) / 2=r1 at *
 generalize (b3 + b0) / 2=r0 at *
 generalize (a1 + a2 + 1) / 2=p1 at *
 generalize (a1 + a2) / 2=p0 at *
 generalize (b2 + b1 + 1) / 2=q1 at *
 generalize (b2 + b1) / 2=q0 at *
 have base:∀ v:Int,0≤v - 2 * (v / 2)∧v - 2 * (v / 2)≤1:=fun v=>by walk_at"q"
 have bv:=base (q0 + r0)
 have eq2:∀ x k:Int,(x - 2 * k + 1) / 2 + k=(x + 1) / 2∧(x - 2 * k) / 2 + k=x / 2:=fun x k=>by walk_at"q"
 refine ⟨(q0 + r0) / 2,s1 + p1 - 2 * ((q0 + r0) / 2),p0 + s0 - 2 * ((q0 + r0) / 2),r1 + q1 - 2 * ((q0 + r0) / 2),q0 + r0 - 2 * ((q0 + r0) / 2),?_⟩
 generalize (q0 + r0) / 2=k at bv ⊢
 refine ⟨by walk_at"q", by walk_at"q", by walk_at"q", by walk_at"q", by walk_at"q", by walk_at"q", by walk_at"q", by walk_at"q", ?_⟩
 unfold shM pr8
 simp only [List.map_cons,List.map_nil]
 rw [(eq2 _ k).1,(eq2 _ k).2,(eq2 _ k).1,(eq2 _ k).2,(eq2 _ k).1,(eq2 _ k).2,(eq2 _ k).1,(eq2 _ k).2]
theorem blk4 (c0 c1 c2 c3:Int):∃ q a b:Int,0≤a∧a≤5∧0≤b∧b≤5∧thruM [c0,c1,c2,c3] (blkM 2)=shM q (pr4 a b):=by
 have e:thruM [c0,c1,c2,c3] (blkM 2)=pr4 ((c0 + c3 + 1) / 2 + (c1 + c2 + 1) / 2) ((c1 + c2) / 2 + (c0 + c3) / 2):=by
  rw [eb4]
  simp only [thruM,List.foldl_cons,List.foldl_nil]
  rw [u03,u12,u01,u23]
  rfl
 rw [e]
 have half:∀ t:Int,0≤(t + 1) / 2 - t / 2∧(t + 1) / 2 - t / 2≤1:=fun t=>by walk_at"q"
 have h0:=half (c0 + c3)
 have h1:=half (c1 + c2)
 clear e half
 generalize (c0 + c3 + 1) / 2=a0 at *
 generalize (c0 + c3) / 2=b0 at *
 generalize (c1 + c2 + 1) / 2=a1 at *
 generalize (c1 + c2) / 2=b1 at *
 have base:∀ v:Int,0≤v - 2 * (v / 2)∧v - 2 * (v / 2)≤1:=fun v=>by walk_at"q"
 have bv:=base (b1 + b0)
 have eq2:∀ x k:Int,(x - 2 * k + 1) / 2 + k=(x + 1) / 2∧(x - 2 * k) / 2 + k=x / 2:=fun x k=>by walk_at"q"
 refine ⟨(b1 + b0) / 2,a0 + a1 - 2 * ((b1 + b0) / 2),b1 + b0 - 2 * ((b1 + b0) / 2),?_⟩
 generalize (b1 + b0) / 2=k at bv ⊢
 refine ⟨by walk_at"q", by walk_at"q", by walk_at"q", by walk_at"q", ?_⟩
 unfold shM pr4
 simp only [List.map_cons,List.map_nil]
 rw [(eq2 _ k).1,(eq2 _ k).2,(eq2 _ k).1,(eq2 _ k).2]
def lvB (c:List Int):Bool:=decide (levelM c.length c.sum=c)
theorem lvB_level {c:List Int} (pos:0 < c.length) (h:lvB c=true):Level c:=(level_iff pos).mpr (of_decide_eq_true h)
theorem fin4:∀ a b:Fin 6,lvB (thruM (pr4 a.val b.val) (blkM 2))=true:=by decide +kernel
theorem fin8_0:∀ b c d:Fin 6,lvB (thruM (pr8 0 b.val c.val d.val) (blkM 3 ++ blkM 3))=true:=by decide +kernel
theorem fin8_1:∀ b c d:Fin 6,lvB (thruM (pr8 1 b.val c.val d.val) (blkM 3 ++ blkM 3))=true:=by decide +kernel
theorem fin8_2:∀ b c d:Fin 6,lvB (thruM (pr8 2 b.val c.val d.val) (blkM 3 ++ blkM 3))=true:=by decide +kernel
theorem fin8_3:∀ b c d:Fin 6,lvB (thruM (pr8 3 b.val c.val d.val) (blkM 3 ++ blkM 3))=true:=by decide +kernel
theorem fin8_4:∀ b c d:Fin 6,lvB (thruM (pr8 4 b.val c.val d.val) (blkM 3 ++ blkM 3))=true:=by decide +kernel
theorem fin8_5:∀ b c d:Fin 6,lvB (thruM (pr8 5 b.val c.val d.val) (blkM 3 ++ blkM 3))=true:=by decide +kernel
theorem fin8 (a b c d:Fin 6):lvB (thruM (pr8 a.val b.val c.val d.val) (blkM 3 ++ blkM 3))=true:=by
 obtain ⟨a,ha⟩:=a
 have:a=0∨a=1∨a=2∨a=3∨a=4∨a=5:=by walk_at"q"
 rcases this with z | z | z | z | z | z <;> subst z
 ·exact fin8_0 b c d
 ·exact fin8_1 b c d
 ·exact fin8_2 b c d
 ·exact fin8_3 b c d
 ·exact fin8_4 b c d
 ·exact fin8_5 b c d
theorem toFin {x:Int} (h0:0≤x) (h5:x≤5):∃ f:Fin 6,x=(f.val:Int):=⟨⟨x.toNat,by walk_at"q"⟩,by show x=((x.toNat:Nat):Int);walk_at"q"⟩
theorem wb8:WOk 8 (blkM 3):=wok_of (by decide)
theorem wb4:WOk 4 (blkM 2):=wok_of (by decide)
theorem rounds_level {k:Nat} (h1:1≤k) (h3:k≤3) {c:List Int} (hl:c.length=(pw k).toNat):Level (thruM c (rndM k)):=by
 have kc:k=1∨k=2∨k=3:=by walk_at"q"
 rcases kc with z | z | z <;> subst z
 ·obtain ⟨c0,c1,rfl⟩:=list2 c hl
  have e:thruM [c0,c1] (rndM 1)=[(c0 + c1 + 1) / 2,(c0 + c1) / 2]:=rfl
  rw [e]
  refine (level_iff (c:=[(c0 + c1 + 1) / 2,(c0 + c1) / 2]) (Nat.zero_lt_succ _)).mpr ?_
  show levelM 2 ([(c0 + c1 + 1) / 2,(c0 + c1) / 2].sum)=_
  unfold levelM
  simp only [List.sum_cons,List.sum_nil,List.range,List.range.loop,List.map_cons,List.map_nil,List.cons.injEq,and_true]
  constructor <;> walk_at"q"
 ·obtain ⟨c0,c1,c2,c3,rfl⟩:=list4 c hl
  have e:rndM 2=blkM 2 ++ blkM 2:=by decide
  obtain ⟨q,a,b,a0,a5,b0,b5,z⟩:=blk4 c0 c1 c2 c3
  obtain ⟨fa,rfl⟩:=toFin a0 a5
  obtain ⟨fb,rfl⟩:=toFin b0 b5
  rw [e,thru_app,z,thru_sh (wide:=4) _ _ rfl wb4]
  exact level_sh (lvB_level (by rw [thruM_len];exact Nat.zero_lt_succ _) (fin4 fa fb))
 ·obtain ⟨c0,c1,c2,c3,c4,c5,c6,c7,rfl⟩:=list8 c hl
  have e:rndM 3=blkM 3 ++ (blkM 3 ++ blkM 3):=by decide
  obtain ⟨q,a,b,c,d,a0,a5,b0,b5,d0,d5,e0,e5,z⟩:=blk8 c0 c1 c2 c3 c4 c5 c6 c7
  obtain ⟨fa,rfl⟩:=toFin a0 a5
  obtain ⟨fb,rfl⟩:=toFin b0 b5
  obtain ⟨fc,rfl⟩:=toFin d0 d5
  obtain ⟨fd,rfl⟩:=toFin e0 e5
  rw [e,thru_app,z,thru_sh (wide:=8) _ _ rfl (wb8.app wb8)]
  exact level_sh (lvB_level (by rw [thruM_len];exact Nat.zero_lt_succ _) (fin8 fa fb fc fd))
end Ep

namespace Ep
open PySem L2 PySem.SeqAt
def gapL (wide gap:Int):List (Int × Int):=((List.range wide.toNat).filter fun k:Nat=>decide ((k:Int) / gap % 2=0)).map fun k:Nat=>((k:Int),(k:Int) + gap)
def gapsM:Nat→Int→List (Int × Int)
 | 0,_=>[]
 | j + 1,wide=>gapL wide (pw j) ++ gapsM j wide
def foldM:Nat→List (Int × Int)
 | 0=>[]
 | k + 1=>(foldM k ++ (foldM k).map (lift (pw k))) ++ acrossM (pw (k + 1)) ++ gapsM k (pw (k + 1))
theorem fold_all {k:Nat} (h:k≤3):WOk (pw k) (foldM k)∧(foldM k).length≤24:=by
 have:k=0∨k=1∨k=2∨k=3:=by walk_at"q"
 rcases this with z | z | z | z <;> subst z <;> exact ⟨wok_of (by decide),by decide⟩
theorem level_shift {n:Nat} (hn:0 < n) (p r:Int):levelM n ((n:Int) * p + r)=shM p (levelM n r):=by
 unfold levelM shM
 rw [List.map_map]
 refine List.map_congr_left fun i _=>?_
 show -(((0:Int) + (i:Int) - ((n:Int) * p + r)) / (n:Int))=-(((0:Int) + (i:Int) - r) / (n:Int)) + p
 have e:(0:Int) + (i:Int) - ((n:Int) * p + r)=(0 + (i:Int) - r) + (n:Int) * (-p):=by
  rw [Int.mul_neg];walk_at"q"
 rw [e,Int.add_mul_ediv_left _ _ (by walk_at"q")]
 walk_at"q"
theorem ac8 {c0 c1 c2 c3 c4 c5 c6 c7 e0 e1 e2 e3 e4 e5 e6 e7:Int} (h0:c0 + c7=e0 + e7) (h1:c1 + c6=e1 + e6) (h2:c2 + c5=e2 + e5) (h3:c3 + c4=e3 + e4) :
  thruM [c0,c1,c2,c3,c4,c5,c6,c7] (acrossM 8)=thruM [e0,e1,e2,e3,e4,e5,e6,e7] (acrossM 8):=by
 have e:acrossM 8=[(0,7),(1,6),(2,5),(3,4)]:=by decide
 rw [e]
 simp only [thruM,List.foldl_cons,List.foldl_nil]
 rw [t07,t16,t25,t34,t07,t16,t25,t34,h0,h1,h2,h3]
theorem ac4 {c0 c1 c2 c3 e0 e1 e2 e3:Int} (h0:c0 + c3=e0 + e3) (h1:c1 + c2=e1 + e2) :
  thruM [c0,c1,c2,c3] (acrossM 4)=thruM [e0,e1,e2,e3] (acrossM 4):=by
 have e:acrossM 4=[(0,3),(1,2)]:=by decide
 rw [e]
 simp only [thruM,List.foldl_cons,List.foldl_nil]
 rw [u03,u12,u03,u12,h0,h1]
theorem fold8:∀ (r t:Fin 4) (e:Fin 2),lvB (thruM (shM (e.val:Int) (levelM 4 (r.val:Int)) ++ levelM 4 (t.val:Int)) (acrossM 8 ++ gapsM 2 8))=true:=by decide +kernel
theorem fold4:∀ (r t:Fin 2) (e:Fin 2),lvB (thruM (shM (e.val:Int) (levelM 2 (r.val:Int)) ++ levelM 2 (t.val:Int)) (acrossM 4 ++ gapsM 1 4))=true:=by decide +kernel
theorem toFn {n:Nat} {x:Int} (h0:0≤x) (h5:x < n):∃ f:Fin n,x=(f.val:Int):=⟨⟨x.toNat,by walk_at"q"⟩,by show x=((x.toNat:Nat):Int);walk_at"q"⟩
theorem sh4 (q a b c d:Int):shM q [a,b,c,d]=[a + q,b + q,c + q,d + q]:=rfl
theorem sh2 (q a b:Int):shM q [a,b]=[a + q,b + q]:=rfl
theorem sh_app (q:Int) (a b:List Int):shM q (a ++ b)=shM q a ++ shM q b:=List.map_append
theorem sh_sh (p q:Int) (a:List Int):shM p (shM q a)=shM (q + p) a:=by
 unfold shM
 rw [List.map_map]
 exact List.map_congr_left fun x _=>by show x + q + p=x + (q + p);walk_at"q"
theorem wa8:WOk 8 (acrossM 8 ++ gapsM 2 8):=wok_of (by decide)
theorem wa4:WOk 4 (acrossM 4 ++ gapsM 1 4):=wok_of (by decide)
theorem join8 {c d:List Int} (lc:c.length=4) (ld:d.length=4) (hc:Level c) (hd:Level d):Level (thruM (c ++ d) (acrossM 8 ++ gapsM 2 8)):=by
 have ec:=level_is hc (by walk_at"q")
 have ed:=level_is hd (by walk_at"q")
 rw [lc] at ec
 rw [ld] at ed
 obtain ⟨r,er⟩:=toFn (n:=4) (x:=c.sum % 4) (by walk_at"q") (by walk_at"q")
 obtain ⟨t,et⟩:=toFn (n:=4) (x:=d.sum % 4) (by walk_at"q") (by walk_at"q")
 obtain ⟨e,ee⟩:=toFn (n:=2) (x:=(c.sum / 4 + d.sum / 4) % 2) (by walk_at"q") (by walk_at"q")
 have xc:c.sum=((4:Nat):Int) * (c.sum / 4) + (r.val:Int):=by walk_at"q"
 have xd:d.sum=((4:Nat):Int) * (d.sum / 4) + (t.val:Int):=by walk_at"q"
 rw [xc,level_shift (by decide)] at ec
 rw [xd,level_shift (by decide)] at ed
 generalize c.sum / 4=p at ec ee
 generalize d.sum / 4=q at ed ee
 have key:thruM (c ++ d) (acrossM 8)=thruM (shM ((p + q) / 2) (shM (e.val:Int) (levelM 4 (r.val:Int)) ++ levelM 4 (t.val:Int))) (acrossM 8):=by
  rw [sh_app,sh_sh,← ec,← ed]
  obtain ⟨a0,a1,a2,a3,ea⟩:=list4 (levelM 4 (r.val:Int)) (by unfold levelM;simp)
  obtain ⟨b0,b1,b2,b3,eb⟩:=list4 (levelM 4 (t.val:Int)) (by unfold levelM;simp)
  rw [ea,eb,sh4,sh4,sh4,sh4]
  refine ac8 ?_ ?_ ?_ ?_ <;> walk_at"q"
 rw [thru_app,key,← thru_app,thru_sh (wide:=8) _ _ (by rw [List.length_append,sh_len];unfold levelM;simp) wa8]
 exact level_sh (lvB_level (by rw [thruM_len,List.length_append,sh_len];unfold levelM;simp) (fold8 r t e))
theorem join4 {c d:List Int} (lc:c.length=2) (ld:d.length=2) (hc:Level c) (hd:Level d):Level (thruM (c ++ d) (acrossM 4 ++ gapsM 1 4)):=by
 have ec:=level_is hc (by walk_at"q")
 have ed:=level_is hd (by walk_at"q")
 rw [lc] at ec
 rw [ld] at ed
 obtain ⟨r,er⟩:=toFn (n:=2) (x:=c.sum % 2) (by walk_at"q") (by walk_at"q")
 obtain ⟨t,et⟩:=toFn (n:=2) (x:=d.sum % 2) (by walk_at"q") (by walk_at"q")
 obtain ⟨e,ee⟩:=toFn (n:=2) (x:=(c.sum / 2 + d.sum / 2) % 2) (by walk_at"q") (by walk_at"q")
 have xc:c.sum=((2:Nat):Int) * (c.sum / 2) + (r.val:Int):=by walk_at"q"
 have xd:d.sum=((2:Nat):Int) * (d.sum / 2) + (t.val:Int):=by walk_at"q"
 rw [xc,level_shift (by decide)] at ec
 rw [xd,level_shift (by decide)] at ed
 generalize c.sum / 2=p at ec ee
 generalize d.sum / 2=q at ed ee
 have key:thruM (c ++ d) (acrossM 4)=thruM (shM ((p + q) / 2) (shM (e.val:Int) (levelM 2 (r.val:Int)) ++ levelM 2 (t.val:Int))) (acrossM 4):=by
  rw [sh_app,sh_sh,← ec,← ed]
  obtain ⟨a0,a1,ea⟩:=list2 (levelM 2 (r.val:Int)) (by unfold levelM;simp)
  obtain ⟨b0,b1,eb⟩:=list2 (levelM 2 (t.val:Int)) (by unfold levelM;simp)
  rw [ea,eb,sh2,sh2,sh2,sh2]
  refine ac4 ?_ ?_ <;> walk_at"q"
 rw [thru_app,key,← thru_app,thru_sh (wide:=4) _ _ (by rw [List.length_append,sh_len];unfold levelM;simp) wa4]
 exact level_sh (lvB_level (by rw [thruM_len,List.length_append,sh_len];unfold levelM;simp) (fold4 r t e))
theorem fold1_level {c:List Int} (hl:c.length=2):Level (thruM c (foldM 1)):=by
 have e:foldM 1=rndM 1:=by decide
 rw [e]
 exact rounds_level (k:=1) (by decide) (by decide) hl
def Lvl (wide:Int) (ws:List (Int × Int)):Prop:=∀ c:List Int,c.length=wide.toNat→Level (thruM c ws)
inductive SpFoldP (n:Nat) (vs:List V) (H:Hp) (Q:VK):Prop
 | mk (k:Nat) (h1:vs=[.int (pw k)]) (h2:k < n) (h3:k≤3) (h4:∀ (a:Addr) (H':Hp),H a=none→Same H H'→WsL H' a (foldM k)→Q (.ref a) H'):SpFoldP n vs H Q
def spFold (n:Nat):Sp:=fun vs H Q _=>SpFoldP n vs H Q
theorem cut_take (xs:List V) (n:Nat):cutV xs none (some (n:Int))=xs.take n:=by
 by_cases h:n≤xs.length
 ·exact cut_first h
 ·unfold cutV
  rw [HT.sIx_nat,HT.sIx_none,Nat.min_eq_right (by walk_at"q")]
  simp
  rw [List.take_of_length_le (by walk_at"q")]
end Ep

namespace L2
open PySem PySem.Spec PyProof.Rows
section
variable {X:Cx}
end
end L2
namespace Ep
open PySem L2 PySem.SeqAt
def Th (H:Hp) (x:V):Prop:=(∃ i,x=.int i)∨Odd H x
theorem Th.same {H H':Hp} {x:V} (h:Th H x) (s:Same H H'):Th H' x:=h.imp id fun o=>o.same s
theorem Th.back {H H':Hp} {a:Addr} (h:Th H (.ref a)) (s:Same H H') {o:HO} (e:H' a=some o):H a=some o:=by
 rcases h with ⟨i,z⟩ | z
 ·cases z
 ·cases z with
  | lst h=>rw [s _ _ h] at e;exact h.trans e
  | tup h=>rw [s _ _ h] at e;exact h.trans e
  | dct h=>rw [s _ _ h] at e;exact h.trans e
def isI:V→Bool
 | .int _=>true
 | _=>false
theorem odd_notI {H:Hp} {x:V} (h:Odd H x):isI x=false:=by cases h <;> rfl
inductive SpWholeTP (vs:List V) (H:Hp) (Q:VK):Prop
 | mk (x:_) (h1:vs=[x]) (h2:Th H x) (h3:Q (.bl (isI x)) H):SpWholeTP vs H Q
def spWholeT:Sp:=fun vs H Q _=>SpWholeTP  vs H Q
theorem whole_t (vs:List V) (H:Hp) (Q:VK) (E:XK) (h:spWholeT vs H Q E):spWholeG vs H Q E:=by
 obtain ⟨x,rfl,t,q⟩:=h
 rcases t with ⟨i,rfl⟩ | o
 ·exact ⟨_,rfl,.inl ⟨i,rfl,q⟩⟩
 ·rw [odd_notI o] at q
  exact ⟨_,rfl,.inr ⟨o,q⟩⟩
def laneB (wide:Int):V→Bool
 | .int i=>decide (0≤i∧i < wide)
 | _=>false
theorem odd_notL {H:Hp} {x:V} {wide:Int} (h:Odd H x):laneB wide x=false:=by cases h <;> rfl
inductive SpLaneTP (vs:List V) (H:Hp) (Q:VK):Prop
 | mk (wide:Int) (x:V) (h1:vs=[.int wide,x]) (h2:Th H x) (h3:Q (.bl (laneB wide x)) H):SpLaneTP vs H Q
def spLaneT:Sp:=fun vs H Q _=>SpLaneTP  vs H Q
def Sq (H:Hp) (l:Addr) (rs:List V):Prop:=H l=some (.lst rs)∨H l=some (.tup rs)
end Ep

namespace L2
open PySem PySem.Spec PyProof.Rows
open AutoSeq1 (wpAny_loadPart')
section
variable {prog:Program} {w:World} {A:Around} {E:Value→Shared→Prop} {s:Shared}
theorem collect_rng {Q:List Value→Shared→Prop} {r:Addr} {a b c:Int} {t u v:Tok} {n:Nat} (hh:A.handled=none) (hr:IsRange s.heap r a b c t u v) (hsmall:Builtin.Range.small a b c=true)
  (hn:Builtin.Range.rangeSize a b c=n) (hlen:n≤2 ^ 24)
  (hQ:∀ h' tk acc,(∀ b o',s.heap.get? b=some o'→h'.get? b=some o')→ItemsOf (fun i v=>∃ t,v=.int (a + i * c) t) acc n→Q acc.toList { s with heap:=h',toks:=tk }) :
  wpAny (model prog w) A (collect (.ref r)) Q E s:=by
 unfold collect
 refine wpAny_bind (wpAny_runValue (codeAny_builtin F.entry_proto_collect ?_))
 rw [Around.under_plainId F.plain_proto_collect _]
 show wpAny _ A.in1 (newList [] >>= fun l=>again (.builtin "list.__iadd__" ⟨[l,.ref r],[]⟩)) _ _ s
 refine wpAny_bind (wpAny_newObj_type ?_)
 refine wpAny_pure ⟨plainId_quiet F.plain_list_iadd _,codeAny_builtin F.entry_list_iadd ?_⟩
 rw [Around.under_plainId F.plain_list_iadd _]
 show wpAny _ A.in1 (Builtin.List.listExtendWith (.ref s.heap.objs.size) (.ref r) (.ref s.heap.objs.size)) _ _ _
 have hS:(s.heap.push { cls:=.type "list", data:=.seq ([]:List Value).toArray }).get? s.heap.objs.size=some { cls:=.type "list", data:=.seq #[] 0 }:=Heap.get?_push_size _ rfl
 have fin':∀ (h':Heap) (tk:Nat) (acc:Array Value) (c':Nat),(∀ b o',s.heap.get? b=some o'→h'.get? b=some o')→h'.get? s.heap.objs.size=some { cls:=.type "list", dict:=none,data:=.seq acc c',slots:=#[] }→ItemsOf (fun i v=>∃ t,v=.int (a + i * c) t) acc n →
   wpAny (model prog w) A (match Value.ref s.heap.objs.size with
   | Value.ref a=>do
    match (← load a).data with
     | Data.seq xs _=>pure xs.toList
     | _=>unsupported "internal:collect"
   | _=>unsupported "internal:collect") Q E { s with heap:=h',toks:=tk }:=fun h' tk acc c' hk hx hi=>by
  show wpAny _ A (load s.heap.objs.size >>= _) _ _ _
  refine wpAny_bind (wpAny_load hx ?_)
  exact wpAny_pure (hQ h' tk acc hk hi)
 refine wpAny_mono (wpAny_extend_range (A:=A) (R:=fun r s'=>∃ (h':Heap) (tk:Nat) (acc:Array Value) (c':Nat),r=.ok (.ret (.ref s.heap.objs.size))∧s'={ s with heap:=h',toks:=tk }∧(∀ b o',s.heap.get? b=some o'→h'.get? b=some o')∧h'.get? s.heap.objs.size=some { cls:=.type "list", dict:=none,data:=.seq acc c',slots:=#[] }∧ItemsOf (fun i v=>∃ t,v=.int (a + i * c) t) acc n)
  (s:={ s with heap:=s.heap.push { cls:=.type "list", data:=.seq ([]:List Value).toArray } }) hh (Heap.get?_push_of_some _ hr) hsmall hn hlen s.heap.objs.size (.ref s.heap.objs.size) _ hS fun h' tk acc' c' hk hS' hacc=>?_) (fun fin s' h=>?_) (fun e s' h=>?_)
 ·exact ⟨h',tk,acc',c',rfl,rfl,fun b o' e=>hk b o' (Nat.ne_of_lt (Heap.lt_size e)) (Heap.get?_push_of_some _ e),hS',hacc⟩
 ·cases fin with
  | done f =>
   obtain ⟨h',tk,acc,c',e,rfl,hk,hx,hi⟩:=h
   cases e
   exact fin' h' tk acc c' hk hx hi
  | again c'=>exact ⟨h.1,codeAny_mono h.2 fun r s'' hr=>by obtain ⟨h',tk,acc,c',rfl,rfl,hk,hx,hi⟩:=hr;exact fin' h' tk acc c' hk hx hi⟩
 ·obtain ⟨_,_,_,_,e,_⟩:=h
  cases e
end
theorem meets_tuple_new_rng (r:Addr) {a b c:Int} {t u v:Tok} {n:Nat} (hsmall:Builtin.Range.small a b c=true) (hn:Builtin.Range.rangeSize a b c=n) (hlen:n≤100000) :
  Meets (Builtin.«tuple.__new__» ⟨[.type "tuple", .ref r],[]⟩)
   (fun A R s=>A.handled=none∧IsRange s.heap r a b c t u v∧∀ (h':Heap) (tk:Nat) (acc:Array Value),(∀ b o',s.heap.get? b=some o'→h'.get? b=some o')→ItemsOf (fun i v=>∃ t,v=.int (a + i * c) t) acc n →
    R (.ok (.ret (.ref h'.objs.size))) { s with heap:=h'.push { cls:=.type "tuple", data:=.seq acc },toks:=tk }) :=
 .of_wp fun prog w A R s h=>by
  obtain ⟨hp,g,d,tk,os⟩:=s;obtain ⟨hh,ht,h⟩:=h
  have hsub:=sub_tuple_self
  have hinit:=init_tuple_lookup
  have hmh:=madeHere_tuple
  have hT:Shared.TypeIs ⟨hp,g,d,tk,os⟩ (.ref r) "range" := ⟨_,ht,rfl⟩
  have hh1:A.in1.handled=none:=hh
  wp_walk using wpAny_loadPart' ht,wpAny_typeOf hT,collect_rng (A:=A.in1) hh1 ht hsmall hn (by walk_at"q")
  intro h' tk' acc hk hi
  have hz:acc.size=n:=hi.1
  show wpAny _ _ (Builtin.Tuple.tupleExact acc.toList.toArray >>= fun v=>ret v) _ _ _
  unfold Builtin.Tuple.tupleExact
  refine wpAny_bind (wpAny_newObj_type ?_ (by show acc.toList.toArray.size≤sizeLine;rw [Array.toArray_toList,hz];exact lenLine (by walk_at"q")))
  refine wpAny_pure ⟨_,rfl,?_⟩
  have e:acc.toList.toArray=acc:=by simp
  rw [e]
  exact h h' tk' acc hk hi
section
variable {prog:Program} {w:World} {A:Around} {E:Value→Shared→Prop} {s:Shared}
theorem call_tuple_rng {r:Addr} {a b c:Int} {t u v:Tok} {n:Nat} {Q:Value→Shared→Prop} (hh:A.handled=none) (hr:IsRange s.heap r a b c t u v) (hsmall:Builtin.Range.small a b c=true) (hn:Builtin.Range.rangeSize a b c=n) (hlen:n≤100000)
  (h:∀ (h':Heap) (tk:Nat) (acc:Array Value),(∀ b o',s.heap.get? b=some o'→h'.get? b=some o')→ItemsOf (fun i v=>∃ t,v=.int (a + i * c) t) acc n→Q (.ref h'.objs.size) { s with heap:=h'.push { cls:=.type "tuple", data:=.seq acc },toks:=tk }) :
  wpAny (model prog w) A (call (.type "tuple") [.ref r]) Q E s :=
 callType_new F.called_tuple (by decide) (F.typeCall_tuple_1 _) (F.newCall_tuple_1 _) (fun obj=>F.args_object_init_2 obj _) F.entry_tuple_new
  (meets_tuple_new_rng r hsmall hn hlen) ⟨hh,hr,fun h' tk acc hk hi=>⟨⟨_,Heap.get?_push_size _ rfl,rfl⟩,h h' tk acc hk hi⟩⟩
end
inductive P_call_tupRng (K:PySem.W.Frag) (xs:List V) (H:Hp) (Q:VK):Prop
 | mk (r:Addr) (i j:Int) (h1:xs=[.ref r]) (h2:H r=some (.rng i j)) (h3:-(2 ^ 62)≤i) (h4:i < 2 ^ 62) (h5:-(2 ^ 62)≤j) (h6:j < 2 ^ 62) (h7:(j - i).toNat≤50000) (h8:∀ l,H l=none→Q (.ref l) (upd H l (.tup ((rngL i j).map V.int)))):P_call_tupRng K xs H Q
variable {X:Cx}
theorem call_tupRng (hc:X.calm=true):CallR X (.type "tuple") (P_call_tupRng X.K):=by
 intro pins s σ H xs us Q I r h
 obtain ⟨p,i,j,rfl,hp,i1,i2,j1,j2,hl,q⟩:=h
 obtain ⟨u,rfl,ru⟩:=vals1 r
 cases ru
 obtain ⟨t,u',v,e⟩:=(show ObjOk X.prog X.w H s.heap p (.rng i j) from I.hok p _ hp)
 have hn:Builtin.Range.rangeSize i j 1=((j - i).toNat:Nat):=by rw [rangeSize_one];split <;> walk_at"q"
 refine call_tuple_rng (I.ok.hd hc) e (small_one i1 i2 j1 j2) hn (by walk_at"q") fun h' tk acc hk ⟨hs,hv⟩=>?_
 have hvals:Vals ((rngL i j).map V.int) acc.toList:=by
  have z:=vals_from i acc.toList 0 fun k v e=>by
   obtain ⟨t,e'⟩:=hv k v (by simpa using e)
   exact ⟨t,by rw [e',Int.mul_one,Nat.zero_add]⟩
  have hl':acc.toList.length=(j - i).toNat:=by rw [Array.length_toList,hs]
  rw [hl',← List.range_eq_range'] at z
  unfold rngL
  rw [List.map_map]
  exact z
 have I1:Inv X pins σ H { s with heap:=h',toks:=tk }:=I.kept (t':=tk) hk
 have I2:Inv X pins σ (upd H h'.objs.size (.tup ((rngL i j).map V.int))) { s with heap:=h'.push { cls:=.type "tuple", data:=.seq acc },toks:=tk } :=
  I1.laid (t':=tk) (fun b o e=>Heap.get?_push_of_some _ e) (Nat.le_refl _) (show ObjOk X.prog X.w _ _ _ (.tup ((rngL i j).map V.int)) from ⟨by simp only [rngL,List.length_map,List.length_range];exact lenLine (by walk_at"q"),acc.toList,hvals,by rw [Array.toArray_toList];exact IsTupD.new _ _⟩)
 exact ⟨.ref h'.objs.size,_,I2,rfl,q _ (I1.hok.fresh (Nat.le_refl _))⟩
end L2

namespace L2
open PySem PySem.Spec PyProof.Rows
section
variable {X:Cx} {C:Addr} {m:Str} {k:Nat} {ps:List Str} {sp:Sp} {o e:Expr} {es:List Expr} {ta:TE} {t:TA} {pos apos:Pos}
end
end L2
namespace Ep
open PySem L2 PySem.SeqAt
theorem lay_int:∀ ns:List Int,PyData.canLayAll0 (ns.map PyData.int)=true∧PyData.depthAll (ns.map PyData.int)≤5
 | []=>by simp [PyData.canLayAll0,PyData.depthAll]
 | w :: r=>by
  obtain ⟨a,b⟩:=lay_int r
  constructor
  ·simp [PyData.canLayAll0,PyData.canLay0,a]
  ·simp only [List.map_cons,PyData.depthAll,PyData.depth]
   walk_at"q"
end Ep

namespace Ep
open PySem L2 PySem.SeqAt
inductive FPap (H:Hp):Nat→V→Prop
 | one {a:Addr} (h:H a=some (.tup [.str "one"])):FPap H 0 (.ref a)
 | hlv {k:Nat} {a t1 t2:Addr} {x y:V} (h:H a=some (.tup [.str "halves", .int ((foldM k ++ (foldM k).map (lift (pw k))).length:Int),.ref t1,.ref t2,x,y])) (h1:H t1=some (.tup ((rngL 0 (pw k)).map V.int))) (h2:H t2=some (.tup ((rngL (pw k) (pw (k + 1))).map V.int)))
   (hx:FPap H k x) (hy:FPap H k y):FPap H (k + 1) (.ref a)
theorem FPap.same {H H':Hp} (s:Same H H'):∀ {k:Nat} {x:V},FPap H k x→FPap H' k x:=by
 intro k x h
 induction h with
 | one h=>exact .one (s _ _ h)
 | hlv h h1 h2 _ _ ih1 ih2=>exact .hlv (s _ _ h) (s _ _ h1) (s _ _ h2) ih1 ih2
def PapT (H:Hp) (x:V):Prop:=Th H x∧∀ a xs,x=.ref a→H a=some (.tup xs)→∀ y,xs[0]?=some y→Th H y
def isPap (H:Hp) (x:V) (word:Str) (size:Int):Prop:=∃ a xs,x=.ref a∧H a=some (.tup xs)∧(xs.length:Int)=size∧xs[0]?=some (.str word)
inductive SpIsPaperP (vs:List V) (H:Hp) (Q:VK):Prop
 | mk (x:V) (word:Str) (size:Int) (h1:vs=[x,.str word,.int size]) (h2:PapT H x) (h3:1≤size) (h4:∀ b:Bool,(b=true↔isPap H x word size)→Q (.bl b) H):SpIsPaperP vs H Q
def spIsPaper:Sp:=fun vs H Q _=>SpIsPaperP vs H Q
def AsTold (wide:Int) (ws:List (Int × Int)):Prop:=¬ (AllEv (sharesM wide ws)∧MuchM wide ws)∧Lvl wide ws
inductive SpAsToldP (vs:List V) (H:Hp) (Q:VK):Prop
 | mk (v:V) (wide:Int) (ws:List (Int × Int)) (h1:vs=[v]) (h2:Net H v wide ws) (h3:1≤wide) (h4:wide≤8) (h5:WOk wide ws) (h6:ws.length≤41) (h7:∀ (b:Bool) (H':Hp),Same H H'→(b=true↔AsTold wide ws)→Q (.bl b) H'):SpAsToldP vs H Q
def spAsTold:Sp:=fun vs H Q _=>SpAsToldP vs H Q
theorem ffI {p:Prop} (h:¬ p):(false=true)↔p:=⟨fun z=>Bool.noConfusion z,fun z=>absurd z h⟩
theorem ttI {p:Prop} (h:p):(true=true)↔p:=⟨fun _=>h,fun _=>rfl⟩
def notD (r:List Int):PyData:=.tuple [.str "not", .list (r.map PyData.int)]
theorem shaped_levels:shaped (.tuple [.str "levels"])=true:=by
 show (PyData.canLay0 _ && decide (PyData.depth _≤64))=true
 simp [PyData.canLay0,PyData.canLayAll0,PyData.depth,PyData.depthAll]
 decide +kernel
theorem shaped_not (r:List Int):shaped (notD r)=true:=by
 obtain ⟨a,b⟩:=lay_int r
 show (PyData.canLay0 _ && decide (PyData.depth _≤64))=true
 unfold notD
 simp [PyData.canLay0,PyData.canLayAll0,PyData.depth,PyData.depthAll,a]
 exact ⟨by decide +kernel,by walk_at"q"⟩
theorem mix_not (r:List Int):noMix (notD r) (.tuple [.str "levels"])=true:=by simp [notD,noMix,noMixAll]
theorem not_levels (r:List Int):PySem.Spec.same (notD r) (.tuple [.str "levels"])=false:=by
 unfold notD
 rw [PySem.Spec.same,PySem.Spec.sameAll]
 have:PySem.Spec.same (.str "not") (.str "levels")=false:=by decide +kernel
 rw [this]
 rfl
theorem dat_not {H:Hp} {T l:Addr} {r:List Int} (h:H T=some (.tup [.str "not", .ref l])) (hl:H l=some (.lst (r.map V.int))):Dat H (.ref T) (notD r):=.tup h (.cons (.str _) (.cons (Dat.ints hl) .nil))
theorem at0 (y:V) (ys:List V):atI (y :: ys) 0=some y:=by
 unfold atI ixN
 simp
end Ep

namespace L2
open PySem PySem.Spec PyProof.Rows
open AutoSeq1 (wpAny_loadPart')
variable {X:Cx}
def metL (ns:List Int):List Int:=ns.foldl step_dedup []
theorem met_first (ns:List Int):firstMet (fun i=>ns.getD i 0) ns.length=metL ns:=by
 unfold firstMet metL
 congr 1
 apply List.ext_getElem?
 intro i
 by_cases h:i < ns.length
 ·simp [h,List.getD]
 ·simp [h]
inductive P_call_setL (K:PySem.W.Frag) (xs:List V) (H:Hp) (Q:VK):Prop
 | mk (p:Addr) (ns:List Int) (h1:xs=[.ref p]) (h2:SqL K H p (ns.map V.int)) (h3:ns.length≤50) (h4:∀ l,H l=none→Q (.ref l) (upd H l (.set (fun k=>(metL ns).any (· == k)) (metL ns).length))):P_call_setL K xs H Q
theorem call_setL (hc:X.calm=true):CallR X (.type "set") (P_call_setL X.K):=by
 intro pins s σ H xs us Q I r h
 obtain ⟨p,ns,rfl,hp,hl50,q⟩:=h
 obtain ⟨u,rfl,ru⟩:=r.one
 cases ru
 obtain ⟨its,rv,pl,hz⟩:=I.list hp
 have hi:IntsAre its ns:=intsAre_of rv
 have hl:=hi.length
 refine call_set_list (I.ok.hd hc) pl.isList (items:=its.toArray) (ns:=ns) (by simpa using hi) (show its.toArray.size + 1 < scanBound from Nat.lt_of_le_of_lt (show its.toArray.size + 1≤60 by rw [List.size_toArray];walk_at"q") (by decide)) fun h' tk hS hk=>?_
 have h2:its.toArray.size=ns.length:=by rw [← hl];exact List.size_toArray ..
 rw [h2,met_first] at hS
 exact ⟨.ref s.heap.objs.size,_,I.laid (t':=tk) (o:=.set _ _) (fun b o e=>hk b o (Heap.lt_size e) e) (Nat.le_refl _) hS,rfl,q _ (I.hok.fresh (Nat.le_refl _))⟩
inductive P_call_lenS (K:PySem.W.Frag) (xs:List V) (H:Hp) (Q:VK):Prop
 | mk (p:Addr) (S:Int→Bool) (n:Nat) (h1:xs=[.ref p]) (h2:H p=some (.set S n)) (h3:n≤1000) (h4:Q (.int n) H):P_call_lenS K xs H Q
theorem call_lenS:CallR X (.builtin "len") (P_call_lenS X.K):=by
 intro pins s σ H xs us Q I r h
 obtain ⟨p,S,n,rfl,hp,hn,q⟩:=h
 obtain ⟨u,rfl,ru⟩:=r.one
 cases ru
 obtain ⟨o,es,ep,t,ho,hex,hd,_,_,_,hf,en⟩:=(show ObjOk X.prog X.w H s.heap p (.set S n) from I.hok p _ hp)
 subst en
 exact call_len_set ho hex hd hf (by walk_at"q") ⟨.int _,H,I.tok _,⟨_,rfl⟩,q⟩
theorem boot_setT:bootBuiltins "set" = some (.type "set"):=by decide +kernel
end L2

namespace Ep
open PySem L2 PySem.SeqAt PyProof.Rows
theorem met_all:∀ (ns:List Int) (σ:List Int),(∀ x∈σ,x∈ns.foldl step_dedup σ)∧(∀ x∈ns,x∈ns.foldl step_dedup σ)∧(∀ x∈ns.foldl step_dedup σ,x∈σ∨x∈ns)
 | [],σ=>⟨fun _ h=>h,(fun _ h=>nomatch h),fun _ h=>.inl h⟩
 | n :: ns,σ=>by
  obtain ⟨a,b,c⟩:=met_all ns (step_dedup σ n)
  have k:∀ x∈σ,x∈step_dedup σ n:=fun x h=>by
   unfold step_dedup
   split
   ·exact h
   ·exact List.mem_append_left _ h
  have m:n∈step_dedup σ n:=by
   unfold step_dedup
   split
   ·rename_i h
    obtain ⟨y,hy,e⟩:=List.any_eq_true.mp h
    rw [beq_iff_eq] at e
    exact e ▸ hy
   ·exact List.mem_append_right _ (List.mem_singleton.mpr rfl)
  have r:∀ x∈step_dedup σ n,x∈σ∨x=n:=fun x h=>by
   unfold step_dedup at h
   split at h
   ·exact .inl h
   ·rcases List.mem_append.mp h with z | z
    ·exact .inl z
    ·exact .inr (List.mem_singleton.mp z)
  refine ⟨fun x h=>a x (k x h),fun x h=>?_,fun x h=>?_⟩
  ·rcases List.mem_cons.mp h with z | z
   ·subst z;exact a _ m
   ·exact b x z
  ·rcases c x h with z | z
   ·rcases r x z with y | y
    ·exact .inl y
    ·exact .inr (y ▸ List.mem_cons_self)
   ·exact .inr (List.mem_cons_of_mem _ z)
theorem met_nodup:∀ (ns:List Int) (σ:List Int),σ.Nodup→(ns.foldl step_dedup σ).Nodup
 | [],σ,h=>h
 | n :: ns,σ,h=>by
  refine met_nodup ns _ ?_
  unfold step_dedup
  split
  ·exact h
  ·rename_i z
   refine List.nodup_append.mpr ⟨h,by simp,fun a ha b hb e=>z ?_⟩
   rw [List.mem_singleton.mp hb] at e
   exact List.any_eq_true.mpr ⟨a,ha,by rw [e];simp⟩
theorem met_len (ns:List Int):(metL ns).length≤ns.length:=by
 have z:∀ (ns σ:List Int),(ns.foldl step_dedup σ).length≤σ.length + ns.length:=by
  intro ns
  induction ns with
  | nil=>intro σ;simp
  | cons n ns ih =>
   intro σ
   have:=ih (step_dedup σ n)
   have l:(step_dedup σ n).length≤σ.length + 1:=by
    unfold step_dedup
    split
    ·walk_at"q"
    ·rw [List.length_append];simp
   rw [List.foldl_cons,List.length_cons]
   walk_at"q"
 have:=z ns []
 simpa [metL] using this
theorem met_one {ns:List Int} (h0:0 < ns.length):(metL ns).length=1↔EvRow ns:=by
 obtain ⟨_,b,c⟩:=met_all ns []
 have nd:(metL ns).Nodup:=met_nodup ns [] List.nodup_nil
 have g0:ns.getD 0 0∈ns:=by
  cases ns with
  | nil=>simp at h0
  | cons a r=>simp
 constructor
 ·intro h x hx
  obtain ⟨y,hy⟩:=List.length_eq_one_iff.mp h
  have e:∀ z∈ns,z=y:=fun z hz=>by
   have:=b z hz
   rw [show ns.foldl step_dedup []=[y] from hy] at this
   exact List.mem_singleton.mp this
  have gx:ns.getD x 0∈ns:=by
   rw [show ns.getD x 0=ns[x] by simp [List.getD,hx]]
   exact List.getElem_mem hx
  rw [e _ gx,e _ g0]
 ·intro h
  have e:∀ z∈metL ns,z=ns.getD 0 0:=fun z hz=>by
   rcases c z hz with q | q
   ·cases q
   ·obtain ⟨i,hi,rfl⟩:=List.mem_iff_getElem.mp q
    have:=h i hi
    rw [show ns.getD i 0=ns[i] by simp [List.getD,hi]] at this
    exact this
  have m0:ns.getD 0 0∈metL ns:=b _ g0
  generalize metL ns=M at nd e m0
  match M,nd,e,m0 with
  | [_],_,_,_=>rfl
  | x :: y :: _,nd,e,_ =>
   have ex:=e x (by simp)
   have ey:=e y (by simp)
   exact absurd (ex.trans ey.symm) (fun z=>(List.nodup_cons.mp nd).1 (z ▸ by simp))
end Ep

namespace L2
open PySem PySem.Spec PyProof.Rows
variable {X:Cx}
def rCatA:R2:=fun x y H Q=>∃ a b xs ys,x=.ref a∧y=.ref b∧H a=some (.tup xs)∧H b=some (.tup ys)∧xs.length + ys.length≤sizeLine∧∀ c H',Same H H'→H' c=some (.tup (xs ++ ys))→Q (.ref c) H'
theorem op_catA:OpR X (binaryOp .Add) rCatA:=by
 intro pins s σ H x y v u Q I rx ry h
 obtain ⟨a,b,xs,ys,rfl,rfl,ha,hb,hz,q⟩:=h
 by_cases hx:xs=[]
 ·cases rx
  cases ry
  subst hx
  obtain ⟨its,r1,p1,_⟩:=I.tuple (SqT.of (K:=X.K) ha)
  obtain ⟨its2,r2,p2,_⟩:=I.tuple (SqT.of (K:=X.K) hb)
  cases r1
  obtain ⟨⟨c1,d1,k1,l1⟩,ho,hc,n,hd⟩:=id p1
  obtain ⟨⟨c2,d2,k2,l2⟩,ho2,hc2,n2,hd2⟩:=id p2
  cases hc;cases hd;cases hc2;cases hd2
  exact concat_meets ⟨_,ho,rfl⟩ ⟨_,ho2,rfl⟩ noFill_tuple_add seq_tuple_add PySem.F.slot_tuple_add PySem.F.entry_tuple_add (PySem.F.args_tuple_add_2 _ _) (tuple_addW0 a b #[] its2.toArray n n2 d1 d2 l1 l2 rfl) ⟨ho,ho2,⟨.ref b,H,I,rfl,q b H (Same.refl _) hb⟩⟩
 ·refine op_catT pins s σ H _ _ v u Q I rx ry ⟨a,b,xs,ys,rfl,rfl,SqT.of ha,SqT.of hb,hx,hz,fun e=>?_,fun _ p hp=>?_⟩
  ·subst e
   exact q a H (Same.refl _) (by rw [List.append_nil];exact ha)
  ·exact q p _ (same_new hp _) upd_same
end L2

namespace L2
open PySem PySem.Spec PyProof.Rows
section
variable {κ:Type} [DecidableEq κ]
end


abbrev KT (H:Hp):List (List Key × V)→List (List Key × Addr × Value)→Prop:=Paired fun p q=>p.1=q.1∧H q.2.1=some (.tup (p.1.map kV))∧RelV p.2 q.2.2
section
variable {P:Program} {w:World} {H:Hp} {h:Heap} {a:Addr}
end

section
variable {X:Cx} {pins:List (Addr × Obj)} {σ:St} {H:Hp} {s:Shared} {a:Addr} {y v:V} {u r:Value} {o:Option V} {A:Around} {E:Value→Shared→Prop}

end

section
variable {X:Cx} {pins:List (Addr × Obj)} {σ:St} {H:Hp} {s:Shared} {a:Addr} {kvs:List (Key × V)} {k:Key} {u:Value} {A:Around} {E:Value→Shared→Prop}
end


section
variable {X:Cx} {o i e value:Expr} {pos pos' tpos:Pos} {td ty tv:TE}
end


section
variable {X:Cx} {pos:Pos}
end

section
variable {X:Cx} {pins:List (Addr × Obj)} {σ:St} {H:Hp} {s:Shared} {a:Addr} {y d:V} {u r:Value} {o:Option V} {A:Around} {E:Value→Shared→Prop}
end

section
variable {X:Cx} {o e f:Expr} {apos cpos:Pos} {td ty tx:TE}
end

section
variable {X:Cx} {pins:List (Addr × Obj)} {σ:St} {H:Hp} {s:Shared} {a:Addr} {kvs:List (Key × V)} {A:Around} {E:Value→Shared→Prop}
end


section
variable {X:Cx} {pins:List (Addr × Obj)} {σ:St} {H:Hp} {s:Shared} {a:Addr} {y:V} {u:Value} {A:Around} {E:Value→Shared→Prop}
end
end L2

namespace Ep
open PySem L2 PySem.SeqAt
def TupT (H:Hp) (x:V):Prop:=Th H x∧∀ a xs,x=.ref a→H a=some (.tup xs)→xs.length≤20∧∀ y∈xs,Th H y
theorem TupT.same {H H':Hp} {x:V} (h:TupT H x) (s:Same H H'):TupT H' x:=⟨h.1.same s,fun a xs e k=>by
 subst e
 obtain ⟨p,q⟩:=h.2 a xs rfl (h.1.back s k)
 exact ⟨p,fun y hy=>(q y hy).same s⟩⟩
def LanesT (H:Hp) (wide:Int) (x:V) (ns:List Int):Prop:=∃ a,x=.ref a∧H a=some (.tup (ns.map V.int))∧∀ n∈ns,0≤n∧n < wide
theorem LanesT.same {H H':Hp} {wide:Int} {x:V} {ns:List Int} (h:LanesT H wide x ns) (s:Same H H'):LanesT H' wide x ns:=let ⟨a,e,k,l⟩:=h;⟨a,e,s _ _ k,l⟩
theorem LanesT.back {H H':Hp} {wide:Int} {x:V} {ns:List Int} (h:LanesT H' wide x ns) (t:Th H x) (s:Same H H'):LanesT H wide x ns:=by
 obtain ⟨a,rfl,k,l⟩:=h
 exact ⟨a,rfl,t.back s k,l⟩
theorem lane_all {wide:Int}:∀ {xs:List V},xs.all (laneB wide)=true→∃ ns:List Int,xs=ns.map V.int∧∀ n∈ns,0≤n∧n < wide
 | [],_=>⟨[],rfl,fun n h=>nomatch h⟩
 | x :: xs,h=>by
  rw [List.all_cons,Bool.and_eq_true] at h
  obtain ⟨ns,rfl,l⟩:=lane_all h.2
  cases x with
  | int i =>
   have:0≤i∧i < wide:=of_decide_eq_true h.1
   refine ⟨i :: ns,rfl,fun n hn=>?_⟩
   rcases List.mem_cons.mp hn with z | z
   ·rw [z];exact this
   ·exact l n z
  | _=>exact absurd h.1 (by simp [laneB])
def HalfT (H:Hp) (wide:Int) (x y:V) (ns ms:List Int):Prop:=LanesT H wide x ns∧LanesT H wide y ms∧ns.length=ms.length∧(ns ++ ms).Perm (rngL 0 wide)
theorem HalfT.back {H H':Hp} {wide:Int} {x y:V} {ns ms:List Int} (h:HalfT H' wide x y ns ms) (t:Th H x) (u:Th H y) (s:Same H H'):HalfT H wide x y ns ms:=⟨h.1.back t s,h.2.1.back u s,h.2.2⟩
theorem HalfT.len {H:Hp} {wide:Int} {x y:V} {ns ms:List Int} (h:HalfT H wide x y ns ms):ns.length + ms.length=wide.toNat:=by
 have:=h.2.2.2.length_eq
 rw [List.length_append] at this
 rw [this]
 unfold rngL
 simp
def putL (n:Nat) (ps:List (Int × Int)):List Int:=ps.foldl (fun c p=>c.set p.1.toNat p.2) (List.replicate n 0)
theorem putL_len (n:Nat) (ps:List (Int × Int)):(putL n ps).length=n:=by
 unfold putL
 suffices h:∀ c:List Int,(ps.foldl (fun c p=>c.set p.1.toNat p.2) c).length=c.length by rw [h,List.length_replicate]
 induction ps with
 | nil=>intro c;rfl
 | cons p r ih=>intro c;rw [List.foldl_cons,ih,List.length_set]
theorem putL_snoc (n:Nat) (ps:List (Int × Int)) (p:Int × Int):putL n (ps ++ [p])=(putL n ps).set p.1.toNat p.2:=by
 unfold putL
 rw [List.foldl_append]
 rfl
def sumsM (wide:Int) (ws:List (Int × Int)) (ns ms:List Int) (a b:Int):List Int:=thruM (putL wide.toNat ((ns ++ ms).zip (levelM ns.length a ++ levelM ms.length b))) ws
theorem sumsM_len {wide:Int} {ws:List (Int × Int)} {ns ms:List Int} {a b:Int}:(sumsM wide ws ns ms a b).length=wide.toNat:=by
 unfold sumsM
 rw [thruM_len,putL_len]
inductive SpSumsP (vs:List V) (H:Hp) (Q:VK):Prop
 | mk (v:V) (wide:Int) (ws:List (Int × Int)) (o t u:Addr) (ns ms:List Int) (a b:Int) (h1:vs=[v,.ref o,.ref t,.ref u]) (h2:Net H v wide ws) (h3:1≤wide) (h4:wide≤8) (h5:WOk wide ws) (h6:ws.length≤41)
   (h7:HalfT H wide (.ref o) (.ref t) ns ms) (h8:H u=some (.tup [.int a,.int b])) (h9:∀ (l:Addr) (H':Hp),H l=none→Same H H'→H' l=some (.lst ((sumsM wide ws ns ms a b).map V.int))→Q (.ref l) H'):SpSumsP vs H Q
def spSums:Sp:=fun vs H Q _=>SpSumsP vs H Q
inductive SpBelowP (vs:List V) (H:Hp) (Q:VK):Prop
 | mk (v:V) (wide:Int) (ws:List (Int × Int)) (o t:Addr) (ns ms:List Int) (most:Int) (h1:vs=[v,.ref o,.ref t,.int most]) (h2:Net H v wide ws) (h3:1≤wide) (h4:wide≤8) (h5:WOk wide ws) (h6:ws.length≤41)
   (h7:HalfT H wide (.ref o) (.ref t) ns ms) (h8:0≤most) (h9:most≤32) (h10:∀ (b:Bool) (H':Hp),Same H H'→(b=true↔∀ i j:Nat,(i:Int) < most→(j:Int) < most→Level (sumsM wide ws ns ms i j))→Q (.bl b) H'):SpBelowP vs H Q
def spBelow:Sp:=fun vs H Q _=>SpBelowP vs H Q
inductive SpAlikeRP (vs:List V) (H:Hp) (Q:VK):Prop
 | mk (l:Addr) (cs:List Int) (h1:vs=[.ref l]) (h2:H l=some (.lst (cs.map V.int))) (h3:cs.length≤100) (h4:∀ (b:Bool) (H':Hp),Same H H'→(b=true↔∀ c∈cs,c=cs.getD 0 0)→Q (.bl b) H'):SpAlikeRP vs H Q
def spAlikeR:Sp:=fun vs H Q _=>SpAlikeRP vs H Q
def PutM (wide:Int) (ws:List (Int × Int)) (ns ms:List Int):Prop :=
 (ns.length:Int) * whole wide ws≤32∧(∀ i j:Nat,(i:Int) < (ns.length:Int) * whole wide ws→(j:Int) < (ns.length:Int) * whole wide ws→Level (sumsM wide ws ns ms i j)) ∧
  (∀ c∈sumsM wide ws ns ms ((ns.length:Int) * whole wide ws) 0,c=(sumsM wide ws ns ms ((ns.length:Int) * whole wide ws) 0).getD 0 0)∧∀ c∈sumsM wide ws ns ms 0 ((ns.length:Int) * whole wide ws),c=(sumsM wide ws ns ms 0 ((ns.length:Int) * whole wide ws)).getD 0 0
inductive SpTogetherP (vs:List V) (H:Hp) (Q:VK):Prop
 | mk (v:V) (wide:Int) (ws:List (Int × Int)) (o t:Addr) (ns ms:List Int) (h1:vs=[v,.ref o,.ref t]) (h2:Net H v wide ws) (h3:1≤wide) (h4:wide≤8) (h5:WOk wide ws) (h6:ws.length≤41)
   (h7:HalfT H wide (.ref o) (.ref t) ns ms) (h8:∀ (b:Bool) (H':Hp),Same H H'→(b=true↔PutM wide ws ns ms)→Q (.bl b) H'):SpTogetherP vs H Q
def spTogether:Sp:=fun vs H Q _=>SpTogetherP vs H Q
def NoPap (H:Hp) (x:V):Prop:=PapT H x∧¬ isPap H x "one" 1∧¬ isPap H x "all" 1∧¬ isPap H x "halves" 6
theorem PapT.same {H H':Hp} {x:V} (h:PapT H x) (s:Same H H'):PapT H' x:=⟨h.1.same s,fun a xs e k y hy=>by
 subst e
 exact (h.2 a xs rfl (h.1.back s k) y hy).same s⟩
theorem isPap.back {H H':Hp} {x:V} {w:Str} {n:Int} (h:isPap H' x w n) (t:Th H x) (s:Same H H'):isPap H x w n:=by
 obtain ⟨a,xs,rfl,k,l,m⟩:=h
 exact ⟨a,xs,rfl,t.back s k,l,m⟩
theorem NoPap.same {H H':Hp} {x:V} (h:NoPap H x) (s:Same H H'):NoPap H' x:=⟨h.1.same s,fun z=>h.2.1 (z.back h.1.1 s),fun z=>h.2.2.1 (z.back h.1.1 s),fun z=>h.2.2.2 (z.back h.1.1 s)⟩
theorem HalfT.same {H H':Hp} {wide:Int} {x y:V} {ns ms:List Int} (h:HalfT H wide x y ns ms) (s:Same H H'):HalfT H' wide x y ns ms:=⟨h.1.same s,h.2.1.same s,h.2.2⟩
end Ep
namespace Ep
open PySem L2 PySem.SeqAt
end Ep
namespace L2
open PySem PySem.Spec PyProof.Rows
variable {X:Cx}
theorem q_lst {es:List Expr} {t:TA} {pos:Pos} (h:PAs X es t):PEs X (.List es pos) (tLst t):=PEs.mk (pe_lst h.h)
theorem q_tup {es:List Expr} {t:TA} {k:_} {pos:Pos} (h:PAs X es t):PEs X (.Tuple es k pos) (tTup t):=PEs.mk (pe_tup h.h)
end L2
namespace Ep
open PySem L2 PySem.SeqAt
theorem noRef {G:Hp} {x:V} (t:Th G x) (n:∀ a xs,x=.ref a→G a=some (.tup xs)→False):NoPap G x :=
 ⟨⟨t,fun a xs e h=>(n a xs e h).elim⟩,fun ⟨a,xs,e,h,_⟩=>n a xs e h,fun ⟨a,xs,e,h,_⟩=>n a xs e h,fun ⟨a,xs,e,h,_⟩=>n a xs e h⟩
theorem no_non {G:Hp}:NoPap G .non:=noRef (.inr .non) fun a xs e=>nomatch e
theorem no_lst {G:Hp} {a:Addr} {xs:List V} (h:G a=some (.lst xs)):NoPap G (.ref a):=noRef (.inr (.lst h)) fun b ys e k=>by cases e;rw [h] at k;cases k
theorem no_tup {G:Hp} {a:Addr} {xs:List V} (h:G a=some (.tup xs)) (t:∀ y,xs[0]?=some y→Th G y) (n1:¬ (xs.length=1∧(xs[0]?=some (.str "one")∨xs[0]?=some (.str "all")))) (n6:xs.length≠6):NoPap G (.ref a):=by
 refine ⟨⟨.inr (.tup h),fun b ys e k y hy=>?_⟩,?_,?_,?_⟩
 ·cases e;rw [h] at k;cases k;exact t y hy
 ·rintro ⟨b,ys,e,k,l,m⟩
  cases e;rw [h] at k;cases k
  exact n1 ⟨by walk_at"q", .inl m⟩
 ·rintro ⟨b,ys,e,k,l,m⟩
  cases e;rw [h] at k;cases k
  exact n1 ⟨by walk_at"q", .inr m⟩
 ·rintro ⟨b,ys,e,k,l,m⟩
  cases e;rw [h] at k;cases k
  exact n6 (by walk_at"q")
theorem no_len {G:Hp} {a:Addr} {y:V} {xs:List V} (h:G a=some (.tup (y :: xs))) (t:Th G y) (l1:xs.length≠0) (l5:xs.length≠5):NoPap G (.ref a) :=
 no_tup h (fun z hz=>by cases hz;exact t) (fun z=>by have:=z.1;rw [List.length_cons] at this;walk_at"q") (by rw [List.length_cons];walk_at"q")
theorem tt_ints {G:Hp} {a:Addr} (ns:List Int) (h:G a=some (.tup (ns.map V.int))) (l:ns.length≤20):TupT G (.ref a):=⟨.inr (.tup h),fun b ys e k=>by
 cases e;rw [h] at k;cases k
 refine ⟨by rw [List.length_map];exact l,fun y hy=>?_⟩
 obtain ⟨i,_,rfl⟩:=List.mem_map.mp hy
 exact .inl ⟨i,rfl⟩⟩
theorem tt_lst {G:Hp} {a:Addr} {xs:List V} (h:G a=some (.lst xs)):TupT G (.ref a):=⟨.inr (.lst h),fun b ys e k=>by cases e;rw [h] at k;cases k⟩
theorem lan_uniq {G:Hp} {wide:Int} {a:Addr} {xs:List V} {ns:List Int} (h:LanesT G wide (.ref a) ns) (e:G a=some (.tup xs)):xs=ns.map V.int:=by
 obtain ⟨b,z,k,_⟩:=h
 cases z;rw [e] at k;cases k;rfl
theorem lan_lst {G:Hp} {wide:Int} {a:Addr} {xs:List V} {ns:List Int} (h:LanesT G wide (.ref a) ns) (e:G a=some (.lst xs)):False:=by
 obtain ⟨b,z,k,_⟩:=h
 cases z;rw [e] at k;cases k
end Ep
namespace L2
open PySem PySem.Spec PyProof.Rows
variable {X:Cx}
end L2
namespace Ep
open PySem L2 PySem.SeqAt
end Ep
namespace Ep
open PySem L2 PySem.SeqAt
end Ep
namespace Ep
open PySem L2 PySem.SeqAt
end Ep
namespace Ep
open PySem L2 PySem.SeqAt
end Ep

namespace L2
open PySem PySem.Spec PyProof.Rows PySem.SeqAt
open AutoSeq1 (wpAny_loadPart')
theorem forIn_rng {M:Model} {A:Around} {E:Value→Shared→Prop} {s:Shared} {β:Type} (f:Nat→β→Sem (ForInStep β)) (I:List Nat→β→Shared→Prop) (Q:β→Shared→Prop)
  (turn:∀ x rest b s,I (x :: rest) b s→wpAny M A (f x b) (fun r s'=>match r with | .yield b'=>I rest b' s' | .done b'=>Q b' s') E s)
  (fin:∀ b s,I [] b s→Q b s) (lo hi:Nat) (b:β) (h:I (List.range' lo (hi - lo)) b s):wpAny M A (forIn [lo:hi] b f) Q E s:=by
 have e:forIn [lo:hi] b f=forIn (List.range' lo (hi - lo)) b f:=by
  rw [Std.Legacy.Range.forIn_eq_forIn_range']
  congr 1
  simp [Std.Legacy.Range.size]
 rw [e]
 exact wpAny_forIn_list f I Q turn fin _ b h
theorem tuple_indexAt (l:Addr) (items:Array Value) (n:Nat) (dd:Option Addr) (sl:Array (Option Value)) (x:Value) (e:Value→Bool) (j:Nat) (hj:j < items.size) (h1:e items[j]=true) (h2:∀ i (h:i < items.size),i < j→e items[i]=false) :
  Meets (Builtin.«tuple.index» ⟨[.ref l,x],[]⟩)
   (fun A R s=>s.heap.get? l=some { cls:=.type "tuple", dict:=dd,data:=.seq items n,slots:=sl }∧(∀ y,y∈items→EqAt A.in1 s y x (e y))∧R (.ok (.ret (.int (j:Nat) s.toks))) { s with toks:=s.toks + 1 }) :=
 .of_wp fun prog w A R s h=>by
  obtain ⟨hp,g,d,tk,os⟩:=s;obtain ⟨hl,he,h⟩:=h
  wp_walk using wpAny_loadPart' hl,forIn_rng _ (fun rest b s'=>b.1=none∧s'=⟨hp,g,d,tk,os⟩∧∃ k,k≤j∧rest=List.range' k (items.size - k)) _
  case turn =>
   rintro y rest b s' ⟨hb,rfl,k,hk,er⟩
   have hks:k < items.size:=by walk_at"q"
   have er':List.range' k (items.size - k)=k :: List.range' (k + 1) (items.size - (k + 1)):=by
    rw [show items.size - k=(items.size - (k + 1)) + 1 by walk_at"q", List.range'_succ]
   rw [er'] at er
   obtain ⟨e1,e2⟩:=List.cons.inj er
   subst e1
   have hy:items[y]?=some items[y]:=by simp [hks]
   simp only [hy]
   refine wpAny_bind (he _ (Array.getElem_mem hks) prog w _ _ ?_)
   by_cases c:y=j
   ·subst c
    rw [h1]
    wp_walk
    exact ⟨_,rfl,h⟩
   ·rw [h2 y hks (by walk_at"q")]
    wp_walk
    exact ⟨rfl,rfl,y + 1,by walk_at"q", e2⟩
  case fin =>
   rintro ⟨b1,b2⟩ s' ⟨hb,rfl,k,hk,er⟩
   exfalso
   have:=congrArg List.length er
   simp at this
   walk_at"q"
  case h =>
   exact ⟨rfl,rfl,0,Nat.zero_le _,by simp⟩
def rIndexT:V→List V→Hp→VK→Prop:=fun x vs H Q=>∃ (l:Addr) (ns:List Int) (k:Int),x=.ref l∧vs=[.int k]∧H l=some (.tup (ns.map V.int))∧k∈ns∧ns.length≤1000∧Q (.int (ns.idxOf k:Nat)) H
variable {X:Cx}
theorem mt_indexT:MtM X "tuple.index" rIndexT:=by
 intro pins s σ H x vs v us Q I rx rv h
 obtain ⟨l,ns,k,rfl,rfl,hH,hk,hn,q⟩:=h
 cases rx
 obtain ⟨u,rfl,ru⟩:=rv.one
 obtain ⟨t,rfl⟩:=ru
 obtain ⟨its,r,pl,hz⟩:=I.tuple (SqT.of (K:=X.K) hH)
 obtain ⟨⟨cls,dd,data,sl⟩,e,hc,n,hd⟩:=(show s.heap.IsTuple l its.toArray from pl)
 simp only at hc hd
 subst hc hd
 have hi:IntsAre its ns:=intsAre_of r
 have hlen:=hi.length
 have hj:ns.idxOf k < ns.length:=List.idxOf_lt_length_iff.mpr hk
 refine call_meets PySem.F.slot_tuple_index ⟨_,e,rfl⟩ PySem.F.entry_tuple_index (PySem.F.args_tuple_index_2 _ _)
  (tuple_indexAt l its.toArray n dd sl (.int k t) (isInt k) (ns.idxOf k) (by simpa [hlen] using hj) ?_ ?_) ⟨e,fun y hy=>(eq_isInt k t hi y (by simpa using hy)).at _ _,?_⟩
 ·show isInt k its[ns.idxOf k]=true
  rw [isInt_at k hi _ (by walk_at"q") hj]
  simpa using List.getElem_idxOf hj
 ·intro j hjs hlt
  show isInt k its[j]=false
  rw [isInt_at k hi j (by simpa using hjs) (by walk_at"q")]
  exact ne_of_lt_idxOf hlt _
 ·exact ⟨.int _,H,I.tok _,⟨_,rfl⟩,q⟩
end L2

namespace Ep
open PySem L2 PySem.SeqAt PyProof.Rows
def KeepM (ws:List (Int × Int)) (hs:List Int):Prop:=∀ w∈ws,(w.1∈hs↔w.2∈hs)
def inM (hs:List Int) (ws:List (Int × Int)):List (Int × Int):=(ws.filter fun w=>decide (w.1∈hs)).map fun w=>(((hs.idxOf w.1:Nat):Int),((hs.idxOf w.2:Nat):Int))
theorem inM_snoc (hs:List Int) (ws:List (Int × Int)) (w:Int × Int):inM hs (ws ++ [w])=inM hs ws ++ (if w.1∈hs then [(((hs.idxOf w.1:Nat):Int),((hs.idxOf w.2:Nat):Int))] else []):=by
 unfold inM
 rw [List.filter_append,List.map_append]
 by_cases c:w.1∈hs <;> simp [c]
theorem inM_len (hs:List Int) (ws:List (Int × Int)):(inM hs ws).length≤ws.length:=by
 unfold inM
 rw [List.length_map]
 exact List.length_filter_le _ _
theorem inM_ok {hs:List Int} {ws:List (Int × Int)} (k:KeepM ws hs) (ne:∀ w∈ws,w.1≠w.2):WOk (hs.length:Int) (inM hs ws):=by
 intro v hv
 unfold inM at hv
 obtain ⟨w,hw,rfl⟩:=List.mem_map.mp hv
 obtain ⟨hw,c⟩:=List.mem_filter.mp hw
 have c1:w.1∈hs:=by simpa using c
 have c2:w.2∈hs:=(k w hw).mp c1
 have i1:=List.idxOf_lt_length_iff.mpr c1
 have i2:=List.idxOf_lt_length_iff.mpr c2
 refine ⟨by show (0:Int)≤_;walk_at"q", by show ((hs.idxOf w.1:Nat):Int) < _;walk_at"q", by show (0:Int)≤_;walk_at"q", by show ((hs.idxOf w.2:Nat):Int) < _;walk_at"q", fun z=>?_⟩
 have z':hs.idxOf w.1=hs.idxOf w.2:=Int.ofNat.inj z
 have e1:=List.getElem_idxOf i1
 have e2:=List.getElem_idxOf i2
 refine ne w hw ?_
 rw [← e1,← e2]
 simp only [z']
inductive SpKeepP (vs:List V) (H:Hp) (Q:VK):Prop
 | mk (t h:Addr) (rs:List V) (ws:List (Int × Int)) (hs:List Int) (h1:vs=[.ref t,.ref h]) (h2:H t=some (.tup rs)) (h3:Refs H rs ws) (h4:ws.length≤100) (h5:H h=some (.tup (hs.map V.int))) (h6:∀ (b:Bool) (H':Hp),Same H H'→(b=true↔KeepM ws hs)→Q (.bl b) H'):SpKeepP vs H Q
def spKeep:Sp:=fun vs H Q _=>SpKeepP vs H Q
inductive SpWithinP (vs:List V) (H:Hp) (Q:VK):Prop
 | mk (t h:Addr) (rs:List V) (ws:List (Int × Int)) (hs:List Int) (h1:vs=[.ref h,.ref t]) (h2:H t=some (.tup rs)) (h3:Refs H rs ws) (h4:ws.length≤100) (h5:H h=some (.tup (hs.map V.int))) (h6:hs.length≤100) (h7:KeepM ws hs) (h8:∀ (v:V) (H':Hp),Same H H'→Net H' v (hs.length:Int) (inM hs ws)→Q v H'):SpWithinP vs H Q
def spWithin:Sp:=fun vs H Q _=>SpWithinP vs H Q
theorem lanes_all {wide:Int}:∀ {ns:List Int},(∀ n∈ns,0≤n∧n < wide)→(ns.map V.int).all (laneB wide)=true
 | [],_=>rfl
 | n :: r,h=>by
  rw [List.map_cons,List.all_cons,Bool.and_eq_true]
  exact ⟨decide_eq_true (h n (by simp)),lanes_all fun m hm=>h m (List.mem_cons_of_mem _ hm)⟩
inductive SpAreLanesGP (vs:List V) (H:Hp) (Q:VK):Prop
 | mk (wide:Int) (x:V) (h1:vs=[.int wide,x]) (h2:TupT H x) (h3:∀ (b:Bool) (H':Hp),Same H H'→(b=true↔∃ ns,LanesT H wide x ns)→Q (.bl b) H'):SpAreLanesGP vs H Q
def spAreLanesG:Sp:=fun vs H Q _=>SpAreLanesGP vs H Q
inductive SpAreHalvesGP (vs:List V) (H:Hp) (Q:VK):Prop
 | mk (wide:Int) (x y:V) (h1:vs=[.int wide,x,y]) (h2:TupT H x) (h3:TupT H y) (h30:1≤wide) (h4:wide≤8) (h5:∀ (b:Bool) (H':Hp),Same H H'→(b=true↔∃ ns ms,HalfT H wide x y ns ms)→Q (.bl b) H'):SpAreHalvesGP vs H Q
def spAreHalvesG:Sp:=fun vs H Q _=>SpAreHalvesGP vs H Q
theorem map_int_inj:∀ {ns ms:List Int},ns.map V.int=ms.map V.int→ns=ms
 | [],[],_=>rfl
 | [],_ :: _,h=>by simp at h
 | _ :: _,[],h=>by simp at h
 | a :: ns,b :: ms,h=>by
  rw [List.map_cons,List.map_cons] at h
  obtain ⟨e,r⟩:=List.cons.inj h
  rw [V.int.inj e,map_int_inj r]
theorem rng_sorted (wide:Int):(rngL 0 wide).Pairwise (·≤·):=by
 unfold rngL
 rw [List.pairwise_map]
 exact List.pairwise_lt_range.imp fun h=>by walk_at"q"
theorem sorted_rng {xs ys:List Int} {wide:Int} (pm:ys.Perm xs) (pw:ys.Pairwise (·≤·)) (h:xs.Perm (rngL 0 wide)):ys=rngL 0 wide :=
 List.Perm.eq_of_pairwise (le:=(·≤·)) (fun a b _ _ h1 h2=>Int.le_antisymm h1 h2) pw (rng_sorted wide) (pm.trans h)
inductive Pap where
 | one | all | halves (k:Int) (a b:List Int) (p q:Pap)
def Pap.dep:Pap→Nat
 | .one=>0
 | .all=>0
 | .halves _ _ _ p q=>1 + max p.dep q.dep
def PapAt (H:Hp):V→Pap→Prop
 | x,.one=>∃ t,x=.ref t∧H t=some (.tup [.str "one"])
 | x,.all=>∃ t,x=.ref t∧H t=some (.tup [.str "all"])
 | x,.halves k a b p q=>∃ t o u y z,x=.ref t∧H t=some (.tup [.str "halves", .int k,.ref o,.ref u,y,z])∧H o=some (.tup (a.map V.int))∧H u=some (.tup (b.map V.int))∧a.length≤20∧b.length≤20∧PapAt H y p∧PapAt H z q
theorem PapAt.same {H H':Hp} (s:Same H H'):∀ {x:V} {p:Pap},PapAt H x p→PapAt H' x p
 | _,.one,⟨t,e,h⟩=>⟨t,e,s _ _ h⟩
 | _,.all,⟨t,e,h⟩=>⟨t,e,s _ _ h⟩
 | _,.halves ..,⟨t,o,u,y,z,e,h,ho,hu,la,lb,hp,hq⟩=>⟨t,o,u,y,z,e,s _ _ h,s _ _ ho,s _ _ hu,la,lb,PapAt.same s hp,PapAt.same s hq⟩
def HalfM (wide:Int) (a b:List Int):Prop:=(∀ n∈a,0≤n∧n < wide)∧(∀ n∈b,0≤n∧n < wide)∧a.length=b.length∧(a ++ b).Perm (rngL 0 wide)
def ShowsM:Int→List (Int × Int)→Pap→Prop
 | wide,_,.one=>wide=1
 | wide,ws,.all=>AsTold wide ws
 | wide,ws,.halves k a b p q=>0≤k∧k≤ws.length∧HalfM wide a b∧KeepM (ws.take k.toNat) a∧PutM wide (ws.drop k.toNat) a b∧ShowsM a.length (inM a (ws.take k.toNat)) p∧ShowsM b.length (inM b (ws.take k.toNat)) q
theorem half_iff {H:Hp} {wide:Int} {o u:Addr} {a b:List Int} (ho:H o=some (.tup (a.map V.int))) (hu:H u=some (.tup (b.map V.int))):(∃ ns ms,HalfT H wide (.ref o) (.ref u) ns ms)↔HalfM wide a b:=by
 constructor
 ·rintro ⟨ns,ms,⟨_,e1,k1,l1⟩,⟨_,e2,k2,l2⟩,e,pm⟩
  cases e1;cases e2
  rw [ho] at k1
  rw [hu] at k2
  obtain rfl:=map_int_inj (HO.tup.inj (Option.some.inj k1))
  obtain rfl:=map_int_inj (HO.tup.inj (Option.some.inj k2))
  exact ⟨l1,l2,e,pm⟩
 ·rintro ⟨l1,l2,e,pm⟩
  exact ⟨a,b,⟨o,rfl,ho,l1⟩,⟨u,rfl,hu,l2⟩,e,pm⟩
theorem tupT_ints {H:Hp} {o:Addr} {a:List Int} (h:H o=some (.tup (a.map V.int))) (l:a.length≤20):TupT H (.ref o) :=
 ⟨.inr (.tup h),fun b xs e k=>by
  cases e
  rw [h] at k
  obtain rfl:=HO.tup.inj (Option.some.inj k)
  refine ⟨by rw [List.length_map];exact l,fun y hy=>?_⟩
  obtain ⟨n,_,rfl⟩:=List.mem_map.mp hy
  exact .inl ⟨n,rfl⟩⟩
theorem papT_str {H:Hp} {t:Addr} {x:Str} {xs:List V} (h:H t=some (.tup (.str x :: xs))):PapT H (.ref t) :=
 ⟨.inr (.tup h),fun b ys e k y hy=>by
  cases e;rw [h] at k;cases k;cases hy;exact .inr (.str _)⟩
theorem KeepM.other {wide:Int} {ws:List (Int × Int)} {a b:List Int} (h:HalfM wide a b) (ok:WOk wide ws) (k:KeepM ws a):KeepM ws b:=by
 have key:∀ x:Int,0≤x→x < wide→(x∈b↔x ∉ a):=fun x h0 h1=>by
  obtain ⟨_,_,_,pm⟩:=h
  have nd:(a ++ b).Nodup:=pm.nodup_iff.mpr (by
   unfold rngL
   refine List.Pairwise.map _ (fun i j hij=>?_) (List.nodup_range (n:=(wide - 0).toNat))
   intro e
   exact hij (by walk_at"q"))
  have mem:x∈a ++ b:=pm.mem_iff.mpr (by
   unfold rngL
   exact List.mem_map.mpr ⟨x.toNat,List.mem_range.mpr (by walk_at"q"),by walk_at"q"⟩)
  obtain ⟨_,_,dj⟩:=List.nodup_append.mp nd
  constructor
  ·exact fun hb ha=>dj x ha x hb rfl
  ·intro hn
   rcases List.mem_append.mp mem with z | z
   ·exact absurd z hn
   ·exact z
 intro w hw
 obtain ⟨o1,o2,o3,o4,_⟩:=ok w hw
 rw [key _ o1 o2,key _ o3 o4]
 exact not_congr (k w hw)
end Ep

namespace Ep
open PySem L2 PySem.SeqAt PyProof.Rows
def papM:Nat→Pap
 | 0=>.one
 | k + 1=>.halves (2 * ((foldM k).length:Int)) (rngL 0 (pw k)) (rngL (pw k) (pw (k + 1))) (papM k) (papM k)
theorem put_id8 (xs:List Int) (h:xs.length=8):putL 8 ((rngL 0 4 ++ rngL 4 8).zip xs)=xs:=by
 obtain ⟨c0,c1,c2,c3,c4,c5,c6,c7,rfl⟩:=list8 xs h
 rfl
theorem put_id4 (xs:List Int) (h:xs.length=4):putL 4 ((rngL 0 2 ++ rngL 2 4).zip xs)=xs:=by
 obtain ⟨c0,c1,c2,c3,rfl⟩:=list4 xs h
 rfl
theorem put8:PutM 8 (acrossM 8 ++ gapsM 2 8) (rngL 0 4) (rngL 4 8):=by
 refine ⟨by decide +kernel,fun i j _ _=>?_,by decide +kernel,by decide +kernel⟩
 unfold sumsM
 rw [show (8:Int).toNat=8 from rfl,show (rngL 0 4).length=4 from rfl,show (rngL 4 8).length=4 from rfl,put_id8 _ (by rw [List.length_append,levelM_len,levelM_len])]
 exact join8 (levelM_len _ _) (levelM_len _ _) (levelM_level (by decide) _) (levelM_level (by decide) _)
theorem put4:PutM 4 (acrossM 4 ++ gapsM 1 4) (rngL 0 2) (rngL 2 4):=by
 refine ⟨by decide +kernel,fun i j _ _=>?_,by decide +kernel,by decide +kernel⟩
 unfold sumsM
 rw [show (4:Int).toNat=4 from rfl,show (rngL 0 2).length=2 from rfl,show (rngL 2 4).length=2 from rfl,put_id4 _ (by rw [List.length_append,levelM_len,levelM_len])]
 exact join4 (levelM_len _ _) (levelM_len _ _) (levelM_level (by decide) _) (levelM_level (by decide) _)
theorem put2:PutM 2 [(0,1)] (rngL 0 1) (rngL 1 2):=by
 refine ⟨by decide +kernel,fun i j _ _=>?_,by decide +kernel,by decide +kernel⟩
 unfold sumsM
 exact fold1_level (putL_len ..)
theorem shows_fold:∀ {k:Nat},k≤3→ShowsM (pw k) (foldM k) (papM k)
 | 0,_=>rfl
 | 1,_=>⟨by decide,by decide,⟨by decide,by decide,by decide,by decide⟩,by unfold KeepM;decide,put2,rfl,rfl⟩
 | 2,_=>⟨by decide,by decide,⟨by decide,by decide,by decide,by decide⟩,by unfold KeepM;decide,put4,shows_fold (k:=1) (by decide),shows_fold (k:=1) (by decide)⟩
 | 3,_=>⟨by decide,by decide,⟨by decide,by decide,by decide,by decide⟩,by unfold KeepM;decide,put8,shows_fold (k:=2) (by decide),shows_fold (k:=2) (by decide)⟩
theorem papM_dep:∀ k,(papM k).dep=k
 | 0=>rfl
 | k + 1=>by show 1 + max (papM k).dep (papM k).dep=k + 1;rw [papM_dep k];walk_at"q"
theorem two_len (k:Nat):((foldM k ++ (foldM k).map (lift (pw k))).length:Int)=2 * ((foldM k).length:Int):=by
 rw [List.length_append,List.length_map]
 walk_at"q"
theorem half_lens {k:Nat} (h:k≤3):(rngL 0 (pw k)).length≤20∧(rngL (pw k) (pw (k + 1))).length≤20:=by
 have kc:k=0∨k=1∨k=2∨k=3:=by walk_at"q"
 rcases kc with z | z | z | z <;> subst z <;> decide
theorem FPap.at_ {H:Hp}:∀ {k:Nat} {x:V},k≤4→FPap H k x→PapAt H x (papM k)
 | 0,_,_,.one h=>⟨_,rfl,h⟩
 | k + 1,_,hk,.hlv h ho hu hx hy=>⟨_,_,_,_,_,rfl,by rw [← two_len];exact h,ho,hu,(half_lens (by walk_at"q")).1,(half_lens (by walk_at"q")).2,FPap.at_ (by walk_at"q") hx,FPap.at_ (by walk_at"q") hy⟩
inductive SpPaperP (n:Nat) (vs:List V) (H:Hp) (Q:VK):Prop
 | mk (k:Nat) (h1:vs=[.int (pw k)]) (h2:k < n) (h3:k≤3) (h4:∀ (x:V) (H':Hp),Same H H'→FPap H' k x→Q x H'):SpPaperP n vs H Q
def spPaper (n:Nat):Sp:=fun vs H Q _=>SpPaperP n vs H Q
theorem lane_t (vs:List V) (H:Hp) (Q:VK) (E:XK) (h:spIsLane vs H Q E):spLaneT vs H Q E:=by
 obtain ⟨wide,i,rfl,h0,h1,q⟩:=h
 refine ⟨wide,.int i,rfl,.inl ⟨i,rfl⟩,?_⟩
 rw [show laneB wide (.int i)=true from decide_eq_true ⟨h0,h1⟩]
 exact q
end Ep

namespace L2
open PySem PySem.Spec PyProof.Rows
section
variable {prog:Program} {w:World} {A:Around} {E:Value→Shared→Prop} {s:Shared}
theorem sorted_of {x:Value} {vs:List Value} {ns:List Int} {Q:Value→Shared→Prop} (hI:IntsAre vs ns) (h64:vs.length < 64)
  (hc:∀ {Q':List Value→Shared→Prop} {A':Around},A'.handled=A.handled→(∀ (h':Heap) (tk:Nat),(∀ b o',s.heap.get? b=some o'→h'.get? b=some o')→Q' vs { s with heap:=h',toks:=tk })→wpAny (model prog w) A' (collect x) Q' E s)
  (h:∀ (h':Heap) (tk:Nat) (out:Array Value) (ns':List Int) (e:Nat),(∀ b o',s.heap.get? b=some o'→h'.get? b=some o')→IntsAre out.toList ns'→ns'.Perm ns→ns'.Pairwise (·≤·) →
   (sortedHeap (h'.push (seqObj "list" vs.toArray 0)) h'.objs.size vs out).get? h'.objs.size=some (seqObj "list" out e)→Q (.ref h'.objs.size) { s with heap:=sortedHeap (h'.push (seqObj "list" vs.toArray 0)) h'.objs.size vs out,toks:=tk }) :
  wpAny (model prog w) A (call (.builtin "sorted") [x]) Q E s:=by
 refine Calls.call_function_entry kind_sorted plain_sorted entry_sorted (args_sorted1 _) ?_
 unfold Builtin.«sorted»
 refine wpAny_bind (m:=checkCount "sorted" 1 1 _) (wpAny_pure ?_)
 refine wpAny_bind (hc rfl fun h' tk hk=>?_)
 refine wpAny_bind (wpAny_newList ?_ (Nat.le_trans (Nat.le_of_lt h64) (lenLine (n:=64) (by decide))))
 have hoL:(h'.push (seqObj "list" vs.toArray 0)).get? h'.objs.size=some (seqObj "list" vs.toArray 0):=Heap.get?_push_size _ rfl
 refine wpAny_bind (wpAny_holding (wpAny_call_entry slot_list_sort ⟨_,hoL,rfl⟩ entry_list_sort (list_sort_tree hoL hI h64 fun out ns' a1 a2 a3=>⟨_,rfl,?_⟩) (args_list_sort _)))
 obtain ⟨e,he⟩:=sortedHeap_at (out:=out) hoL
 exact wpAny_pure ⟨_,rfl,h h' tk out ns' e hk a1 a2 a3 he⟩
end
inductive P_call_sortedT (K:PySem.W.Frag) (xs:List V) (H:Hp) (Q:VK):Prop
 | mk (p:Addr) (ns:List Int) (h1:xs=[.ref p]) (h2:SqT K H p (ns.map V.int)) (h3:ns.length < 64) (h4:∀ (l:Addr) (ns':List Int),H l=none→ns'.Perm ns→ns'.Pairwise (·≤·)→Q (.ref l) (upd H l (.lst (ns'.map V.int)))):P_call_sortedT K xs H Q
variable {X:Cx}
theorem call_sortedT:CallR X (.builtin "sorted") (P_call_sortedT X.K):=by
 intro pins s σ H xs us Q I r h
 obtain ⟨p,ns,rfl,hp,h64,q⟩:=h
 obtain ⟨u,rfl,ru⟩:=r.one
 cases ru
 obtain ⟨its,rv,pl,hz⟩:=I.tuple hp
 have hl:=rv.length
 rw [List.length_map] at hl
 obtain ⟨o,ho,hc,n,hd⟩:=(show s.heap.IsTuple p its.toArray from pl)
 refine sorted_of (vs:=its) (ns:=ns) (intsAre_of rv) (by walk_at"q") (fun _ k=>PySem.wpAny_collect_seq p (.inr rfl) ho hc hd (fun h' hk=>by have:=k h' s.toks hk;simpa using this) (by rw [List.size_toArray];exact Nat.le_trans (by walk_at"q") (lenLine (n:=64) (by decide)))) (fun h' tk out ns' e hk a1 a2 a3 he=>?_)
 have I1:Inv X pins σ H { s with heap:=h',toks:=tk }:=I.kept (t':=tk) hk
 have l2:=a2.length_eq
 refine ⟨.ref h'.objs.size,upd H h'.objs.size (.lst (ns'.map V.int)),I1.laid (t':=tk) (fun b o e=>?_) (Nat.le_refl _) ⟨?_,out.toList,e,vals_of_ints a1,?_⟩,rfl,q _ ns' (I1.hok.fresh (Nat.le_refl _)) a2 a3⟩
 ·have hlt:=Heap.lt_size e
  show (sortedHeap (h'.push (seqObj "list" its.toArray 0)) h'.objs.size its out).get? b=some o
  rw [sortedHeap_old (Nat.ne_of_lt hlt) (by rw [size_push'];exact Nat.lt_succ_of_lt hlt)]
  exact Heap.get?_push_of_some _ e
 ·rw [List.length_map]
  exact Nat.le_of_lt (small1000 (by walk_at"q"))
 ·rw [Array.toArray_toList]
  exact he
end L2

namespace L2
open PySem PySem.Spec PyProof.Rows
open PySem.W (CodeHd tabObj kla_fn kla_obj envX)
section
variable {X:Cx} {pins:List (Addr × Obj)} {σ:St} {H:Hp} {s:Shared} {A:Around} {E:Value→Shared→Prop} {Q:Value→Shared→Prop} {c P:Addr} {params:Arguments} {body:Expr} {scope:Scope} {pos:Pos} {clos:List (Str × Addr)}
end
section
variable {X:Cx} {pins:List (Addr × Obj)} {σ:St} {H:Hp} {s:Shared} {A:Around} {params:Arguments} {body:Expr} {scope:Scope} {x y qual:Str} {j:Nat} {f c' cy P:Addr} {pm ctv u:Value} {v wv:V} {tb:TE} {Q:VK} {q:Str × Int × Int}
end
section
variable {X:Cx} {pins:List (Addr × Obj)} {σ:St} {rows:List V} {l q S It:Addr} {J:Hp→Heap→Prop} {kf:Nat→Int}
end
end L2

namespace Ep
open PySem L2
end Ep
namespace L2
open PySem PySem.Spec PyProof.Rows
variable {X:Cx}
end L2

namespace Ep
open PySem L2 PySem.SeqAt
end Ep

namespace L2
theorem seq_by {a b:TS} {D:Ends} {σ:St} {H:Hp} (P:St→Hp→Prop) (ha:∀ N:St→Hp→Prop,(∀ σ H,P σ H→N σ H)→a { D with nx:=N } σ H) (hb:∀ σ H,P σ H→b D σ H):tSeq a b D σ H:=ha (b D) hb
end L2
namespace Ep
open PySem L2 PySem.SeqAt
end Ep

namespace Ep
open PySem L2 PySem.SeqAt
end Ep

namespace Ep
open PySem L2 PySem.SeqAt
def restr (c:List Int) (a:List Int):List Int:=a.map fun x=>c.getD x.toNat 0
theorem restr_len (c a:List Int):(restr c a).length=a.length:=by simp [restr]
end Ep

namespace Ep
open PySem L2 PySem.SeqAt PyProof.Rows
theorem PapAt.kt {H H':Hp} (s:KT H H'):∀ {x:V} {p:Pap},PapAt H x p→PapAt H' x p
 | _,.one,⟨t,e,h⟩=>⟨t,e,s _ _ h⟩
 | _,.all,⟨t,e,h⟩=>⟨t,e,s _ _ h⟩
 | _,.halves ..,⟨t,o,u,y,z,e,h,ho,hu,la,lb,hp,hq⟩=>⟨t,o,u,y,z,e,s _ _ h,s _ _ ho,s _ _ hu,la,lb,PapAt.kt s hp,PapAt.kt s hq⟩
end Ep

namespace L2
open PySem PySem.Spec PyProof.Rows
section
variable {X:Cx}
theorem px_cmpR {a b:Expr} {op:CmpOp} {ta:St→Hp→VK→XK→Prop} {tb:TE} {r:R2} {pos:Pos} (ho:OpR X.nox (compareOp op) r) (ha:PX X a ta) (hb:PE X.nox b tb) (hm:behindInMarks op b=false):PX X (.Compare a [op] [b] pos) (fun σ H Q E=>ta σ H (fun x H1=>tb σ H1 fun y H2=>r x y H2 Q) E):=by
 intro pins s σ H Q E xe I h hx
 have nox:∀ {α:Type} {t:Sem α} {Q:α→Shared→Prop} {s:Shared},wpAny (model X.prog X.w) X.A t Q (fun _ _=>False) s→wpAny (model X.prog X.w) X.A t Q xe s:=fun h=>wpAny_mono h (fun _ _ z=>z) fun _ _ z=>z.elim
 refine wpAny_Compare1 (thn (ha pins s σ H _ E xe I h hx) fun v s1 ⟨x,H1,I1,rx,q⟩=>?_) hm
 refine nox (thn (hb pins s1 σ H1 _ (I1.wish _) q) fun u s2 ⟨y,H2,I2,ry,q2⟩=>?_)
 refine nox (thn (ho pins s2 σ H2 x y v u _ I2 rx ry q2) fun v s3 ⟨z,H3,I3,rz,q3⟩=>?_)
 exact ⟨z,H3,I3.unwish,rz,q3⟩
end
end L2

namespace L2
open PySem PySem.Spec PyProof.Rows HT
section
variable {prog:Program} {w:World} {A:Around} {E:Value→Shared→Prop} {s:Shared}
theorem fm_congr {α β:Type} {f g:α→Option β}:∀ {l:List α},(∀ x∈l,f x=g x)→l.filterMap f=l.filterMap g
 | [],_=>rfl
 | a :: r,h=>by rw [List.filterMap_cons,List.filterMap_cons,h a List.mem_cons_self,fm_congr fun x hx=>h x (List.mem_cons_of_mem _ hx)]
theorem rev_pick (xs:Array Value):((List.range xs.size).filterMap fun (m:Nat)=>xs[((xs.size:Int) - 1 + (m:Int) * -1).toNat]?).toArray=xs.toList.reverse.toArray:=by
 have e:(List.range xs.size).filterMap (fun (m:Nat)=>xs[((xs.size:Int) - 1 + (m:Int) * -1).toNat]?)=((List.range xs.size).map fun k=>xs.size - 1 - k).filterMap (xs[·]?):=by
  rw [List.filterMap_map]
  refine fm_congr fun k hk=>?_
  have:=List.mem_range.mp hk
  show _=xs[xs.size - 1 - k]?
  rw [show ((xs.size:Int) - 1 + (k:Int) * -1).toNat=xs.size - 1 - k by walk_at"q"]
 rw [e,PySem.W.krv_range,List.filterMap_reverse,PySem.W.krv_all]
theorem places_rev (n:Nat):Builtin.Slice.slicePlaces ((n:Int) - 1) (-1) (-1)=n:=by
 unfold Builtin.Slice.slicePlaces
 have h1:¬ ((-1:Int) > 0):=by decide
 rw [if_neg h1,show (- -1:Int)=1 by decide,Int.ediv_one]
 split <;> walk_at"q"
theorem item_tuple_rev {t sl:Addr} {ys:Array Value} {tk:Tok} {Q:Value→Shared→Prop} (gt:IsTup s.heap t ys) (gs:s.heap.IsSliceOf sl .none .none (.int (-1) tk)) (hz:ys.size≤sizeLine)
  (h:Q (.ref s.heap.objs.size) { s with heap:=s.heap.push { cls:=.type "tuple", data:=.seq ys.toList.reverse.toArray } }):wpAny (model prog w) A (getItem (.ref t) (.ref sl)) Q E s:=by
 have htake:sizeOk (.seq ys.toList.reverse.toArray):=by
  show ys.toList.reverse.toArray.size≤sizeLine
  rw [List.size_toArray,List.length_reverse,Array.length_toList]
  exact hz
 obtain ⟨os,g1,g2,g3⟩:=id gs
 have gT:s.TypeIs (.ref sl) "slice" := ⟨os,g1,g2⟩
 unfold getItem
 try with_reducible refine wpAny_holding ?_
 first | refine wpAny_bind (wpAny_pure ?_) | skip
 refine wpAny_bind (wpAny_sequenceKey gt.typeIs (by decide) (wpAny_bind (wpAny_callSpecial?_slot (name:=Str.ofString "__getitem__") gt.typeIs PyProof.Rows.slot_tuple_getitem (wpAny_call_entry PyProof.Rows.slot_tuple_getitem gt.typeIs entry_tuple_getitem ?_ (args_tuple_getitem _ _)))))
 show wpAny _ A.in1 (Builtin.Tuple.tupleItemsOf (.ref t) >>= _) _ _ s
 refine wpAny_bind (tupleItemsOf_ gt (wpAny_bind (wpAny_typeOf gT ?_)))
 rw [if_pos (by decide)]
 refine wpAny_bind ?_
 unfold Builtin.Slice.sliceApplied Builtin.Slice.sliceFields
 refine wpAny_bind (wpAny_bind (wpAny_field g1 g3 (x:=.none) rfl (wpAny_bind (wpAny_field g1 g3 (x:=.none) rfl (wpAny_bind (wpAny_field g1 g3 (x:=.int (-1) tk) rfl (wpAny_pure ?_)))))))
 refine wpAny_bind (slicePart_ (.int (-1) tk) ?_)
 show wpAny _ _ (if ((-1:Int) == 0)=true then _ else _) _ _ s
 rw [if_neg (by decide)]
 refine wpAny_bind (slicePart_ .none (wpAny_bind (slicePart_ .none (wpAny_bind (wpAny_pure ?_)))))
 show wpAny _ _ (pure ((ys.size:Int) - 1,(-1:Int),Builtin.Slice.slicePlaces ((ys.size:Int) - 1) (-1) (-1))) _ _ s
 rw [places_rev]
 refine wpAny_pure ?_
 have hno:¬ ((((ys.size:Int) - 1 == 0) && ((-1:Int) == 1) && (ys.size == ys.size))=true):=by
  intro q
  rw [Bool.and_eq_true,Bool.and_eq_true] at q
  exact absurd q.1.2 (by decide)
 show wpAny _ _ (if (((ys.size:Int) - 1 == 0) && ((-1:Int) == 1) && (ys.size == ys.size))=true then _ else _) _ _ s
 rw [if_neg hno,rev_pick]
 first
  | exact wpAny_bind (m:=Builtin.Tuple.tupleExact _) (wpAny_newObj_type (wpAny_pure ⟨_,rfl,wpAny_pure h⟩) htake)
  | exact wpAny_bind (m:=Builtin.Tuple.tupleExact _) (wpAny_newObj_type (wpAny_bind (wpAny_pure (wpAny_pure ⟨_,rfl,wpAny_pure h⟩))) htake)
  | exact wpAny_bind (wpAny_bind (m:=Builtin.Tuple.tupleExact _) (wpAny_newObj_type (wpAny_pure (wpAny_pure ⟨_,rfl,wpAny_pure h⟩)) htake))
  | exact wpAny_bind (wpAny_bind (m:=Builtin.Tuple.tupleExact _) (wpAny_newObj_type (wpAny_pure ⟨_,rfl,wpAny_pure h⟩) htake))
end
section
variable {X:Cx}
inductive RevTP (K:PySem.W.Frag) (x y:V) (H:Hp) (Q:VK):Prop
 | mk (a:Addr) (xs:List V) (h1:x=.ref a) (h2:y=.int (-1)) (h3:SqT K H a xs) (h4:∀ l,H l=none→Q (.ref l) (upd H l (.tup xs.reverse))):RevTP K x y H Q
theorem pe_sliceRevT {e st:Expr} {te ts:TE} {p2 pos:Pos} (he:PE X e te) (hs:PE X st ts) :
  PE X (.Subscript e (.Slice none none (some st) p2) pos) (fun σ H Q=>te σ H fun x H1=>ts σ H1 fun y H2=>RevTP X.K x y H2 Q):=by
 intro pins s σ H Q I h
 refine Subscript_ (thn (he pins s σ H _ I h) fun v s1 ⟨x,H1,I1,r1,q1⟩=>?_)
 refine wpAny_Slice ?_
 rw [evalPart_none]
 refine wpAny_pure ?_
 refine wpAny_pure ?_
 rw [evalPart_some]
 refine thn (hs pins s1 σ H1 _ I1 q1) fun vst s3 ⟨y,H3,I3,r3,q3⟩=>?_
 obtain ⟨a,xs,rfl,rfl,hq,q⟩:=q3
 cases r1
 obtain ⟨tk,rfl⟩:=r3
 have I4:Inv X pins σ H3 { s3 with heap:=s3.heap.push { cls:=.type "slice", data:=.fields #[.none,.none,.int (-1) tk] } }:=I3.kept (t':=s3.toks) fun b ob q=>Heap.get?_push_of_some _ q
 obtain ⟨its,r,ht,hz⟩:=I4.tuple hq
 have hlen:=r.length
 show wpAny (model X.prog X.w) X.A (subscriptTail e (.Slice none none (some st) p2) (.ref a) (.ref s3.heap.objs.size)) (EP X pins σ Q) X.xe { s3 with heap:=s3.heap.push { cls:=.type "slice", data:=.fields #[.none,.none,.int (-1) tk] } }
 refine tail_any (ops:=[.ref a,.ref s3.heap.objs.size]) ht.typeIs PyProof.Rows.slot_tuple_getitem.lookup ?_ (by with_unfolding_all rfl)
 refine item_tuple_rev ht (Heap.IsSliceOf.new ..) (by rw [List.size_toArray] <;> walk_at"q") ?_
 refine ⟨.ref _,_,I4.laid (t':=s3.toks) (o:=.tup xs.reverse) (fun b ob q=>Heap.get?_push_of_some _ q) (Nat.le_refl _) ?_,rfl,q _ (I4.hok.fresh (Nat.le_refl _))⟩
 exact ⟨by rw [List.length_reverse];exact hz,_,rev_vals r,IsTupD.new _ _⟩
inductive Par3P (i j l:Nat) (D:Ends) (σ:St) (vs:List V) (H:Hp):Prop
 | mk (v w z:V) (h1:vs=[v,w,z]) (h2:D.nx (((σ.set i (some v)).set j (some w)).set l (some z)) H):Par3P i j l D σ vs H
theorem ps_par3 {i j l:Nat} {x y z:Str} {a b c:Expr} {ta:TA} {pos px py pz pt:Pos} {kt k2 pt2} (hc:X.calm=true) (hN:X.N.Nodup) (hi:X.N[i]?=some x) (hj:X.N[j]?=some y) (hl:X.N[l]?=some z) (hij:i≠j) (hil:i≠l) (hjl:j≠l)
  (hx:X.env.scope.names.lookup x=some .local) (hy:X.env.scope.names.lookup y=some .local) (hz:X.env.scope.names.lookup z=some .local) (ha:PA X [a,b,c] ta)
  (hw:swappedStores [.Tuple [.Name x px,.Name y py,.Name z pz] kt pt] (.Tuple [a,b,c] k2 pt2) X.env=pure (some [x,y,z]))
  (hs:swapsWithSole [.Tuple [.Name x px,.Name y py,.Name z pz] kt pt] (.Tuple [a,b,c] k2 pt2) pos.line X.env=pure false:=by rfl) :
  PS X (.Assign [.Tuple [.Name x px,.Name y py,.Name z pz] kt pt] (.Tuple [a,b,c] k2 pt2) pos) (fun D σ H=>ta σ H fun vs H1=>Par3P i j l D σ vs H1):=by
 intro pins s σ H D I h
 rw [exec_Assign_arm]
 refine wpAny_bind (wpAny_standAt ?_)
 rw [hs]
 refine wpAny_bind (wpAny_pure ?_)
 rw [if_neg (by decide)]
 refine wpAny_bind (Tuple_ (thn (ha _ pins s σ H _ I h) fun us s1 ⟨vs,H1,I1,r1,q1⟩=>?_))
 obtain ⟨v,w,t,e1,q1⟩:=q1
 subst e1
 obtain ⟨u1,u2,u3,rfl,rv,rw',rt⟩:∃ u1 u2 u3,us=[u1,u2,u3]∧RelV v u1∧RelV w u2∧RelV t u3:=by
  cases r1 with
  | cons p q =>
   cases q with
   | cons p' q' =>
    cases q' with
    | cons p3 q3 =>
     cases q3
     exact ⟨_,_,_,rfl,p,p',p3⟩
 refine wpAny_newObj_type ?_ (by show 3≤sizeLine;decide)
 have I2:Inv X pins σ H1 { s1 with heap:=s1.heap.push { cls:=.type "tuple", data:=.seq [u1,u2,u3].toArray } }:=I1.kept (t':=s1.toks) fun b o e=>Heap.get?_push_of_some _ e
 rw [hw]
 refine wpAny_bind (wpAny_pure ?_)
 show wpAny (model X.prog X.w) X.A (do rule "assign.swapped-stores"; let items ← unpackItems (.ref s1.heap.objs.size) 3 none;assignInOrder [fun v=>bindName X.env z v,fun v=>bindName X.env y v,fun v=>bindName X.env x v] items.reverse;pure Flow.next) _ _ _
 refine wpAny_bind (wpAny_rule (wpAny_bind (unpackItems_tuple (items:=#[u1,u2,u3]) (I.ok.hd hc) (IsTup.new s1.heap _) fun h' hx'=>?_)))
 have I3:=I2.kept (h':=h') (t':=s1.toks) fun b o e=>hx' b o (Nat.ne_of_lt (Heap.lt_size e)) e
 show wpAny _ _ (assignInOrder [fun v=>bindName X.env z v,fun v=>bindName X.env y v,fun v=>bindName X.env x v] [u3,u2,u1] >>= fun _=>pure Flow.next) _ _ _
 refine wpAny_bind (assignInOrder_cons (wpAny_bindName (store_ok I3 hN hl (.inl hz) rt (fun s2 I4=>?_) (.inr hz))))
 refine assignInOrder_cons (wpAny_bindName (store_ok I4 hN hj (.inl hy) rw' (fun s3 I5=>?_) (.inr hy)))
 refine assignInOrder_cons (wpAny_bindName (store_ok I5 hN hi (.inl hx) rv (fun s4 I6=>assignInOrder_nil (wpAny_pure ?_)) (.inr hx)))
 have e:((σ.set l (some t)).set j (some w)).set i (some v)=((σ.set i (some v)).set j (some w)).set l (some t):=by
  rw [List.set_comm _ _ (Ne.symm hij),List.set_comm _ _ (Ne.symm hil),List.set_comm _ _ (Ne.symm hjl)]
 rw [e] at I6
 exact ⟨_,H1,I6,q1⟩
inductive SortRP (K:PySem.W.Frag) (x y:V) (H:Hp) (Q:VK):Prop
 | mk (p:Addr) (ns:List Int) (h1:x=.ref p) (h2:y=.bl true) (h3:SqL K H p (ns.map V.int)) (h4:ns.length < 64) (h5:∀ (l:Addr) (ns':List Int),H l=none→ns'.Perm ns→ns'.Pairwise (· ≥ ·)→Q (.ref l) (upd H l (.lst (ns'.map V.int)))):SortRP K x y H Q
theorem pe_sortedR {e b:Expr} {te tb:TE} {p pos kp:Pos} (hg:Gl X "sorted") (hm:X.mg "sorted" = none) (he:PE X e te) (hb:PE X b tb)
  (hs:starEach [e] X.env=(false,eval e X.env) :: starEach [] X.env:=by rfl) :
  PE X (.Call (.Name "sorted" p) [e] [⟨some "reverse", b,kp⟩] pos) (fun σ H Q=>te σ H fun x H1=>tb σ H1 fun y H2=>SortRP X.K x y H2 Q):=by
 intro pins s σ H Q I h
 refine wpAny_Call_Name_kw (ld_blt I hg hm boot_sorted ?_ (by decide) (by decide))
 have hpa:PA X [e] (tCons te tNil):=pa_cons he pa_nil hs
 refine callWith_kw (he:=by rw [hs];rfl) (hplain:=by rw [hs];rfl) (thn (hpa pos pins s σ H (fun xs H2=>match xs with | [v]=>tb σ H2 fun y H3=>SortRP X.K v y H3 Q | _=>False) I h) fun us s1 ⟨vs,H1,I1,r,q⟩=>?_)
 match vs,q,r with
 | [v],q,r =>
  obtain ⟨u,rfl,ru⟩:=r.one
  show wpAny _ _ (evalAll [(do let v ← eval b X.env;standAt pos;pure v)]) _ _ _
  refine wpAny_evalAll_cons (wpAny_bind (thn (hb pins s1 σ H1 _ I1 q) fun vy s2 ⟨y,H2,I2,ry,q2⟩=>wpAny_bind (wpAny_standAt (wpAny_pure (wpAny_evalAll_nil ?_)))))
  obtain ⟨p,ns,rfl,rfl,hp,h64,qq⟩:=q2
  cases ru
  cases ry
  show wpAny _ _ (call (.builtin "sorted") [.ref p] [(Str.ofString "reverse", .bool true)]) _ _ _
  obtain ⟨its,rv,pl,hz⟩:=I2.list hp
  have hl:=rv.length
  rw [List.length_map] at hl
  refine sorted_ints_rev pl.isList (intsAre_of rv) (by walk_at"q") fun out ns' a1 a2 a3=>?_
  obtain ⟨e,he⟩:=sortedAll_at s2.heap its out
  have l2:=a2.length_eq
  refine ⟨.ref (s2.heap.objs.size + 1),upd H2 (s2.heap.objs.size + 1) (.lst (ns'.map V.int)),I2.laid (t':=s2.toks) (fun b o e=>sortedAll_old e) (Nat.le_succ _) ⟨?_,out.toList,e,vals_of_ints a1,?_⟩,rfl,qq _ ns' (I2.hok.fresh (Nat.le_succ _)) a2 (by simpa [Ordered] using a3)⟩
  ·rw [List.length_map]
   exact Nat.le_of_lt (small1000 (by walk_at"q"))
  ·rw [Array.toArray_toList]
   exact he
end
end L2
namespace Ep
open PySem L2 PySem.SeqAt PyProof.Rows
inductive SpBentXP (vs:List V) (H:Hp) (Q:VK):Prop
 | mk (p:Addr) (wide:Int) (a:Addr) (ws:List (Int × Int)) (h1:vs=[.ref p,.int wide,.ref a]) (h2:Pen H p) (h3:1≤wide) (h4:wide≤8) (h5:a≠p) (h6:WsL H a ws) (h7:WOk wide ws) (h8:ws.length≤200) (h9:∀ (l:Addr) (us:List (Int × Int)) (H':Hp),l≠p→Kp p H H'→Pen H' p→WsL H' l us→WOk wide us→us.length≤ws.length + 2→Q (.ref l) H'):SpBentXP vs H Q
def spBentX:Sp:=fun vs H Q _=>SpBentXP vs H Q
theorem cut_two {rs:List V} {n:Int} (h0:0≤n) (h1:n < rs.length):(cutV rs none (some n)).length + (cutV rs (some (n + 1)) none).length + 1=rs.length:=by
 obtain ⟨k,rfl⟩:∃ k:Nat,n=(k:Int):=⟨n.toNat,by walk_at"q"⟩
 have e1:HT.sIx rs.length rs.length (some (k:Int))=min k rs.length:=HT.sIx_nat _ _ k
 have e2:HT.sIx rs.length 0 (some ((k:Int) + 1))=min (k + 1) rs.length:=HT.sIx_nat _ _ (k + 1)
 unfold cutV
 rw [e1,e2,HT.sIx_none,HT.sIx_none,List.length_take,List.length_drop,List.length_take,List.length_drop]
 walk_at"q"
theorem cut_both {rs:List V} {n:Int} (h0:0≤n) (h1:n≤rs.length):(cutV rs none (some n)).length + (cutV rs (some n) none).length=rs.length:=by
 obtain ⟨k,rfl⟩:∃ k:Nat,n=(k:Int):=⟨n.toNat,by walk_at"q"⟩
 have e1:HT.sIx rs.length rs.length (some (k:Int))=min k rs.length:=HT.sIx_nat _ _ k
 have e2:HT.sIx rs.length 0 (some (k:Int))=min k rs.length:=HT.sIx_nat _ _ k
 unfold cutV
 rw [e1,e2,HT.sIx_none,HT.sIx_none,List.length_take,List.length_drop,List.length_take,List.length_drop]
 walk_at"q"
theorem level_pw {cs:List Int} (h:Level cs):cs.Pairwise (· ≥ ·):=by
 rw [List.pairwise_iff_getElem]
 intro i j hi hj hij
 have:=(h i j (by walk_at"q") hj).1
 simp only [List.getD,List.getElem?_eq_getElem hi,List.getElem?_eq_getElem hj,Option.getD_some] at this
 walk_at"q"
theorem level_sorted {cs ns:List Int} (h:Level cs) (pm:ns.Perm cs) (pw:ns.Pairwise (· ≥ ·)):cs=ns :=
 List.Perm.eq_of_pairwise (le:=(· ≥ ·)) (fun a b _ _ h1 h2=>Int.le_antisymm h2 h1) (level_pw h) pw pm.symm
theorem at_last {cs:List Int} (h:1≤cs.length):atI (cs.map V.int) (-1)=some (.int (cs.getD (cs.length - 1) 0)):=by
 have hl:cs.length - 1 < cs.length:=by walk_at"q"
 have e:ixN (cs.map V.int).length (-1)=some (cs.length - 1):=by
  unfold ixN
  rw [List.length_map]
  simp
  walk_at"q"
 unfold atI
 rw [e]
 simp [List.getD,hl]
inductive SpExchP (vs:List V) (H:Hp) (Q:VK):Prop
 | mk (x:V) (p:Pap) (h1:vs=[x]) (h2:PapAt H x p) (h3:∀ (y:V) (q:Pap) (H':Hp),Same H H'→PapAt H' y q→q.dep≤p.dep→Q y H'):SpExchP vs H Q
def spExch:Sp:=fun vs H Q _=>SpExchP vs H Q
inductive SpOtherP (vs:List V) (H:Hp) (Q:VK):Prop
 | mk (p:Addr) (wide way:Int) (a:Addr) (ws:List (Int × Int)) (k lane far:Int) (h1:vs=[.ref p,.int wide,.int way,.ref a,.int k,.int lane,.int far]) (h2:Pen H p) (h3:1≤wide) (h4:wide≤8) (h5:a≠p) (h6:WsL H a ws) (h7:WOk wide ws) (h8:ws.length≤24) (h9:0≤k) (ha:k≤100) (hb:way=13→k < ws.length) (hc:way=11→LaneOk wide (lane,far)∧k≤ws.length)
  (hd:∀ (T l:Addr) (us:List (Int × Int)) (k':Int) (H':Hp),l≠p→Kp p H H'→Pen H' p→H' T=some (.tup [.ref l,.int k'])→WsL H' l us→WOk wide us→us.length≤40→Q (.ref T) H'):SpOtherP vs H Q
def spOther:Sp:=fun vs H Q _=>SpOtherP vs H Q
inductive SpDrawn5P (vs:List V) (H:Hp) (Q:VK):Prop
 | mk (p:Addr) (k:Nat) (h1:vs=[.ref p,.int (pw k)]) (h2:k≤3) (h3:Pen H p) (h4:∀ (T l:Addr) (x:V) (ws:List (Int × Int)) (pp:Pap) (H':Hp),l≠p→Kp p H H'→Pen H' p→H' T=some (.tup [.ref l,x])→WsL H' l ws→WOk (pw k) ws→ws.length≤40→PapAt H' x pp→pp.dep≤3→Q (.ref T) H'):SpDrawn5P vs H Q
def spDrawn5:Sp:=fun vs H Q _=>SpDrawn5P vs H Q
end Ep

namespace Ep
open PySem L2 PySem.SeqAt
theorem ord_perm {wide:Int} {o o':List Int} (h:IsOrd wide o) (p:o'.Perm o):IsOrd wide o':=⟨p.length_eq.trans h.len,p.nodup_iff.mpr h.nd,fun x=>p.mem_iff.trans (h.mem x)⟩
theorem sqIx {z:Int} {n:Nat} (h0:0≤z) (h1:z < n):seqIndex? z n=some z.toNat:=by
 have n0:¬ z < 0:=by walk_at"q"
 simp [seqIndex?,n0,h0,h1]
theorem era_map (f:Int→V):∀ (l:List Int) (k:Nat),(l.map f).eraseIdx k=(l.eraseIdx k).map f
 | [],_=>rfl
 | _ :: _,0=>rfl
 | a :: l,k + 1=>by
  rw [List.map_cons,List.eraseIdx_cons_succ,List.eraseIdx_cons_succ,List.map_cons,era_map f l k]
theorem era_perm {α:Type}:∀ {l:List α} {k:Nat} {y:α},l[k]?=some y→(y :: l.eraseIdx k).Perm l
 | [],_,_,h=>by simp at h
 | a :: l,0,y,h=>by
  obtain rfl:a=y:=by simpa using h
  exact List.Perm.refl _
 | a :: l,k + 1,y,h=>by
  have ih:=era_perm (l:=l) (k:=k) (y:=y) (by simpa using h)
  rw [List.eraseIdx_cons_succ]
  exact (List.Perm.swap a y _).trans (ih.cons a)
theorem ord_pop {wide:Int} {fs ls:List Int} (h:IsOrd wide (fs ++ ls)) {k:Nat} {y:Int} (hk:ls[k]?=some y):IsOrd wide ((fs ++ [y]) ++ ls.eraseIdx k):=by
 refine ord_perm h ?_
 rw [List.append_assoc]
 exact List.Perm.append_left fs (era_perm hk)
theorem ord_rng {wide:Int} (h:0≤wide):IsOrd wide (rngL 0 wide):=by
 unfold rngL
 rw [Int.sub_zero]
 refine ⟨by simp,?_,fun x=>?_⟩
 ·rw [List.Nodup,List.pairwise_map]
  exact List.nodup_range.imp fun hab e=>hab (by walk_at"q")
 ·rw [List.mem_map]
  constructor
  ·rintro ⟨k,hk,rfl⟩
   have:=List.mem_range.mp hk
   walk_at"q"
  ·rintro ⟨a,b⟩
   exact ⟨x.toNat,List.mem_range.mpr (by walk_at"q"),by walk_at"q"⟩
end Ep

namespace Ep
open PySem L2 PySem.SeqAt
theorem pe_callC0 {X:Cx} {x:Str} {k:Nat} {ps:List Str} {sp:Sp} {p pos:Pos} (C:Callee X.prog X.w X.K X.mg X.base x k ps sp) (hr:Room k X.A) (hg:Gl X x) (hdb:(x == ("__debug__" : Str))=false:=by decide) :
  PE X (.Call (.Name x p) [] [] pos) (tCall sp [] E0 tNil):=by
 obtain ⟨f,fd,F,hb,hk,hm⟩:=C.ex
 exact pe_call0 F hr hg hm hk hb .nil pass0 hdb
inductive PapX where
 | one | all | no | hlv (z o t:V) (p q:PapX)
def PapX.dep:PapX→Nat
 | .one=>0
 | .all=>0
 | .no=>0
 | .hlv _ _ _ p q=>1 + max p.dep q.dep
def PxAt (H:Hp):V→PapX→Prop
 | x,.one=>∃ t,x=.ref t∧H t=some (.tup [.str "one"])
 | x,.all=>∃ t,x=.ref t∧H t=some (.tup [.str "all"])
 | x,.no=>NoPap H x
 | x,.hlv z o t p q=>∃ a y y',x=.ref a∧H a=some (.tup [.str "halves", z,o,t,y,y'])∧Th H z∧TupT H o∧TupT H t∧PxAt H y p∧PxAt H y' q
theorem PxAt.same {H H':Hp} (s:Same H H'):∀ {x:V} {p:PapX},PxAt H x p→PxAt H' x p
 | _,.one,⟨t,e,h⟩=>⟨t,e,s _ _ h⟩
 | _,.all,⟨t,e,h⟩=>⟨t,e,s _ _ h⟩
 | _,.no,h=>NoPap.same h s
 | _,.hlv ..,⟨a,y,y',e,h,tz,to,tt,hp,hq⟩=>⟨a,y,y',e,s _ _ h,tz.same s,to.same s,tt.same s,PxAt.same s hp,PxAt.same s hq⟩
def ShowsX (H:Hp):Int→List (Int × Int)→PapX→Prop
 | wide,_,.one=>wide=1
 | wide,ws,.all=>AsTold wide ws
 | _,_,.no=>False
 | wide,ws,.hlv z o t p q=>∃ (k:Int) (ns ms:List Int),z=.int k∧0≤k∧k≤ws.length∧HalfT H wide o t ns ms∧KeepM (ws.take k.toNat) ns∧PutM wide (ws.drop k.toNat) ns ms∧ShowsX H ns.length (inM ns (ws.take k.toNat)) p∧ShowsX H ms.length (inM ms (ws.take k.toNat)) q
theorem ShowsX.same {H H':Hp} (s:Same H H'):∀ {p:PapX} {x:V} {wide:Int} {ws:List (Int × Int)},PxAt H x p→(ShowsX H' wide ws p↔ShowsX H wide ws p)
 | .one,_,_,_,_=>Iff.rfl
 | .all,_,_,_,_=>Iff.rfl
 | .no,_,_,_,_=>Iff.rfl
 | .hlv ..,_,_,_,⟨_,_,_,_,_,_,to,tt,hp,hq⟩ =>
  ⟨fun ⟨k,ns,ms,e1,k0,k1,hf,km,pm,s1,s2⟩=>⟨k,ns,ms,e1,k0,k1,hf.back to.1 tt.1 s,km,pm,(ShowsX.same s hp).mp s1,(ShowsX.same s hq).mp s2⟩,
   fun ⟨k,ns,ms,e1,k0,k1,hf,km,pm,s1,s2⟩=>⟨k,ns,ms,e1,k0,k1,hf.same s,km,pm,(ShowsX.same s hp).mpr s1,(ShowsX.same s hq).mpr s2⟩⟩
theorem half_eq {H:Hp} {wide:Int} {o u:Addr} {a b ns ms:List Int} (ho:H o=some (.tup (a.map V.int))) (hu:H u=some (.tup (b.map V.int))) (hf:HalfT H wide (.ref o) (.ref u) ns ms):ns=a∧ms=b:=by
 obtain ⟨⟨_,e2,h2,_⟩,⟨_,e3,h3,_⟩,_⟩:=hf
 cases e2;cases e3
 rw [ho] at h2
 rw [hu] at h3
 exact ⟨(map_int_inj (HO.tup.inj (Option.some.inj h2))).symm,(map_int_inj (HO.tup.inj (Option.some.inj h3))).symm⟩
theorem pap_x {H:Hp}:∀ {p:Pap} {x:V},PapAt H x p→∃ px:PapX,PxAt H x px∧px.dep=p.dep∧∀ wide ws,ShowsX H wide ws px↔ShowsM wide ws p
 | .one,_,h=>⟨.one,h,rfl,fun _ _=>Iff.rfl⟩
 | .all,_,h=>⟨.all,h,rfl,fun _ _=>Iff.rfl⟩
 | .halves k a b p q,x,⟨t,o,u,y,z,e,h,ho,hu,la,lb,hp,hq⟩=>by
  obtain ⟨px,p1,p2,p3⟩:=pap_x hp
  obtain ⟨qx,q1,q2,q3⟩:=pap_x hq
  refine ⟨.hlv (.int k) (.ref o) (.ref u) px qx,⟨t,y,z,e,h,.inl ⟨k,rfl⟩,tupT_ints ho la,tupT_ints hu lb,p1,q1⟩,by show 1 + max px.dep qx.dep=1 + max p.dep q.dep;rw [p2,q2],fun wide ws=>⟨?_,?_⟩⟩
  ·rintro ⟨k',ns,ms,e1,k0,k1,hf,km,pm,s1,s2⟩
   cases e1
   have hm:=(half_iff ho hu).mp ⟨ns,ms,hf⟩
   obtain ⟨rfl,rfl⟩:=half_eq ho hu hf
   exact ⟨k0,k1,hm,km,pm,(p3 _ _).mp s1,(q3 _ _).mp s2⟩
  ·rintro ⟨k0,k1,hm,km,pm,s1,s2⟩
   exact ⟨k,a,b,rfl,k0,k1,⟨⟨o,rfl,ho,hm.1⟩,⟨u,rfl,hu,hm.2.1⟩,hm.2.2⟩,km,pm,(p3 _ _).mpr s1,(q3 _ _).mpr s2⟩
inductive SpShowsXP (n:Nat) (vs:List V) (H:Hp) (Q:VK):Prop
 | mk (v:V) (wide:Int) (ws:List (Int × Int)) (x:V) (p:PapX) (h1:vs=[v,x]) (h2:Net H v wide ws) (h3:1≤wide) (h4:wide≤8) (h5:WOk wide ws) (h6:ws.length≤41) (h7:PxAt H x p) (h8:p.dep≤n) (h9:∀ (b:Bool) (H':Hp),Same H H'→(b=true↔ShowsX H wide ws p)→Q (.bl b) H'):SpShowsXP n vs H Q
def spShowsX (n:Nat):Sp:=fun vs H Q _=>SpShowsXP n vs H Q
inductive SpShownXP (n:Nat) (vs:List V) (H:Hp) (Q:VK):Prop
 | mk (v:V) (wide:Int) (ws:List (Int × Int)) (x z o t:V) (p q:PapX) (h1:vs=[v,x]) (h2:Net H v wide ws) (h3:1≤wide) (h4:wide≤8) (h5:WOk wide ws) (h6:ws.length≤41) (h7:PxAt H x (.hlv z o t p q)) (h8:(PapX.hlv z o t p q).dep≤n) (h9:∀ (c:Bool) (H':Hp),Same H H'→(c=true↔ShowsX H wide ws (.hlv z o t p q))→Q (.bl c) H'):SpShownXP n vs H Q
def spShownX (n:Nat):Sp:=fun vs H Q _=>SpShownXP n vs H Q
def Bad44 (H:Hp) (wide:Int) (ws:List (Int × Int)) (x:V):Prop:=∃ px:PapX,PxAt H x px∧px.dep≤3∧¬ ShowsX H wide ws px
theorem Bad44.same {H H':Hp} {wide:Int} {ws:List (Int × Int)} {x:V} (h:Bad44 H wide ws x) (s:Same H H'):Bad44 H' wide ws x :=
 let ⟨px,a,d,n⟩:=h;⟨px,a.same s,d,fun z=>n ((ShowsX.same s a).mp z)⟩
theorem bad_nop {H:Hp} {wide:Int} {ws:List (Int × Int)} {x:V} (h:NoPap H x):Bad44 H wide ws x:=⟨.no,h,Nat.zero_le _,id⟩
theorem bad_hlv {H:Hp} {wide:Int} {ws:List (Int × Int)} {a:Addr} {z o t y y':V} {p q:PapX} (h:H a=some (.tup [.str "halves", z,o,t,y,y'])) (tz:Th H z) (to:TupT H o) (tt:TupT H t) (hp:PxAt H y p) (hq:PxAt H y' q) (dp:p.dep≤2) (dq:q.dep≤2)
  (no:(∀ k,z=.int k→k < 0)∨(∀ ns ms,¬ HalfT H wide o t ns ms)∨p=.no∨q=.no):Bad44 H wide ws (.ref a):=by
 refine ⟨.hlv z o t p q,⟨a,y,y',rfl,h,tz,to,tt,hp,hq⟩,by show 1 + max p.dep q.dep≤3;walk_at"q", ?_⟩
 rintro ⟨k,ns,ms,e1,k0,k1,hf,km,pm,s1,s2⟩
 rcases no with c | c | c | c
 ·have:=c k e1
  walk_at"q"
 ·exact c ns ms hf
 ·subst c;exact s1
 ·subst c;exact s2
theorem fpap_x {H:Hp} {k:Nat} {x:V} (h:FPap H k x) (hk:k≤2):∃ px:PapX,PxAt H x px∧px.dep≤2:=by
 obtain ⟨px,a,d,_⟩:=pap_x (h.at_ (by walk_at"q"))
 exact ⟨px,a,by rw [d,papM_dep];exact hk⟩
inductive SpMis44P (vs:List V) (H:Hp) (Q:VK):Prop
 | mk (p:Addr) (k:Nat) (h1:vs=[.ref p,.int (pw (k + 1))]) (h2:k≤1) (h3:Pen H p) (h4:∀ (x:V) (H':Hp),Kp p H H'→Pen H' p→Bad44 H' (pw (k + 1)) (foldM (k + 1)) x→Q x H'):SpMis44P vs H Q
def spMis44:Sp:=fun vs H Q _=>SpMis44P vs H Q
inductive SpSame44P (vs:List V) (H:Hp) (Q:VK):Prop
 | mk (h1:vs=[]) (h2:∀ H',Same H H'→Q (.bl false) H'):SpSame44P vs H Q
def spSame44:Sp:=fun vs H Q _=>SpSame44P vs H Q
theorem lay_two {wide:Int} (w8:wide≤8):∀ (ws:List (Int × Int)) (st st':List Int × List Int),WOk wide ws→st.1.length=wide.toNat→st'.1.length=8→st.2=st'.2→(∀ x,0≤x→x < wide→st.1.getD x.toNat 0=st'.1.getD x.toNat 0)→(ws.foldl layT st).2=(ws.foldl layT st').2
 | [],_,_,_,_,_,h,_=>h
 | w :: r,st,st',ok,l1,l2,h,e=>by
  obtain ⟨o1,o2,o3,o4,_⟩:=ok w List.mem_cons_self
  have a1:=e w.1 o1 o2
  have a2:=e w.2 o3 o4
  refine lay_two w8 r (layT st w) (layT st' w) (fun v hv=>ok v (List.mem_cons_of_mem _ hv)) ?_ ?_ ?_ ?_
  ·show ((st.1.set _ _).set _ _).length=_
   rw [List.length_set,List.length_set,l1]
  ·show ((st'.1.set _ _).set _ _).length=_
   rw [List.length_set,List.length_set,l2]
  ·show st.2 ++ [_]=st'.2 ++ [_]
   rw [h,a1,a2]
  ·intro x x0 x1
   show ((st.1.set _ _).set _ _).getD _ _=((st'.1.set _ _).set _ _).getD _ _
   rw [getD_set (by rw [List.length_set,l1];walk_at"q"),getD_set (by rw [l1];walk_at"q"),getD_set (by rw [List.length_set,l2];walk_at"q"),getD_set (by rw [l2];walk_at"q"),a1,a2,e x x0 x1]
theorem dep_wide {wide:Int} {ws:List (Int × Int)} (w8:wide≤8) (ok:WOk wide ws):depM 8 ws=depM wide ws:=by
 unfold depM layS
 rw [lay_two w8 ws (List.replicate wide.toNat 0,[]) (List.replicate (8:Int).toNat 0,[]) ok (by simp) (by simp) rfl (fun x x0 x1=>by
  have z:∀ n i:Nat,(List.replicate n (0:Int)).getD i 0=0:=fun n i=>by
   by_cases h:i < n <;> simp [List.getD,List.getElem?_replicate,h]
  show (List.replicate wide.toNat (0:Int)).getD _ 0=(List.replicate (8:Int).toNat (0:Int)).getD _ 0
  rw [z,z])]
theorem ok_eight {wide:Int} {ws:List (Int × Int)} (w8:wide≤8) (ok:WOk wide ws):WOk 8 ws:=fun w hw=>by
 obtain ⟨o1,o2,o3,o4,o5⟩:=ok w hw
 exact ⟨o1,by walk_at"q", o3,by walk_at"q", o5⟩
theorem deep_max {ws:List (Int × Int)} (ok:WOk 8 ws) {m:Int} (h:IsMax (layS 8 ws).1 m):m=(depM 8 ws:Int):=by
 rw [depM_cast]
 obtain ⟨_,ll⟩:=layS_due ok ws.length (Nat.le_refl _)
 obtain ⟨n1,n2⟩:=layS_len 8 ws
 rw [List.take_length] at ll
 obtain ⟨hm,ht⟩:=h
 obtain ⟨i,hi,ei⟩:=List.mem_iff_getElem.mp hm
 have gi:(layS 8 ws).1.getD i 0=m:=by simp [List.getD,hi,ei]
 have li:=ll (i:Int) (by walk_at"q") (by have:(8:Int).toNat=8:=rfl;walk_at"q")
 rw [Int.toNat_natCast,gi] at li
 refine Mx.uniq (S:=(·∈(layS 8 ws).2)) ⟨li.1,fun a ha=>?_,?_⟩ (mxL_mx _)
 ·obtain ⟨j,hj,ej⟩:=List.mem_iff_getElem.mp ha
  have hj':j < ws.length:=by walk_at"q"
  have ew:ws[j]?=some (wAt ws j):=by unfold wAt;simp [List.getD,hj']
  obtain ⟨o1,o2,_⟩:=WOk.mem ok ew
  have lx:=(ll (wAt ws j).1 o1 o2).2.1 a ⟨j,hj',.inl rfl,by simp [List.getD,hj,ej]⟩
  have hx:(wAt ws j).1.toNat < (layS 8 ws).1.length:=by have:(8:Int).toNat=8:=rfl;walk_at"q"
  have:=ht ((layS 8 ws).1.getD (wAt ws j).1.toNat 0) (by simp [List.getD,hx])
  walk_at"q"
 ·rcases li.2.2 with z | ⟨j,hj,_,e⟩
  ·exact .inl z
  ·refine .inr ?_
   have hj2:j < (layS 8 ws).2.length:=by walk_at"q"
   rw [← e]
   simp [List.getD,hj2]
inductive SpDeep44P (vs:List V) (H:Hp) (Q:VK):Prop
 | mk (wide:Int) (l:Addr) (ws:List (Int × Int)) (h1:vs=[.ref l]) (h2:1≤wide) (h3:wide≤8) (h4:WsL H l ws) (h5:WOk wide ws) (h6:ws.length≤41) (h7:∀ (H':Hp),Same H H'→Q (.int (depM wide ws:Int)) H'):SpDeep44P vs H Q
def spDeep44:Sp:=fun vs H Q _=>SpDeep44P vs H Q
inductive SpThru44P (vs:List V) (H:Hp) (Q:VK):Prop
 | mk (wide:Int) (l:Addr) (ws:List (Int × Int)) (c:Addr) (cs:List Int) (h1:vs=[.ref l,.ref c]) (h2:WsL H l ws) (h3:WOk wide ws) (h4:ws.length≤41) (h5:H c=some (.lst (cs.map V.int))) (h6:cs.length=wide.toNat) (h7:∀ (d:Addr) (H':Hp),H d=none→Same H H'→H' d=some (.lst ((thruM cs ws).map V.int))→Q (.ref d) H'):SpThru44P vs H Q
def spThru44:Sp:=fun vs H Q _=>SpThru44P vs H Q
inductive SpEven44P (vs:List V) (H:Hp) (Q:VK):Prop
 | mk (l:Addr) (cs:List Int) (h1:vs=[.ref l]) (h2:H l=some (.lst (cs.map V.int))) (h3:1≤cs.length) (h4:cs.length≤8) (h5:∀ (b:Bool) (H':Hp),Same H H'→(b=true↔Level cs)→Q (.bl b) H'):SpEven44P vs H Q
def spEven44:Sp:=fun vs H Q _=>SpEven44P vs H Q
theorem level_of {cs:List Int} (pw:cs.Pairwise (· ≥ ·)) (h:cs.getD 0 0≤cs.getD (cs.length - 1) 0 + 1):Level cs:=by
 have key:∀ i j,i≤j→j < cs.length→cs.getD j 0≤cs.getD i 0:=fun i j hij hj=>by
  by_cases e:i=j
  ·subst e;walk_at"q"
  ·have hi:i < cs.length:=by walk_at"q"
   have:=List.pairwise_iff_getElem.mp pw i j hi hj (by walk_at"q")
   simp only [List.getD,List.getElem?_eq_getElem hi,List.getElem?_eq_getElem hj,Option.getD_some]
   walk_at"q"
 intro i j hij hj
 have a1:=key i j hij hj
 have a2:=key 0 i (Nat.zero_le _) (by walk_at"q")
 have a3:=key j (cs.length - 1) (by walk_at"q") (by walk_at"q")
 walk_at"q"
theorem ceil_lv {n:Int} (h:0 < n) (a i:Int):(a + n - 1 - i) / n=-(((0:Int) + i - a) / n):=by
 have e:=Int.mul_ediv_add_emod (0 + i - a) n
 have r0:=Int.emod_nonneg (0 + i - a) (Int.ne_of_gt h)
 have r1:=Int.emod_lt_of_pos (0 + i - a) h
 generalize (0 + i - a) % n=r at e r0 r1
 generalize (0 + i - a) / n=q at e
 have:a + n - 1 - i=(n - 1 - r) + n * (-q):=by rw [Int.mul_neg];walk_at"q"
 rw [this,Int.add_mul_ediv_left _ _ (Int.ne_of_gt h),Int.ediv_eq_zero_of_lt (by walk_at"q") (by walk_at"q"),Int.zero_add]
def laidM (wide:Int) (ns ms:List Int) (a b:Int):List Int:=putL wide.toNat ((ns ++ ms).zip (levelM ns.length a ++ levelM ms.length b))
theorem laidM_zip {wide:Int} {ns ms:List Int} {a b:Int}:laidM wide ns ms a b=putL wide.toNat (ns.zip (levelM ns.length a) ++ ms.zip (levelM ms.length b)):=by
 unfold laidM
 rw [List.zip_append (by rw [levelM_len])]
theorem laidM_len {wide:Int} {ns ms:List Int} {a b:Int}:(laidM wide ns ms a b).length=wide.toNat:=putL_len _ _
inductive SpLaid44P (vs:List V) (H:Hp) (Q:VK):Prop
 | mk (wide:Int) (o t:Addr) (ns ms:List Int) (a b:Int) (h1:vs=[.ref o,.ref t,.int a,.int b]) (h2:1≤wide) (h3:wide≤8) (h4:HalfT H wide (.ref o) (.ref t) ns ms) (h5:∀ (l:Addr) (H':Hp),H l=none→Same H H'→H' l=some (.lst ((laidM wide ns ms a b).map V.int))→Q (.ref l) H'):SpLaid44P vs H Q
def spLaid44:Sp:=fun vs H Q _=>SpLaid44P vs H Q
inductive SpPuts44P (vs:List V) (H:Hp) (Q:VK):Prop
 | mk (wide:Int) (l:Addr) (ws:List (Int × Int)) (o t:Addr) (ns ms:List Int) (h1:vs=[.ref l,.ref o,.ref t]) (h2:1≤wide) (h3:wide≤8) (h4:WsL H l ws) (h5:WOk wide ws) (h6:ws.length≤41) (h7:HalfT H wide (.ref o) (.ref t) ns ms) (h8:∀ (b:Bool) (H':Hp),Same H H'→(b=true↔PutM wide ws ns ms)→Q (.bl b) H'):SpPuts44P vs H Q
def spPuts44:Sp:=fun vs H Q _=>SpPuts44P vs H Q
theorem most_min {n:Nat} (hn:1≤n) {d:Nat} (h:(n:Int) * 2 ^ (if (9:Int) < (d:Int) then (9:Int) else (d:Int)).toNat≤32):(n:Int) * 2 ^ (if (9:Int) < (d:Int) then (9:Int) else (d:Int)).toNat=(n:Int) * ((2 ^ d:Nat):Int):=by
 by_cases c:(9:Int) < d
 ·rw [if_pos c] at h
  have:(2:Int) ^ (9:Int).toNat=512:=rfl
  rw [this] at h
  walk_at"q"
 ·rw [if_neg c,Int.toNat_natCast]
  congr 1
theorem most_max {n:Nat} (hn:1≤n) {d:Nat} (h:¬ (n:Int) * 2 ^ (if (9:Int) < (d:Int) then (9:Int) else (d:Int)).toNat≤32):¬ (n:Int) * ((2 ^ d:Nat):Int)≤32:=by
 by_cases c:(9:Int) < d
 ·have c':9≤d:=by walk_at"q"
  have p:2 ^ 9≤2 ^ d:=Nat.pow_le_pow_right (by decide) c'
  have p':(512:Int)≤((2 ^ d:Nat):Int):=by exact_mod_cast p
  intro z
  have:(1:Int) * 512≤(n:Int) * ((2 ^ d:Nat):Int):=Int.mul_le_mul (by walk_at"q") p' (by decide) (by walk_at"q")
  walk_at"q"
 ·rw [if_neg c,Int.toNat_natCast] at h
  intro z
  apply h
  have e:(2:Int) ^ d=((2 ^ d:Nat):Int):=(Int.natCast_pow 2 d).symm
  rw [e]
  exact z
theorem ev_mem {r:List Int}:EvRow r↔∀ c∈r,c=r.getD 0 0:=by
 constructor
 ·intro h c hc
  obtain ⟨i,hi,e⟩:=List.mem_iff_getElem.mp hc
  have:=h i hi
  rw [← this,← e]
  simp [List.getD,hi]
 ·intro h x hx
  exact h _ (by simp [List.getD,hx])
theorem met_gt {r:List Int} (h:0 < r.length):(metL r).length≤1↔∀ c∈r,c=r.getD 0 0:=by
 rw [← ev_mem,← met_one h]
 have:0 < (metL r).length:=by
  obtain ⟨_,b,_⟩:=met_all r []
  cases r with
  | nil=>simp at h
  | cons a q=>exact List.length_pos_of_mem (b a List.mem_cons_self)
 walk_at"q"
inductive SpShown44P (n:Nat) (vs:List V) (H:Hp) (Q:VK):Prop
 | mk (wide:Int) (l:Addr) (ws:List (Int × Int)) (x:V) (p:Pap) (h1:vs=[.int wide,.ref l,x]) (h2:1≤wide) (h3:wide≤8) (h4:WsL H l ws) (h5:WOk wide ws) (h6:ws.length≤41) (h7:PapAt H x p) (h8:p.dep < n) (h9:∀ (b:Bool) (H':Hp),Same H H'→(b=true↔ShowsM wide ws p)→Q (.bl b) H'):SpShown44P n vs H Q
def spShown44 (n:Nat):Sp:=fun vs H Q _=>SpShown44P n vs H Q
theorem half_of {wide:Int} {a b:List Int} (el:a.length=b.length) (pm:(a ++ b).Perm (rngL 0 wide)):HalfM wide a b:=by
 have key:∀ n∈a ++ b,0≤n∧n < wide:=fun n hn=>by
  have:=pm.mem_iff.mp hn
  unfold rngL at this
  obtain ⟨i,hi,rfl⟩:=List.mem_map.mp this
  have:=List.mem_range.mp hi
  walk_at"q"
 exact ⟨fun n hn=>key n (List.mem_append_left _ hn),fun n hn=>key n (List.mem_append_right _ hn),el,pm⟩
theorem half_or {wide:Int} {a b:List Int} (h:HalfM wide a b) {x:Int} (h0:0≤x) (h1:x < wide):x∈b↔x ∉ a:=by
 obtain ⟨_,_,_,pm⟩:=h
 have nd:(a ++ b).Nodup:=pm.nodup_iff.mpr (by
  unfold rngL
  refine List.Pairwise.map _ (fun i j hij=>?_) (List.nodup_range (n:=(wide - 0).toNat))
  intro e
  exact hij (by walk_at"q"))
 have mem:x∈a ++ b:=pm.mem_iff.mpr (by
  unfold rngL
  exact List.mem_map.mpr ⟨x.toNat,List.mem_range.mpr (by walk_at"q"),by walk_at"q"⟩)
 obtain ⟨_,_,dj⟩:=List.nodup_append.mp nd
 constructor
 ·exact fun hb ha=>dj x ha x hb rfl
 ·intro hn
  rcases List.mem_append.mp mem with z | z
  ·exact absurd z hn
  ·exact z
theorem KeepM.snoc {ws:List (Int × Int)} {a:List Int} {w:Int × Int} (h:KeepM ws a) (k:w.1∈a↔w.2∈a):KeepM (ws ++ [w]) a:=fun v hv=>by
 rcases List.mem_append.mp hv with z | z
 ·exact h v z
 ·rw [List.mem_singleton.mp z];exact k
theorem rd3 {σ:St} {X:Addr} {xs:List V} {ia ib:Int} {H:Hp} {Q:VK} {M:TE} {Pv:V→Hp→Prop} (hσ:σ[2]?=some (some (.ref X))) (hX:H X=some (.tup xs)) (l:xs.length≤50)
  (hM:∀ (H1:Hp) (Q1:VK),Same H H1→(∀ v H2,Same H1 H2→Pv v H2→Q1 v H2)→M σ H1 Q1)
  (q:∀ v H2 t H',Same H H2→Pv v H2→Same H2 H'→H' t=some (.tup (cutV xs none (some ia) ++ [v] ++ cutV xs (some ib) none))→Q (.ref t) H') :
  tOp rCatA (tOp rCatA (tSl rSlU (tVar 2) tNoPart (tPart (tC (.int ia)))) (tTup (tCons M tNil))) (tSl rSlU (tVar 2) (tPart (tC (.int ib))) tNoPart) σ H Q:=by
 have l1:=cutV_length xs none (some ia)
 have l2:=cutV_length xs (some ib) none
 refine ⟨_,hσ,ia,rfl,X,xs,rfl,hX,fun t1 H1 s1 x1=>?_⟩
 refine hM H1 _ s1 fun v H2 s2 pv=>?_
 refine ⟨lenLine (by show 1≤100000;decide),fun t3 f3=>?_⟩
 refine ⟨t1,t3,_,_,rfl,rfl,same_new f3 _ _ _ (s2 _ _ x1),upd_same,lenLine (by show _ + 1≤100000;walk_at"q"),fun t4 H4 s4 x4=>?_⟩
 refine ⟨_,hσ,ib,rfl,X,xs,rfl,s4 _ _ (same_new f3 _ _ _ (s2 _ _ (s1 _ _ hX))),fun t5 H5 s5 x5=>?_⟩
 refine ⟨t4,t5,_,_,rfl,rfl,s5 _ _ x4,x5,lenLine (by rw [List.length_append];show _ + 1 + _≤100000;walk_at"q"),fun t6 H6 s6 x6=>?_⟩
 exact q v H2 t6 H6 (Same.trans s1 s2) pv (Same.trans (same_new f3 _) (Same.trans s4 (Same.trans s5 s6))) x6
theorem rd2 {σ:St} {X:Addr} {xs:List V} {ia:Int} {H:Hp} {Q:VK} {M:TE} {Pv:V→Hp→Prop} (hσ:σ[2]?=some (some (.ref X))) (hX:H X=some (.tup xs)) (l:xs.length≤50)
  (hM:∀ (H1:Hp) (Q1:VK),Same H H1→(∀ v H2,Same H1 H2→Pv v H2→Q1 v H2)→M σ H1 Q1)
  (q:∀ v H2 t H',Same H H2→Pv v H2→Same H2 H'→H' t=some (.tup (cutV xs none (some ia) ++ [v]))→Q (.ref t) H') :
  tOp rCatA (tSl rSlU (tVar 2) tNoPart (tPart (tC (.int ia)))) (tTup (tCons M tNil)) σ H Q:=by
 have l1:=cutV_length xs none (some ia)
 refine ⟨_,hσ,ia,rfl,X,xs,rfl,hX,fun t1 H1 s1 x1=>?_⟩
 refine hM H1 _ s1 fun v H2 s2 pv=>?_
 refine ⟨lenLine (by show 1≤100000;decide),fun t3 f3=>?_⟩
 refine ⟨t1,t3,_,_,rfl,rfl,same_new f3 _ _ _ (s2 _ _ x1),upd_same,lenLine (by show _ + 1≤100000;walk_at"q"),fun t4 H4 s4 x4=>?_⟩
 exact q v H2 t4 H4 (Same.trans s1 s2) pv (Same.trans (same_new f3 _) s4) x4
theorem m_list {K':PySem.W.Frag} {σ:St} {X a:Addr} {xs ys:List V} {i:Int} {H:Hp} (hσ:σ[2]?=some (some (.ref X))) (hX:H X=some (.tup xs)) (hat:atI xs i=some (.ref a)) (ha:H a=some (.tup ys)) (H1:Hp) (Q1:VK) (s1:Same H H1)
  (k:∀ v H2,Same H1 H2→(∃ l,v=.ref l∧H2 l=some (.lst ys))→Q1 v H2):tCB (P_call_list_of K') (tCons (tOp (rIxT K') (tVar 2) (tC (.int i))) tNil) σ H1 Q1 :=
 ⟨_,hσ,X,_,_,_,rfl,rfl,SqT.of (s1 _ _ hX),hat,a,ys,rfl,.inr (SqT.of (s1 _ _ ha)),fun l f=>k _ _ (same_new f _) ⟨l,rfl,upd_same⟩⟩
theorem add2 {wide:Int} {ws:List (Int × Int)} {σ:St} {E1 E2:TE} {ls:Addr} {xs:List V} {H:Hp} {R:VK} (hσ:σ[4]?=some (some (.ref ls))) (hl:H ls=some (.lst xs)) (ll:xs.length≤50) (hb:∀ x∈xs,Bad44 H wide ws x)
  (h1:∀ (H':Hp) (Q':VK),Same H H'→(∀ x H2,Same H' H2→Bad44 H2 wide ws x→Q' x H2)→E1 σ H' Q') (h2:∀ (H':Hp) (Q':VK),Same H H'→(∀ x H2,Same H' H2→Bad44 H2 wide ws x→Q' x H2)→E2 σ H' Q')
  (k:∀ (l':Addr) (ys:List V) (H':Hp),H l'=none→Same H H'→H' l'=some (.lst ys)→ys.length=xs.length + 2→(∀ x∈ys,Bad44 H' wide ws x)→R (.ref l') H') :
  tOp rCat (tVar 4) (tLst (tCons E1 (tCons E2 tNil))) σ H R:=by
 refine ⟨_,hσ,?_⟩
 refine h1 H _ (Same.refl _) fun x1 H1 s1 b1=>?_
 refine h2 H1 _ s1 fun x2 H2 s2 b2=>?_
 refine ⟨lenLine (by show 2≤100000;decide),fun l3 f3=>?_⟩
 have s3:Same H2 (upd H2 l3 (HO.lst [x1,x2])):=same_new f3 _
 have s03:=Same.trans s1 (Same.trans s2 s3)
 refine ⟨ls,l3,xs,[x1,x2],rfl,rfl,s03 _ _ hl,upd_same,lenLine (by show _ + 2≤100000;walk_at"q"),fun l4 f4=>?_⟩
 have s4:Same (upd H2 l3 (HO.lst [x1,x2])) (upd (upd H2 l3 (HO.lst [x1,x2])) l4 (HO.lst (xs ++ [x1,x2]))):=same_new f4 _
 refine k l4 (xs ++ [x1,x2]) _ (s03.free f4) (Same.trans s03 s4) upd_same (by rw [List.length_append];rfl) fun x hx=>?_
 rcases List.mem_append.mp hx with z | z
 ·exact (hb x z).same (Same.trans s03 s4)
 ·rcases List.mem_cons.mp z with z | z
  ·rw [z];exact b1.same (Same.trans s2 (Same.trans s3 s4))
  ·rw [List.mem_singleton.mp z];exact b2.same (Same.trans s3 s4)
theorem no_word {G:Hp} {a:Addr} {w:Str} {xs:List V} (h:G a=some (.tup (.str w :: xs))) (n1:w ≠ "one") (n2:w ≠ "all") (n3:w ≠ "halves"):NoPap G (.ref a):=by
 have key:∀ {word:Str} {size:Int},w≠word→¬ isPap G (.ref a) word size:=fun {word size} n=>by
  rintro ⟨b,ys,e,k,l,m⟩
  cases e;rw [h] at k;cases k
  exact n (V.str.inj (Option.some.inj m))
 exact ⟨papT_str h,key n1,key n2,key n3⟩
theorem tt_gen {G:Hp} {a:Addr} {xs:List V} (h:G a=some (.tup xs)) (l:xs.length≤20) (t:∀ y∈xs,Th G y):TupT G (.ref a):=⟨.inr (.tup h),fun b ys e k=>by
 cases e;rw [h] at k;cases k
 exact ⟨l,t⟩⟩
theorem fpap_tup {H:Hp} {k:Nat} {x:V} (h:FPap H k x):∃ (a:Addr) (w:Str) (ys:List V),x=.ref a∧H a=some (.tup (.str w :: ys))∧(ys.length=0∨ys.length=5):=by
 cases h with
 | one h=>exact ⟨_,_,_,rfl,h,.inl rfl⟩
 | hlv h _ _ _ _=>exact ⟨_,_,_,rfl,h,.inr rfl⟩
theorem no_lanes_lst {G:Hp} {wide:Int} {a:Addr} {xs:List V} (h:G a=some (.lst xs)) (ns:List Int):¬ LanesT G wide (.ref a) ns:=fun z=>lan_lst z h
theorem no_lanes_bl {G:Hp} {wide:Int} {a:Addr} {b:Bool} {xs:List V} (h:G a=some (.tup (.bl b :: xs))) (ns:List Int):¬ LanesT G wide (.ref a) ns:=fun z=>by
 have:=lan_uniq z h
 cases ns with
 | nil=>simp at this
 | cons n r=>simp at this
theorem no_twice {G:Hp} {k:Nat} (hk:k≤1) {a:Addr} {as:List Int} (h:G a=some (.tup (as.map V.int))) (h':as=rngL 0 (pw k)∨as=rngL (pw k) (pw (k + 1))) (ns ms:List Int):¬ HalfT G (pw (k + 1)) (.ref a) (.ref a) ns ms:=fun z=>by
 obtain ⟨rfl,rfl⟩:=half_eq h h z
 have pm:=z.2.2.2
 have kc:k=0∨k=1:=by walk_at"q"
 rcases kc with c | c <;> subst c <;> rcases h' with e | e <;> subst e <;> exact absurd pm (by decide)
theorem fold_neg {k:Nat} (h:k≤1):((foldM k ++ (foldM k).map (lift (pw k))).length:Int) - ((foldM (k + 1)).length:Int) < 0:=by
 have kc:k=0∨k=1:=by walk_at"q"
 rcases kc with z | z <;> subst z <;> decide
structure Like (H H':Hp):Prop where
 tup:∀ a xs,H a=some (.tup xs)↔H' a=some (.tup xs)
 lst:∀ a xs,H a=some (.lst xs)→∃ ys,H' a=some (.lst ys)
 dct:∀ a xs,H a=some (.dK xs)→∃ ys,H' a=some (.dK ys)
theorem like_upd {H:Hp} {p:Addr} {xs:List V} (ys:List V) (h:H p=some (.lst xs)):Like H (upd H p (.lst ys)):=by
 refine ⟨fun a zs=>?_,fun a zs e=>?_,fun a zs e=>?_⟩
 ·by_cases c:a=p
  ·subst c;rw [h,upd_same];exact ⟨(fun z=>by cases z),(fun z=>by cases z)⟩
  ·rw [upd_ne c]
 ·by_cases c:a=p
  ·subst c;exact ⟨ys,upd_same⟩
  ·exact ⟨zs,by rw [upd_ne c];exact e⟩
 ·by_cases c:a=p
  ·subst c;rw [h] at e;cases e
  ·exact ⟨zs,by rw [upd_ne c];exact e⟩
theorem Th.like {H H':Hp} {x:V} (h:Th H x) (l:Like H H'):Th H' x:=by
 rcases h with h | h
 ·exact .inl h
 ·refine .inr ?_
  cases h with
  | bl b=>exact .bl b
  | non=>exact .non
  | str s=>exact .str s
  | lst e=>obtain ⟨_,e'⟩:=l.lst _ _ e;exact .lst e'
  | tup e=>exact .tup ((l.tup _ _).mp e)
  | dct e=>obtain ⟨_,e'⟩:=l.dct _ _ e;exact .dct e'
theorem TupT.like {H H':Hp} {x:V} (h:TupT H x) (l:Like H H'):TupT H' x:=⟨h.1.like l,fun a xs e k=>by
 obtain ⟨h1,h2⟩:=h.2 a xs e ((l.tup _ _).mpr k)
 exact ⟨h1,fun y hy=>(h2 y hy).like l⟩⟩
theorem isPap.like {H H':Hp} {x:V} {w:Str} {n:Int} (l:Like H H'):isPap H x w n↔isPap H' x w n :=
 ⟨fun ⟨a,xs,e,k,r⟩=>⟨a,xs,e,(l.tup _ _).mp k,r⟩,fun ⟨a,xs,e,k,r⟩=>⟨a,xs,e,(l.tup _ _).mpr k,r⟩⟩
theorem NoPap.like {H H':Hp} {x:V} (h:NoPap H x) (l:Like H H'):NoPap H' x :=
 ⟨⟨h.1.1.like l,fun a xs e k y hy=>(h.1.2 a xs e ((l.tup _ _).mpr k) y hy).like l⟩,fun z=>h.2.1 ((isPap.like l).mpr z),fun z=>h.2.2.1 ((isPap.like l).mpr z),fun z=>h.2.2.2 ((isPap.like l).mpr z)⟩
theorem HalfT.like {H H':Hp} {wide:Int} {x y:V} {ns ms:List Int} (l:Like H H'):HalfT H wide x y ns ms↔HalfT H' wide x y ns ms :=
 ⟨fun ⟨⟨a,e,k,r⟩,⟨b,f,m,s⟩,z⟩=>⟨⟨a,e,(l.tup _ _).mp k,r⟩,⟨b,f,(l.tup _ _).mp m,s⟩,z⟩,fun ⟨⟨a,e,k,r⟩,⟨b,f,m,s⟩,z⟩=>⟨⟨a,e,(l.tup _ _).mpr k,r⟩,⟨b,f,(l.tup _ _).mpr m,s⟩,z⟩⟩
theorem PxAt.like {H H':Hp} (l:Like H H'):∀ {x:V} {p:PapX},PxAt H x p→PxAt H' x p
 | _,.one,⟨t,e,h⟩=>⟨t,e,(l.tup _ _).mp h⟩
 | _,.all,⟨t,e,h⟩=>⟨t,e,(l.tup _ _).mp h⟩
 | _,.no,h=>NoPap.like h l
 | _,.hlv ..,⟨a,y,y',e,h,tz,to,tt,hp,hq⟩=>⟨a,y,y',e,(l.tup _ _).mp h,tz.like l,to.like l,tt.like l,PxAt.like l hp,PxAt.like l hq⟩
theorem ShowsX.like {H H':Hp} (l:Like H H'):∀ {p:PapX} {wide:Int} {ws:List (Int × Int)},ShowsX H' wide ws p→ShowsX H wide ws p
 | .one,_,_,h=>h
 | .all,_,_,h=>h
 | .no,_,_,h=>h
 | .hlv ..,_,_,⟨k,ns,ms,e1,k0,k1,hf,km,pm,s1,s2⟩=>⟨k,ns,ms,e1,k0,k1,(HalfT.like l).mpr hf,km,pm,ShowsX.like l s1,ShowsX.like l s2⟩
theorem Bad44.like {H H':Hp} {wide:Int} {ws:List (Int × Int)} {x:V} (h:Bad44 H wide ws x) (l:Like H H'):Bad44 H' wide ws x :=
 let ⟨px,a,d,n⟩:=h;⟨px,a.like l,d,fun z=>n (ShowsX.like l z)⟩
theorem cut_int (A:List Int) (lo hi:Option Int):∃ B:List Int,cutV (A.map V.int) lo hi=B.map V.int∧B.length≤A.length:=by
 unfold cutV
 rw [← List.map_drop,← List.map_take]
 refine ⟨_,rfl,?_⟩
 rw [List.length_take,List.length_drop]
 walk_at"q"
theorem tt_bl {G:Hp} {a:Addr} {b:Bool} {r:List Int} (h:G a=some (.tup (.bl b :: r.map V.int))) (l:r.length≤19):TupT G (.ref a) :=
 tt_gen h (by rw [List.length_cons,List.length_map];walk_at"q") fun y hy=>by
  rcases List.mem_cons.mp hy with z | z
  ·rw [z];exact .inr (.bl b)
  ·obtain ⟨i,_,rfl⟩:=List.mem_map.mp z
   exact .inl ⟨i,rfl⟩
theorem skip_and {tt:TT} {σ:St} {H:Hp} {c:Prop} [Decidable c] {R X:Hp→Prop} (h:∀ H',Same H H'→R H') (k:(∀ H',Same H H'→R H')→c→tt σ H (fun b H1=>if b=true then X H1 else R H1)) :
  (if decide c=true then tt σ H (fun b H1=>if b=true then X H1 else R H1) else (if false=true then X H else R H)):=by
 by_cases e:c
 ·rw [if_pos (decide_eq_true e)];exact k h e
 ·rw [if_neg (by simpa using e),if_neg (by decide)];exact h H (Same.refl _)
end Ep


namespace Ep
open PySem L2
theorem nw {H : Hp} {a : Addr} (f : H a = none) (o : HO) : ∃ H', H' = upd H a o ∧ Same H H' ∧ H' a = some o := ⟨_, rfl, same_new f o, upd_same⟩
def top (i:Nat):Stmt:=PySem.Challenge.pw_evenpass_k44_halves_looked_at.main.body.getD i (.Pass ⟨0,0,0,0⟩)
abbrev s_let_through:Stmt:=top 1
abbrev s_exits:Stmt:=top 2
abbrev s_layers:Stmt:=top 4
abbrev s_depth:Stmt:=top 5
abbrev s_depth_power:Stmt:=top 6
abbrev s_longer_rows:Stmt:=top 12
abbrev s_rows_of:Stmt:=top 13
abbrev s_first_layer:Stmt:=top 14
abbrev s_common_trials:Stmt:=top 15
abbrev s_trials:Stmt:=top 16
abbrev s_falls:Stmt:=top 18
abbrev s_is_level:Stmt:=top 20
abbrev s_level_counts:Stmt:=top 21
abbrev s_is_whole:Stmt:=top 23
abbrev s_is_lane:Stmt:=top 24
abbrev s_all_on_one:Stmt:=top 26
abbrev s_shares:Stmt:=top 27
abbrev s_uneven:Stmt:=top 28
abbrev s_levels:Stmt:=top 30
abbrev s_is_paper:Stmt:=top 33
abbrev s_levels_as_told:Stmt:=top 34
abbrev s_are_lanes:Stmt:=top 35
abbrev s_are_halves:Stmt:=top 36
abbrev s_keep_apart:Stmt:=top 37
abbrev s_net_within:Stmt:=top 38
abbrev s_exits_of_sums:Stmt:=top 39
abbrev s_level_below:Stmt:=top 40
abbrev s_all_alike:Stmt:=top 41
abbrev s_put_together:Stmt:=top 42
abbrev s_shown_by_halves:Stmt:=top 43
abbrev s_shows:Stmt:=top 44
abbrev s_pen:Stmt:=top 46
abbrev s_take:Stmt:=top 47
abbrev s_wickets:Stmt:=top 48
abbrev s_lifted:Stmt:=top 49
abbrev s_folded:Stmt:=top 50
abbrev s_bent:Stmt:=top 51
abbrev s_deep:Stmt:=top 52
abbrev s_through:Stmt:=top 53
abbrev s_even:Stmt:=top 54
abbrev s_laid:Stmt:=top 55
abbrev s_puts:Stmt:=top 56
abbrev s_told_so:Stmt:=top 57
abbrev s_shown:Stmt:=top 58
abbrev s_paper:Stmt:=top 59
abbrev s_order:Stmt:=top 60
abbrev s_exchanged:Stmt:=top 61
abbrev s_other_net:Stmt:=top 62
abbrev s_drawn:Stmt:=top 63
abbrev s_misformed:Stmt:=top 64
abbrev s_same_lanes:Stmt:=top 65
abbrev s_law:Stmt:=top 66
end Ep

namespace Ep
open PySem L2 PySem.SeqAt
local macro_rules | `(tactic| walk_at "cm")=>`(tactic| first | exact .inr ⟨by decide,by decide⟩ | exact .inl ⟨by decide,by decide⟩ | exact .inl ⟨by omega,by omega⟩ | exact .inr ⟨by omega,by omega⟩)
local macro_rules | `(tactic| walk_at "side")=>`(tactic| first
 | (show (0:Int) < _;first | decide | omega)
 | (show CMul _ _;walk_at "cm")
 | (show List.length _≤sizeLine;exact lenLine (by simp only [List.length_cons,List.length_nil] <;> omega))
 | (show tyV _ _ _ _;exact .inl ⟨rfl,_,SqL.of (by walk_at "hh")⟩)
 | (show CPow _ _;exact ⟨by decide,by decide,by decide⟩)
 | (show _∧_;exact ⟨by first | decide | omega,by first | decide | omega⟩)
 | omega)
local macro_rules | `(tactic| walk_at "rd1")=>`(tactic| first
 | refine ⟨_,rfl,?_⟩
 | refine ⟨_,_,rfl,rfl,?_⟩
 | refine ⟨_,_,_,_,rfl,rfl,SqL.of (by assumption),by first | rfl | assumption,?_⟩
 | refine ⟨_,_,_,_,rfl,rfl,SqT.of (by assumption),by first | rfl | assumption,?_⟩
 | refine ⟨_,_,rfl,rfl,by walk_at "side", ?_⟩
 | refine REqP.mk rfl ?_
 | refine RNeP.mk rfl ?_
 | refine NewOb.mk (by walk_at "side") ?_
 | refine And.intro rfl ?_
 | refine And.intro (by walk_at "side") ?_
 | refine Or.inr ⟨_,rfl,?_⟩)
local macro_rules | `(tactic| walk_at "rd")=>`(tactic| repeat walk_at "rd1")
local macro_rules | `(tactic| walk_at "ne")=>`(tactic| first
 | assumption
 | exact Ne.symm (by assumption)
 | exact ne1 (by assumption) (by walk_at "hh")
 | exact ne2 (by assumption) (by walk_at "hh")
 | exact ne3 (by assumption) (by walk_at "hh")
 | exact ne4 (by assumption) (by walk_at "hh"))
local macro_rules | `(tactic| walk_at "hh")=>`(tactic| first
 | assumption
 | exact upd_same
 | exact (upd_ne (by walk_at "ne")).trans (by walk_at "hh")
 | exact (by assumption:Same _ _) _ _ (by walk_at "hh")
 | exact (by assumption:Kp _ _ _) _ _ (by walk_at "hh") (by walk_at "ne"))
local macro_rules | `(tactic| walk_at "fr")=>`(tactic| first
 | assumption
 | exact free2 (by assumption) (by walk_at "sm"))
local macro_rules | `(tactic| walk_at "sm")=>`(tactic| first
 | assumption
 | exact Same.refl _
 | exact Same.put (by walk_at "fr") (by walk_at "sm")
 | exact trans2 (by assumption) (by walk_at "sm"))
local macro_rules | `(tactic| walk_at "kt")=>`(tactic| first
 | exact KT.refl _
 | assumption
 | exact KT.new (by assumption) (by walk_at "kt")
 | exact KT.lst (by walk_at "hh") (by walk_at "kt")
 | exact KT.same (by assumption) (by walk_at "kt")
 | exact KT.kp (by assumption) (by walk_at "hh") (by walk_at "kt"))

section
variable {P:Program} {w:World} {K:PySem.W.Frag} {mg:Str→Option Value} {base:Heap} {f:Addr} {fd:FuncData}
theorem sc_take:FnScope ["_law_pen_here", "_law_size", "_law_found", "_law_number"] ["_law_pen_here", "_law_size"] (defScope s_take):=⟨rfl,rfl,rfl,by decide +kernel,rfl,by decide +kernel,by decide +kernel⟩
theorem ok_take (F:Here K mg "_law_take" s_take f fd):FnOk P w K mg base CX0 1 f fd ["_law_pen_here", "_law_size"] spTake:=by
 refine F.fn.ok sc_take (fun vs H Q E h=>?_) (fun cdv A outer s H vs Q E hr h=>?_)
 ·obtain ⟨p,a,b,c,n,rfl,_⟩:=h
  rfl
 ·obtain ⟨p,a,b,c,n,rfl,hp,h0,h1,k⟩:=h
  refine ⟨_,(pss_cons (ps_if (pt_cmpR op_gt (pe_ix ix_list (pv 0) pe_int (fun _ _=>rfl)) pe_int (nomark _))
  (pss_cons (ps_set (i:=2) sc_take.nd rfl (by walk_at"r") (pe_op op_mod (pe_ix ix_list (pv 0) pe_int (fun _ _=>rfl)) (pv 1)))
  (pss_cons (ps_asg (pe_op op_fdivB (pe_ix ix_list (pv 0) pe_int (fun _ _=>rfl)) (pv 1)) (pg_sub (pv 0) pe_int set_list))
  (pss_one (ps_ret (pv 2)))))
  pss_nil)
  (pss_cons (ps_asg (pe_op op_add (pe_ix ix_list (pv 0) pe_int (fun _ _=>rfl)) pe_int) (pg_sub (pv 0) pe_int set_list))
  (pss_cons (ps_set (i:=3) sc_take.nd rfl (by walk_at"r") (pe_op op_mod (pe_op op_mul (pe_op op_add (pe_ix ix_list (pv 0) pe_int (fun _ _=>rfl)) (pe_op op_mul pe_int (pe_ix ix_list (pv 0) pe_int (fun _ _=>rfl)))) pe_int) pe_int))
  (pss_cons (ps_set (i:=3) sc_take.nd rfl (by walk_at"r") (pe_op op_mod (pe_op op_add (pe_op op_mul (pv 3) (pv 3)) (pe_op op_mul pe_int (pe_ix ix_list (pv 0) pe_int (fun _ _=>rfl)))) pe_int))
  (pss_cons (ps_set (i:=3) sc_take.nd rfl (by walk_at"r") (pe_op op_mod (pe_op op_mul (pv 3) (pe_op op_add (pe_op op_mod (pv 3) pe_int) (pe_ix ix_list (pv 0) pe_int (fun _ _=>rfl)))) pe_int))
  (pss_one (ps_ret (pe_op op_mod (pe_op op_fdivB (pv 3) pe_int) (pv 1))))))))),?_⟩
  walk_at "rd"
  refine ite2 (fun g=>?_) (fun g=>?_)
  ·walk_at "rd"
   refine ⟨p,_,_,_,rfl,rfl,hp,rfl,?_⟩
   walk_at "rd"
   exact k _ _ _ _ (Int.emod_nonneg _ (by walk_at"q")) (Int.emod_lt_of_pos _ h0)
  ·walk_at "rd"
   refine ⟨p,_,_,_,rfl,rfl,hp,rfl,?_⟩
   have hp2:(upd H p (HO.lst [V.int a,V.int (b + 1),V.int c])) p=some (.lst [V.int a,V.int (b + 1),V.int c]):=upd_same
   walk_at "rd"
   exact k _ _ _ _ (Int.emod_nonneg _ (by walk_at"q")) (Int.emod_lt_of_pos _ h0)
theorem sc_pen:FnScope ["_law_script", "_law_k", "_law_cell"] ["_law_script", "_law_k"] (defScope s_pen):=⟨rfl,rfl,rfl,by decide +kernel,rfl,by decide +kernel,by decide +kernel⟩
theorem ok_pen (T:Bn mg) (F:Here K mg "_law_pen" s_pen f fd):FnOk P w K mg base CX0 1 f fd ["_law_script", "_law_k"] (spPen K):=by
 refine F.fn.ok sc_pen (fun vs H Q E h=>?_) (fun cdv A outer s H vs Q E hr h=>?_)
 ·obtain ⟨a,ns,k,rfl,_⟩:=h
  rfl
 ·obtain ⟨a,ns,k,rfl,hS,h63,h0,h1,q⟩:=h
  refine ⟨_,(pss_cons (ps_set (i:=2) sc_pen.nd rfl (by walk_at"r") (pe_op op_add (pe_op op_mul pe_int (pv 1)) pe_int))
  (pss_cons (ps_if (pt_cmpR op_gt (pe_callB call_len_seq rfl T.n_len PySem.boot_len (pa_cons (pv 0) pa_nil)) pe_int (nomark _))
  (pss_cons (ps_set (i:=2) sc_pen.nd rfl (by walk_at"r") (pe_ix ix_list (pv 0) (pe_op op_mod (pv 1) (pe_callB call_len_seq rfl T.n_len PySem.boot_len (pa_cons (pv 0) pa_nil))) (fun _ _=>rfl)))
  (pss_one (ps_if (pt_cmpR op_ge (pv 1) (pe_callB call_len_seq rfl T.n_len PySem.boot_len (pa_cons (pv 0) pa_nil)) (nomark _))
  (pss_one (ps_set (i:=2) sc_pen.nd rfl (by walk_at"r") (pe_op op_add (pe_op op_mod (pv 2) pe_int) (pe_op op_mul pe_int (pv 1)))))
  pss_nil)))
  pss_nil)
  (pss_cons (ps_if (pt_cmpR op_ge (pv 2) (pe_op op_pow pe_int pe_int) (nomark _))
  (pss_one (ps_ret (pe_lst (pa_cons (pe_op op_sub (pv 2) (pe_op op_pow pe_int pe_int)) (pa_cons pe_int (pa_cons (pe_op op_add (pe_op op_mod (pv 2) pe_int) (pv 1)) pa_nil))))))
  pss_nil)
  (pss_one (ps_ret (pe_lst (pa_cons pe_int (pa_cons pe_int (pa_cons (pe_op op_add (pe_op op_mod (pv 2) pe_int) (pe_op op_mul pe_int (pv 1))) pa_nil))))))))),?_⟩
  have hl:(ns.map V.int).length=ns.length:=List.length_map _
  walk_at "rd"
  refine ⟨_,_,rfl,.inl hS,?_⟩
  walk_at "rd"
  refine ite2 (fun g=>?_) (fun g=>?_)
  ·have g':=of_decide_eq_true g
   rw [hl] at g'
   walk_at "rd"
   refine ⟨_,_,rfl,.inl hS,?_⟩
   walk_at "rd"
   refine ⟨a,_,_,_,rfl,rfl,hS,atI_int (Int.emod_nonneg _ (by walk_at"q")) (by rw [hl];exact Int.emod_lt_of_pos _ (by walk_at"q")),?_⟩
   walk_at "rd"
   refine ⟨_,_,rfl,.inl hS,?_⟩
   walk_at "rd"
   refine ite2 (fun g=>?_) (fun g=>?_)
   all_goals
    walk_at "rd"
    refine ite2 (fun g=>?_) (fun g=>?_)
    ·walk_at "rd"
     intro p hp
     exact q p _ _ _ hp
    ·walk_at "rd"
     intro p hp
     exact q p _ _ _ hp
  ·walk_at "rd"
   refine ite2 (fun g=>?_) (fun g=>?_)
   ·walk_at "rd"
    intro p hp
    exact q p _ _ _ hp
   ·walk_at "rd"
    intro p hp
    exact q p _ _ _ hp
theorem sc_wickets:FnScope ["_law_pen_here", "_law_wide", "_law_many", "_law_found", "_law_k", "_law_first"] ["_law_pen_here", "_law_wide", "_law_many"] (defScope s_wickets):=⟨rfl,rfl,rfl,by decide +kernel,rfl,by decide +kernel,by decide +kernel⟩
theorem ok_wickets (T:Bn mg) (F:Here K mg "_law_wickets" s_wickets f fd) (C_law_take:Callee P w K mg base "_law_take" 1 ["_law_pen_here", "_law_size"] spTake) :
  FnOk P w K mg base CX0 2 f fd ["_law_pen_here", "_law_wide", "_law_many"] spWickets:=by
 refine F.fn.ok sc_wickets (fun vs H Q E h=>?_) (fun cdv A outer s H vs Q E hr h=>?_)
 ·obtain ⟨p,wide,many,rfl,_⟩:=h
  rfl
 ·obtain ⟨p,wide,many,rfl,⟨a0,b0,c0,hp0⟩,w1,w8,m0,m41,q⟩:=h
  refine ⟨_,(pss_cons (ps_set (i:=3) sc_wickets.nd rfl (by walk_at"r") (pe_lst pa_nil))
  (pss_cons (ps_for PassesOwn.never rfl  (pi_range1 rfl T.n_range (pa_cons (pe_op op_mul (pv 2) (pe_callTy call_int1 rfl T.n_int boot_intT (pa_cons (pe_cmpR op_gt (pv 1) pe_int (nomark _)) pa_nil))) pa_nil)) (pg_name (i:=4) sc_wickets.nd rfl (by walk_at"r"))
  (pss_cons (ps_set (i:=5) sc_wickets.nd rfl (by walk_at"r") (pe_callC C_law_take (hr.mono (by walk_at"d")) rfl (pa_cons (pv 0) (pa_cons (pv 1) pa_nil))))
  (pss_one (ps_expr (pe_bm PySem.F.plainAttrs_list PySem.F.slot_list_append PySem.F.type_list_append mt_append (pv 3) (pa_cons (pe_tup (pa_cons (pv 5) (pa_cons (pe_op op_mod (pe_op op_add (pe_op op_add (pv 5) pe_int) (pe_callC C_law_take (hr.mono (by walk_at"d")) rfl (pa_cons (pv 0) (pa_cons (pe_op op_sub (pv 1) pe_int) pa_nil)))) (pv 1)) pa_nil))) pa_nil))))))
  (pss_one (ps_ret (pv 3))))),?_⟩
  walk_at "rd"
  intro l hl
  have npl:p≠l:=ne_of_none hp0 hl
  walk_at "rd"
  have hj:∃ j:Nat,many * (if decide (1 < wide)=true then (1:Int) else 0)=(j:Int)∧(j:Int)≤many∧(0 < j→1 < wide):=by
   by_cases hw:1 < wide
   ·exact ⟨many.toNat,by rw [if_pos (decide_eq_true hw)];walk_at"q", by walk_at"q", fun _=>hw⟩
   ·exact ⟨0,by rw [if_neg (by simpa using hw)];walk_at"q", by walk_at"q", fun z=>absurd z (by walk_at"q")⟩
  obtain ⟨j,ej,jm,jw⟩:=hj
  show -(2 ^ 62)≤many * (if decide (1 < wide)=true then (1:Int) else 0)∧_
  rw [ej]
  refine ⟨by walk_at"q", by walk_at"q", ?_⟩
  refine for_range (n:=(j:Int).toNat) (fun i σ Hc=>∃ (v4 v5:Option V) (ws:List (Int × Int)),σ=[some (.ref p),some (.int wide),some (.int many),some (.ref l),v4,v5]∧Kp p H Hc∧Pen Hc p∧WsL Hc l ws∧WOk wide ws∧ws.length=i)
   ⟨none,none,[],rfl,Kp.put hl (Kp.refl _ _),⟨a0,b0,c0,by rw [upd_ne npl];exact hp0⟩,⟨[],upd_same,.nil⟩,WOk.nil,rfl⟩ ?_ ?_
  ·rintro i σ Hc hlt ⟨v4,v5,ws,rfl,kp,⟨a,b,c,hp⟩,⟨rs,hls,hrs⟩,ok,len⟩
   have hw:1 < wide:=jw (by walk_at"q")
   walk_at "rd"
   refine ⟨p,a,b,c,wide,rfl,hp,by walk_at"q", by walk_at"q", fun v a' b' c' v0 vw=>?_⟩
   have hl1:(upd Hc p (HO.lst [V.int a',V.int b',V.int c'])) l=some (.lst rs):=by rw [upd_ne (Ne.symm npl)];exact hls
   walk_at "rd"
   refine ⟨p,a',b',c',wide - 1,rfl,upd_same,by walk_at"q", by walk_at"q", fun u a2 b2 c2 u0 uw=>?_⟩
   walk_at "rd"
   intro t ht
   have kp2:Kp p Hc (upd (upd (upd Hc p (HO.lst [V.int a',V.int b',V.int c'])) p (HO.lst [V.int a2,V.int b2,V.int c2])) t (HO.tup [V.int v,V.int ((v + 1 + u) % wide)])) :=
    Kp.trans (Kp.trans Kp.upd Kp.upd) (Kp.same (same_new ht _))
   have ntl:t≠l:=fun z=>by
    rw [z,upd_ne (Ne.symm npl),upd_ne (Ne.symm npl),hls] at ht
    cases ht
   have ntp:t≠p:=fun z=>by
    rw [z,upd_same] at ht
    cases ht
   refine ⟨l,rs,_,rfl,rfl,kp2 l _ hls (Ne.symm npl),lenLt (by have:=hrs.len;walk_at"q"),?_⟩
   have hv:(v + 1 + u) % wide≠v∧0≤(v + 1 + u) % wide∧(v + 1 + u) % wide < wide:=by
    refine ⟨fun z=>?_,Int.emod_nonneg _ (by walk_at"q"),Int.emod_lt_of_pos _ (by walk_at"q")⟩
    by_cases hh:v + 1 + u < wide
    ·rw [Int.emod_eq_of_lt (by walk_at"q") hh] at z
     walk_at"q"
    ·have e2:(v + 1 + u) % wide=v + 1 + u - wide:=by
      rw [Int.emod_eq_emod_iff_emod_sub_eq_zero.mpr (show (v + 1 + u - (v + 1 + u - wide)) % wide=0 by rw [show v + 1 + u - (v + 1 + u - wide)=wide by walk_at"q"];exact Int.emod_self)]
      exact Int.emod_eq_of_lt (by walk_at"q") (by walk_at"q")
     rw [e2] at z
     walk_at"q"
   refine ⟨_,_,ws ++ [(v,(v + 1 + u) % wide)],rfl,Kp.put hl (Kp.trans kp kp2),?_,?_,ok.app (WOk.one ⟨v0,vw,hv.2.1,hv.2.2,Ne.symm hv.1⟩),by simp [len]⟩
   ·exact ⟨a2,b2,c2,by rw [upd_ne npl,upd_ne (Ne.symm ntp),upd_same]⟩
   ·refine ⟨_,upd_same,?_⟩
    have hr2:=hrs.kp kp2 hp
    refine (hr2.app (.cons ⟨t,rfl,upd_same⟩ .nil)).mono fun b xs e=>?_
    rw [upd_ne (fun z=>?_)]
    ·exact e
    ·subst z
     rw [kp2 _ _ hls (Ne.symm npl)] at e
     cases e
  ·rintro σ Hc ⟨v4,v5,ws,rfl,kp,pn,wl,ok,len⟩
   walk_at "rd"
   exact q l ws Hc hl kp pn wl ok (by walk_at"q")
theorem sc_lifted:FnScope ["_law_wickets_here", "_law_by"] ["_law_wickets_here", "_law_by"] (defScope s_lifted):=⟨rfl,rfl,rfl,by decide +kernel,rfl,by decide +kernel,by decide +kernel⟩
theorem ok_lifted (F:Here K mg "_law_lifted" s_lifted f fd):FnOk P w K mg base CX0 1 f fd ["_law_wickets_here", "_law_by"] spLifted:=by
 refine F.fn.ok sc_lifted (fun vs H Q E h=>?_) (fun cdv A outer s H vs Q E hr h=>?_)
 ·obtain ⟨a,ws,k,rfl,_⟩:=h
  rfl
 ·obtain ⟨a,ws,k,rfl,⟨rs,ha,hrs⟩,hlen,q⟩:=h
  have el:=hrs.len
  refine ⟨_,(pss_one (ps_ret (pe_comp ["_law_first", "_law_second"] [("_law_by", 1)] rfl (pi_list (pv 0)) (fun _ _ _ _ _ _=>by exact (pg_tupK K rfl (n:=2) rfl (pgs_cons (pg_name (i:=0) (show List.Nodup (["_law_first", "_law_second", "_law_by"]:List Str) by decide +kernel) rfl (by walk_at"r")) (pgs_cons (pg_name (i:=1) (show List.Nodup (["_law_first", "_law_second", "_law_by"]:List Str) by decide +kernel) rfl (by walk_at"r")) pgs_nil)))) (fun _ _ _ _ _ _=>by exact pts_nil) (fun _ _ _ _ _ _=>by exact (pe_tup (pa_cons (pe_op op_add (pv 0) (pv 2)) (pa_cons (pe_op op_add (pv 1) (pv 2)) pa_nil))))))),?_⟩
  walk_at "rd"
  refine ⟨⟨_,SqL.of ha⟩,fun l hl=>?_⟩
  refine comp_list (xs:=rs) (fun i ys Hc=>Same H Hc∧Hc l=some (.lst ys)∧Refs Hc ys ((ws.take i).map (lift k))) ⟨Same.put hl (Same.refl H),upd_same,.nil⟩ (lenLine (by walk_at"q")) (fun i ys Hc hi ⟨s1,e1,r1⟩=>⟨SqL.of (s1 a _ ha),e1,by have:=r1.len;simp at this;walk_at"q"⟩) ?_ ?_
  ·rintro i x ys Hc hx ⟨s1,e1,r1⟩
   obtain ⟨w1,t,hw1,rfl,ht⟩:=hrs.get hx
   have ht1:=s1 t _ ht
   refine ⟨t,_,rfl,SqT.of ht1,rfl,?_⟩
   refine ⟨_,_,rfl,_,_,rfl,rfl,?_⟩
   refine ⟨⟨.inl rfl,.inl rfl,.inr rfl,trivial⟩,?_⟩
   refine tru_if ?_
   walk_at "rd"
   intro u hu
   have nul:u≠l:=fun z=>by rw [z,e1] at hu;cases hu
   refine ⟨by rw [upd_ne (Ne.symm nul)];exact e1,Same.put hl (Same.trans s1 (same_new hu _)),upd_same,?_⟩
   have et:(ws.take (i + 1)).map (lift k)=(ws.take i).map (lift k) ++ [lift k w1]:=by
    rw [List.take_add_one,hw1];simp
   rw [et]
   have r2:Refs (upd Hc u (HO.tup [V.int (w1.1 + k),V.int (w1.2 + k)])) (ys ++ [V.ref u]) ((ws.take i).map (lift k) ++ [lift k w1]) :=
    (r1.same (same_new hu _)).app (.cons ⟨u,rfl,upd_same⟩ .nil)
   refine r2.mono fun b xs e=>?_
   rw [upd_ne (fun z=>?_)]
   ·exact e
   ·subst z
    rw [upd_ne (Ne.symm nul),e1] at e
    cases e
  ·rintro ys Hc ⟨s1,e1,r1⟩
   rw [el,List.take_length] at r1
   exact q l Hc hl s1 ⟨ys,e1,r1⟩
theorem sc_folded:FnScope ["_law_wide", "_law_half", "_law_below", "_law_found", "_law_gap"] ["_law_wide"] (defScope s_folded):=⟨rfl,rfl,rfl,by decide +kernel,rfl,by decide +kernel,by decide +kernel⟩
theorem ok_folded0:FnOk P w K mg base CX0 1 f fd ["_law_wide"] (spFold 0) :=
 ⟨fun vs H Q E ⟨k,_,h,_,_⟩=>absurd h (Nat.not_lt_zero _),fun A outer s H args us vs Q E _ _ _ _ ⟨k,_,h,_,_⟩=>absurd h (Nat.not_lt_zero _)⟩
theorem ok_folded1 {n m:Nat} (T:Bn mg) (F:Here K mg "_law_folded" s_folded f fd) (C_law_lifted:Callee P w K mg base "_law_lifted" 1 ["_law_wickets_here", "_law_by"] spLifted)
  (C_law_folded:Callee P w K mg base "_law_folded" (m + 1) ["_law_wide"] (spFold n)):FnOk P w K mg base CX0 (m + 2) f fd ["_law_wide"] (spFold (n + 1)):=by
 refine F.fn.ok sc_folded (fun vs H Q E h=>?_) (fun cdv A outer s H vs Q E hr h=>?_)
 ·obtain ⟨k,rfl,_⟩:=h
  rfl
 ·obtain ⟨k,rfl,kn,k3,q⟩:=h
  refine ⟨_,(pss_cons (ps_if (pt_cmpR op_eq (pv 0) pe_int (nomark _))
  (pss_one (ps_ret (pe_lst pa_nil)))
  pss_nil)
  (pss_cons (ps_set (i:=1) sc_folded.nd rfl (by walk_at"r") (pe_op op_fdiv (pv 0) pe_int))
  (pss_cons (ps_set (i:=2) sc_folded.nd rfl (by walk_at"r") (pe_callC C_law_folded (hr.mono (by walk_at"d")) rfl (pa_cons (pv 1) pa_nil)))
  (pss_cons (ps_set (i:=3) sc_folded.nd rfl (by walk_at"r") (pe_op op_cat (pe_op op_cat (pv 2) (pe_callC C_law_lifted (hr.mono (by walk_at"d")) rfl (pa_cons (pv 2) (pa_cons (pv 1) pa_nil)))) (pe_comp ["_law_k"] [("_law_wide", 0)] rfl (pi_range1 rfl T.n_range (pa_cons (pv 1) pa_nil)) (fun _ _ _ _ _ _=>by exact (pg_name (i:=0) (show List.Nodup (["_law_k", "_law_wide"]:List Str) by decide +kernel) rfl (by walk_at"r"))) (fun _ _ _ _ _ _=>by exact pts_nil) (fun _ _ _ _ _ _=>by exact (pe_tup (pa_cons (pv 0) (pa_cons (pe_op op_sub (pe_op op_sub (pv 1) pe_int) (pv 0)) pa_nil)))))))
  (pss_cons (ps_set (i:=4) sc_folded.nd rfl (by walk_at"r") (pe_op op_fdiv (pv 1) pe_int))
  (pss_cons (ps_while PassesOwn.never  (pt_cmpR op_gt (pv 4) pe_int (nomark _))
  (pss_cons (ps_set (i:=3) sc_folded.nd rfl (by walk_at"r") (pe_op op_cat (pv 3) (pe_comp ["_law_k"] [("_law_gap", 4)] rfl (pi_range1 rfl T.n_range (pa_cons (pv 0) pa_nil)) (fun _ _ _ _ _ _=>by exact (pg_name (i:=0) (show List.Nodup (["_law_k", "_law_gap"]:List Str) by decide +kernel) rfl (by walk_at"r"))) (fun _ _ _ _ _ _=>by exact (pts_one (pt_cmpR op_eq (pe_op op_mod (pe_op op_fdiv (pv 0) (pv 1)) pe_int) pe_int (nomark _)))) (fun _ _ _ _ _ _=>by exact (pe_tup (pa_cons (pv 0) (pa_cons (pe_op op_add (pv 0) (pv 1)) pa_nil)))))))
  (pss_one (ps_set (i:=4) sc_folded.nd rfl (by walk_at"r") (pe_op op_fdiv (pv 4) pe_int)))))
  (pss_one (ps_ret (pv 3))))))))),?_⟩
  refine ⟨_,rfl,rfl,_,rfl,?_⟩
  cases k with
  | zero =>
   refine iteTd (by decide) ?_
   refine ⟨lenLine (by show 0≤100000;decide),fun l fl=>?_⟩
   exact q l _ fl (same_new fl _) ⟨[],upd_same,.nil⟩
  | succ k =>
   have ps:=pw_succ k
   have pp:=pw_pos k
   have p8:=pw_le k3
   have bl:=(fold_all (k:=k) (by walk_at"q")).2
   have fe:foldM (k + 1)=(foldM k ++ (foldM k).map (lift (pw k))) ++ acrossM (pw (k + 1)) ++ gapsM k (pw (k + 1)):=rfl
   have f24:=(fold_all (k:=k + 1) k3).2
   refine iteFd (by rw [decide_eq_true_iff];intro z;have:=V.int.inj z;walk_at"q") ?_
   refine ⟨_,rfl,_,_,rfl,rfl,⟨by decide,by decide⟩,?_⟩
   have eh:pw (k + 1) / 2=pw k:=by walk_at"q"
   dsimp only
   rw [eh]
   refine ⟨_,rfl,k,rfl,by walk_at"q", by walk_at"q", fun lb H2 fb s2 ⟨rb,xb,rrb⟩=>?_⟩
   have l2:=rrb.len
   refine ⟨_,rfl,_,rfl,_,rfl,lb,_,pw k,rfl,⟨rb,xb,rrb⟩,by walk_at"q", fun le H3 fe3 s3 ⟨re,xe,rre⟩=>?_⟩
   have l3:=rre.len
   rw [List.length_map] at l3
   refine ⟨lb,le,_,_,rfl,rfl,s3 _ _ xb,xe,lenLine (by walk_at"q"),fun ld fd'=>?_⟩
   obtain ⟨H4,e_,s4,x4⟩:=nw fd' (HO.lst (rb ++ re));rw [← e_];clear e_
   have r4:Refs H4 (rb ++ re) (foldM k ++ (foldM k).map (lift (pw k))):=((rrb.same s3).app rre).same s4
   have s24:=Same.trans s2 (Same.trans s3 s4)
   refine ⟨_,rfl,_,rfl,by walk_at"q", by walk_at"q", fun lc fc=>?_⟩
   refine comp_range (n:=(pw k).toNat) (fun i ys Hc=>Same H4 Hc∧Hc lc=some (.lst ys)∧ys.length≤i∧Refs Hc ys ((List.range i).map fun j:Nat=>((j:Int),pw (k + 1) - 1 - (j:Int)))) ⟨Same.put fc (Same.refl H4),upd_same,Nat.zero_le _,.nil⟩ (lenLine (by walk_at"q")) (fun i ys Hc ⟨_,e,l,_⟩=>⟨e,l⟩) ?_ ?_
   ·rintro i ys Hc hi ⟨sc,e1,ly,r1⟩
    refine ⟨⟨.inl rfl,.inr rfl,trivial⟩,tru_if ?_⟩
    refine ⟨_,rfl,_,rfl,_,_,rfl,rfl,_,rfl,_,_,rfl,rfl,lenLine (by show 2≤100000;decide),fun u fu=>?_⟩
    obtain ⟨H3,e_,s3,x3⟩:=nw fu (HO.tup [V.int (0 + (i:Int)),V.int (pw (k + 1) - 1 - (0 + (i:Int)))]);rw [← e_];clear e_
    have e3:=s3 _ _ e1
    refine ⟨e3,Same.put fc (Same.trans sc s3),upd_same,by rw [List.length_append];simp;walk_at"q", ?_⟩
    rw [List.range_succ,List.map_append]
    have k4:KT H3 (upd H3 lc (HO.lst (ys ++ [V.ref u]))):=KT.lst e3 (KT.refl _)
    rw [Int.zero_add] at x3
    exact ((r1.same s3).kt k4).app (.cons ⟨u,rfl,k4 _ _ x3⟩ .nil)
   rintro ys Hc ⟨sc,e1,ly,r1⟩
   have eA:((List.range (pw k).toNat).map fun j:Nat=>((j:Int),pw (k + 1) - 1 - (j:Int)))=acrossM (pw (k + 1)):=by unfold acrossM;rw [eh]
   rw [eA] at r1
   have l1:=r1.len
   refine ⟨ld,lc,_,_,rfl,rfl,sc _ _ x4,e1,lenLine (by rw [List.length_append];walk_at"q"),fun l5 f5=>?_⟩
   have s5:Same Hc (upd Hc l5 (HO.lst (rb ++ re ++ ys))):=same_new f5 _
   have x5:(upd Hc l5 (HO.lst (rb ++ re ++ ys))) l5=some (.lst (rb ++ re ++ ys)):=upd_same
   have r5:=((r4.same sc).app r1).same s5
   have s25:=Same.trans s24 (Same.trans sc s5)
   have f5':H l5=none:=(Same.trans s24 sc).free f5
   generalize upd Hc l5 (HO.lst (rb ++ re ++ ys))=H5 at s5 x5 r5 s25
   clear s5 sc e1 r1 fc x4 s4 r4 s24 fd' xe rre s3 fe3 xb rrb fb s2
   refine ⟨_,rfl,_,_,rfl,rfl,⟨by decide,by decide⟩,?_⟩
   refine while_m (fun m σ Hw=>∃ (ws:List (Int × Int)) (rs:List V) (fl:Addr),m≤k∧σ=[some (.int (pw (k + 1))),some (.int (pw k)),some (.ref lb),some (.ref fl),some (.int (pw m / 2))]∧H fl=none∧Same H Hw∧Hw fl=some (.lst rs)∧Refs Hw rs ws∧ws ++ gapsM m (pw (k + 1))=foldM (k + 1)) k
    ⟨_,_,l5,Nat.le_refl _,rfl,f5',s25,x5,r5,fe.symm⟩ ?_ ?_
   ·rintro m σ Hw ⟨ws,rs,fl,mk,rfl,frl,sw,xw,rw',ew⟩
    have lw:=rw'.len
    have le:ws.length + (gapsM m (pw (k + 1))).length=(foldM (k + 1)).length:=by rw [← ew,List.length_append]
    refine ⟨_,rfl,_,_,rfl,rfl,_,rfl,?_⟩
    cases m with
    | zero =>
     refine iteFd (by decide) ?_
     refine ⟨_,rfl,?_⟩
     have e0:ws=foldM (k + 1):=by rw [← ew];exact (List.append_nil ws).symm
     rw [e0] at rw'
     exact q fl Hw frl sw ⟨rs,xw,rw'⟩
    | succ m =>
     have pm:=pw_succ m
     have pmp:=pw_pos m
     have pm8:=pw_le (k:=m) (by walk_at"q")
     have eg:pw (m + 1) / 2=pw m:=by walk_at"q"
     rw [eg]
     refine iteTd (decide_eq_true (show (0:Int) < pw m by walk_at"q")) ?_
     refine ⟨_,rfl,_,rfl,_,rfl,by walk_at"q", by walk_at"q", fun lg fg=>?_⟩
     refine comp_range (n:=(pw (k + 1)).toNat) (fun j zs Hd=>Same Hw Hd∧Hd lg=some (.lst zs)∧zs.length≤j∧Refs Hd zs (((List.range j).filter fun i:Nat=>decide ((i:Int) / pw m % 2=0)).map fun i:Nat=>((i:Int),(i:Int) + pw m))) ⟨Same.put fg (Same.refl Hw),upd_same,Nat.zero_le _,.nil⟩ (lenLine (by walk_at"q")) (fun j zs Hd ⟨_,e,lz,_⟩=>⟨e,lz⟩) ?_ ?_
     ·rintro j zs Hd hj ⟨sd,e2,lz,r2⟩
      refine ⟨⟨.inl rfl,.inr rfl,trivial⟩,?_⟩
      refine ⟨_,rfl,_,rfl,_,_,rfl,rfl,⟨by walk_at"q", by walk_at"q"⟩,_,_,rfl,rfl,(show (0:Int) < 2 by decide),rfl,_,rfl,?_⟩
      rw [List.range_succ,List.filter_append,List.map_append]
      by_cases c:(j:Int) / pw m % 2=0
      ·refine iteTd (decide_eq_true (congrArg V.int (by rw [Int.zero_add];exact c))) ?_
       refine ⟨_,rfl,_,rfl,_,rfl,_,_,rfl,rfl,lenLine (by show 2≤100000;decide),fun u fu=>?_⟩
       obtain ⟨H3,e_,s3,x3⟩:=nw fu (HO.tup [V.int (0 + (j:Int)),V.int (0 + (j:Int) + pw m)]);rw [← e_];clear e_
       have e3:=s3 _ _ e2
       refine ⟨e3,Same.put fg (Same.trans sd s3),upd_same,by rw [List.length_append];simp;walk_at"q", ?_⟩
       have k4:KT H3 (upd H3 lg (HO.lst (zs ++ [V.ref u]))):=KT.lst e3 (KT.refl _)
       rw [Int.zero_add] at x3
       have one:(([j].filter fun i:Nat=>decide ((i:Int) / pw m % 2=0)).map fun i:Nat=>((i:Int),(i:Int) + pw m))=[((j:Int),(j:Int) + pw m)]:=by simp [c]
       rw [one]
       exact ((r2.same s3).kt k4).app (.cons ⟨u,rfl,k4 _ _ x3⟩ .nil)
      ·refine iteFd (by rw [decide_eq_true_iff];intro z;have z':=V.int.inj z;rw [Int.zero_add] at z';exact c z') ?_
       have none':(([j].filter fun i:Nat=>decide ((i:Int) / pw m % 2=0)).map fun i:Nat=>((i:Int),(i:Int) + pw m))=[]:=by simp [c]
       rw [none',List.append_nil]
       exact ⟨sd,e2,by walk_at"q", r2⟩
     ·rintro zs Hd ⟨sd,e2,lz,r2⟩
      refine ⟨fl,lg,_,_,rfl,rfl,sd _ _ xw,e2,lenLine (by walk_at"q"),fun lo fo=>?_⟩
      have s5:Same Hd (upd Hd lo (HO.lst (rs ++ zs))):=same_new fo _
      have scd:=Same.trans sw sd
      refine ⟨_,rfl,_,_,rfl,rfl,⟨by decide,by decide⟩,m,Nat.lt_succ_self _,ws ++ gapL (pw (k + 1)) (pw m),rs ++ zs,lo,by walk_at"q", rfl,scd.free fo,Same.trans scd s5,upd_same,((rw'.same sd).app r2).same s5,?_⟩
      rw [← ew,List.append_assoc]
      rfl
   ·rintro σ Hw Q1 Q2 hm ⟨v,e,h⟩
    refine ⟨v,e,?_⟩
    obtain ⟨i,j,e1,e2,b,e3,h⟩:=h
    exact ⟨i,j,e1,e2,b,e3,hm _ _ h⟩
theorem sc_bent:FnScope ["_law_pen_here", "_law_wide", "_law_wickets_here", "_law_at", "_law_first", "_law_second", "_law_way", "_law_put"] ["_law_pen_here", "_law_wide", "_law_wickets_here"] (defScope s_bent):=⟨rfl,rfl,rfl,by decide +kernel,rfl,by decide +kernel,by decide +kernel⟩
theorem ok_bent (T:Bn mg) (F:Here K mg "_law_bent" s_bent f fd) (C_law_take:Callee P w K mg base "_law_take" 1 ["_law_pen_here", "_law_size"] spTake)
  (C_law_wickets:Callee P w K mg base "_law_wickets" 2 ["_law_pen_here", "_law_wide", "_law_many"] spWickets):FnOk P w K mg base CX0 3 f fd ["_law_pen_here", "_law_wide", "_law_wickets_here"] spBentX:=by
 refine F.fn.ok sc_bent (fun vs H Q E h=>?_) (fun cdv A outer s H vs Q E hr h=>?_)
 ·obtain ⟨p,wide,a,ws,rfl,_⟩:=h
  rfl
 ·obtain ⟨p,wide,a,ws,rfl,⟨a0,b0,c0,hp0⟩,w1,w8,nap,⟨rs,ha,hrs⟩,ok,len,q⟩:=h
  have lrs:=hrs.len
  refine ⟨_,(pss_cons (ps_if (pt_cmpR (op_eqNil hr.units0) (pv 2) (pe_lst pa_nil) (nomark _))
  (pss_one (ps_ret (pv 2)))
  pss_nil)
  (pss_cons (ps_set (i:=3) sc_bent.nd rfl (by walk_at"r") (pe_callC C_law_take (hr.mono (by walk_at"d")) rfl (pa_cons (pv 0) (pa_cons (pe_callB call_len_seq rfl T.n_len PySem.boot_len (pa_cons (pv 2) pa_nil)) pa_nil))))
  (pss_cons (ps_asg (pe_ix ix_list (pv 2) (pv 3) (fun _ _=>rfl)) (pg_tup rfl (pgs_cons (pg_name (i:=4) sc_bent.nd rfl (by walk_at"r")) (pgs_cons (pg_name (i:=5) sc_bent.nd rfl (by walk_at"r")) pgs_nil))))
  (pss_cons (ps_set (i:=6) sc_bent.nd rfl (by walk_at"r") (pe_callC C_law_take (hr.mono (by walk_at"d")) rfl (pa_cons (pv 0) (pa_cons pe_int pa_nil))))
  (pss_cons (ps_set (i:=7) sc_bent.nd rfl (by walk_at"r") (pe_ix ix_list (pe_lst (pa_cons (pe_lst pa_nil) (pa_cons (pe_lst (pa_cons (pe_tup (pa_cons (pv 5) (pa_cons (pv 4) pa_nil))) pa_nil)) (pa_cons (pe_op op_rep (pe_lst (pa_cons (pe_tup (pa_cons (pv 4) (pa_cons (pv 5) pa_nil))) pa_nil)) pe_int) (pa_cons (pe_op op_cat (pe_callC C_law_wickets (hr.mono (by walk_at"d")) rfl (pa_cons (pv 0) (pa_cons (pv 1) (pa_cons pe_int pa_nil)))) (pe_lst (pa_cons (pe_tup (pa_cons (pv 4) (pa_cons (pv 5) pa_nil))) pa_nil))) pa_nil))))) (pv 6) (fun _ _=>rfl)))
  (pss_one (ps_ret (pe_op op_cat (pe_op op_cat (pe_slice sl_list (pv 2) po_none (po_some (pv 3))) (pv 7)) (pe_slice sl_list (pv 2) (po_some (pe_op op_add (pv 3) pe_int)) po_none))))))))),?_⟩
  walk_at "rd"
  intro l0 f0
  obtain ⟨k1,hp1,x1,n1⟩:=fresh_step hp0 f0 (.lst [])
  generalize hH1:upd H l0 (HO.lst [])=H1 at k1 hp1 x1
  refine ⟨a,l0,rs,rfl,rfl,SqL.of (k1 a _ ha nap),SqL.of x1,_,rfl,?_⟩
  refine ite2 (fun g=>?_) (fun g=>?_)
  ·walk_at "rd"
   exact q a ws H1 nap k1 ⟨a0,b0,c0,hp1⟩ ⟨rs,k1 a _ ha nap,hrs.kp k1 hp0⟩ ok (by walk_at"q")
  ·have ne:rs≠[]:=not_dec g
   have lpos:0 < rs.length:=List.length_pos_iff.mpr ne
   walk_at "rd"
   refine ⟨_,_,rfl,.inl (SqL.of (k1 a _ ha nap)),?_⟩
   walk_at "rd"
   refine ⟨p,a0,b0,c0,rs.length,rfl,hp1,by walk_at"q", by walk_at"q", fun at_ a2 b2 c2 at0 atl=>?_⟩
   have k2:Kp p H (upd H1 p (.lst [.int a2,.int b2,.int c2])):=Kp.trans k1 Kp.upd
   have hp2:(upd H1 p (.lst [.int a2,.int b2,.int c2])) p=some (.lst [.int a2,.int b2,.int c2]):=upd_same
   generalize hH2:upd H1 p (HO.lst [V.int a2,V.int b2,V.int c2])=H2 at k2 hp2
   walk_at "rd"
   obtain ⟨t,w0,et,mw0,_,ht⟩:=atI_ref hrs at0 atl
   refine ⟨a,_,_,_,rfl,rfl,SqL.of (k2 a _ ha nap),et,?_⟩
   refine ⟨t,_,rfl,SqT.of (k2.tup hp0 ht),rfl,?_⟩
   refine ⟨_,_,rfl,_,_,rfl,rfl,?_⟩
   obtain ⟨o1,o2,o3,o4,o5⟩:=ok w0 mw0
   walk_at "rd"
   refine ⟨p,a2,b2,c2,4,rfl,hp2,by decide,by decide,fun way a3 b3 c3 way0 way4=>?_⟩
   have k3:Kp p H (upd H2 p (.lst [.int a3,.int b3,.int c3])):=Kp.trans k2 Kp.upd
   have hp3:(upd H2 p (.lst [.int a3,.int b3,.int c3])) p=some (.lst [.int a3,.int b3,.int c3]):=upd_same
   generalize hH3:upd H2 p (HO.lst [V.int a3,V.int b3,V.int c3])=H3 at k3 hp3
   walk_at "rd"
   intro e0 f0'
   obtain ⟨k4,hp4,x4,n4⟩:=fresh_step hp3 f0' (.lst [])
   generalize hH4:upd H3 e0 (HO.lst [])=H4 at k4 hp4 x4
   walk_at "rd"
   intro t1 f1
   obtain ⟨k5,hp5,x5,n5⟩:=fresh_step hp4 f1 (.tup [.int w0.2,.int w0.1])
   generalize hH5:upd H4 t1 (HO.tup [V.int w0.2,V.int w0.1])=H5 at k5 hp5 x5
   walk_at "rd"
   intro e1 f1'
   obtain ⟨k6,hp6,x6,n6⟩:=fresh_step hp5 f1' (.lst [.ref t1])
   generalize hH6:upd H5 e1 (HO.lst [V.ref t1])=H6 at k6 hp6 x6
   walk_at "rd"
   intro t2 f2
   obtain ⟨k7,hp7,x7,n7⟩:=fresh_step hp6 f2 (.tup [.int w0.1,.int w0.2])
   generalize hH7:upd H6 t2 (HO.tup [V.int w0.1,V.int w0.2])=H7 at k7 hp7 x7
   walk_at "rd"
   intro e2 f2'
   obtain ⟨k8,hp8,x8,n8⟩:=fresh_step hp7 f2' (.lst [.ref t2])
   generalize hH8:upd H7 e2 (HO.lst [V.ref t2])=H8 at k8 hp8 x8
   walk_at "rd"
   refine ⟨e2,2,_,rfl,rfl,x8,by decide,by decide,lenLine (by show 1 * 2≤100000;decide),fun e3 f3=>?_⟩
   obtain ⟨k9,hp9,x9,n9⟩:=fresh_step hp8 f3 (.lst [.ref t2,.ref t2])
   show tCons _ _ _ (upd H8 e3 (HO.lst [V.ref t2,V.ref t2])) _
   generalize hH9:upd H8 e3 (HO.lst [V.ref t2,V.ref t2])=H9 at k9 hp9 x9
   walk_at "rd"
   refine ⟨p,wide,1,rfl,⟨_,_,_,hp9⟩,w1,w8,by decide,by decide,fun e4 us4 H10 f4 k10 ⟨a10,b10,c10,hp10⟩ ⟨rs4,x10,hr10⟩ ok4 len4=>?_⟩
   have n10:e4≠p:=Ne.symm (ne_of_none hp9 f4)
   have l4:=hr10.len
   walk_at "rd"
   intro t3 f3'
   obtain ⟨k11,hp11,x11,n11⟩:=fresh_step hp10 f3' (.tup [.int w0.1,.int w0.2])
   generalize hH11:upd H10 t3 (HO.tup [V.int w0.1,V.int w0.2])=H11 at k11 hp11 x11
   walk_at "rd"
   intro e5 f5
   obtain ⟨k12,hp12,x12,n12⟩:=fresh_step hp11 f5 (.lst [.ref t3])
   generalize hH12:upd H11 e5 (HO.lst [V.ref t3])=H12 at k12 hp12 x12
   walk_at "rd"
   refine ⟨e4,e5,rs4,[.ref t3],rfl,rfl,k12 _ _ (k11 _ _ x10 n10) n10,x12,lenLine (by simp;walk_at"q"),fun e6 f6=>?_⟩
   obtain ⟨k13,hp13,x13,n13⟩:=fresh_step hp12 f6 (.lst (rs4 ++ [.ref t3]))
   generalize hH13:upd H12 e6 (HO.lst (rs4 ++ [V.ref t3]))=H13 at k13 hp13 x13
   walk_at "rd"
   intro e7 f7
   obtain ⟨k14,hp14,x14,n14⟩:=fresh_step hp13 f7 (.lst [.ref e0,.ref e1,.ref e3,.ref e6])
   generalize hH14:upd H13 e7 (HO.lst [V.ref e0,V.ref e1,V.ref e3,V.ref e6])=H14 at k14 hp14 x14
   -- all that was made stands at H14
   have kk13:Kp p H12 H14:=Kp.trans k13 k14
   have kk12:Kp p H11 H14:=Kp.trans k12 kk13
   have kk11:Kp p H10 H14:=Kp.trans k11 kk12
   have kk10:Kp p H9 H14:=Kp.trans k10 kk11
   have kk9:Kp p H8 H14:=Kp.trans k9 kk10
   have kk8:Kp p H7 H14:=Kp.trans k8 kk9
   have kk7:Kp p H6 H14:=Kp.trans k7 kk8
   have kk6:Kp p H5 H14:=Kp.trans k6 kk7
   have kk5:Kp p H4 H14:=Kp.trans k5 kk6
   have kk4:Kp p H H14:=Kp.trans k3 (Kp.trans k4 kk5)
   have put:∃ (e:Addr) (qs:List V) (us:List (Int × Int)),atI [V.ref e0,V.ref e1,V.ref e3,V.ref e6] way=some (.ref e)∧e≠p∧H14 e=some (.lst qs)∧Refs H14 qs us∧WOk wide us∧us.length≤3:=by
    have wc:way=0∨way=1∨way=2∨way=3:=by walk_at"q"
    rcases wc with h | h | h | h <;> subst h
    ·exact ⟨e0,[],[],rfl,n4,kk5 _ _ x4 n4,.nil,WOk.nil,by decide⟩
    ·exact ⟨e1,[.ref t1],[(w0.2,w0.1)],rfl,n6,kk7 _ _ x6 n6,.cons ⟨t1,rfl,kk6 _ _ x5 n5⟩ .nil,WOk.one ⟨o3,o4,o1,o2,Ne.symm o5⟩,by simp⟩
    ·exact ⟨e3,[.ref t2,.ref t2],[(w0.1,w0.2),(w0.1,w0.2)],rfl,n9,kk10 _ _ x9 n9,.cons ⟨t2,rfl,kk8 _ _ x7 n7⟩ (.cons ⟨t2,rfl,kk8 _ _ x7 n7⟩ .nil),
      WOk.app (WOk.one ⟨o1,o2,o3,o4,o5⟩) (WOk.one ⟨o1,o2,o3,o4,o5⟩),by simp⟩
    ·exact ⟨e6,rs4 ++ [.ref t3],us4 ++ [(w0.1,w0.2)],rfl,n13,k14 _ _ x13 n13,(hr10.kp kk11 hp10).app (.cons ⟨t3,rfl,kk12 _ _ x11 n11⟩ .nil),ok4.app (WOk.one ⟨o1,o2,o3,o4,o5⟩),by simp;walk_at"q"⟩
   obtain ⟨e,qs,us,ee,ne',xe,hq,okq,lq⟩:=put
   have lqs:=hq.len
   refine ⟨_,rfl,?_⟩
   refine ⟨e7,_,_,_,rfl,rfl,SqL.of x14,ee,?_⟩
   have ha14:=kk4 a _ ha nap
   have hr14:=hrs.kp kk4 hp0
   refine ⟨_,rfl,_,rfl,_,rfl,?_⟩
   refine ⟨a,rs,rfl,SqL.of ha14,fun s1 fs1=>?_⟩
   obtain ⟨us1,hc1,sub1,len1⟩:=hr14.cut none (some at_)
   obtain ⟨k15,hp15,x15,n15⟩:=fresh_step hp14 fs1 (.lst (cutV rs none (some at_)))
   generalize hH15:upd H14 s1 (HO.lst (cutV rs none (some at_)))=H15 at k15 hp15 x15
   have lc1:=hc1.len
   walk_at "rd"
   refine ⟨s1,e,_,_,rfl,rfl,x15,k15 _ _ xe ne',lenLine (by walk_at"q"),fun s2 fs2=>?_⟩
   obtain ⟨k16,hp16,x16,n16⟩:=fresh_step hp15 fs2 (.lst (cutV rs none (some at_) ++ qs))
   generalize hH16:upd H15 s2 (HO.lst (cutV rs none (some at_) ++ qs))=H16 at k16 hp16 x16
   refine ⟨_,rfl,_,rfl,_,_,rfl,rfl,_,rfl,?_⟩
   refine ⟨a,rs,rfl,SqL.of (k16 _ _ (k15 _ _ ha14 nap) nap),fun s3 fs3=>?_⟩
   obtain ⟨us3,hc3,sub3,len3⟩:=hr14.cut (some (at_ + 1)) none
   obtain ⟨k17,hp17,x17,n17⟩:=fresh_step hp16 fs3 (.lst (cutV rs (some (at_ + 1)) none))
   generalize hH17:upd H16 s3 (HO.lst (cutV rs (some (at_ + 1)) none))=H17 at k17 hp17 x17
   have lc3:=hc3.len
   refine ⟨s2,s3,_,_,rfl,rfl,k17 _ _ x16 n16,x17,lenLine (by rw [List.length_append];walk_at"q"),fun s4 fs4=>?_⟩
   obtain ⟨k18,hp18,x18,n18⟩:=fresh_step hp17 fs4 (.lst ((cutV rs none (some at_) ++ qs) ++ cutV rs (some (at_ + 1)) none))
   have kk14:Kp p H14 _:=Kp.trans k15 (Kp.trans k16 (Kp.trans k17 k18))
   refine q s4 ((us1 ++ us) ++ us3) _ n18 (Kp.trans kk4 kk14) ⟨_,_,_,hp18⟩ ⟨_,x18,(((hc1.app hq).app hc3).kp kk14 hp14)⟩ (WOk.app (WOk.app (ok.sub sub1) okq) (ok.sub sub3)) ?_
   rw [List.length_append,List.length_append]
   have ct:=cut_two (rs:=rs) at0 (by walk_at"q")
   walk_at"q"
theorem sc_is_whole:FnScope ["thing"] ["thing"] (defScope s_is_whole):=⟨rfl,rfl,rfl,by decide +kernel,rfl,by decide +kernel,by decide +kernel⟩
theorem ok_is_whole (T:Bn mg) (F:Here K mg "is_whole" s_is_whole f fd):FnOk P w K mg base CX0 1 f fd ["thing"] spWholeG:=by
 refine F.fn.ok sc_is_whole (fun vs H Q E h=>?_) (fun cdv A outer s H vs Q E hr h=>?_)
 ·obtain ⟨x,rfl,_⟩:=h
  rfl
 ·obtain ⟨x,rfl,h⟩:=h
  refine ⟨_,(pss_one (ps_ret (pe_and (pe_callB call_isinst rfl T.n_isinstance boot_isinstance (pa_cons (pv 0) (pa_cons (pe_bltn (v:=V.ty "int") (u:=.type "int") rfl T.n_int (by decide +kernel) rfl) pa_nil))) (pe_one (pe_not (pe_callB call_isinst rfl T.n_isinstance boot_isinstance (pa_cons (pv 0) (pa_cons (pe_bltn (v:=V.ty "bool") (u:=.type "bool") rfl T.n_bool (by decide +kernel) rfl) pa_nil)))))))),?_⟩
  rcases h with ⟨i,rfl,q⟩ | ⟨o,q⟩
  ·refine ⟨_,rfl,_,_,_,true,rfl,TyOf.int i,rfl,_,rfl,iteTd rfl ?_⟩
   exact ⟨_,rfl,_,_,_,false,rfl,TyOf.int i,rfl,_,rfl,q⟩
  ·cases o with
   | bl b =>
    refine ⟨_,rfl,_,_,_,true,rfl,TyOf.bl b,rfl,_,rfl,iteTd rfl ?_⟩
    exact ⟨_,rfl,_,_,_,true,rfl,TyOf.bl b,rfl,_,rfl,q⟩
   | non=>exact ⟨_,rfl,_,_,_,false,rfl,TyOf.non,rfl,_,rfl,iteFd (by decide) q⟩
   | str z=>exact ⟨_,rfl,_,_,_,false,rfl,TyOf.str z,rfl,_,rfl,iteFd (by decide) q⟩
   | lst h=>exact ⟨_,rfl,_,_,_,false,rfl,TyOf.lst h,rfl,_,rfl,iteFd (by decide) q⟩
   | tup h=>exact ⟨_,rfl,_,_,_,false,rfl,TyOf.tup h,rfl,_,rfl,iteFd (by decide) q⟩
   | dct h=>exact ⟨_,rfl,_,_,_,false,rfl,TyOf.dK h,rfl,_,rfl,iteFd (by decide) q⟩
theorem sc_is_lane:FnScope ["wide", "thing"] ["wide", "thing"] (defScope s_is_lane):=⟨rfl,rfl,rfl,by decide +kernel,rfl,by decide +kernel,by decide +kernel⟩
theorem ok_is_lane (T:Bn mg) (F:Here K mg "is_lane" s_is_lane f fd) (Cis_wholeT:Callee P w K mg base "is_whole" 1 ["thing"] spWholeT):FnOk P w K mg base CX0 2 f fd ["wide", "thing"] spLaneT:=by
 have Cis_whole:=Cis_wholeT
 refine F.fn.ok sc_is_lane (fun vs H Q E h=>?_) (fun cdv A outer s H vs Q E hr h=>?_)
 ·obtain ⟨wide,x,rfl,_⟩:=h
  rfl
 ·obtain ⟨wide,x,rfl,t,q⟩:=h
  refine ⟨_,(pss_one (ps_ret (pe_and (pe_callC Cis_whole (hr.mono (by walk_at"d")) rfl (pa_cons (pv 1) pa_nil)) (pe_one (pe_chain op_le op_lt pe_int (pv 1) (pv 0)))))),?_⟩
  rcases t with ⟨i,rfl⟩ | o
  ·refine ⟨_,rfl,_,rfl,.inl ⟨i,rfl⟩,_,rfl,iteTd rfl ?_⟩
   refine ⟨_,rfl,_,_,rfl,rfl,_,rfl,?_⟩
   by_cases h0:0≤i
   ·refine iteTd (decide_eq_true h0) ?_
    refine ⟨_,rfl,_,_,rfl,rfl,?_⟩
    have e:laneB wide (.int i)=decide (i < wide):=by unfold laneB;simp [h0]
    rw [e] at q
    exact q
   ·refine iteFd (by simpa using h0) ?_
    have e:laneB wide (.int i)=false:=by unfold laneB;simp [h0]
    rw [e] at q
    exact q
  ·refine ⟨_,rfl,x,rfl,.inr o,_,rfl,iteFd (by rw [odd_notI o];decide) ?_⟩
   rw [odd_notL o] at q
   exact q
theorem sc_let_through:FnScope ["net", "counts", "now", "odd", "number", "wicket", "both"] ["net", "counts"] (defScope s_let_through):=⟨rfl,rfl,rfl,by decide +kernel,rfl,by decide +kernel,by decide +kernel⟩
theorem ok_let_through (T:Bn mg) (F:Here K mg "let_through" s_let_through f fd):FnOk P w K mg base CX0 1 f fd ["net", "counts"] spThru:=by
 refine F.fn.ok sc_let_through (fun vs H Q E h=>?_) (fun cdv A outer s H vs Q E hr h=>?_)
 ·obtain ⟨v,wide,ws,c,cs,rfl,_⟩:=h
  rfl
 ·obtain ⟨v,wide,ws,c,cs,rfl,⟨n,t,rs,rfl,hn,ht,hrs⟩,ok,len,hc,lc,q⟩:=h
  have lrs:=hrs.len
  refine ⟨_,(pss_cons (ps_set (i:=2) sc_let_through.nd rfl (by walk_at"r") (pe_callTy call_list_of rfl T.n_list boot_listT (pa_cons (pv 1) pa_nil)))
  (pss_cons (ps_set (i:=3) sc_let_through.nd rfl (by walk_at"r") (pe_lst pa_nil))
  (pss_cons (ps_for PassesOwn.never rfl  (pi_enumT rfl T.n_enumerate (pa_cons (pe_ix ix_tup (pv 0) pe_int (fun _ _=>rfl)) pa_nil)) (pg_tup rfl (pgs_cons (pg_name (i:=4) sc_let_through.nd rfl (by walk_at"r")) (pgs_cons (pg_name (i:=5) sc_let_through.nd rfl (by walk_at"r")) pgs_nil)))
  (pss_cons (ps_set (i:=6) sc_let_through.nd rfl (by walk_at"r") (pe_op op_add (pe_ix ix_list (pv 2) (pe_ix ix_tup (pv 5) pe_int (fun _ _=>rfl)) (fun _ _=>rfl)) (pe_ix ix_list (pv 2) (pe_ix ix_tup (pv 5) pe_int (fun _ _=>rfl)) (fun _ _=>rfl))))
  (pss_cons (ps_asg (pe_op op_fdiv (pe_op op_add (pv 6) pe_int) pe_int) (pg_sub (pv 2) (pe_ix ix_tup (pv 5) pe_int (fun _ _=>rfl)) set_list))
  (pss_cons (ps_asg (pe_op op_fdiv (pv 6) pe_int) (pg_sub (pv 2) (pe_ix ix_tup (pv 5) pe_int (fun _ _=>rfl)) set_list))
  (pss_one (ps_if (pt_cmpR op_eq (pe_op op_mod (pv 6) pe_int) pe_int (nomark _))
  (pss_one (ps_expr (pe_bm PySem.F.plainAttrs_list PySem.F.slot_list_append PySem.F.type_list_append mt_append (pv 3) (pa_cons (pv 4) pa_nil))))
  pss_nil))))))
  (pss_one (ps_ret (pe_tup (pa_cons (pv 2) (pa_cons (pv 3) pa_nil)))))))),?_⟩
  refine ⟨_,rfl,c,_,rfl,.inl (SqL.of hc),fun ln fn=>?_⟩
  refine ⟨lenLine (by show 0≤100000;decide),fun lo fo=>?_⟩
  have fo':H lo=none:=(same_new fn _).free fo
  have nno:ln≠lo:=ne_of_none upd_same fo
  refine ⟨_,rfl,n,_,_,_,rfl,rfl,SqT.of (by walk_at "hh"),by rfl,?_⟩
  refine ⟨t,rfl,⟨rs,SqT.of (by walk_at "hh")⟩,?_⟩
  refine for_enum (xs:=rs) (fun i σ Hc=>∃ v4 v5 v6,σ=[some (.ref n),some (.ref c),some (.ref ln),some (.ref lo),v4,v5,v6]∧Same H Hc∧Hc ln=some (.lst ((thruM cs (ws.take i)).map V.int))∧Hc lo=some (.lst ((oddsM 0 cs (ws.take i)).map V.int)))
   ⟨none,none,none,rfl,by walk_at "sm", by walk_at "hh", upd_same⟩ (fun i σ Hc _ ⟨_,_,_,_,sc,_⟩=>SqT.of (sc _ _ ht)) ?_ ?_
  ·rintro i x T σ Hc hx fT ⟨v4,v5,v6,rfl,sc,xn,xo⟩
   obtain ⟨w0,t0,hw0,rfl,ht0⟩:=hrs.get hx
   obtain ⟨o1,o2,o3,o4,o5⟩:=WOk.mem ok hw0
   have il:i < ws.length:=(List.getElem?_eq_some_iff.mp hw0).1
   have lth:=thruM_len (ws.take i) cs
   have lod:=oddsM_len (ws.take i) 0 cs
   rw [List.length_take] at lod
   have ht1:(upd Hc T (HO.tup [V.int i,V.ref t0])) t0=some (.tup [.int w0.1,.int w0.2]):=(same_new fT _) _ _ (sc _ _ ht0)
   have xn1:(upd Hc T (HO.tup [V.int i,V.ref t0])) ln=some (.lst ((thruM cs (ws.take i)).map V.int)):=(same_new fT _) _ _ xn
   have xo1:(upd Hc T (HO.tup [V.int i,V.ref t0])) lo=some (.lst ((oddsM 0 cs (ws.take i)).map V.int)):=(same_new fT _) _ _ xo
   have sc1:Same H (upd Hc T (HO.tup [V.int i,V.ref t0])):=Same.trans sc (same_new fT _)
   refine ⟨T,_,rfl,SqT.of upd_same,rfl,?_⟩
   generalize upd Hc T (HO.tup [V.int i,V.ref t0])=H1 at ht1 xn1 xo1 sc1
   refine ⟨_,_,rfl,_,_,rfl,rfl,?_⟩
   refine ⟨_,rfl,_,rfl,t0,_,_,_,rfl,rfl,SqT.of ht1,rfl,ln,_,_,_,rfl,rfl,SqL.of xn1,atI_int o1 (by walk_at"q"),?_⟩
   refine ⟨_,rfl,_,rfl,t0,_,_,_,rfl,rfl,SqT.of ht1,rfl,ln,_,_,_,rfl,rfl,SqL.of xn1,atI_int o3 (by walk_at"q"),?_⟩
   refine ⟨_,_,rfl,rfl,?_⟩
   refine ⟨_,rfl,_,_,rfl,rfl,_,_,rfl,rfl,by walk_at "side", ?_⟩
   refine ⟨_,rfl,_,rfl,t0,_,_,_,rfl,rfl,SqT.of ht1,rfl,ln,_,w0.1,w0.1.toNat,rfl,rfl,xn1,ixN_of o1 (by rw [List.length_map];walk_at"q"),?_⟩
   refine ⟨_,rfl,_,_,rfl,rfl,by walk_at "side", ?_⟩
   have nt0:t0≠ln:=ne3 ht1 xn1
   refine ⟨_,rfl,_,rfl,t0,_,_,_,rfl,rfl,SqT.of ((upd_ne nt0).trans ht1),rfl,ln,_,w0.2,w0.2.toNat,rfl,rfl,upd_same,ixN_of o3 (by rw [List.length_set,List.length_map];walk_at"q"),?_⟩
   rw [upd_upd]
   have eL:((List.map V.int (thruM cs (ws.take i))).set w0.1.toNat (V.int (((thruM cs (ws.take i)).getD w0.1.toNat 0 + (thruM cs (ws.take i)).getD w0.2.toNat 0 + 1) / 2))).set w0.2.toNat (V.int (((thruM cs (ws.take i)).getD w0.1.toNat 0 + (thruM cs (ws.take i)).getD w0.2.toNat 0) / 2))=(thruM cs (ws.take (i + 1))).map V.int:=by
    rw [take_snoc hw0,thruM_snoc,set_map,set_map]
    rfl
   have eO:=oddsM_snoc (ws.take i) w0 0 cs
   rw [← take_snoc hw0,List.length_take,Nat.min_eq_left (by walk_at"q"),Nat.zero_add] at eO
   refine ⟨_,rfl,_,_,rfl,rfl,by walk_at "side", rfl,_,rfl,?_⟩
   refine ite2 (fun g=>?_) (fun g=>?_)
   ·have g':both (thruM cs (ws.take i)) w0 % 2=1:=veq g
    rw [if_pos g'] at eO
    refine ⟨_,rfl,.inl ⟨rfl,_,SqL.of (by walk_at "hh")⟩,_,rfl,lo,_,_,rfl,rfl,by walk_at "hh", lenLt (by rw [List.length_map];walk_at"q"),?_⟩
    refine ⟨_,_,_,rfl,Same.put fo' (Same.put fn sc1),?_,?_⟩
    ·rw [upd_ne nno,upd_same]
     exact congrArg (fun z=>some (HO.lst z)) eL
    ·rw [upd_same,eO,List.map_append]
     rfl
   ·have g':¬ both (thruM cs (ws.take i)) w0 % 2=1:=vne g
    rw [if_neg g',List.append_nil] at eO
    refine ⟨_,_,_,rfl,Same.put fn sc1,?_,?_⟩
    ·rw [upd_same]
     exact congrArg (fun z=>some (HO.lst z)) eL
    ·rw [upd_ne (Ne.symm nno),eO]
     exact xo1
  ·rintro σ Hc ⟨v4,v5,v6,rfl,sc,xn,xo⟩
   rw [lrs,List.take_length] at xn xo
   refine ⟨_,rfl,_,rfl,lenLine (by show 2≤100000;decide),fun t9 f9=>?_⟩
   exact q t9 ln lo _ (sc.free f9) fn fo' nno (Same.trans sc (same_new f9 _)) upd_same ((same_new f9 _) _ _ xn) ((same_new f9 _) _ _ xo)
theorem sc_exits:FnScope ["net", "counts"] ["net", "counts"] (defScope s_exits):=⟨rfl,rfl,rfl,by decide +kernel,rfl,by decide +kernel,by decide +kernel⟩
theorem ok_exits (T:Bn mg) (F:Here K mg "exits" s_exits f fd) (Clet_through:Callee P w K mg base "let_through" 1 ["net", "counts"] spThru):FnOk P w K mg base CX0 2 f fd ["net", "counts"] spExits:=by
 refine F.fn.ok sc_exits (fun vs H Q E h=>?_) (fun cdv A outer s H vs Q E hr h=>?_)
 ·obtain ⟨v,wide,ws,c,cs,rfl,_⟩:=h
  rfl
 ·obtain ⟨v,wide,ws,c,cs,rfl,net,ok,len,hc,lc,q⟩:=h
  refine ⟨_,(pss_one (ps_ret (pe_ix ix_tup (pe_callC Clet_through (hr.mono (by walk_at"d")) rfl (pa_cons (pv 0) (pa_cons (pv 1) pa_nil))) pe_int (fun _ _=>rfl)))),?_⟩
  refine ⟨_,rfl,_,rfl,v,wide,ws,c,cs,rfl,net,ok,len,hc,lc,fun t a b H' ft fa fb nab sm ht ha hb=>?_⟩
  exact ⟨t,_,_,_,rfl,rfl,SqT.of ht,rfl,q a H' fa sm ha⟩
theorem sc_layers:FnScope ["net", "reached", "found", "first", "second", "layer"] ["net"] (defScope s_layers):=⟨rfl,rfl,rfl,by decide +kernel,rfl,by decide +kernel,by decide +kernel⟩
theorem ok_layers (T:Bn mg) (F:Here K mg "layers" s_layers f fd):FnOk P w K mg base CX0 1 f fd ["net"] spLayers:=by
 refine F.fn.ok sc_layers (fun vs H Q E h=>?_) (fun cdv A outer s H vs Q E hr h=>?_)
 ·obtain ⟨v,wide,ws,rfl,_⟩:=h
  rfl
 ·obtain ⟨v,wide,ws,rfl,⟨n,t,rs,rfl,hn,ht,hrs⟩,w1,w8,ok,len,q⟩:=h
  have lrs:=hrs.len
  refine ⟨_,(pss_cons (ps_set (i:=1) sc_layers.nd rfl (by walk_at"r") (pe_op op_rep (pe_lst (pa_cons pe_int pa_nil)) (pe_ix ix_tup (pv 0) pe_int (fun _ _=>rfl))))
  (pss_cons (ps_set (i:=2) sc_layers.nd rfl (by walk_at"r") (pe_lst pa_nil))
  (pss_cons (ps_for PassesOwn.never rfl  (pi_tup (pe_ix ix_tup (pv 0) pe_int (fun _ _=>rfl))) (pg_tup rfl (pgs_cons (pg_name (i:=3) sc_layers.nd rfl (by walk_at"r")) (pgs_cons (pg_name (i:=4) sc_layers.nd rfl (by walk_at"r")) pgs_nil)))
  (pss_cons (ps_set (i:=5) sc_layers.nd rfl (by walk_at"r") (pe_op op_add pe_int (pe_callB (call_max2 rfl) rfl T.n_max PyProof.Rows.boot_max (pa_cons (pe_ix ix_list (pv 1) (pv 3) (fun _ _=>rfl)) (pa_cons (pe_ix ix_list (pv 1) (pv 4) (fun _ _=>rfl)) pa_nil)))))
  (pss_cons (ps_asg (pv 5) (pg_sub (pv 1) (pv 3) set_list))
  (pss_cons (ps_asg (pv 5) (pg_sub (pv 1) (pv 4) set_list))
  (pss_one (ps_expr (pe_bm PySem.F.plainAttrs_list PySem.F.slot_list_append PySem.F.type_list_append mt_append (pv 2) (pa_cons (pv 5) pa_nil))))))))
  (pss_one (ps_ret (pv 2)))))),?_⟩
  walk_at "rd"
  intro l0 f0
  obtain ⟨H1,eH1,s1,x1⟩:∃ H1,upd H l0 (HO.lst [V.int 0])=H1∧Same H H1∧H1 l0=some (.lst [.int 0]):=⟨_,rfl,same_new f0 _,upd_same⟩
  rw [eH1]
  refine ⟨_,rfl,n,_,_,_,rfl,rfl,SqT.of (s1 _ _ hn),rfl,?_⟩
  refine ⟨l0,wide,_,rfl,rfl,x1,by walk_at"q", by walk_at"q", lenLine (by show 1 * wide.toNat≤100000;walk_at"q"),fun lr fr=>?_⟩
  have er:(List.replicate wide.toNat [V.int 0]).flatten=(List.replicate wide.toNat (0:Int)).map V.int:=by
   generalize wide.toNat=k
   induction k with
   | zero=>rfl
   | succ k ih=>rw [List.replicate_succ,List.flatten_cons,ih,List.replicate_succ,List.map_cons];rfl
  rw [er]
  obtain ⟨H2,eH2,s2,x2⟩:∃ H2,upd H1 lr (HO.lst ((List.replicate wide.toNat (0:Int)).map V.int))=H2∧Same H1 H2∧H2 lr=some (.lst ((List.replicate wide.toNat (0:Int)).map V.int)):=⟨_,rfl,same_new fr _,upd_same⟩
  rw [eH2]
  have fr':H lr=none:=s1.free fr
  walk_at "rd"
  intro lf ff
  have nlf:lr≠lf:=ne_of_none x2 ff
  have ff':H lf=none:=(Same.trans s1 s2).free ff
  have s12:=Same.trans s1 s2
  refine ⟨_,rfl,n,_,_,_,rfl,rfl,SqT.of ((same_new ff _) _ _ (s12 _ _ hn)),rfl,?_⟩
  refine ⟨t,rfl,⟨rs,SqT.of ((same_new ff _) _ _ (s12 _ _ ht))⟩,?_⟩
  refine for_tup (xs:=rs) (fun i σ Hc=>∃ v3 v4 v5,σ=[some (.ref n),some (.ref lr),some (.ref lf),v3,v4,v5]∧Same H Hc∧Hc lr=some (.lst ((layS wide (ws.take i)).1.map V.int))∧Hc lf=some (.lst ((layS wide (ws.take i)).2.map V.int)))
   ⟨none,none,none,rfl,Same.put ff' s12,by rw [upd_ne nlf];exact x2,upd_same⟩ (fun i σ Hc _ ⟨_,_,_,_,sc,_⟩=>SqT.of (sc _ _ ht)) ?_ ?_
  ·rintro i x σ Hc hx ⟨v3,v4,v5,rfl,sc,xr,xf⟩
   obtain ⟨w0,t0,hw0,rfl,ht0⟩:=hrs.get hx
   obtain ⟨o1,o2,o3,o4,o5⟩:=ok w0 (List.mem_of_getElem? hw0)
   have et:ws.take (i + 1)=ws.take i ++ [w0]:=by rw [List.take_add_one,hw0];rfl
   have il:i < ws.length:=(List.getElem?_eq_some_iff.mp hw0).1
   obtain ⟨ll1,ll2⟩:=layS_len wide (ws.take i)
   rw [List.length_take] at ll2
   have ht1:=sc _ _ ht0
   refine ⟨t0,_,rfl,SqT.of ht1,rfl,?_⟩
   refine ⟨_,_,rfl,_,_,rfl,rfl,?_⟩
   refine ⟨_,rfl,_,rfl,lr,_,_,_,rfl,rfl,SqL.of xr,atI_int o1 (by walk_at"q"),?_⟩
   refine ⟨_,rfl,_,rfl,lr,_,_,_,rfl,rfl,SqL.of xr,atI_int o3 (by walk_at"q"),?_⟩
   refine ⟨_,_,rfl,?_⟩
   refine ⟨_,_,rfl,rfl,?_⟩
   refine ⟨_,rfl,_,rfl,_,rfl,lr,_,w0.1,w0.1.toNat,rfl,rfl,xr,ixN_of o1 (by rw [List.length_map];walk_at"q"),?_⟩
   refine ⟨_,rfl,_,rfl,_,rfl,lr,_,w0.2,w0.2.toNat,rfl,rfl,upd_same,ixN_of o3 (by rw [List.length_set,List.length_map];walk_at"q"),?_⟩
   rw [upd_upd]
   have nlf2:lf≠lr:=Ne.symm nlf
   refine ⟨_,rfl,.inl ⟨rfl,_,SqL.of (by rw [upd_ne nlf2];exact xf)⟩,_,rfl,lf,_,_,rfl,rfl,by rw [upd_ne nlf2];exact xf,lenLt (by rw [List.length_map];walk_at"q"),?_⟩
   refine ⟨_,_,_,rfl,Same.put ff' (Same.put fr' sc),?_,?_⟩
   ·rw [upd_ne nlf,upd_same,et,layS_snoc]
    exact congrArg (fun z=>some (HO.lst z)) (lay_set _ _)
   ·rw [upd_same,et,layS_snoc]
    exact congrArg (fun z=>some (HO.lst z)) (lay_app _ _)
  ·rintro σ Hc ⟨v3,v4,v5,rfl,sc,xr,xf⟩
   refine ⟨_,rfl,?_⟩
   rw [lrs,List.take_length] at xf
   exact q lf Hc ff' sc xf
theorem sc_depth:FnScope ["net"] ["net"] (defScope s_depth):=⟨rfl,rfl,rfl,by decide +kernel,rfl,by decide +kernel,by decide +kernel⟩
theorem ok_depth (T:Bn mg) (F:Here K mg "depth" s_depth f fd) (Clayers:Callee P w K mg base "layers" 1 ["net"] spLayers):FnOk P w K mg base CX0 2 f fd ["net"] spDepth:=by
 refine F.fn.ok sc_depth (fun vs H Q E h=>?_) (fun cdv A outer s H vs Q E hr h=>?_)
 ·obtain ⟨v,wide,ws,rfl,_⟩:=h
  rfl
 ·obtain ⟨v,wide,ws,rfl,net,w1,w8,ok,len,q⟩:=h
  refine ⟨_,(pss_one (ps_ret (pe_maxD rfl rfl T.n_max (pe_callC Clayers (hr.mono (by walk_at"d")) rfl (pa_cons (pv 0) pa_nil)) pe_int))),?_⟩
  refine ⟨_,rfl,v,wide,ws,rfl,net,w1,w8,ok,len,fun l H1 fl s1 x1=>?_⟩
  refine ⟨l,_,rfl,SqL.of x1,fun e=>q 0 H1 s1 (fun _=>rfl) (fun z=>absurd e z),fun m im=>q m H1 s1 (fun z=>?_) fun _=>im⟩
  rw [z] at im
  exact absurd im.1 (by simp)
theorem sc_depth_power:FnScope ["net", "power", "level"] ["net"] (defScope s_depth_power):=⟨rfl,rfl,rfl,by decide +kernel,rfl,by decide +kernel,by decide +kernel⟩
theorem ok_depth_power (T:Bn mg) (F:Here K mg "depth_power" s_depth_power f fd) (Cdepth:Callee P w K mg base "depth" 2 ["net"] spDepth):FnOk P w K mg base CX0 3 f fd ["net"] spPower:=by
 refine F.fn.ok sc_depth_power (fun vs H Q E h=>?_) (fun cdv A outer s H vs Q E hr h=>?_)
 ·obtain ⟨v,wide,ws,rfl,_⟩:=h
  rfl
 ·obtain ⟨v,wide,ws,rfl,net,w1,w8,ok,len,q⟩:=h
  refine ⟨_,(pss_cons (ps_set (i:=1) sc_depth_power.nd rfl (by walk_at"r") pe_int)
  (pss_cons (ps_for PassesOwn.never rfl  (pi_range1 rfl T.n_range (pa_cons (pe_callC Cdepth (hr.mono (by walk_at"d")) rfl (pa_cons (pv 0) pa_nil)) pa_nil)) (pg_name (i:=2) sc_depth_power.nd rfl (by walk_at"r"))
  (pss_one (ps_aug (i:=1) sc_depth_power.nd rfl (by walk_at"r") pe_int ip_mul)))
  (pss_one (ps_ret (pv 1))))),?_⟩
  refine ⟨_,rfl,v,wide,ws,rfl,net,w1,w8,ok,len,fun m H1 s1 m0 m1=>?_⟩
  have em:=depM_eq ok m0 m1
  have dl:=depM_le ok
  refine ⟨m,rfl,by walk_at"q", by walk_at"q", ?_⟩
  refine for_range (n:=m.toNat) (fun i σ Hc=>∃ v2,σ=[some v,some (.int (2 ^ i)),v2]∧Hc=H1) ⟨none,rfl,rfl⟩ ?_ ?_
  ·rintro i σ Hc hi ⟨v2,rfl,rfl⟩
   refine ⟨_,rfl,_,_,rfl,rfl,.inr ⟨by decide,by decide⟩,?_⟩
   refine ⟨some (V.int (0 + (i:Int))),?_,rfl⟩
   rw [Int.pow_succ]
   rfl
  ·rintro σ Hc ⟨v2,rfl,rfl⟩
   refine ⟨_,rfl,?_⟩
   have e:(2:Int) ^ m.toNat=whole wide ws:=by
    unfold whole
    rw [Int.natCast_pow,em,Int.toNat_natCast]
    rfl
   rw [e]
   exact q _ s1
theorem sc_longer_rows:FnScope ["rows", "numbers", "found", "row", "number"] ["rows", "numbers"] (defScope s_longer_rows):=⟨rfl,rfl,rfl,by decide +kernel,rfl,by decide +kernel,by decide +kernel⟩
theorem ok_longer_rows (T:Bn mg) (F:Here K mg "longer_rows" s_longer_rows f fd):FnOk P w K mg base CX0 1 f fd ["rows", "numbers"] spLonger:=by
 refine F.fn.ok sc_longer_rows (fun vs H Q E h=>?_) (fun cdv A outer s H vs Q E hr h=>?_)
 ·obtain ⟨a,b,rs,M,ns,rfl,_⟩:=h
  rfl
 ·obtain ⟨a,b,rs,M,ns,rfl,ha,rows,hb,hprod,hnl,hrl,q⟩:=h
  have lr:=rows.len
  refine ⟨_,(pss_cons (ps_set (i:=2) sc_longer_rows.nd rfl (by walk_at"r") (pe_lst pa_nil))
  (pss_cons (ps_for PassesOwn.never rfl  (pi_list (pv 0)) (pg_name (i:=3) sc_longer_rows.nd rfl (by walk_at"r"))
  (pss_one (ps_for PassesOwn.never rfl  (pi_list (pv 1)) (pg_name (i:=4) sc_longer_rows.nd rfl (by walk_at"r"))
  (pss_one (ps_expr (pe_bm PySem.F.plainAttrs_list PySem.F.slot_list_append PySem.F.type_list_append mt_append (pv 2) (pa_cons (pe_op op_cat (pv 3) (pe_lst (pa_cons (pv 4) pa_nil))) pa_nil)))))))
  (pss_one (ps_ret (pv 2))))),?_⟩
  refine ⟨lenLine (by show 0≤100000;decide),fun l fl=>?_⟩
  refine ⟨_,rfl,a,rfl,⟨_,SqL.of (by walk_at "hh")⟩,?_⟩
  refine for_list (xs:=rs) (fun i σ Hc=>∃ v3 v4 ys,σ=[some (.ref a),some (.ref b),some (.ref l),v3,v4]∧Same H Hc∧Hc l=some (.lst ys)∧RowsN H Hc l ys (longM (M.take i) ns)) ⟨none,none,[],rfl,by walk_at "sm", upd_same,.nil⟩
   (fun i σ Hc _ ⟨_,_,_,_,sc,_⟩=>SqL.of (sc _ _ ha)) ?_ ?_
  ·rintro i x σ Hc hx ⟨v3,v4,ys,rfl,sc,xl,rn⟩
   obtain ⟨r,tr,hr0,rfl,htr⟩:=rows.get hx
   have il:i < M.length:=(List.getElem?_eq_some_iff.mp hr0).1
   have rl:=hrl r (List.mem_of_getElem? hr0)
   refine ⟨_,rfl,b,rfl,⟨_,SqL.of (sc _ _ hb)⟩,?_⟩
   refine for_list (xs:=ns.map V.int) (fun j σ Hd=>∃ v4 ys,σ=[some (.ref a),some (.ref b),some (.ref l),some (.ref tr),v4]∧Same H Hd∧Hd l=some (.lst ys)∧RowsN H Hd l ys (longM (M.take i) ns ++ (ns.take j).map fun n=>r ++ [n])) ⟨v4,ys,rfl,sc,xl,by simpa using rn⟩
    (fun j σ Hd _ ⟨_,_,_,sd,_⟩=>SqL.of (sd _ _ hb)) ?_ ?_
   ·rintro j x σ Hd hx2 ⟨v4,ys,rfl,sd,xd,rd⟩
    obtain ⟨z,hz,rfl⟩:=int_item hx2
    have jl:j < ns.length:=(List.getElem?_eq_some_iff.mp hz).1
    have ly:=rd.len
    rw [List.length_append,longM_len,List.length_map,List.length_take,List.length_take,Nat.min_eq_left (by walk_at"q"),Nat.min_eq_left (by walk_at"q")] at ly
    have hm:(i + 1) * ns.length≤M.length * ns.length:=Nat.mul_le_mul_right _ (by walk_at"q")
    rw [Nat.add_mul] at hm
    refine ⟨_,rfl,.inl ⟨rfl,_,SqL.of xd⟩,_,rfl,_,rfl,lenLine (by show 1≤100000;decide),fun l1 f1=>?_⟩
    refine ⟨tr,l1,_,_,rfl,rfl,(same_new f1 _) _ _ (sd _ _ htr),upd_same,lenLine (by rw [List.length_map];show r.length + 1≤100000;walk_at"q"),fun l2 f2=>?_⟩
    have s2:Same Hd (upd (upd Hd l1 (HO.lst [V.int z])) l2 (HO.lst (r.map V.int ++ [V.int z]))):=Same.trans (same_new f1 _) (same_new f2 _)
    have x2:(upd (upd Hd l1 (HO.lst [V.int z])) l2 (HO.lst (r.map V.int ++ [V.int z]))) l2=some (.lst ((r ++ [z]).map V.int)):=by rw [upd_same,List.map_append];rfl
    have f2':Hd l2=none:=(same_new f1 _).free f2
    generalize upd (upd Hd l1 (HO.lst [V.int z])) l2 (HO.lst (r.map V.int ++ [V.int z]))=H2 at s2 x2
    refine ⟨l,_,_,rfl,rfl,s2 _ _ xd,lenLt (by walk_at"q"),?_⟩
    refine ⟨_,ys ++ [.ref l2],rfl,Same.put fl (Same.trans sd s2),upd_same,?_⟩
    rw [take_snoc hz,List.map_append,← List.append_assoc]
    exact rd.more s2 x2 (Ne.symm (ne_of_none xd f2')) (sd.free f2')
   ·rintro σ Hd ⟨v4,ys,rfl,sd,xd,rd⟩
    refine ⟨_,_,ys,rfl,sd,xd,?_⟩
    rw [List.length_map,List.take_length] at rd
    rw [take_snoc hr0]
    unfold longM at rd ⊢
    rw [List.flatMap_append]
    simpa using rd
  ·rintro σ Hc ⟨v3,v4,ys,rfl,sc,xl,rn⟩
   rw [lr,List.take_length] at rn
   exact ⟨_,rfl,q l ys Hc fl sc xl rn⟩
theorem sc_rows_of:FnScope ["choices", "rows", "numbers"] ["choices"] (defScope s_rows_of):=⟨rfl,rfl,rfl,by decide +kernel,rfl,by decide +kernel,by decide +kernel⟩
theorem ok_rows_of (T:Bn mg) (F:Here K mg "rows_of" s_rows_of f fd) (Clonger_rows:Callee P w K mg base "longer_rows" 1 ["rows", "numbers"] spLonger):FnOk P w K mg base CX0 2 f fd ["choices"] spRowsOf:=by
 refine F.fn.ok sc_rows_of (fun vs H Q E h=>?_) (fun cdv A outer s H vs Q E hr h=>?_)
 ·obtain ⟨a,cs,C,rfl,_⟩:=h
  rfl
 ·obtain ⟨a,cs,C,rfl,ha,rows,c40,hbig,hrl,q⟩:=h
  have lr:=rows.len
  refine ⟨_,(pss_cons (ps_set (i:=1) sc_rows_of.nd rfl (by walk_at"r") (pe_lst (pa_cons (pe_lst pa_nil) pa_nil)))
  (pss_cons (ps_for PassesOwn.never rfl  (pi_list (pv 0)) (pg_name (i:=2) sc_rows_of.nd rfl (by walk_at"r"))
  (pss_one (ps_set (i:=1) sc_rows_of.nd rfl (by walk_at"r") (pe_callC Clonger_rows (hr.mono (by walk_at"d")) rfl (pa_cons (pv 1) (pa_cons (pv 2) pa_nil))))))
  (pss_one (ps_ret (pv 1))))),?_⟩
  refine ⟨lenLine (by show 0≤100000;decide),fun l0 f0=>?_⟩
  refine ⟨lenLine (by show 1≤100000;decide),fun l1 f1=>?_⟩
  have n01:l0≠l1:=ne_of_none upd_same f1
  have f1':H l1=none:=(same_new f0 _).free f1
  refine ⟨_,rfl,a,rfl,⟨_,SqL.of (by walk_at "hh")⟩,?_⟩
  refine for_list (xs:=cs) (fun i σ Hc=>∃ l v2 ys,σ=[some (.ref a),some (.ref l),v2]∧Same H Hc∧H l=none∧Hc l=some (.lst ys)∧RowsN H Hc l ys (rowsM (C.take i))) ⟨l1,none,[.ref l0],rfl,by walk_at "sm", f1',upd_same,.cons ⟨l0,rfl,n01,f0,(upd_ne n01).trans upd_same⟩ .nil⟩
   (fun i σ Hc _ ⟨_,_,_,_,sc,_⟩=>SqL.of (sc _ _ ha)) ?_ ?_
  ·rintro i x σ Hc hx ⟨l,v2,ys,rfl,sc,fl,xl,rn⟩
   obtain ⟨r,tr,hr0,rfl,htr⟩:=rows.get hx
   have il:i < C.length:=(List.getElem?_eq_some_iff.mp hr0).1
   have b1:=hbig (i + 1) (by walk_at"q")
   rw [take_snoc hr0,rowsM_snoc,longM_len] at b1
   refine ⟨_,rfl,_,rfl,l,tr,ys,rowsM (C.take i),r,rfl,xl,rn.rows,sc _ _ htr,b1,hrl r (List.mem_of_getElem? hr0),fun u hu=>?_,fun l' ys' H' fl' s' xl' rn'=>?_⟩
   ·have:=((rowsM_mem (C.take i) u).mp hu).1
    rw [List.length_take] at this
    walk_at"q"
   refine ⟨l',_,ys',rfl,Same.trans sc s',sc.free fl',xl',?_⟩
   rw [take_snoc hr0,rowsM_snoc]
   exact Paired.mapP rn' fun r x ⟨t,e1,e2,e3,e4⟩=>⟨t,e1,e2,sc.free e3,e4⟩
  ·rintro σ Hc ⟨l,v2,ys,rfl,sc,fl,xl,rn⟩
   rw [lr,List.take_length] at rn
   exact ⟨_,rfl,q l ys Hc fl sc xl rn⟩
theorem sc_first_layer:FnScope ["net"] ["net"] (defScope s_first_layer):=⟨rfl,rfl,rfl,by decide +kernel,rfl,by decide +kernel,by decide +kernel⟩
theorem first_snoc {ws:List (Int × Int)} {d:List Int} {i:Nat} {w:Int × Int} {x:Int} (hw:ws[i]?=some w) (hx:d[i]?=some x):firstL (ws.take (i + 1)) (d.take (i + 1))=firstL (ws.take i) (d.take i) ++ (if x=1 then [w] else []):=by
 have lw:i < ws.length:=(List.getElem?_eq_some_iff.mp hw).1
 have lx:i < d.length:=(List.getElem?_eq_some_iff.mp hx).1
 have ew:ws.take (i + 1)=ws.take i ++ [w]:=take_snoc hw
 have ex:d.take (i + 1)=d.take i ++ [x]:=take_snoc hx
 unfold firstL
 rw [ew,ex,List.zip_append (by rw [List.length_take,List.length_take];walk_at"q"),List.filter_append,List.map_append]
 by_cases c:x=1 <;> simp [c]
theorem ok_first_layer (T:Bn mg) (F:Here K mg "first_layer" s_first_layer f fd) (Clayers:Callee P w K mg base "layers" 1 ["net"] spLayers):FnOk P w K mg base CX0 2 f fd ["net"] spFirst:=by
 refine F.fn.ok sc_first_layer (fun vs H Q E h=>?_) (fun cdv A outer s H vs Q E hr h=>?_)
 ·obtain ⟨v,wide,ws,rfl,_⟩:=h
  rfl
 ·obtain ⟨v,wide,ws,rfl,net,w1,w8,ok,len,q⟩:=h
  obtain ⟨n,t,rs,rfl,hn,ht,hrs⟩:=id net
  have lrs:=hrs.len
  have ll:(layS wide ws).2.length=ws.length:=(layS_len wide ws).2
  refine ⟨_,(pss_one (ps_ret (pe_comp ["wicket", "layer"] [] rfl (pi_zipTL rfl T.n_zip (pa_cons (pe_ix ix_tup (pv 0) pe_int (fun _ _=>rfl)) (pa_cons (pe_callC Clayers (hr.mono (by walk_at"d")) rfl (pa_cons (pv 0) pa_nil)) pa_nil))) (fun _ _ _ _ _ _=>by exact (pg_tupK K rfl (n:=2) rfl (pgs_cons (pg_name (i:=0) (show List.Nodup (["wicket", "layer"]:List Str) by decide +kernel) rfl (by walk_at"r")) (pgs_cons (pg_name (i:=1) (show List.Nodup (["wicket", "layer"]:List Str) by decide +kernel) rfl (by walk_at"r")) pgs_nil)))) (fun _ _ _ _ _ _=>by exact (pts_one (pt_cmpR op_eq (pv 1) pe_int (nomark _)))) (fun _ _ _ _ _ _=>by exact (pv 0))))),?_⟩
  refine ⟨_,rfl,n,_,_,_,rfl,rfl,SqT.of hn,rfl,?_⟩
  refine ⟨_,rfl,.ref n,wide,ws,rfl,net,w1,w8,ok,len,fun ly H1 fly s1 xly=>?_⟩
  refine ⟨t,ly,rfl,⟨_,SqT.of (s1 _ _ ht)⟩,⟨_,SqL.of xly⟩,fun l hl=>?_⟩
  have fl:H l=none:=s1.free hl
  refine comp_zip (xs:=rs) (ys':=(layS wide ws).2.map V.int) (by rw [List.length_map];walk_at"q") (fun i ys Hc=>Same H1 Hc∧Hc l=some (.lst ys)∧ys.length≤i∧Refs Hc ys (firstL (ws.take i) ((layS wide ws).2.take i))) ⟨Same.put hl (Same.refl H1),upd_same,Nat.zero_le _,by simp [firstL];exact .nil⟩ (lenLine (by walk_at"q"))
   (fun i ys Hc hi ⟨sc,e1,l1,r1⟩=>⟨SqT.of (sc _ _ (s1 _ _ ht)),SqL.of (sc _ _ xly),e1,l1⟩) ?_ ?_
  ·rintro i x y TT ys Hc hx hy fT ⟨sc,e1,l1,r1⟩
   obtain ⟨w0,t0,hw0,rfl,ht0⟩:=hrs.get hx
   rw [List.getElem?_map] at hy
   obtain ⟨d0,hd0,rfl⟩:=Option.map_eq_some_iff.mp hy
   obtain ⟨H3,e_,s3,x3⟩:=nw fT (HO.tup [V.ref t0,V.int d0]);rw [← e_];clear e_
   have nx:=first_snoc hw0 hd0
   refine ⟨TT,_,rfl,SqT.of x3,rfl,?_⟩
   refine ⟨_,_,rfl,_,_,rfl,rfl,?_⟩
   refine ⟨⟨.inl rfl,.inl rfl,trivial⟩,?_⟩
   have e3:=s3 _ _ e1
   refine ⟨_,rfl,rfl,_,rfl,?_⟩
   by_cases c:d0=1
   ·refine iteTd (by simp [c]) ?_
    rw [if_pos c] at nx
    refine ⟨_,rfl,e3,Same.put hl (Same.trans sc s3),upd_same,by rw [List.length_append];simp;walk_at"q", ?_⟩
    rw [nx]
    have k4:KT H3 (upd H3 l (HO.lst (ys ++ [V.ref t0]))):=KT.lst e3 (KT.refl _)
    exact ((r1.same s3).kt k4).app (.cons ⟨t0,rfl,k4 _ _ (s3 _ _ (sc _ _ (s1 _ _ ht0)))⟩ .nil)
   ·refine iteFd (by simp [c]) ?_
    rw [if_neg c,List.append_nil] at nx
    refine ⟨Same.trans sc s3,e3,by walk_at"q", ?_⟩
    rw [nx]
    exact r1.same s3
  ·rintro ys Hc ⟨sc,e1,l1,r1⟩
   rw [lrs,List.take_length,← ll,List.take_length] at r1
   exact q l Hc fl (Same.trans s1 sc) ⟨ys,e1,r1⟩
theorem sc_common_trials:FnScope ["one", "other", "deeper", "seconds", "numbers"] ["one", "other"] (defScope s_common_trials):=⟨rfl,rfl,rfl,by decide +kernel,rfl,by decide +kernel,by decide +kernel⟩
theorem rng0 (d:Nat):rngL 0 ((2 ^ d:Nat):Int)=(List.range (2 ^ d)).map fun k:Nat=>(k:Int):=by
 unfold rngL
 rw [Int.sub_zero,Int.toNat_natCast]
 exact List.map_congr_left fun k _=>by walk_at"q"
theorem in_ints (x:Int) (ns:List Int):inV (.int x) (ns.map V.int)=decide (x∈ns):=by
 unfold inV
 induction ns with
 | nil=>rfl
 | cons a r ih =>
  rw [List.map_cons,List.any_cons,ih]
  by_cases c:x=a
  ·simp [c,eqV]
  ·simp [c,eqV,Ne.symm c]
theorem rowsN_base {G G' H:Hp} {l:Addr} (k:∀ t,G t=none→G' t=none):∀ {rs:List V} {M:List (List Int)},RowsN G H l rs M→RowsN G' H l rs M
 | _,_,.nil=>.nil
 | _,_,.cons ⟨t,e,n,g,h⟩ r=>.cons ⟨t,e,n,k t g,h⟩ (rowsN_base k r)
theorem firstL_len (ws:List (Int × Int)) (d:List Int):(firstL ws d).length≤ws.length:=by
 unfold firstL
 rw [List.length_map]
 refine Nat.le_trans (List.length_filter_le _ _) ?_
 rw [List.length_zip]
 exact Nat.min_le_left _ _
theorem ok_common_trials {am:Addr} (T:Bn mg) (F:Here K mg "common_trials" s_common_trials f fd) (ER:ManyT K mg am) (GMOST_DOUBLINGS:∃ t,mg "MOST_DOUBLINGS" = some (.int 10 t)) (Cdepth:Callee P w K mg base "depth" 2 ["net"] spDepth) (Cfirst_layer:Callee P w K mg base "first_layer" 2 ["net"] spFirst)
  (Cdepth_power:Callee P w K mg base "depth_power" 3 ["net"] spPower) (Crows_of:Callee P w K mg base "rows_of" 2 ["choices"] spRowsOf):FnOk P w K mg base (CX1 P w) 4 f fd ["one", "other"] (spCommon am):=by
 refine F.fn.okE sc_common_trials (fun vs H Q E h=>?_) (fun cdv A outer s H vs Q E hr h=>?_)
 ·obtain ⟨v1,v2,a,b,us,ws,rfl,_⟩:=h
  rfl
 ·obtain ⟨v1,v2,a,b,us,ws,rfl,net1,net2,a1,a8,b1,b8,ok1,ok2,l1,l2,qE,qQ⟩:=h
  refine ⟨_,(pss_cons (ps_set (i:=2) sc_common_trials.nd rfl (by walk_at"r") (pe_ifExp (pt_cmpR op_gt (pe_callC Cdepth (hr.mono (by walk_at"d")) rfl (pa_cons (pv 0) pa_nil)) (pe_callC Cdepth (hr.mono (by walk_at"d")) rfl (pa_cons (pv 1) pa_nil)) (nomark _)) (pv 0) (pv 1)))
  (pss_cons (ps_set (i:=3) sc_common_trials.nd rfl (by walk_at"r") (pe_comp ["wicket"] [("other", 1)] rfl (pi_list (pe_callC Cfirst_layer (hr.mono (by walk_at"d")) rfl (pa_cons (pv 0) pa_nil))) (fun _ _ _ _ _ _=>by exact (pg_name (i:=0) (show List.Nodup (["wicket", "other"]:List Str) by decide +kernel) rfl (by walk_at"r"))) (fun _ _ _ _ _ _=>by exact (pts_one (pt_cmpR (op_inD hr.units65) (pv 0) (pe_callC Cfirst_layer (hr.mono (by walk_at"d")) rfl (pa_cons (pv 1) pa_nil)) (by with_unfolding_all rfl)))) (fun _ _ _ _ _ _=>by exact (pe_ix (ix_tupK K rfl) (pv 0) pe_int (fun _ _=>rfl)))))
  (pss_cons (ps_if (pt_cmpR op_gt (pe_op op_mul (pe_callC Cdepth (hr.mono (by walk_at"d")) rfl (pa_cons (pv 2) pa_nil)) (pe_op op_sub (pe_ix ix_tup (pv 0) pe_int (fun _ _=>rfl)) (pe_callB call_len_seq rfl T.n_len PySem.boot_len (pa_cons (pv 3) pa_nil)))) (pe_gint rfl GMOST_DOUBLINGS) (nomark _))
  (pss_one (ps_raise ER.q_TooMany rfl ER.at_TooMany (pa_cons pe_str pa_nil)))
  pss_nil)
  (pss_cons (ps_set (i:=4) sc_common_trials.nd rfl (by walk_at"r") (pe_callTy (call_listRng rfl) rfl T.n_list boot_listT (pa_cons (pe_callTy call_rng1 rfl T.n_range boot_rangeT (pa_cons (pe_callC Cdepth_power (hr.mono (by walk_at"d")) rfl (pa_cons (pv 2) pa_nil)) pa_nil)) pa_nil)))
  (pss_one (ps_ret (pe_callC Crows_of (hr.mono (by walk_at"d")) rfl (pa_cons (pe_comp ["lane"] [("numbers", 4),("seconds", 3)] rfl (pi_range1 rfl T.n_range (pa_cons (pe_ix ix_tup (pv 0) pe_int (fun _ _=>rfl)) pa_nil)) (fun _ _ _ _ _ _=>by exact (pg_name (i:=0) (show List.Nodup (["lane", "numbers", "seconds"]:List Str) by decide +kernel) rfl (by walk_at"r"))) (fun _ _ _ _ _ _=>by exact pts_nil) (fun _ _ _ _ _ _=>by exact (pe_ifExp (pt_cmpR (op_in_seqK K rfl) (pv 0) (pv 2) (by with_unfolding_all rfl)) (pe_lst (pa_cons pe_int pa_nil)) (pv 1)))) pa_nil)))))))),?_⟩
  refine seq_gen (a:=tAsg _ _) fun N hN=>?_
  have go:∀ (vd:V) (wd:Int) (uds:List (Int × Int)) (H2:Hp),Same H H2→Net H2 vd wd uds→1≤wd→wd≤8→WOk wd uds→uds.length≤41→depM wd uds=deepM a us b ws→N [some v1,some v2,some vd,none,none] H2:=fun vd wd uds H2 s02 netd d1 d8 okd ld ed=>hN _ _ (by
   refine seq_gen (a:=tAsg _ _) fun N2 hN2=>?_
   have goB:∀ (l:Addr) (H3:Hp),H l=none→Same H2 H3→H3 l=some (.lst ((secsM a us b ws).map V.int))→N2 [some v1,some v2,some vd,some (.ref l),none] H3:=fun ls H3 fl s23 x3=>hN2 _ _ (by
    have s03:=Same.trans s02 s23
    obtain ⟨n1,t1,rs1,en1,hn1,ht1,hr1⟩:=net1.kt (KT.same s03 (KT.refl _))
    refine ⟨_,rfl,vd,wd,uds,rfl,netd.kt (KT.same s23 (KT.refl _)),d1,d8,okd,ld,fun m H4 s4 m0 m1=>?_⟩
    have em:=depM_eq okd m0 m1
    rw [ed] at em
    have s04:=Same.trans s03 s4
    have lts:=secs_lt (b:=b) (ws:=ws) ok1 a1
    have md:deepM a us b ws≤41:=by rw [← ed];exact Nat.le_trans (depM_le okd) ld
    refine ⟨_,rfl,n1,_,_,_,en1,rfl,SqT.of (s4 _ _ hn1),rfl,_,rfl,ls,_,rfl,.inl (SqL.of (s4 _ _ x3)),_,_,rfl,rfl,_,_,rfl,rfl,.inl ⟨by walk_at"q", by walk_at"q"⟩,_,_,rfl,rfl,_,rfl,?_⟩
    rw [List.length_map,em]
    by_cases c:10 < ((deepM a us b ws:Nat):Int) * (a - ((secsM a us b ws).length:Int))
    ·refine iteTd (decide_eq_true c) ?_
     exact ⟨by show 1≤1000;decide,qE c _ s04⟩
    ·refine iteFd (by simpa using c) ?_
     have c':((deepM a us b ws:Nat):Int) * (a - ((secsM a us b ws).length:Int))≤10:=by walk_at"q"
     obtain ⟨d10,rb⟩:=rows_bound (b:=b) (ws:=ws) ok1 c' a1
     have p10:2 ^ deepM a us b ws≤1024:=Nat.le_trans (Nat.pow_le_pow_right (by decide) d10) (by decide)
     have wh:whole wd uds=((2 ^ deepM a us b ws:Nat):Int):=by unfold whole;rw [ed]
     have wb:0≤whole wd uds∧whole wd uds≤1024:=by rw [wh];exact ⟨Int.natCast_nonneg _,by exact_mod_cast p10⟩
     refine ⟨_,rfl,vd,wd,uds,rfl,netd.kt (KT.same (Same.trans s23 s4) (KT.refl _)),d1,d8,okd,ld,fun H5 s5=>?_⟩
     have s05:=Same.trans s04 s5
     refine ⟨_,rfl,fun r6 f6=>?_⟩
     obtain ⟨H6,e_,s6,x6⟩:=nw f6 (.rng 0 (whole wd uds));rw [← e_];clear e_
     refine ⟨r6,0,whole wd uds,rfl,x6,by walk_at"q", by walk_at"q", by walk_at"q", by walk_at"q", by walk_at"q", fun l7 f7=>?_⟩
     rw [wh,rng0]
     obtain ⟨H7,e_,s7,x7⟩:=nw f7 (HO.lst (((List.range (2 ^ deepM a us b ws)).map fun k:Nat=>(k:Int)).map V.int));rw [← e_];clear e_
     have s07:=Same.trans s05 (Same.trans s6 s7)
     have s37:Same H3 H7:=Same.trans s4 (Same.trans s5 (Same.trans s6 s7))
     refine ⟨_,rfl,n1,_,_,_,en1,rfl,SqT.of (s37 _ _ hn1),rfl,?_⟩
     refine ⟨a,rfl,by walk_at"q", by walk_at"q", fun lc fc=>?_⟩
     refine comp_range (n:=a.toNat) (fun i ys Hc=>Same H7 Hc∧Hc lc=some (.lst ys)∧ys.length≤i∧RowsN H6 Hc lc ys (choM i (secsM a us b ws) (deepM a us b ws))) ⟨Same.put fc (Same.refl H7),upd_same,Nat.zero_le _,.nil⟩ (lenLine (by walk_at"q")) (fun i ys Hc ⟨_,e,l,_⟩=>⟨e,l⟩) ?_ ?_
     ·rintro i ys Hc hi ⟨sc,e1,ly,r1⟩
      refine ⟨⟨.inl rfl,.inr rfl,.inr rfl,trivial⟩,tru_if ?_⟩
      refine ⟨_,rfl,_,rfl,ls,_,rfl,.inl (SqL.of (sc _ _ (s37 _ _ x3))),rfl,?_,_,rfl,?_⟩
      ·simp [flatV]
      show if inV (.int (0 + (i:Int))) ((secsM a us b ws).map V.int)=true then _ else _
      rw [in_ints,Int.zero_add,cho_succ]
      by_cases ci:(i:Int)∈secsM a us b ws
      ·refine iteTd (decide_eq_true ci) ?_
       rw [if_pos ci]
       refine ⟨lenLine (by show 1≤100000;decide),fun l8 f8=>?_⟩
       obtain ⟨H8,e_,s8,x8⟩:=nw f8 (HO.lst [V.int 0]);rw [← e_];clear e_
       have e8:=s8 _ _ e1
       have n8:l8≠lc:=fun z=>by subst z;rw [e1] at f8;cases f8
       refine ⟨e8,Same.put fc (Same.trans sc s8),upd_same,by rw [List.length_append];simp;walk_at"q", ?_⟩
       exact r1.more s8 (w:=[0]) x8 n8 (Same.free (Same.trans s7 sc) f8)
      ·refine iteFd (by simpa using ci) ?_
       rw [if_neg ci]
       have n7:l7≠lc:=fun z=>by subst z;rw [x7] at fc;cases fc
       refine ⟨_,rfl,e1,Same.put fc sc,upd_same,by rw [List.length_append];simp;walk_at"q", ?_⟩
       exact r1.more (Same.refl _) (sc _ _ x7) n7 f7
     ·rintro ys Hc ⟨sc,e1,ly,r1⟩
      refine ⟨lc,ys,_,rfl,e1,r1.rows,by simp [choM];walk_at"q", fun i hi=>?_,fun r hr'=>?_,fun l9 rs9 H9 f9 s9 x9 rn9=>?_⟩
      ·have hi':i≤a.toNat:=by simpa [choM] using hi
       rw [cho_take _ _ _ _ hi']
       exact Nat.le_trans (rb i hi') (by decide)
      ·unfold choM at hr'
       obtain ⟨k,_,rfl⟩:=List.mem_map.mp hr'
       by_cases ck:(k:Int)∈secsM a us b ws
       ·rw [if_pos ck];simp
       ·rw [if_neg ck,List.length_map,List.length_range];walk_at"q"
      ·have s0c:=Same.trans s07 sc
       exact qQ c' l9 rs9 H9 (s0c.free f9) (Same.trans s0c s9) x9 (rowsN_base (fun t h=>s0c.free h) rn9))
   refine ⟨_,rfl,v1,a,us,rfl,net1.kt (KT.same s02 (KT.refl _)),a1,a8,ok1,l1,fun lf H3 ff s3 ⟨rf,xf,rrf⟩=>?_⟩
   have s03:=Same.trans s02 s3
   have lrf:=rrf.len
   refine ⟨lf,rfl,⟨_,SqL.of xf⟩,fun l hl=>?_⟩
   have fl:H l=none:=s03.free hl
   have lfl:=firstL_len us (layS a us).2
   refine comp_list (xs:=rf) (fun i ys Hc=>Same H3 Hc∧Hc l=some (.lst ys)∧ys.length≤i∧ys=((((firstL us (layS a us).2).take i).filter fun w=>decide (w∈firstL ws (layS b ws).2)).map (·.2)).map V.int) ⟨Same.put hl (Same.refl H3),upd_same,Nat.zero_le _,rfl⟩ (lenLine (by walk_at"q"))
    (fun i ys Hc hi ⟨sc,e1,l1,_⟩=>⟨SqL.of (sc _ _ xf),e1,l1⟩) ?_ ?_
   ·rintro i x ys Hc hx ⟨sc,e1,l1,r1⟩
    obtain ⟨w0,t0,hw0,rfl,ht0⟩:=rrf.get hx
    refine ⟨⟨.inl rfl,.inr rfl,trivial⟩,?_⟩
    refine ⟨_,rfl,_,rfl,v2,b,ws,rfl,net2.kt (KT.same (Same.trans s03 sc) (KT.refl _)),b1,b8,ok2,l2,fun lg H4 fg s4 ⟨rg,xg,rrg⟩=>?_⟩
    have sc4:=Same.trans sc s4
    have e4:=s4 _ _ e1
    have tk:(firstL us (layS a us).2).take (i + 1)=(firstL us (layS a us).2).take i ++ [w0]:=take_snoc hw0
    refine ⟨_,_,.tup (sc4 _ _ ht0) (.cons (.int _) (.cons (.int _) .nil)),.lst xg (dats_refs rrg),shaped_prs w0,shaped_pairs _,mix_prs w0 _,_,rfl,?_⟩
    by_cases c:w0∈firstL ws (layS b ws).2
    ·refine iteTd (decide_eq_true ((count_pairs _ _).mpr c)) ?_
     refine ⟨_,rfl,t0,_,_,_,rfl,rfl,SqT.of (sc4 _ _ ht0),rfl,?_⟩
     refine ⟨e4,Same.put hl sc4,upd_same,by rw [List.length_append];simp;walk_at"q", ?_⟩
     rw [tk,List.filter_append,List.map_append,List.map_append,r1]
     simp [c]
    ·refine iteFd (by rw [decide_eq_true_iff];exact fun z=>c ((count_pairs _ _).mp z)) ?_
     refine ⟨sc4,e4,by walk_at"q", ?_⟩
     rw [tk,List.filter_append,List.map_append,List.map_append,r1]
     simp [c]
   ·rintro ys Hc ⟨sc,e1,l1,r1⟩
    rw [lrf,List.take_length] at r1
    subst r1
    exact goB l Hc fl (Same.trans s3 sc) e1)
  refine ⟨_,rfl,v1,a,us,rfl,net1,a1,a8,ok1,l1,fun m1 H1 s1 m10 m11=>?_⟩
  have em1:=depM_eq ok1 m10 m11
  refine ⟨_,rfl,v2,b,ws,rfl,net2.kt (KT.same s1 (KT.refl _)),b1,b8,ok2,l2,fun m2 H2 s2 m20 m21=>?_⟩
  have em2:=depM_eq ok2 m20 m21
  have s12:=Same.trans s1 s2
  refine ⟨_,_,rfl,rfl,_,rfl,?_⟩
  by_cases c:depM b ws < depM a us
  ·refine iteTd (decide_eq_true (by walk_at"q")) ?_
   refine ⟨_,rfl,?_⟩
   exact go v1 a us H2 s12 (net1.kt (KT.same s12 (KT.refl _))) a1 a8 ok1 l1 (by unfold deepM;rw [if_pos c])
  ·refine iteFd (by simp;walk_at"q") ?_
   refine ⟨_,rfl,?_⟩
   exact go v2 b ws H2 s12 (net2.kt (KT.same s12 (KT.refl _))) b1 b8 ok2 l2 (by unfold deepM;rw [if_neg c])
theorem sc_trials:FnScope ["net"] ["net"] (defScope s_trials):=⟨rfl,rfl,rfl,by decide +kernel,rfl,by decide +kernel,by decide +kernel⟩
theorem ok_trials {am:Addr} (F:Here K mg "trials" s_trials f fd) (Ccommon_trials:CalleeE P w K mg base "common_trials" 4 ["one", "other"] (spCommon am)):FnOk P w K mg base (CX1 P w) 5 f fd ["net"] (spTrials am):=by
 refine F.fn.okE sc_trials (fun vs H Q E h=>?_) (fun cdv A outer s H vs Q E hr h=>?_)
 ·obtain ⟨v,wide,ws,rfl,_⟩:=h
  rfl
 ·obtain ⟨v,wide,ws,rfl,net,w1,w8,ok,len,qE,qQ⟩:=h
  refine ⟨_,(pss_one (ps_ret (pe_callE Ccommon_trials (hr.mono (by walk_at"d")) rfl (pa_cons (pv 0) (pa_cons (pv 0) pa_nil))))),?_⟩
  refine ⟨_,rfl,_,rfl,v,v,wide,wide,ws,ws,rfl,net,net,w1,w8,w1,w8,ok,ok,len,len,?_,?_⟩
  ·rw [deep_self,secs_self]
   exact fun c H' s'=>qE c H' s'
  ·rw [cho_self,deep_self,secs_self]
   exact fun c l rs' H' fl s' x r=>qQ (fun z=>absurd c (by unfold MuchM at z;walk_at"q")) l rs' H' fl s' x r
theorem sc_falls:FnScope ["values", "ahead", "value"] ["values"] (defScope s_falls):=⟨rfl,rfl,rfl,by decide +kernel,rfl,by decide +kernel,by decide +kernel⟩
theorem ok_falls (T:Bn mg) (F:Here K mg "falls" s_falls f fd):FnOk P w K mg base CX0 1 f fd ["values"] spFalls:=by
 refine F.fn.ok sc_falls (fun vs H Q E h=>?_) (fun cdv A outer s H vs Q E hr h=>?_)
 ·obtain ⟨c,cs,rfl,_⟩:=h
  rfl
 ·obtain ⟨c,cs,rfl,hc,l100,q⟩:=h
  refine ⟨_,(pss_cons (ps_for PassesOwn.never rfl  (pi_zipL rfl T.n_zip (pa_cons (pv 0) (pa_cons (pe_slice sl_list (pv 0) (po_some pe_int) po_none) pa_nil))) (pg_tup rfl (pgs_cons (pg_name (i:=1) sc_falls.nd rfl (by walk_at"r")) (pgs_cons (pg_name (i:=2) sc_falls.nd rfl (by walk_at"r")) pgs_nil)))
  (pss_one (ps_if (pt_cmpR op_gt (pv 2) (pv 1) (nomark _))
  (pss_one (ps_ret pe_bl))
  pss_nil)))
  (pss_one (ps_ret pe_bl))),?_⟩
  refine ⟨_,rfl,_,rfl,_,rfl,c,_,rfl,SqL.of hc,fun p fp=>?_⟩
  rw [cut1]
  obtain ⟨H1,e_,s1,xp⟩:=nw fp (HO.lst ((cs.map V.int).drop 1));rw [← e_];clear e_
  have hc1:=s1 _ _ hc
  refine ⟨c,p,rfl,⟨_,SqL.of hc1⟩,⟨_,SqL.of xp⟩,?_⟩
  refine for_zipN (xs:=cs.map V.int) (ys:=(cs.map V.int).drop 1) (n:=cs.length - 1) (by rw [List.length_map];walk_at"q") (by rw [List.length_drop,List.length_map];walk_at"q") (.inr (by rw [List.length_drop,List.length_map])) (fun i σ Hc=>∃ v1 v2,σ=[some (.ref c),v1,v2]∧Same H1 Hc∧∀ j,j < i→cs.getD (j + 1) 0≤cs.getD j 0)
   ⟨none,none,rfl,Same.refl _,fun j hj=>absurd hj (by walk_at"q")⟩ (fun i σ Hc _ ⟨_,_,_,sc,_⟩=>⟨SqL.of (sc _ _ hc1),SqL.of (sc _ _ xp)⟩) ?_ ?_
  ·rintro i x y T σ Hc hi hx hy fT ⟨v1,v2,rfl,sc,fa⟩
   obtain ⟨z,hz,rfl⟩:=int_item hx
   rw [List.getElem?_drop,Nat.add_comm] at hy
   obtain ⟨u,hu,rfl⟩:=int_item hy
   refine ⟨T,_,rfl,SqT.of upd_same,rfl,?_⟩
   refine ⟨_,_,rfl,_,_,rfl,rfl,?_⟩
   have s2:Same H1 (upd Hc T (HO.tup [V.int z,V.int u])):=Same.trans sc (same_new fT _)
   refine ⟨_,rfl,_,rfl,_,_,rfl,rfl,_,rfl,?_⟩
   refine ite2 (fun g=>?_) (fun g=>?_)
   ·have g':z < u:=of_decide_eq_true g
    refine q false _ (Same.trans s1 s2) ⟨(fun h=>nomatch h),fun h=>?_⟩
    have:=h i (by walk_at"q")
    rw [getD_of hz,getD_of hu] at this
    walk_at"q"
   ·have g':¬ z < u:=not_dec g
    refine ⟨_,_,rfl,s2,fun j hj=>?_⟩
    by_cases c:j < i
    ·exact fa j c
    ·have:j=i:=by walk_at"q"
     subst this
     rw [getD_of hz,getD_of hu]
     walk_at"q"
  ·rintro σ Hc ⟨v1,v2,rfl,sc,fa⟩
   exact q true Hc (Same.trans s1 sc) ⟨fun _ i hi=>fa i (by walk_at"q"),fun _=>rfl⟩
theorem sc_is_level:FnScope ["counts"] ["counts"] (defScope s_is_level):=⟨rfl,rfl,rfl,by decide +kernel,rfl,by decide +kernel,by decide +kernel⟩
theorem ok_is_level (T:Bn mg) (F:Here K mg "is_level" s_is_level f fd) (Cfalls:Callee P w K mg base "falls" 1 ["values"] spFalls):FnOk P w K mg base CX0 2 f fd ["counts"] spLevel:=by
 refine F.fn.ok sc_is_level (fun vs H Q E h=>?_) (fun cdv A outer s H vs Q E hr h=>?_)
 ·obtain ⟨c,cs,rfl,_⟩:=h
  rfl
 ·obtain ⟨c,cs,rfl,hc,pos,l100,q⟩:=h
  refine ⟨_,(pss_one (ps_ret (pe_and (pe_callC Cfalls (hr.mono (by walk_at"d")) rfl (pa_cons (pv 0) pa_nil)) (pe_one (pe_or (pe_notT (pv 0)) (pe_one (pe_cmpR op_le (pe_op op_sub (pe_ix ix_list (pv 0) pe_int (fun _ _=>rfl)) (pe_ix ix_list (pv 0) (pe_un un_neg pe_int) (fun _ _=>rfl))) pe_int (nomark _)))))))),?_⟩
  refine ⟨_,rfl,c,cs,rfl,hc,l100,fun b H1 s1 hb=>?_⟩
  have hc1:=s1 _ _ hc
  refine ⟨b,rfl,?_⟩
  cases b with
  | false =>
   refine iteFd (by decide) (q false H1 s1 ⟨(fun h=>nomatch h),fun h=>?_⟩)
   exact hb.mpr ((level_falls pos).mp h).1
  | true =>
   have fa:=hb.mp rfl
   refine iteTd rfl ?_
   refine ⟨_,rfl,true,.inl ⟨_,SqL.of hc1,?_⟩,_,rfl,iteFd (by decide) ?_⟩
   ·cases cs with
    | nil=>simp at pos
    | cons _ _=>rfl
   have hlast:(cs.map V.int)[(cs.map V.int).length - 1]?=some (.int (cs.getD (cs.length - 1) 0)):=by
    rw [List.length_map,List.getElem?_map,getD_lt (show cs.length - 1 < cs.length by walk_at"q")]
    rfl
   refine ⟨_,rfl,c,_,_,_,rfl,rfl,SqL.of hc1,atI_int (i:=0) (by decide) (by walk_at"q"),?_⟩
   refine ⟨_,rfl,_,rfl,c,_,_,_,rfl,rfl,SqL.of hc1,atI_neg1 hlast,_,_,rfl,rfl,_,_,rfl,rfl,?_⟩
   refine q _ H1 s1 ?_
   rw [decide_eq_true_eq,level_falls pos]
   exact ⟨fun h=>⟨fa,h⟩,fun h=>h.2⟩
theorem sc_level_counts:FnScope ["wide", "total"] ["wide", "total"] (defScope s_level_counts):=⟨rfl,rfl,rfl,by decide +kernel,rfl,by decide +kernel,by decide +kernel⟩
theorem ok_level_counts (T:Bn mg) (F:Here K mg "level_counts" s_level_counts f fd):FnOk P w K mg base CX0 1 f fd ["wide", "total"] spLevelC:=by
 refine F.fn.ok sc_level_counts (fun vs H Q E h=>?_) (fun cdv A outer s H vs Q E hr h=>?_)
 ·obtain ⟨wide,total,rfl,_⟩:=h
  rfl
 ·obtain ⟨wide,total,rfl,w1,w8,q⟩:=h
  refine ⟨_,(pss_one (ps_ret (pe_comp ["lane"] [("wide", 0),("total", 1)] rfl (pi_range1 rfl T.n_range (pa_cons (pv 0) pa_nil)) (fun _ _ _ _ _ _=>by exact (pg_name (i:=0) (show List.Nodup (["lane", "wide", "total"]:List Str) by decide +kernel) rfl (by walk_at"r"))) (fun _ _ _ _ _ _=>by exact pts_nil) (fun _ _ _ _ _ _=>by exact (pe_un un_neg (pe_op op_fdiv (pe_op op_sub (pv 0) (pv 2)) (pv 1))))))),?_⟩
  refine ⟨_,rfl,wide,rfl,by walk_at"q", by walk_at"q", fun l fl=>?_⟩
  refine comp_range (n:=wide.toNat) (fun j ys Hc=>Hc=upd H l (.lst ys)∧ys=((List.range j).map fun i:Nat=>-(((0:Int) + (i:Int) - total) / wide)).map V.int) ⟨rfl,rfl⟩ (lenLine (by walk_at"q"))
   (fun j ys Hc ⟨e,r⟩=>⟨by rw [e,upd_same],by rw [r];simp⟩) ?_ ?_
  ·rintro j ys Hc hj ⟨rfl,rfl⟩
   refine ⟨⟨.inl rfl,.inr rfl,.inr rfl,trivial⟩,tru_if ?_⟩
   refine ⟨_,rfl,_,rfl,_,_,rfl,rfl,_,rfl,_,_,rfl,rfl,⟨by walk_at"q", by walk_at"q"⟩,_,rfl,upd_same,?_,?_⟩
   ·rw [upd_upd]
   ·rw [range_snoc,List.map_append]
    rfl
  ·rintro ys Hc ⟨rfl,rfl⟩
   refine q l _ fl (same_new fl _) ?_
   rw [upd_same]
   unfold levelM
   rw [show ((wide.toNat:Nat):Int)=wide by walk_at"q"]
theorem sc_all_on_one:FnScope ["wide", "lane", "number", "counts"] ["wide", "lane", "number"] (defScope s_all_on_one):=⟨rfl,rfl,rfl,by decide +kernel,rfl,by decide +kernel,by decide +kernel⟩
theorem ok_all_on_one (T:Bn mg) (F:Here K mg "all_on_one" s_all_on_one f fd):FnOk P w K mg base CX0 1 f fd ["wide", "lane", "number"] spOnOne:=by
 refine F.fn.ok sc_all_on_one (fun vs H Q E h=>?_) (fun cdv A outer s H vs Q E hr h=>?_)
 ·obtain ⟨wide,lane,n,rfl,_⟩:=h
  rfl
 ·obtain ⟨wide,lane,n,rfl,w1,w8,l0,l1,q⟩:=h
  refine ⟨_,(pss_cons (ps_set (i:=3) sc_all_on_one.nd rfl (by walk_at"r") (pe_op op_rep (pe_lst (pa_cons pe_int pa_nil)) (pv 0)))
  (pss_cons (ps_asg (pv 2) (pg_sub (pv 3) (pv 1) set_list))
  (pss_one (ps_ret (pv 3))))),?_⟩
  refine ⟨lenLine (by show 1≤100000;decide),fun la fa=>?_⟩
  refine ⟨_,rfl,la,wide,_,rfl,rfl,upd_same,by walk_at"q", by walk_at"q", lenLine (by show 1 * wide.toNat≤100000;walk_at"q"),fun lr fr=>?_⟩
  have er:(List.replicate wide.toNat [V.int 0]).flatten=(List.replicate wide.toNat (0:Int)).map V.int:=by
   generalize wide.toNat=k
   induction k with
   | zero=>rfl
   | succ k ih=>rw [List.replicate_succ,List.flatten_cons,ih,List.replicate_succ,List.map_cons];rfl
  rw [er]
  have fr':H lr=none:=(same_new fa _).free fr
  refine ⟨_,rfl,_,rfl,_,rfl,lr,_,lane,lane.toNat,rfl,rfl,upd_same,ixN_of l0 (by rw [List.length_map,List.length_replicate];walk_at"q"),?_⟩
  rw [upd_upd]
  refine ⟨_,rfl,?_⟩
  refine q lr _ fr' (Same.put fr' (Same.put fa (Same.refl H))) ?_
  rw [upd_same,set_map]
  rfl
theorem sc_shares:FnScope ["net", "power"] ["net"] (defScope s_shares):=⟨rfl,rfl,rfl,by decide +kernel,rfl,by decide +kernel,by decide +kernel⟩
theorem ok_shares (T:Bn mg) (F:Here K mg "shares" s_shares f fd) (Cdepth_power:Callee P w K mg base "depth_power" 3 ["net"] spPower) (Call_on_one:Callee P w K mg base "all_on_one" 1 ["wide", "lane", "number"] spOnOne)
  (Cexits:Callee P w K mg base "exits" 2 ["net", "counts"] spExits):FnOk P w K mg base CX0 4 f fd ["net"] spShares:=by
 refine F.fn.ok sc_shares (fun vs H Q E h=>?_) (fun cdv A outer s H vs Q E hr h=>?_)
 ·obtain ⟨v,wide,ws,rfl,_⟩:=h
  rfl
 ·obtain ⟨v,wide,ws,rfl,net,w1,w8,ok,len,q⟩:=h
  obtain ⟨n,t,rs,rfl,hn,ht,hrs⟩:=id net
  refine ⟨_,(pss_cons (ps_set (i:=1) sc_shares.nd rfl (by walk_at"r") (pe_callC Cdepth_power (hr.mono (by walk_at"d")) rfl (pa_cons (pv 0) pa_nil)))
  (pss_one (ps_ret (pe_comp ["lane"] [("net", 0),("power", 1)] rfl (pi_range1 rfl T.n_range (pa_cons (pe_ix ix_tup (pv 0) pe_int (fun _ _=>rfl)) pa_nil)) (fun _ _ _ _ _ _=>by exact (pg_name (i:=0) (show List.Nodup (["lane", "net", "power"]:List Str) by decide +kernel) rfl (by walk_at"r"))) (fun _ _ _ _ _ _=>by exact pts_nil) (fun _ _ _ _ _ _=>by exact (pe_callC Cexits (hr.mono (by walk_at"d")) rfl (pa_cons (pv 1) (pa_cons (pe_callC Call_on_one (hr.mono (by walk_at"d")) rfl (pa_cons (pe_ix (ix_tupK K rfl) (pv 1) pe_int (fun _ _=>rfl)) (pa_cons (pv 0) (pa_cons (pv 2) pa_nil)))) pa_nil)))))))),?_⟩
  refine ⟨_,rfl,.ref n,wide,ws,rfl,net,w1,w8,ok,len,fun H1 s1=>?_⟩
  refine ⟨_,rfl,n,_,_,_,rfl,rfl,SqT.of (s1 _ _ hn),rfl,?_⟩
  refine ⟨wide,rfl,by walk_at"q", by walk_at"q", fun l fl=>?_⟩
  have fl':H l=none:=s1.free fl
  refine comp_range (n:=wide.toNat) (fun j ys Hc=>Same H Hc∧Hc l=some (.lst ys)∧RowsN H Hc l ys ((List.range j).map (shareM wide.toNat (depM wide ws) ws))) ⟨Same.put fl' s1,upd_same,.nil⟩ (lenLine (by walk_at"q"))
   (fun j ys Hc ⟨_,e,r⟩=>⟨e,by have:=r.len;simp at this;walk_at"q"⟩) ?_ ?_
  ·rintro j ys Hc hj ⟨sc,el,rw0⟩
   refine ⟨⟨.inl rfl,.inr rfl,.inr rfl,trivial⟩,tru_if ?_⟩
   refine ⟨_,rfl,_,rfl,n,_,_,_,rfl,rfl,SqT.of (sc _ _ hn),rfl,_,rfl,_,rfl,?_⟩
   refine ⟨wide,0 + (j:Int),whole wide ws,rfl,w1,w8,by walk_at"q", by walk_at"q", fun a Ha fa sa xa=>?_⟩
   refine ⟨.ref n,wide,ws,a,_,rfl,net.kt (fun b xs e=>sa _ _ (sc _ _ e)),ok,by walk_at"q", xa,onOne_len _ _ _,fun b Hb fb sb xb=>?_⟩
   have fb':H b=none:=(Same.trans sc sa).free fb
   have nbl:b≠l:=Ne.symm (ne_of_none (sa _ _ el) fb)
   refine ⟨sb _ _ (sa _ _ el),Same.put fl' (Same.trans sc (Same.trans sa sb)),upd_same,?_⟩
   rw [range_snoc]
   refine rw0.more (Same.trans sa sb) ?_ nbl fb'
   rw [xb]
   show some (HO.lst ((thruM (onOne wide.toNat ((0:Int) + (j:Int)).toNat (whole wide ws)) ws).map V.int))=_
   rw [show ((0:Int) + (j:Int)).toNat=j by walk_at"q"]
   rfl
  ·rintro ys Hc ⟨sc,el,rw0⟩
   exact q l ys Hc fl' sc el rw0
theorem sc_uneven:FnScope ["net", "lane", "row", "place", "share"] ["net"] (defScope s_uneven):=⟨rfl,rfl,rfl,by decide +kernel,rfl,by decide +kernel,by decide +kernel⟩
theorem ok_uneven (T:Bn mg) (F:Here K mg "uneven" s_uneven f fd) (Cshares:Callee P w K mg base "shares" 4 ["net"] spShares):FnOk P w K mg base CX0 5 f fd ["net"] spUneven:=by
 refine F.fn.ok sc_uneven (fun vs H Q E h=>?_) (fun cdv A outer s H vs Q E hr h=>?_)
 ·obtain ⟨v,wide,ws,rfl,_⟩:=h
  rfl
 ·obtain ⟨v,wide,ws,rfl,net,w1,w8,ok,len,q1,q2⟩:=h
  refine ⟨_,(pss_cons (ps_for PassesOwn.never rfl  (pi_enumL rfl T.n_enumerate (pa_cons (pe_callC Cshares (hr.mono (by walk_at"d")) rfl (pa_cons (pv 0) pa_nil)) pa_nil)) (pg_tup rfl (pgs_cons (pg_name (i:=1) sc_uneven.nd rfl (by walk_at"r")) (pgs_cons (pg_name (i:=2) sc_uneven.nd rfl (by walk_at"r")) pgs_nil)))
  (pss_one (ps_for PassesOwn.never rfl  (pi_enumL rfl T.n_enumerate (pa_cons (pv 2) pa_nil)) (pg_tup rfl (pgs_cons (pg_name (i:=3) sc_uneven.nd rfl (by walk_at"r")) (pgs_cons (pg_name (i:=4) sc_uneven.nd rfl (by walk_at"r")) pgs_nil)))
  (pss_one (ps_if (pt_cmpR op_ne (pv 4) (pe_ix ix_list (pv 2) pe_int (fun _ _=>rfl)) (nomark _))
  (pss_one (ps_ret (pe_tup (pa_cons (pv 1) (pa_cons pe_int (pa_cons (pv 3) pa_nil))))))
  pss_nil)))))
  (pss_one (ps_ret pe_non))),?_⟩
  refine ⟨_,rfl,v,wide,ws,rfl,net,w1,w8,ok,len,fun l rs H1 fl s1 xl rows=>?_⟩
  have lr:=rows.len
  rw [sharesM_len] at lr
  have hl:=sharesM_len wide ws
  refine ⟨l,rfl,⟨_,SqL.of xl⟩,?_⟩
  refine for_enum (xs:=rs) (fun i σ Hc=>∃ v1 v2 v3 v4,σ=[some v,v1,v2,v3,v4]∧Same H1 Hc∧∀ j,j < i→EvRow (rowM (sharesM wide ws) j)) ⟨none,none,none,none,rfl,Same.refl _,fun j hj=>absurd hj (by walk_at"q")⟩ (fun i σ Hc _ ⟨_,_,_,_,_,sc,_⟩=>SqL.of (sc _ _ xl)) ?_ ?_
  ·rintro i x T σ Hc hx fT ⟨v1,v2,v3,v4,rfl,sc,ev⟩
   obtain ⟨r,tr,hr0,rfl,ntl,ftr,htr⟩:=rows.get hx
   have hi:i < wide.toNat:=(sharesM_get hr0).1
   have er:=row_get hr0
   obtain ⟨_,rfl⟩:=sharesM_get hr0
   have lsh:=shareM_len wide.toNat (depM wide ws) ws i
   refine ⟨T,_,rfl,SqT.of upd_same,rfl,?_⟩
   have s2:Same H1 (upd Hc T (HO.tup [V.int i,V.ref tr])):=Same.trans sc (same_new fT _)
   generalize upd Hc T (HO.tup [V.int i,V.ref tr])=H2 at s2
   refine ⟨_,_,rfl,_,_,rfl,rfl,?_⟩
   have hr2:=s2 _ _ htr
   refine ⟨_,rfl,tr,rfl,⟨_,SqL.of hr2⟩,?_⟩
   refine for_enum (xs:=(shareM wide.toNat (depM wide ws) ws i).map V.int) (fun k σ Hd=>∃ v3 v4,σ=[some v,some (.int i),some (.ref tr),v3,v4]∧Same H1 Hd∧∀ x,x < k→(shareM wide.toNat (depM wide ws) ws i).getD x 0=(shareM wide.toNat (depM wide ws) ws i).getD 0 0) ⟨v3,v4,rfl,s2,fun x hx=>absurd hx (by walk_at"q")⟩ (fun k σ Hd _ ⟨_,_,_,sd,_⟩=>SqL.of (sd _ _ htr)) ?_ ?_
   ·rintro k x T2 σ Hd hx2 fT2 ⟨v3,v4,rfl,sd,ek⟩
    obtain ⟨z,hz,rfl⟩:=int_item hx2
    have kl:k < wide.toNat:=by have:=(List.getElem?_eq_some_iff.mp hz).1;walk_at"q"
    refine ⟨T2,_,rfl,SqT.of upd_same,rfl,?_⟩
    have s3:Same H1 (upd Hd T2 (HO.tup [V.int k,V.int z])):=Same.trans sd (same_new fT2 _)
    generalize upd Hd T2 (HO.tup [V.int k,V.int z])=H3 at s3
    refine ⟨_,_,rfl,_,_,rfl,rfl,?_⟩
    refine ⟨_,rfl,_,rfl,tr,_,_,_,rfl,rfl,SqL.of (s3 _ _ htr),atI_int (i:=0) (by decide) (by walk_at"q"),rfl,_,rfl,?_⟩
    refine ite2 (fun g=>?_) (fun g=>?_)
    ·have gz:z≠(shareM wide.toNat (depM wide ws) ws i).getD 0 0:=fun c=>by
      rw [c] at g
      simp at g
     refine ⟨_,rfl,_,rfl,lenLine (by show 3≤100000;decide),fun T4 f4=>?_⟩
     have f4':H T4=none:=(Same.trans s1 s3).free f4
     refine q2 T4 i k _ f4' (Same.trans s1 (Same.trans s3 (same_new f4 _))) upd_same ⟨by walk_at"q", ev,?_,?_,?_⟩
     ·rw [er];walk_at"q"
     ·rw [er,getD_of hz];exact gz
     ·rw [er];exact ek
    ·have gz:z=(shareM wide.toNat (depM wide ws) ws i).getD 0 0:=by
      by_cases c:z=(shareM wide.toNat (depM wide ws) ws i).getD 0 0
      ·exact c
      ·exact absurd (by simp;exact c) g
     refine ⟨_,_,rfl,s3,fun x hx=>?_⟩
     by_cases c:x < k
     ·exact ek x c
     ·have:x=k:=by walk_at"q"
      rw [this,getD_of hz];exact gz
   ·rintro σ Hd ⟨v3,v4,rfl,sd,ek⟩
    refine ⟨_,_,_,_,rfl,sd,fun j hj=>?_⟩
    by_cases c:j < i
    ·exact ev j c
    ·have:j=i:=by walk_at"q"
     subst this
     rw [er]
     intro x hx
     exact ek x (by rw [List.length_map];exact hx)
  ·rintro σ Hc ⟨v1,v2,v3,v4,rfl,sc,ev⟩
   refine q1 Hc (Same.trans s1 sc) fun i hi=>ev i (by walk_at"q")
theorem sc_levels:FnScope ["net", "unlike", "counts"] ["net"] (defScope s_levels):=⟨rfl,rfl,rfl,by decide +kernel,rfl,by decide +kernel,by decide +kernel⟩
theorem unev_row {wide:Int} {ws:List (Int × Int)} {i k:Nat} (h:Unev (sharesM wide ws) i k):i < wide.toNat∧k < wide.toNat∧(shareM wide.toNat (depM wide ws) ws i).getD k 0≠(shareM wide.toNat (depM wide ws) ws i).getD 0 0:=by
 obtain ⟨hi,_,hk,ne,_⟩:=h
 have li:i < wide.toNat:=by simpa [sharesM] using hi
 have er:rowM (sharesM wide ws) i=shareM wide.toNat (depM wide ws) ws i:=by
  unfold rowM sharesM
  simp [List.getD,li]
 rw [er] at hk ne
 rw [shareM_len] at hk
 exact ⟨li,hk,ne⟩
theorem rows_len {C:List (List Int)} (r:List Int) (h:r∈rowsM C):r.length=C.length:=((rowsM_mem C r).mp h).1
theorem ok_levels {am:Addr} (T:Bn mg) (F:Here K mg "levels" s_levels f fd) (Cuneven:Callee P w K mg base "uneven" 5 ["net"] spUneven) (Call_on_one:Callee P w K mg base "all_on_one" 1 ["wide", "lane", "number"] spOnOne) (Cdepth_power:Callee P w K mg base "depth_power" 3 ["net"] spPower)
  (Ctrials:CalleeE P w K mg base "trials" 5 ["net"] (spTrials am)) (Cis_level:Callee P w K mg base "is_level" 2 ["counts"] spLevel) (Cexits:Callee P w K mg base "exits" 2 ["net", "counts"] spExits):FnOk P w K mg base (CX1 P w) 6 f fd ["net"] (spLevels am):=by
 refine F.fn.okE sc_levels (fun vs H Q E h=>?_) (fun cdv A outer s H vs Q E hr h=>?_)
 ·obtain ⟨v,wide,ws,rfl,_⟩:=h
  rfl
 ·obtain ⟨v,wide,ws,rfl,net,w1,w8,ok,len,qE,qL,qN⟩:=h
  obtain ⟨n,t,rs,en,hn,ht,hrs⟩:=id net
  refine ⟨_,(pss_cons (ps_set (i:=1) sc_levels.nd rfl (by walk_at"r") (pe_callC Cuneven (hr.mono (by walk_at"d")) rfl (pa_cons (pv 0) pa_nil)))
  (pss_cons (ps_if (pt_cmpR op_notN (pv 1) pe_non (nomark _))
  (pss_one (ps_ret (pe_tup (pa_cons pe_str (pa_cons (pe_callC Call_on_one (hr.mono (by walk_at"d")) rfl (pa_cons (pe_ix ix_tup (pv 0) pe_int (fun _ _=>rfl)) (pa_cons (pe_ix ix_tup (pv 1) pe_int (fun _ _=>rfl)) (pa_cons (pe_op op_mul pe_int (pe_callC Cdepth_power (hr.mono (by walk_at"d")) rfl (pa_cons (pv 0) pa_nil))) pa_nil)))) pa_nil)))))
  pss_nil)
  (pss_cons (ps_for PassesOwn.leaving rfl  (pi_list (pe_callE Ctrials (hr.mono (by walk_at"d")) rfl (pa_cons (pv 0) pa_nil))) (pg_name (i:=2) sc_levels.nd rfl (by walk_at"r"))
  (pss_one (ps_if (pt_not (pt_val (pe_callC Cis_level (hr.mono (by walk_at"d")) rfl (pa_cons (pe_callC Cexits (hr.mono (by walk_at"d")) rfl (pa_cons (pv 0) (pa_cons (pv 2) pa_nil))) pa_nil))))
  (pss_one (ps_ret (pe_tup (pa_cons pe_str (pa_cons (pv 2) pa_nil)))))
  pss_nil)))
  (pss_one (ps_ret (pe_tup (pa_cons pe_str pa_nil))))))),?_⟩
  refine ⟨_,rfl,v,wide,ws,rfl,net,w1,w8,ok,len,fun H1 s1 ev=>?_,fun T1 i k H1 fT s1 x1 un=>?_⟩
  ·have net1:=net.kt (KT.same s1 (KT.refl _))
   refine ⟨_,rfl,rfl,_,rfl,iteFd (by decide) ?_⟩
   by_cases mu:MuchM wide ws
   ·refine ⟨_,rfl,v,wide,ws,rfl,net1,w1,w8,ok,len,fun _ H2 s2=>qE ev mu H2 (Same.trans s1 s2),fun c=>absurd mu c⟩
   ·have nn:¬ (AllEv (sharesM wide ws)∧MuchM wide ws):=fun z=>mu z.2
    refine ⟨_,rfl,v,wide,ws,rfl,net1,w1,w8,ok,len,fun c=>absurd c mu,fun _ l rs' H2 fl s2 x2 rn=>?_⟩
    have s02:=Same.trans s1 s2
    have lrn:=rn.len
    refine ⟨l,rfl,⟨_,SqL.of x2⟩,?_⟩
    refine for_list (xs:=rs') (fun i σ Hc=>∃ v2,σ=[some v,some .non,v2]∧Same H2 Hc∧∀ r∈(rowsM (choicesM wide ws)).take i,Level (thruM r ws)) ⟨none,rfl,Same.refl _,by simp⟩ (fun i σ Hc _ ⟨_,_,sc,_⟩=>SqL.of (sc _ _ x2)) ?_ ?_
    ·rintro i x σ Hc hx ⟨v2,rfl,sc,lv⟩
     obtain ⟨r,tr,hr0,rfl,n0,g0,h0⟩:=rn.get hx
     have rl:r.length=wide.toNat:=by rw [rows_len r (List.mem_of_getElem? hr0),choicesM_len]
     refine ⟨_,rfl,_,rfl,v,wide,ws,tr,r,rfl,net.kt (KT.same (Same.trans s02 sc) (KT.refl _)),ok,by walk_at"q", sc _ _ h0,rl,fun la H3 fa s3 x3=>?_⟩
     refine ⟨la,_,rfl,x3,by rw [thruM_len];walk_at"q", by rw [thruM_len];walk_at"q", fun bo H4 s4 hb=>?_⟩
     refine ⟨_,rfl,?_⟩
     cases bo with
     | true =>
      refine iteFd (by decide) ?_
      refine ⟨_,rfl,Same.trans sc (Same.trans s3 s4),?_⟩
      rw [take_snoc hr0]
      intro r' hr'
      rcases List.mem_append.mp hr' with z | z
      ·exact lv r' z
      ·rw [List.mem_singleton.mp z];exact hb.mp rfl
     | false =>
      refine iteTd (by decide) ?_
      have s24:=Same.trans sc (Same.trans s3 s4)
      have s04:=Same.trans s02 s24
      refine ⟨_,rfl,lenLine (by show 2≤100000;decide),fun T5 f5=>?_⟩
      have s5:=same_new f5 (.tup [V.str "not", V.ref tr])
      exact qN nn T5 tr r _ (s04.free f5) (s1.free g0) (Same.trans s04 s5) upd_same (s5 _ _ (s24 _ _ h0)) rl fun z=>by have:=hb.mpr z;cases this
    ·rintro σ Hc ⟨v2,rfl,sc,lv⟩
     rw [lrn,List.take_length] at lv
     refine ⟨lenLine (by show 1≤100000;decide),fun T5 f5=>?_⟩
     have s0c:=Same.trans s02 sc
     exact qL nn T5 _ (s0c.free f5) (Same.trans s0c (same_new f5 _)) upd_same fun c hc=>trials_all ok ev lv hc
  ·obtain ⟨ui,uk,ur⟩:=unev_row un
   have nn:¬ (AllEv (sharesM wide ws)∧MuchM wide ws):=fun z=>un.not z.1
   refine ⟨_,rfl,rfl,_,rfl,iteTd (by simp) ?_⟩
   refine ⟨_,rfl,n,_,_,_,en,rfl,SqT.of (s1 _ _ hn),rfl,_,rfl,T1,_,_,_,rfl,rfl,SqT.of x1,rfl,?_⟩
   refine ⟨_,rfl,v,wide,ws,rfl,net.kt (KT.same s1 (KT.refl _)),w1,w8,ok,len,fun H2 s2=>?_⟩
   have s02:=Same.trans s1 s2
   refine ⟨_,_,rfl,rfl,.inl ⟨by decide,by decide⟩,wide,(i:Int),_,rfl,w1,w8,by walk_at"q", by walk_at"q", fun la H3 fa s3 x3=>?_⟩
   refine ⟨lenLine (by show 2≤100000;decide),fun T4 f4=>?_⟩
   have s03:=Same.trans s02 s3
   have s4:=same_new f4 (.tup [V.str "not", V.ref la])
   rw [Int.toNat_natCast] at x3
   have ol:(onOne wide.toNat i (2 * whole wide ws)).length=wide.toNat:=onOne_len _ _ _
   refine qN nn T4 la _ _ (s03.free f4) (s02.free fa) (Same.trans s03 s4) upd_same (s4 _ _ x3) ol fun lv=>?_
   have tl:=thruM_len ws (onOne wide.toNat i (2 * whole wide ws))
   have z:=lv 0 k (Nat.zero_le _) (by rw [tl,ol];exact uk)
   rw [thru_two ok ui,thru_two ok ui] at z
   walk_at"q"
theorem sc_is_paper:FnScope ["thing", "word", "size"] ["thing", "word", "size"] (defScope s_is_paper):=⟨rfl,rfl,rfl,by decide +kernel,rfl,by decide +kernel,by decide +kernel⟩
theorem ok_is_paper (T:Bn mg) (F:Here K mg "is_paper" s_is_paper f fd):FnOk P w K mg base CX0 1 f fd ["thing", "word", "size"] spIsPaper:=by
 refine F.fn.ok sc_is_paper (fun vs H Q E h=>?_) (fun cdv A outer s H vs Q E hr h=>?_)
 ·obtain ⟨x,word,size,rfl,_⟩:=h
  rfl
 ·obtain ⟨x,word,size,rfl,⟨th,it⟩,s1,q⟩:=h
  refine ⟨_,(pss_cons (ps_if (PW.pt (pw_or (pt_not (pt_val (pe_callB call_isinst rfl T.n_isinstance boot_isinstance (pa_cons (pv 0) (pa_cons (pe_bltn (v:=V.ty "tuple") (u:=.type "tuple") rfl T.n_tuple (by decide +kernel) rfl) pa_nil))))) (pw_or1 (pt_cmpR op_ne (pe_callB call_len_seq rfl T.n_len PySem.boot_len (pa_cons (pv 0) pa_nil)) (pv 2) (nomark _)))))
  (pss_one (ps_ret pe_bl))
  pss_nil)
  (pss_one (ps_ret (pe_and (pe_callB call_isinst rfl T.n_isinstance boot_isinstance (pa_cons (pe_ix ix_tup (pv 0) pe_int (fun _ _=>rfl)) (pa_cons (pe_bltn (v:=V.ty "str") (u:=.type "str") rfl T.n_str (by decide +kernel) rfl) pa_nil))) (pe_one (pe_cmpR op_eq (pe_ix ix_tup (pv 0) pe_int (fun _ _=>rfl)) (pv 1) (nomark _))))))),?_⟩
  have no:(∀ a xs,x=.ref a→H a=some (.tup xs)→False)→Q (.bl false) H:=fun c=>q false (ffI fun ⟨a,xs,e,h,_⟩=>c a xs e h)
  rcases th with ⟨i,rfl⟩ | o
  ·exact ⟨_,rfl,_,_,_,false,rfl,TyOf.int i,rfl,_,rfl,iteTd rfl (no fun a xs e=>nomatch e)⟩
  ·cases o with
   | bl b=>exact ⟨_,rfl,_,_,_,false,rfl,TyOf.bl b,rfl,_,rfl,iteTd rfl (no fun a xs e=>nomatch e)⟩
   | non=>exact ⟨_,rfl,_,_,_,false,rfl,TyOf.non,rfl,_,rfl,iteTd rfl (no fun a xs e=>nomatch e)⟩
   | str z=>exact ⟨_,rfl,_,_,_,false,rfl,TyOf.str z,rfl,_,rfl,iteTd rfl (no fun a xs e=>nomatch e)⟩
   | lst h=>exact ⟨_,rfl,_,_,_,false,rfl,TyOf.lst h,rfl,_,rfl,iteTd rfl (no fun a xs e h'=>by cases e;rw [h] at h';cases h')⟩
   | dct h=>exact ⟨_,rfl,_,_,_,false,rfl,TyOf.dK h,rfl,_,rfl,iteTd rfl (no fun a xs e h'=>by cases e;rw [h] at h';cases h')⟩
   | @tup a xs h =>
    refine ⟨_,rfl,_,_,_,true,rfl,TyOf.tup h,rfl,_,rfl,iteFd (by decide) ?_⟩
    refine ⟨_,rfl,a,_,rfl,.inr (SqT.of h),_,rfl,rfl,_,rfl,?_⟩
    have eq:∀ b:Bool,(b=true↔((xs.length:Int)=size∧xs[0]?=some (.str word)))→Q (.bl b) H:=fun b hb=>q b (hb.trans ⟨fun ⟨c,d⟩=>⟨a,xs,rfl,h,c,d⟩,fun ⟨a',xs',e,h',c,d⟩=>by cases e;rw [h] at h';cases h';exact ⟨c,d⟩⟩)
    by_cases c:(xs.length:Int)=size
    ·refine iteFd (by simp [c]) ?_
     cases xs with
     | nil=>simp at c;walk_at"q"
     | cons y ys =>
      have ty:=it a _ rfl h y rfl
      have fin:y≠.str word→Q (.bl false) H:=fun n=>eq false (ffI fun ⟨_,d⟩=>n (Option.some.inj d))
      refine ⟨_,rfl,a,_,_,_,rfl,rfl,SqT.of h,at0 _ _,?_⟩
      rcases ty with ⟨i,rfl⟩ | o
      ·exact ⟨_,_,_,false,rfl,TyOf.int i,rfl,_,rfl,iteFd (by decide) (fin fun z=>nomatch z)⟩
      ·cases o with
       | bl b=>exact ⟨_,_,_,false,rfl,TyOf.bl b,rfl,_,rfl,iteFd (by decide) (fin fun z=>nomatch z)⟩
       | non=>exact ⟨_,_,_,false,rfl,TyOf.non,rfl,_,rfl,iteFd (by decide) (fin fun z=>nomatch z)⟩
       | lst h'=>exact ⟨_,_,_,false,rfl,TyOf.lst h',rfl,_,rfl,iteFd (by decide) (fin fun z=>nomatch z)⟩
       | tup h'=>exact ⟨_,_,_,false,rfl,TyOf.tup h',rfl,_,rfl,iteFd (by decide) (fin fun z=>nomatch z)⟩
       | dct h'=>exact ⟨_,_,_,false,rfl,TyOf.dK h',rfl,_,rfl,iteFd (by decide) (fin fun z=>nomatch z)⟩
       | str z =>
        refine ⟨_,_,_,true,rfl,TyOf.str z,rfl,_,rfl,iteTd rfl ?_⟩
        refine ⟨_,rfl,a,_,_,_,rfl,rfl,SqT.of h,at0 _ _,_,rfl,rfl,?_⟩
        refine eq _ ⟨fun e=>⟨c,?_⟩,fun ⟨_,d⟩=>?_⟩
        ·have:=of_decide_eq_true e
         rw [this];rfl
        ·have:V.str z=V.str word:=Option.some.inj d
         rw [this];simp
    ·refine iteTd (by simpa using fun z=>c z) ?_
     exact eq false (ffI fun ⟨d,_⟩=>c d)
theorem sc_levels_as_told:FnScope ["net", "told"] ["net"] (defScope s_levels_as_told):=⟨rfl,rfl,rfl,by decide +kernel,rfl,by decide +kernel,by decide +kernel⟩
theorem ok_levels_as_told {am:Addr} (T:Bn mg) (F:Here K mg "levels_as_told" s_levels_as_told f fd) (ER:ManyT K mg am) (Clevels:CalleeE P w K mg base "levels" 6 ["net"] (spLevels am)):FnOk P w K mg base CX0 7 f fd ["net"] spAsTold:=by
 refine F.fn.ok sc_levels_as_told (fun vs H Q E h=>?_) (fun cdv A outer s H vs Q E hr h=>?_)
 ·obtain ⟨v,wide,ws,rfl,_⟩:=h
  rfl
 ·obtain ⟨v,wide,ws,rfl,net,w1,w8,ok,len,q⟩:=h
  refine ⟨_,(pss_cons (ps_try0 rfl rfl (psx_set (i:=1) sc_levels_as_told.nd rfl (by walk_at"r") (px_call Clevels (hr.mono (by walk_at"d")) rfl (pa_cons (pv 0) pa_nil))) rfl ER.at_TooMany (fun _=>(pss_one (ps_ret pe_bl))))
  (pss_one (ps_ret (pe_cmpR (op_eqD hr.units) (pv 1) (pe_tup (pa_cons pe_str pa_nil)) (nomark _))))),?_⟩
  refine ⟨_,rfl,v,wide,ws,rfl,net,w1,w8,ok,len,fun ev mu H1 s1=>?_,fun nn T1 H1 fT s1 x1 lv=>?_,fun nn T1 l r H1 fT fl s1 x1 xl rl bad=>?_⟩
  ·refine ⟨ER.m_TooMany,fun ea fea=>?_⟩
   have s2:Same H1 (upd H1 ea (excO ea (.ref am))):=same_new fea _
   exact q false _ (Same.trans s1 s2) (ffI fun z=>z.1 ⟨ev,mu⟩)
  ·refine ⟨_,rfl,lenLine (by show 1≤100000;decide),fun t2 f2=>?_⟩
   obtain ⟨H2,e_,s2,x2⟩:=nw f2 (HO.tup [V.str "levels"]);rw [← e_];clear e_
   refine ⟨_,_,dat1s (s2 _ _ x1),dat1s x2,shaped_levels,shaped_levels,by simp [noMix,noMixAll],?_⟩
   have z:Q (.bl (PySem.Spec.same (.tuple [.str "levels"]) (.tuple [.str "levels"]))) H2:=by
    rw [PyProof.Rows.same_refl]
    exact q true _ (Same.trans s1 s2) (ttI ⟨nn,lv⟩)
   exact z
  ·refine ⟨_,rfl,lenLine (by show 1≤100000;decide),fun t2 f2=>?_⟩
   obtain ⟨H2,e_,s2,x2⟩:=nw f2 (HO.tup [V.str "levels"]);rw [← e_];clear e_
   refine ⟨_,_,dat_not (s2 _ _ x1) (s2 _ _ xl),dat1s x2,shaped_not r,shaped_levels,mix_not r,?_⟩
   have z:Q (.bl (PySem.Spec.same (notD r) (.tuple [.str "levels"]))) H2:=by
    rw [not_levels]
    exact q false _ (Same.trans s1 s2) (ffI fun z=>bad (z.2 r rl))
   exact z
theorem sc_are_lanes:FnScope ["wide", "things"] ["wide", "things"] (defScope s_are_lanes):=⟨rfl,rfl,rfl,by decide +kernel,rfl,by decide +kernel,by decide +kernel⟩
theorem ok_are_lanes (T:Bn mg) (F:Here K mg "are_lanes" s_are_lanes f fd) (Cis_laneT:Callee P w K mg base "is_lane" 2 ["wide", "thing"] spLaneT):FnOk P w K mg base CX0 3 f fd ["wide", "things"] spAreLanesG:=by
 have Cis_lane:=Cis_laneT
 refine F.fn.ok sc_are_lanes (fun vs H Q E h=>?_) (fun cdv A outer s H vs Q E hr h=>?_)
 ·obtain ⟨wide,x,rfl,_⟩:=h
  rfl
 ·obtain ⟨wide,x,rfl,⟨th,it⟩,q⟩:=h
  refine ⟨_,(pss_one (ps_ret (pe_and (pe_callB call_isinst rfl T.n_isinstance boot_isinstance (pa_cons (pv 1) (pa_cons (pe_bltn (v:=V.ty "tuple") (u:=.type "tuple") rfl T.n_tuple (by decide +kernel) rfl) pa_nil))) (pe_one (pe_callB (call_allB rfl) rfl T.n_all boot_all (pa_cons (pe_comp ["thing"] [("wide", 0)] rfl (pi_tup (pv 1)) (fun _ _ _ _ _ _=>by exact (pg_name (i:=0) (show List.Nodup (["thing", "wide"]:List Str) by decide +kernel) rfl (by walk_at"r"))) (fun _ _ _ _ _ _=>by exact pts_nil) (fun _ _ _ _ _ _=>by exact (pe_callC Cis_lane (hr.mono (by walk_at"d")) rfl (pa_cons (pv 1) (pa_cons (pv 0) pa_nil))))) pa_nil)))))),?_⟩
  have no:(¬ ∃ ns,LanesT H wide x ns)→Q (.bl false) H:=fun c=>q false H (Same.refl _) ⟨fun z=>Bool.noConfusion z,fun z=>absurd z c⟩
  rcases th with ⟨i,rfl⟩ | o
  ·exact ⟨_,rfl,_,_,_,false,rfl,TyOf.int i,rfl,_,rfl,iteFd (by decide) (no fun ⟨_,_,e,_⟩=>by cases e)⟩
  ·cases o with
   | bl b=>exact ⟨_,rfl,_,_,_,false,rfl,TyOf.bl b,rfl,_,rfl,iteFd (by decide) (no fun ⟨_,_,e,_⟩=>by cases e)⟩
   | non=>exact ⟨_,rfl,_,_,_,false,rfl,TyOf.non,rfl,_,rfl,iteFd (by decide) (no fun ⟨_,_,e,_⟩=>by cases e)⟩
   | str z=>exact ⟨_,rfl,_,_,_,false,rfl,TyOf.str z,rfl,_,rfl,iteFd (by decide) (no fun ⟨_,_,e,_⟩=>by cases e)⟩
   | lst h=>exact ⟨_,rfl,_,_,_,false,rfl,TyOf.lst h,rfl,_,rfl,iteFd (by decide) (no fun ⟨_,_,e,k,_⟩=>by cases e;rw [h] at k;cases k)⟩
   | dct h=>exact ⟨_,rfl,_,_,_,false,rfl,TyOf.dK h,rfl,_,rfl,iteFd (by decide) (no fun ⟨_,_,e,k,_⟩=>by cases e;rw [h] at k;cases k)⟩
   | @tup a xs h =>
    obtain ⟨len,thx⟩:=it a xs rfl h
    refine ⟨_,rfl,_,_,_,true,rfl,TyOf.tup h,rfl,_,rfl,iteTd rfl ?_⟩
    refine ⟨_,rfl,a,rfl,⟨_,SqT.of h⟩,fun lc fc=>?_⟩
    refine comp_tup (xs:=xs) (fun i ys Hc=>Same H Hc∧Hc lc=some (.lst ys)∧ys=((xs.take i).map (laneB wide)).map V.bl) ⟨Same.put fc (Same.refl H),upd_same,rfl⟩ (lenLine (by walk_at"q")) (fun i ys Hc hi ⟨sc,e1,r1⟩=>⟨SqT.of (sc _ _ h),e1,by rw [r1,List.length_map,List.length_map,List.length_take];walk_at"q"⟩) ?_ ?_
    ·rintro i x ys Hc hx ⟨sc,e1,rfl⟩
     have tx:=thx x (List.mem_of_getElem? hx)
     refine ⟨⟨.inl rfl,.inr rfl,trivial⟩,tru_if ?_⟩
     refine ⟨_,rfl,_,rfl,wide,x,rfl,tx.same sc,e1,Same.put fc sc,upd_same,?_⟩
     rw [take_snoc hx,List.map_append,List.map_append]
     rfl
    ·rintro ys Hc ⟨sc,e1,rfl⟩
     rw [List.take_length] at e1
     refine ⟨lc,_,rfl,SqL.of e1,q _ Hc sc ⟨fun z=>?_,fun ⟨ns,b,e,k,l⟩=>?_⟩⟩
     rotate_left
     ·cases e
      rw [h] at k
      obtain rfl:xs=ns.map V.int:=HO.tup.inj (Option.some.inj k)
      rw [List.all_map]
      exact lanes_all l
     have z':xs.all (laneB wide)=true:=by rw [List.all_map] at z;exact z
     obtain ⟨ns,rfl,l⟩:=lane_all z'
     exact ⟨ns,a,rfl,h,l⟩
theorem sc_are_halves:FnScope ["wide", "one", "other"] ["wide", "one", "other"] (defScope s_are_halves):=⟨rfl,rfl,rfl,by decide +kernel,rfl,by decide +kernel,by decide +kernel⟩
theorem ok_are_halves (T:Bn mg) (F:Here K mg "are_halves" s_are_halves f fd) (Care_lanes:Callee P w K mg base "are_lanes" 3 ["wide", "things"] spAreLanesG):FnOk P w K mg base CX0 4 f fd ["wide", "one", "other"] spAreHalvesG:=by
 refine F.fn.ok sc_are_halves (fun vs H Q E h=>?_) (fun cdv A outer s H vs Q E hr h=>?_)
 ·obtain ⟨wide,x,y,rfl,_⟩:=h
  rfl
 ·obtain ⟨wide,x,y,rfl,tx,ty,w1,w8,q⟩:=h
  refine ⟨_,(pss_cons (ps_if (PW.pt (pw_or (pt_not (pt_val (pe_callC Care_lanes (hr.mono (by walk_at"d")) rfl (pa_cons (pv 0) (pa_cons (pv 1) pa_nil))))) (pw_or1 (pt_not (pt_val (pe_callC Care_lanes (hr.mono (by walk_at"d")) rfl (pa_cons (pv 0) (pa_cons (pv 2) pa_nil))))))))
  (pss_one (ps_ret pe_bl))
  pss_nil)
  (pss_one (ps_ret (pe_and (pe_cmpR op_eq (pe_callB call_len_seq rfl T.n_len PySem.boot_len (pa_cons (pv 1) pa_nil)) (pe_callB call_len_seq rfl T.n_len PySem.boot_len (pa_cons (pv 2) pa_nil)) (nomark _)) (pe_one (pe_cmpR (op_eqL hr.units) (pe_callB call_sortedT rfl T.n_sorted PyProof.Rows.boot_sorted (pa_cons (pe_op op_catA (pv 1) (pv 2)) pa_nil)) (pe_callTy (call_listRng rfl) rfl T.n_list boot_listT (pa_cons (pe_callTy call_rng1 rfl T.n_range boot_rangeT (pa_cons (pv 0) pa_nil)) pa_nil)) (nomark _))))))),?_⟩
  have no:∀ H',Same H H'→(¬ ∃ ns ms,HalfT H wide x y ns ms)→Q (.bl false) H':=fun H' s' c=>q false H' s' ⟨fun z=>Bool.noConfusion z,fun z=>absurd z c⟩
  refine ⟨_,rfl,_,rfl,wide,x,rfl,tx,fun b H1 s1 hb=>?_⟩
  cases b with
  | false=>exact ⟨_,rfl,iteTd rfl (no _ s1 fun ⟨ns,ms,h,_⟩=>absurd (hb.mpr ⟨ns,h⟩) (by decide))⟩
  | true =>
   obtain ⟨ns,a,rfl,ha,la⟩:=hb.mp rfl
   refine ⟨_,rfl,iteFd (by decide) ?_⟩
   refine ⟨_,rfl,_,rfl,wide,y,rfl,ty.same s1,fun b H2 s2 hb=>?_⟩
   have s12:=Same.trans s1 s2
   cases b with
   | false=>exact ⟨_,rfl,iteTd rfl (no _ s12 fun ⟨ns,ms,_,h,_⟩=>absurd (hb.mpr ⟨ms,h.same s1⟩) (by decide))⟩
   | true =>
    obtain ⟨ms,c,rfl,hc,lc⟩:=hb.mp rfl
    have inj:∀ ns' ms',HalfT H wide (.ref a) (.ref c) ns' ms'→ns'=ns∧ms'=ms:=fun ns' ms' ⟨⟨_,e1,k1,_⟩,⟨_,e2,k2,_⟩,_⟩=>by
     cases e1;cases e2
     rw [ha] at k1
     rw [s1 _ _ k2] at hc
     exact ⟨(map_int_inj (HO.tup.inj (Option.some.inj k1))).symm,map_int_inj (HO.tup.inj (Option.some.inj hc))⟩
    have hc0:H c=some (.tup (ms.map V.int)):=ty.1.back s1 hc
    obtain ⟨ln,_⟩:=tx.2 a _ rfl ha
    obtain ⟨lm,_⟩:=ty.2 c _ rfl hc0
    rw [List.length_map] at ln lm
    refine ⟨_,rfl,iteFd (by decide) ?_⟩
    refine ⟨_,rfl,a,_,rfl,.inr (SqT.of (s12 _ _ ha)),_,rfl,c,_,rfl,.inr (SqT.of (s2 _ _ hc)),rfl,_,rfl,?_⟩
    rw [List.length_map,List.length_map]
    by_cases e:ns.length=ms.length
    ·refine iteTd (by simp [e]) ?_
     refine ⟨_,rfl,_,rfl,a,c,_,_,rfl,rfl,s12 _ _ ha,s2 _ _ hc,lenLine (by rw [List.length_map,List.length_map];walk_at"q"),fun t H3 s3 x3=>?_⟩
     rw [← List.map_append] at x3
     refine ⟨t,ns ++ ms,rfl,SqT.of x3,by rw [List.length_append];walk_at"q", fun l4 ns' f4 pm pw'=>?_⟩
     obtain ⟨H4,e_,s4,x4⟩:=nw f4 (HO.lst (ns'.map V.int));rw [← e_];clear e_
     refine ⟨_,rfl,_,rfl,fun r5 f5=>?_⟩
     obtain ⟨H5,e_,s5,x5⟩:=nw f5 (HO.rng 0 wide);rw [← e_];clear e_
     refine ⟨r5,0,wide,rfl,x5,by decide,by decide,by walk_at"q", by walk_at"q", by walk_at"q", fun l6 f6=>?_⟩
     obtain ⟨H6,e_,s6,x6⟩:=nw f6 (HO.lst ((rngL 0 wide).map V.int));rw [← e_];clear e_
     have s46:=Same.trans s5 s6
     refine ⟨l4,l6,_,_,rfl,rfl,SqL.of (s46 _ _ x4),SqL.of x6,q _ H6 (Same.trans s12 (Same.trans s3 (Same.trans s4 s46))) ⟨fun z=>?_,fun ⟨ns2,ms2,hf⟩=>?_⟩⟩
     rotate_left
     ·obtain ⟨rfl,rfl⟩:=inj ns2 ms2 hf
      exact decide_eq_true (sorted_rng pm pw' hf.2.2.2)
     have ez:ns'=rngL 0 wide:=of_decide_eq_true z
     exact ⟨ns,ms,⟨a,rfl,ha,la⟩,⟨c,rfl,hc0,lc⟩,e,by rw [← ez];exact pm.symm⟩
    ·refine iteFd (by simp;walk_at"q") ?_
     exact no _ s12 fun ⟨ns2,ms2,hf⟩=>by
      obtain ⟨rfl,rfl⟩:=inj ns2 ms2 hf
      exact e hf.2.2.1
theorem sc_keep_apart:FnScope ["wickets", "half"] ["wickets", "half"] (defScope s_keep_apart):=⟨rfl,rfl,rfl,by decide +kernel,rfl,by decide +kernel,by decide +kernel⟩
theorem ok_keep_apart (T:Bn mg) (F:Here K mg "keep_apart" s_keep_apart f fd):FnOk P w K mg base CX0 1 f fd ["wickets", "half"] spKeep:=by
 refine F.fn.ok sc_keep_apart (fun vs H Q E h=>?_) (fun cdv A outer s H vs Q E hr h=>?_)
 ·obtain ⟨t,h,rs,ws,hs,rfl,_⟩:=h
  rfl
 ·obtain ⟨t,h,rs,ws,hs,rfl,ht,hrs,len,hh,q⟩:=h
  have lrs:=hrs.len
  refine ⟨_,(pss_one (ps_ret (pe_callB (call_allB rfl) rfl T.n_all boot_all (pa_cons (pe_comp ["first", "second"] [("half", 1)] rfl (pi_tup (pv 0)) (fun _ _ _ _ _ _=>by exact (pg_tupK K rfl (n:=2) rfl (pgs_cons (pg_name (i:=0) (show List.Nodup (["first", "second", "half"]:List Str) by decide +kernel) rfl (by walk_at"r")) (pgs_cons (pg_name (i:=1) (show List.Nodup (["first", "second", "half"]:List Str) by decide +kernel) rfl (by walk_at"r")) pgs_nil)))) (fun _ _ _ _ _ _=>by exact pts_nil) (fun _ _ _ _ _ _=>by exact (pe_cmpR op_eq (pe_cmpR (op_in_seqK K rfl) (pv 0) (pv 2) (by with_unfolding_all rfl)) (pe_cmpR (op_in_seqK K rfl) (pv 1) (pv 2) (by with_unfolding_all rfl)) (nomark _)))) pa_nil)))),?_⟩
  refine ⟨_,rfl,t,rfl,⟨_,SqT.of ht⟩,fun lc fc=>?_⟩
  refine comp_tup (xs:=rs) (fun i ys Hc=>Same H Hc∧Hc lc=some (.lst ys)∧∃ bs:List Bool,ys=bs.map V.bl∧bs.length=i∧(bs.all id=true↔KeepM (ws.take i) hs)) ⟨Same.put fc (Same.refl H),upd_same,[],rfl,rfl,by simp [KeepM]⟩ (lenLine (by walk_at"q")) (fun i ys Hc hi ⟨sc,e1,bs,r1,l1,_⟩=>⟨SqT.of (sc _ _ ht),e1,by rw [r1,List.length_map,l1];exact Nat.le_refl _⟩) ?_ ?_
  ·rintro i x ys Hc hx ⟨sc,e1,bs,rfl,l1,hb⟩
   obtain ⟨w0,t0,hw0,rfl,ht0⟩:=hrs.get hx
   refine ⟨t0,_,rfl,SqT.of (sc _ _ ht0),rfl,?_⟩
   refine ⟨_,_,rfl,_,_,rfl,rfl,?_⟩
   refine ⟨⟨.inl rfl,.inl rfl,.inr rfl,trivial⟩,tru_if ?_⟩
   refine ⟨_,rfl,_,rfl,h,_,rfl,.inr (SqT.of (sc _ _ hh)),rfl,by simp [flatV],?_⟩
   refine ⟨_,rfl,_,rfl,h,_,rfl,.inr (SqT.of (sc _ _ hh)),rfl,by simp [flatV],rfl,?_⟩
   refine ⟨e1,Same.put fc sc,upd_same,bs ++ [decide (w0.1∈hs↔w0.2∈hs)],?_,by rw [List.length_append,l1];rfl,?_⟩
   ·rw [List.map_append]
    have e:decide (V.bl (inV (V.int w0.1) (hs.map V.int))=V.bl (inV (V.int w0.2) (hs.map V.int)))=decide (w0.1∈hs↔w0.2∈hs):=by
     rw [inV_ints,inV_ints]
     by_cases a:w0.1∈hs <;> by_cases b:w0.2∈hs <;> simp [a,b]
    exact congrArg (fun z=>bs.map V.bl ++ [V.bl z]) e
   ·rw [take_snoc hw0,List.all_append,Bool.and_eq_true,hb]
    constructor
    ·rintro ⟨a,b⟩ w hw
     rcases List.mem_append.mp hw with z | z
     ·exact a w z
     ·rw [List.mem_singleton.mp z];simpa using b
    ·intro z
     exact ⟨fun w hw=>z w (List.mem_append_left _ hw),by simpa using z w0 (List.mem_append_right _ (by simp))⟩
  ·rintro ys Hc ⟨sc,e1,bs,rfl,l1,hb⟩
   rw [lrs,List.take_length] at hb
   exact ⟨lc,bs,rfl,SqL.of e1,q _ Hc sc hb⟩
theorem sc_net_within:FnScope ["half", "wickets", "own"] ["half", "wickets"] (defScope s_net_within):=⟨rfl,rfl,rfl,by decide +kernel,rfl,by decide +kernel,by decide +kernel⟩
theorem ok_net_within (T:Bn mg) (F:Here K mg "net_within" s_net_within f fd):FnOk P w K mg base CX0 1 f fd ["half", "wickets"] spWithin:=by
 refine F.fn.ok sc_net_within (fun vs H Q E h=>?_) (fun cdv A outer s H vs Q E hr h=>?_)
 ·obtain ⟨t,h,rs,ws,hs,rfl,_⟩:=h
  rfl
 ·obtain ⟨t,h,rs,ws,hs,rfl,ht,hrs,len,hh,l100,kp,q⟩:=h
  have lrs:=hrs.len
  refine ⟨_,(pss_cons (ps_setComp (i:=2) sc_net_within.nd rfl (by walk_at"r") ["first", "second"] [("half", 0)] rfl (pi_tup (pv 1)) (fun _ _ _ _ _ _=>by exact (pg_tupK K rfl (n:=2) rfl (pgs_cons (pg_name (i:=0) (show List.Nodup (["first", "second", "half"]:List Str) by decide +kernel) rfl (by walk_at"r")) (pgs_cons (pg_name (i:=1) (show List.Nodup (["first", "second", "half"]:List Str) by decide +kernel) rfl (by walk_at"r")) pgs_nil)))) (fun _ _ _ _ _ _=>by exact (pts_one (pt_cmpR (op_in_seqK K rfl) (pv 0) (pv 2) (by with_unfolding_all rfl)))) (fun _ _ _ _ _ _=>by exact (pe_tup (pa_cons (bmK K rfl (pe_bm PySem.F.plainAttrs_tuple PySem.F.slot_tuple_index PySem.F.type_tuple_index mt_indexT (pv 2) (pa_cons (pv 0) pa_nil))) (pa_cons (bmK K rfl (pe_bm PySem.F.plainAttrs_tuple PySem.F.slot_tuple_index PySem.F.type_tuple_index mt_indexT (pv 2) (pa_cons (pv 1) pa_nil))) pa_nil)))))
  (pss_one (ps_ret (pe_tup (pa_cons (pe_callB call_len_seq rfl T.n_len PySem.boot_len (pa_cons (pv 0) pa_nil)) (pa_cons (pe_callTy call_tuple_of rfl T.n_tuple boot_tupleT (pa_cons (pv 2) pa_nil)) pa_nil)))))),?_⟩
  refine ⟨_,rfl,t,rfl,⟨_,SqT.of ht⟩,fun lc fc=>?_⟩
  refine comp_tup (xs:=rs) (fun i ys Hc=>Same H Hc∧Hc lc=some (.lst ys)∧ys.length≤i∧Refs Hc ys (inM hs (ws.take i))) ⟨Same.put fc (Same.refl H),upd_same,Nat.zero_le _,.nil⟩ (lenLine (by walk_at"q")) (fun i ys Hc hi ⟨sc,e1,l1,_⟩=>⟨SqT.of (sc _ _ ht),e1,l1⟩) ?_ ?_
  ·rintro i x ys Hc hx ⟨sc,e1,l1,r1⟩
   obtain ⟨w0,t0,hw0,rfl,ht0⟩:=hrs.get hx
   have kw:=kp w0 (List.mem_of_getElem? hw0)
   refine ⟨t0,_,rfl,SqT.of (sc _ _ ht0),rfl,?_⟩
   refine ⟨_,_,rfl,_,_,rfl,rfl,?_⟩
   refine ⟨⟨.inl rfl,.inl rfl,.inr rfl,trivial⟩,?_⟩
   refine ⟨_,rfl,_,rfl,h,_,rfl,.inr (SqT.of (sc _ _ hh)),rfl,by simp [flatV],_,rfl,?_⟩
   rw [take_snoc hw0,inM_snoc]
   show if inV (V.int w0.1) (hs.map V.int)=true then _ else _
   rw [inV_ints]
   have hhc:=sc _ _ hh
   by_cases c:w0.1∈hs
   ·refine iteTd (decide_eq_true c) ?_
    rw [if_pos c]
    refine ⟨_,rfl,.inr (.inl ⟨rfl,.inr ⟨_,hhc⟩⟩),?_⟩
    refine ⟨_,rfl,h,hs,w0.1,rfl,rfl,hhc,c,by walk_at"q", ?_⟩
    refine ⟨_,rfl,.inr (.inl ⟨rfl,.inr ⟨_,hhc⟩⟩),?_⟩
    refine ⟨_,rfl,h,hs,w0.2,rfl,rfl,hhc,kw.mp c,by walk_at"q", ?_⟩
    refine ⟨lenLine (by show 2≤100000;decide),fun t5 f5=>?_⟩
    obtain ⟨H5,e_,s5,x5⟩:=nw f5 (HO.tup [V.int ((hs.idxOf w0.1:Nat):Int),V.int ((hs.idxOf w0.2:Nat):Int)]);rw [← e_];clear e_
    have e5:=s5 _ _ e1
    have k4:KT H5 (upd H5 lc (HO.lst (ys ++ [V.ref t5]))):=KT.lst e5 (KT.refl _)
    exact ⟨e5,Same.put fc (Same.trans sc s5),upd_same,by rw [List.length_append];simp;walk_at"q", ((r1.same s5).kt k4).app (.cons ⟨t5,rfl,k4 _ _ x5⟩ .nil)⟩
   ·refine iteFd (by rw [decide_eq_true_iff];exact c) ?_
    rw [if_neg c,List.append_nil]
    exact ⟨sc,e1,by walk_at"q", r1⟩
  ·rintro ys Hc ⟨sc,e1,l1,r1⟩
   rw [lrs,List.take_length] at r1
   refine ⟨_,rfl,h,_,rfl,.inr (SqT.of (sc _ _ hh)),?_⟩
   refine ⟨_,rfl,lc,_,rfl,.inl ⟨SqL.of e1,fun t5 f5=>?_⟩⟩
   obtain ⟨H5,e_,s5,x5⟩:=nw f5 (HO.tup ys);rw [← e_];clear e_
   rw [List.length_map]
   refine ⟨lenLine (by show 2≤100000;decide),fun n6 f6=>?_⟩
   have s6:Same H5 (upd H5 n6 (HO.tup [V.int (hs.length:Int),V.ref t5])):=same_new f6 _
   exact q _ _ (Same.trans sc (Same.trans s5 s6)) ⟨n6,t5,ys,rfl,upd_same,s6 _ _ x5,r1.same (Same.trans s5 s6)⟩
theorem sc_exits_of_sums:FnScope ["net", "one", "other", "sums", "counts", "numbers", "lane", "number"] ["net", "one", "other", "sums"] (defScope s_exits_of_sums):=⟨rfl,rfl,rfl,by decide +kernel,rfl,by decide +kernel,by decide +kernel⟩
theorem ok_exits_of_sums (T:Bn mg) (F:Here K mg "exits_of_sums" s_exits_of_sums f fd) (Clevel_counts:Callee P w K mg base "level_counts" 1 ["wide", "total"] spLevelC) (Cexits:Callee P w K mg base "exits" 2 ["net", "counts"] spExits):FnOk P w K mg base CX0 3 f fd ["net", "one", "other", "sums"] spSums:=by
 refine F.fn.ok sc_exits_of_sums (fun vs H Q E h=>?_) (fun cdv A outer s H vs Q E hr h=>?_)
 ·obtain ⟨v,wide,ws,o,t,u,ns,ms,a,b,rfl,_⟩:=h
  rfl
 ·obtain ⟨v,wide,ws,o,t,u,ns,ms,a,b,rfl,net,w1,w8,ok,len,hf,hu,q⟩:=h
  obtain ⟨n,tn,rns,rfl,hn,htn,hrs⟩:=id net
  have hl:=hf.len
  obtain ⟨⟨o',eo,ho,lo⟩,⟨t',et,ht,lt⟩,el,pm⟩:=hf
  cases eo
  cases et
  have n1:1≤ns.length:=by walk_at"q"
  refine ⟨_,(pss_cons (ps_set (i:=4) sc_exits_of_sums.nd rfl (by walk_at"r") (pe_op op_rep (pe_lst (pa_cons pe_int pa_nil)) (pe_ix ix_tup (pv 0) pe_int (fun _ _=>rfl))))
  (pss_cons (ps_set (i:=5) sc_exits_of_sums.nd rfl (by walk_at"r") (pe_op op_cat (pe_callC Clevel_counts (hr.mono (by walk_at"d")) rfl (pa_cons (pe_callB call_len_seq rfl T.n_len PySem.boot_len (pa_cons (pv 1) pa_nil)) (pa_cons (pe_ix ix_tup (pv 3) pe_int (fun _ _=>rfl)) pa_nil))) (pe_callC Clevel_counts (hr.mono (by walk_at"d")) rfl (pa_cons (pe_callB call_len_seq rfl T.n_len PySem.boot_len (pa_cons (pv 2) pa_nil)) (pa_cons (pe_ix ix_tup (pv 3) pe_int (fun _ _=>rfl)) pa_nil)))))
  (pss_cons (ps_for PassesOwn.never rfl  (pi_zipTL rfl T.n_zip (pa_cons (pe_op op_catA (pv 1) (pv 2)) (pa_cons (pv 5) pa_nil))) (pg_tup rfl (pgs_cons (pg_name (i:=6) sc_exits_of_sums.nd rfl (by walk_at"r")) (pgs_cons (pg_name (i:=7) sc_exits_of_sums.nd rfl (by walk_at"r")) pgs_nil)))
  (pss_one (ps_asg (pv 7) (pg_sub (pv 4) (pv 6) set_list))))
  (pss_one (ps_ret (pe_callC Cexits (hr.mono (by walk_at"d")) rfl (pa_cons (pv 0) (pa_cons (pv 4) pa_nil)))))))),?_⟩
  refine ⟨lenLine (by show 1≤100000;decide),fun la fa=>?_⟩
  obtain ⟨Ha,e_,sa,xa⟩:=nw fa (HO.lst [V.int 0]);rw [← e_];clear e_
  refine ⟨_,rfl,n,_,_,_,rfl,rfl,SqT.of (sa _ _ hn),rfl,la,wide,_,rfl,rfl,xa,by walk_at"q", by walk_at"q", lenLine (by show 1 * wide.toNat≤100000;walk_at"q"),fun lr fr=>?_⟩
  have er:(List.replicate wide.toNat [V.int 0]).flatten=(putL wide.toNat []).map V.int:=by
   show _=(List.replicate wide.toNat (0:Int)).map V.int
   generalize wide.toNat=k
   induction k with
   | zero=>rfl
   | succ k ih=>rw [List.replicate_succ,List.flatten_cons,ih,List.replicate_succ,List.map_cons];rfl
  rw [er]
  obtain ⟨Hb,e_,sb,xb⟩:=nw fr (HO.lst ((putL wide.toNat []).map V.int));rw [← e_];clear e_
  have frl:H lr=none:=sa.free fr
  have s0b:=Same.trans sa sb
  refine ⟨_,rfl,o,_,rfl,.inr (SqT.of (s0b _ _ ho)),?_⟩
  rw [List.length_map]
  refine ⟨_,rfl,u,_,_,_,rfl,rfl,SqT.of (s0b _ _ hu),rfl,(ns.length:Int),a,rfl,by walk_at"q", by walk_at"q", fun l1 H1 f1 s1 x1=>?_⟩
  have s01:=Same.trans s0b s1
  refine ⟨_,rfl,t,_,rfl,.inr (SqT.of (s01 _ _ ht)),?_⟩
  rw [List.length_map]
  refine ⟨_,rfl,u,_,_,_,rfl,rfl,SqT.of (s01 _ _ hu),rfl,(ms.length:Int),b,rfl,by walk_at"q", by walk_at"q", fun l2 H2 f2 s2 x2=>?_⟩
  have s02:=Same.trans s01 s2
  rw [Int.toNat_natCast] at x1 x2
  refine ⟨l1,l2,_,_,rfl,rfl,s2 _ _ x1,x2,lenLine (by rw [List.length_map,List.length_map,levelM_len,levelM_len];walk_at"q"),fun l3 f3=>?_⟩
  rw [← List.map_append]
  obtain ⟨H3,e_,s3,x3⟩:=nw f3 (HO.lst ((levelM ns.length a ++ levelM ms.length b).map V.int));rw [← e_];clear e_
  have s03:=Same.trans s02 s3
  refine ⟨_,rfl,_,rfl,o,t,_,_,rfl,rfl,s03 _ _ ho,s03 _ _ ht,lenLine (by rw [List.length_map,List.length_map];walk_at"q"),fun t4 H4 s4 x4=>?_⟩
  rw [← List.map_append] at x4
  have s04:=Same.trans s03 s4
  have sb4:=Same.trans s1 (Same.trans s2 (Same.trans s3 s4))
  have x34:=s4 _ _ x3
  have xb4:=sb4 _ _ xb
  have nl3:l3≠lr:=fun z=>by rw [z,(Same.trans s1 s2) _ _ xb] at f3;cases f3
  have lz:(ns ++ ms).length=(levelM ns.length a ++ levelM ms.length b).length:=by rw [List.length_append,List.length_append,levelM_len,levelM_len]
  have lan:∀ x∈ns ++ ms,0≤x∧x < wide:=fun x hx=>(List.mem_append.mp hx).elim (lo x) (lt x)
  unfold sumsM at q
  generalize ns ++ ms=ks at x4 lz lan q
  generalize levelM ns.length a ++ levelM ms.length b=js at x34 lz q
  refine ⟨_,rfl,t4,l3,rfl,⟨_,SqT.of x4⟩,⟨_,SqL.of x34⟩,?_⟩
  refine for_zip (xs:=ks.map V.int) (ys:=js.map V.int) (by rw [List.length_map,List.length_map];exact lz) (fun i σ Hc=>∃ w6 w7,σ=[some (.ref n),some (.ref o),some (.ref t),some (.ref u),some (.ref lr),some (.ref l3),w6,w7]∧KpS [lr] H4 Hc∧Same H Hc∧Hc lr=some (.lst ((putL wide.toNat ((ks.zip js).take i)).map V.int)))
   ⟨none,none,rfl,KpS.refl _ _,s04,xb4⟩ ?_ ?_ ?_
  ·rintro i σ Hc hi ⟨w6,w7,rfl,kc,sc,xc⟩
   exact ⟨SqT.of (kc _ _ x4 (by simp;intro z;rw [z,xb4] at x4;cases x4)),SqL.of (kc _ _ x34 (by simpa using nl3))⟩
  ·rintro i x y T1 σ Hc hx hy fT ⟨w6,w7,rfl,kc,sc,xc⟩
   obtain ⟨x,hx',rfl⟩:=int_item hx
   obtain ⟨y,hy',rfl⟩:=int_item hy
   have hz:(ks.zip js)[i]?=some (x,y):=by
    rw [List.getElem?_zip_eq_some]
    exact ⟨hx',hy'⟩
   obtain ⟨x0,x8⟩:=lan x (List.mem_of_getElem? hx')
   obtain ⟨Hd,e_,sT,xT⟩:=nw fT (HO.tup [V.int x,V.int y]);rw [← e_];clear e_
   refine ⟨T1,_,rfl,SqT.of xT,rfl,?_⟩
   refine ⟨_,_,rfl,_,_,rfl,rfl,?_⟩
   have xd:=sT _ _ xc
   refine ⟨_,rfl,_,rfl,_,rfl,lr,_,x,x.toNat,rfl,rfl,xd,ixN_of x0 (by rw [List.length_map,putL_len];walk_at"q"),?_⟩
   refine ⟨_,_,rfl,KpS.trans kc (KpS.trans (KpS.same sT) (KpS.upd (by simp))),Same.put frl (Same.trans sc sT),?_⟩
   rw [upd_same,take_snoc hz,putL_snoc,set_map]
  ·rintro σ Hc ⟨w6,w7,rfl,kc,sc,xc⟩
   rw [List.length_map,List.take_of_length_le (by rw [List.length_zip];walk_at"q")] at xc
   refine ⟨_,rfl,_,rfl,.ref n,wide,ws,lr,_,rfl,net.kt (KT.same sc (KT.refl _)),ok,by walk_at"q", xc,putL_len _ _,fun l9 H9 f9 s9 x9=>?_⟩
   exact q l9 H9 (sc.free f9) (Same.trans sc s9) x9
theorem sc_level_below:FnScope ["net", "one", "other", "most", "one_sum", "other_sum"] ["net", "one", "other", "most"] (defScope s_level_below):=⟨rfl,rfl,rfl,by decide +kernel,rfl,by decide +kernel,by decide +kernel⟩
theorem ok_level_below (T:Bn mg) (F:Here K mg "level_below" s_level_below f fd) (Cexits_of_sums:Callee P w K mg base "exits_of_sums" 3 ["net", "one", "other", "sums"] spSums) (Cis_level:Callee P w K mg base "is_level" 2 ["counts"] spLevel):FnOk P w K mg base CX0 4 f fd ["net", "one", "other", "most"] spBelow:=by
 refine F.fn.ok sc_level_below (fun vs H Q E h=>?_) (fun cdv A outer s H vs Q E hr h=>?_)
 ·obtain ⟨v,wide,ws,o,t,ns,ms,most,rfl,_⟩:=h
  rfl
 ·obtain ⟨v,wide,ws,o,t,ns,ms,most,rfl,net,w1,w8,ok,len,hf,m0,m32,q⟩:=h
  refine ⟨_,(pss_cons (ps_for PassesOwn.never rfl  (pi_range1 rfl T.n_range (pa_cons (pv 3) pa_nil)) (pg_name (i:=4) sc_level_below.nd rfl (by walk_at"r"))
  (pss_one (ps_for PassesOwn.never rfl  (pi_range1 rfl T.n_range (pa_cons (pv 3) pa_nil)) (pg_name (i:=5) sc_level_below.nd rfl (by walk_at"r"))
  (pss_one (ps_if (pt_not (pt_val (pe_callC Cis_level (hr.mono (by walk_at"d")) rfl (pa_cons (pe_callC Cexits_of_sums (hr.mono (by walk_at"d")) rfl (pa_cons (pv 0) (pa_cons (pv 1) (pa_cons (pv 2) (pa_cons (pe_tup (pa_cons (pv 4) (pa_cons (pv 5) pa_nil))) pa_nil))))) pa_nil))))
  (pss_one (ps_ret pe_bl))
  pss_nil)))))
  (pss_one (ps_ret pe_bl))),?_⟩
  refine ⟨_,rfl,most,rfl,by walk_at"q", by walk_at"q", ?_⟩
  refine for_range (n:=most.toNat) (fun i σ Hc=>∃ v4 v5,σ=[some v,some (.ref o),some (.ref t),some (.int most),v4,v5]∧Same H Hc∧∀ a b:Nat,a < i→(b:Int) < most→Level (sumsM wide ws ns ms a b)) ⟨none,none,rfl,Same.refl H,fun a b h=>absurd h (Nat.not_lt_zero _)⟩ ?_ ?_
  ·rintro i σ Hc hi ⟨v4,v5,rfl,sc,lv⟩
   refine ⟨_,rfl,most,rfl,by walk_at"q", by walk_at"q", ?_⟩
   refine for_range (n:=most.toNat) (fun j σ Hd=>∃ v5,σ=[some v,some (.ref o),some (.ref t),some (.int most),some (.int (0 + (i:Int))),v5]∧Same H Hd∧∀ b:Nat,b < j→Level (sumsM wide ws ns ms i b)) ⟨v5,rfl,sc,fun b h=>absurd h (Nat.not_lt_zero _)⟩ ?_ ?_
   ·rintro j σ Hd hj ⟨v5,rfl,sd,lvj⟩
    refine ⟨_,rfl,_,rfl,_,rfl,_,rfl,_,rfl,lenLine (by show 2≤100000;decide),fun t3 f3=>?_⟩
    rw [Int.zero_add,Int.zero_add]
    obtain ⟨H3,e_,s3,x3⟩:=nw f3 (HO.tup [V.int (i:Int),V.int (j:Int)]);rw [← e_];clear e_
    have s03:=Same.trans sd s3
    refine ⟨v,wide,ws,o,t,t3,ns,ms,i,j,rfl,net.kt (KT.same s03 (KT.refl _)),w1,w8,ok,len,hf.same s03,x3,fun l4 H4 f4 s4 x4=>?_⟩
    refine ⟨l4,_,rfl,x4,by rw [sumsM_len];walk_at"q", by rw [sumsM_len];walk_at"q", fun bo H5 s5 hb=>?_⟩
    have s05:=Same.trans s03 (Same.trans s4 s5)
    refine ⟨_,rfl,?_⟩
    cases bo with
    | true =>
     refine iteFd (by decide) ?_
     refine ⟨_,rfl,s05,fun b hb'=>?_⟩
     by_cases e:b=j
     ·rw [e];exact hb.mp rfl
     ·exact lvj b (by walk_at"q")
    | false =>
     refine iteTd rfl ?_
     exact q false _ s05 (ffI fun z=>by have:=hb.mpr (z i j (by walk_at"q") (by walk_at"q"));cases this)
   ·rintro σ Hd ⟨v5,rfl,sd,lvj⟩
    refine ⟨_,_,rfl,sd,fun a b ha hb=>?_⟩
    by_cases e:a=i
    ·rw [e];exact lvj b (by walk_at"q")
    ·exact lv a b (by walk_at"q") hb
  ·rintro σ Hc ⟨v4,v5,rfl,sc,lv⟩
   exact q true _ sc (ttI fun i j hi hj=>lv i j (by walk_at"q") hj)
theorem sc_all_alike:FnScope ["row"] ["row"] (defScope s_all_alike):=⟨rfl,rfl,rfl,by decide +kernel,rfl,by decide +kernel,by decide +kernel⟩
theorem ok_all_alike (T:Bn mg) (F:Here K mg "all_alike" s_all_alike f fd):FnOk P w K mg base CX0 1 f fd ["row"] spAlikeR:=by
 refine F.fn.ok sc_all_alike (fun vs H Q E h=>?_) (fun cdv A outer s H vs Q E hr h=>?_)
 ·obtain ⟨l,cs,rfl,_⟩:=h
  rfl
 ·obtain ⟨l,cs,rfl,hl,len,q⟩:=h
  refine ⟨_,(pss_one (ps_ret (pe_callB (call_allB rfl) rfl T.n_all boot_all (pa_cons (pe_comp ["number"] [("row", 0)] rfl (pi_list (pv 0)) (fun _ _ _ _ _ _=>by exact (pg_name (i:=0) (show List.Nodup (["number", "row"]:List Str) by decide +kernel) rfl (by walk_at"r"))) (fun _ _ _ _ _ _=>by exact pts_nil) (fun _ _ _ _ _ _=>by exact (pe_cmpR op_eq (pv 0) (pe_ix (ix_listK K rfl) (pv 1) pe_int (fun _ _=>rfl)) (nomark _)))) pa_nil)))),?_⟩
  refine ⟨_,rfl,l,rfl,⟨_,SqL.of hl⟩,fun lc fc=>?_⟩
  refine comp_list (xs:=cs.map V.int) (fun i ys Hc=>Same H Hc∧Hc lc=some (.lst ys)∧ys=((cs.take i).map fun c=>decide (c=cs.getD 0 0)).map V.bl) ⟨Same.put fc (Same.refl H),upd_same,rfl⟩ (lenLine (by rw [List.length_map];walk_at"q")) (fun i ys Hc hi ⟨sc,e1,r1⟩=>⟨SqL.of (sc _ _ hl),e1,by rw [r1,List.length_map,List.length_map,List.length_take];walk_at"q"⟩) ?_ ?_
  ·rintro i x ys Hc hx ⟨sc,e1,rfl⟩
   obtain ⟨c,hc,rfl⟩:=int_item hx
   have l0:0 < cs.length:=by have:=(List.getElem?_eq_some_iff.mp hc).1;walk_at"q"
   refine ⟨⟨.inl rfl,.inr rfl,trivial⟩,tru_if ?_⟩
   refine ⟨_,rfl,_,rfl,l,_,_,_,rfl,rfl,SqL.of (sc _ _ hl),atI_int (Int.le_refl 0) (by walk_at"q"),rfl,e1,Same.put fc sc,upd_same,?_⟩
   rw [take_snoc hc,List.map_append,List.map_append]
   simp
  ·rintro ys Hc ⟨sc,e1,rfl⟩
   rw [List.length_map,List.take_length] at e1
   refine ⟨lc,_,rfl,SqL.of e1,q _ Hc sc ?_⟩
   rw [List.all_map,List.all_eq_true]
   simp
theorem sc_put_together:FnScope ["net", "one", "other", "most", "from_one", "from_other"] ["net", "one", "other"] (defScope s_put_together):=⟨rfl,rfl,rfl,by decide +kernel,rfl,by decide +kernel,by decide +kernel⟩
theorem ok_put_together (T:Bn mg) (F:Here K mg "put_together" s_put_together f fd) (GMOST_TO_PUT_TOGETHER:∃ t,mg "MOST_TO_PUT_TOGETHER" = some (.int 32 t)) (Cdepth_power:Callee P w K mg base "depth_power" 3 ["net"] spPower) (Clevel_below:Callee P w K mg base "level_below" 4 ["net", "one", "other", "most"] spBelow) (Cexits_of_sums:Callee P w K mg base "exits_of_sums" 3 ["net", "one", "other", "sums"] spSums) (Call_alike:Callee P w K mg base "all_alike" 1 ["row"] spAlikeR):FnOk P w K mg base CX0 5 f fd ["net", "one", "other"] spTogether:=by
 refine F.fn.ok sc_put_together (fun vs H Q E h=>?_) (fun cdv A outer s H vs Q E hr h=>?_)
 ·obtain ⟨v,wide,ws,o,t,ns,ms,rfl,_⟩:=h
  rfl
 ·obtain ⟨v,wide,ws,o,t,ns,ms,rfl,net,w1,w8,ok,len,hf,q⟩:=h
  have hl:=hf.len
  have el:=hf.2.2.1
  obtain ⟨⟨o',eo,ho,lo⟩,⟨t',et,ht,_⟩,_⟩:=id hf
  cases eo
  cases et
  have wp:1≤whole wide ws:=whole_pos wide ws
  refine ⟨_,(pss_cons (ps_set (i:=3) sc_put_together.nd rfl (by walk_at"r") (pe_op op_mul (pe_callB call_len_seq rfl T.n_len PySem.boot_len (pa_cons (pv 1) pa_nil)) (pe_callC Cdepth_power (hr.mono (by walk_at"d")) rfl (pa_cons (pv 0) pa_nil))))
  (pss_cons (ps_if (PW.pt (pw_or (pt_cmpR op_gt (pv 3) (pe_gint rfl GMOST_TO_PUT_TOGETHER) (nomark _)) (pw_or1 (pt_not (pt_val (pe_callC Clevel_below (hr.mono (by walk_at"d")) rfl (pa_cons (pv 0) (pa_cons (pv 1) (pa_cons (pv 2) (pa_cons (pv 3) pa_nil))))))))))
  (pss_one (ps_ret pe_bl))
  pss_nil)
  (pss_cons (ps_set (i:=4) sc_put_together.nd rfl (by walk_at"r") (pe_callC Cexits_of_sums (hr.mono (by walk_at"d")) rfl (pa_cons (pv 0) (pa_cons (pv 1) (pa_cons (pv 2) (pa_cons (pe_tup (pa_cons (pv 3) (pa_cons pe_int pa_nil))) pa_nil))))))
  (pss_cons (ps_set (i:=5) sc_put_together.nd rfl (by walk_at"r") (pe_callC Cexits_of_sums (hr.mono (by walk_at"d")) rfl (pa_cons (pv 0) (pa_cons (pv 1) (pa_cons (pv 2) (pa_cons (pe_tup (pa_cons pe_int (pa_cons (pv 3) pa_nil))) pa_nil))))))
  (pss_one (ps_ret (pe_and (pe_callC Call_alike (hr.mono (by walk_at"d")) rfl (pa_cons (pv 4) pa_nil)) (pe_one (pe_callC Call_alike (hr.mono (by walk_at"d")) rfl (pa_cons (pv 5) pa_nil)))))))))),?_⟩
  refine ⟨_,rfl,o,_,rfl,.inr (SqT.of ho),?_⟩
  rw [List.length_map]
  refine ⟨_,rfl,v,wide,ws,rfl,net,w1,w8,ok,len,fun H1 s1=>?_⟩
  refine ⟨_,_,rfl,rfl,.inl ⟨by walk_at"q", by walk_at"q"⟩,?_⟩
  dsimp only
  have mp:0≤(ns.length:Int) * whole wide ws:=Int.mul_nonneg (by walk_at"q") (by walk_at"q")
  unfold PutM at q
  generalize (ns.length:Int) * whole wide ws=most at q mp
  have net1:=net.kt (KT.same s1 (KT.refl _))
  have no:∀ H',Same H H'→¬ (most≤32∧∀ i j:Nat,(i:Int) < most→(j:Int) < most→Level (sumsM wide ws ns ms i j))→Q (.bl false) H':=fun H' s' n=>q false H' s' (ffI fun z=>n ⟨z.1,z.2.1⟩)
  refine ⟨_,rfl,_,_,rfl,rfl,_,rfl,?_⟩
  by_cases c:32 < most
  ·exact iteTd (decide_eq_true c) (no _ s1 fun z=>absurd z.1 (by walk_at"q"))
  refine iteFd (by simpa using c) ?_
  refine ⟨_,rfl,_,rfl,_,rfl,_,rfl,v,wide,ws,o,t,ns,ms,most,rfl,net1,w1,w8,ok,len,hf.same s1,mp,by walk_at"q", fun b H2 s2 hb=>?_⟩
  have s02:=Same.trans s1 s2
  refine ⟨_,rfl,?_⟩
  cases b with
  | false=>exact iteTd rfl (no _ s02 fun z=>by have:=hb.mpr z.2;cases this)
  | true =>
   have lv:=hb.mp rfl
   refine iteFd (by decide) ?_
   refine ⟨_,rfl,_,rfl,_,rfl,_,rfl,lenLine (by show 2≤100000;decide),fun t3 f3=>?_⟩
   obtain ⟨H3,e_,s3,x3⟩:=nw f3 (HO.tup [V.int most,V.int 0]);rw [← e_];clear e_
   have s03:=Same.trans s02 s3
   refine ⟨v,wide,ws,o,t,t3,ns,ms,most,0,rfl,net.kt (KT.same s03 (KT.refl _)),w1,w8,ok,len,hf.same s03,x3,fun l4 H4 f4 s4 x4=>?_⟩
   have s04:=Same.trans s03 s4
   refine ⟨_,rfl,_,rfl,_,rfl,_,rfl,lenLine (by show 2≤100000;decide),fun t5 f5=>?_⟩
   obtain ⟨H5,e_,s5,x5⟩:=nw f5 (HO.tup [V.int 0,V.int most]);rw [← e_];clear e_
   have s05:=Same.trans s04 s5
   refine ⟨v,wide,ws,o,t,t5,ns,ms,0,most,rfl,net.kt (KT.same s05 (KT.refl _)),w1,w8,ok,len,hf.same s05,x5,fun l6 H6 f6 s6 x6=>?_⟩
   have s06:=Same.trans s05 s6
   refine ⟨_,rfl,l4,_,rfl,s6 _ _ (s5 _ _ x4),by rw [sumsM_len];walk_at"q", fun b H7 s7 hb7=>?_⟩
   have s07:=Same.trans s06 s7
   refine ⟨_,rfl,?_⟩
   cases b with
   | false=>exact iteFd (by decide) (q false H7 s07 (ffI fun z=>by have:=hb7.mpr z.2.2.1;cases this))
   | true =>
    refine iteTd rfl ?_
    refine ⟨_,rfl,l6,_,rfl,s7 _ _ x6,by rw [sumsM_len];walk_at"q", fun b H8 s8 hb8=>?_⟩
    exact q b H8 (Same.trans s07 s8) (hb8.trans ⟨fun z=>⟨by walk_at"q", lv,hb7.mp rfl,z⟩,fun z=>z.2.2.2⟩)
theorem sc_shown_by_halves:FnScope ["net", "paper", "size", "one", "other", "within"] ["net", "paper"] (defScope s_shown_by_halves):=⟨rfl,rfl,rfl,by decide +kernel,rfl,by decide +kernel,by decide +kernel⟩
theorem ok_shown_by_halves0:FnOk P w K mg base CX0 9 f fd ["net", "paper"] (spShownX 0) :=
 ⟨fun vs H Q E ⟨_,_,_,_,_,_,_,_,_,_,_,_,_,_,_,_,h,_⟩=>absurd h (by show ¬ (1 + _≤0);walk_at"q"),fun A outer s H args us vs Q E _ _ _ _ ⟨_,_,_,_,_,_,_,_,_,_,_,_,_,_,_,_,h,_⟩=>absurd h (by show ¬ (1 + _≤0);walk_at"q")⟩
theorem ok_shown_by_halves1 {n m:Nat} (T:Bn mg) (F:Here K mg "shown_by_halves" s_shown_by_halves f fd) (Cis_wholeT:Callee P w K mg base "is_whole" 1 ["thing"] spWholeT) (Care_halves:Callee P w K mg base "are_halves" 4 ["wide", "one", "other"] spAreHalvesG) (Ckeep_apart:Callee P w K mg base "keep_apart" 1 ["wickets", "half"] spKeep)
  (Cput_together:Callee P w K mg base "put_together" 5 ["net", "one", "other"] spTogether) (Cnet_within:Callee P w K mg base "net_within" 1 ["half", "wickets"] spWithin) (Cshows:Callee P w K mg base "shows" (m + 8) ["net", "paper"] (spShowsX n)):FnOk P w K mg base CX0 (m + 9) f fd ["net", "paper"] (spShownX (n + 1)):=by
 have Cis_whole:=Cis_wholeT
 refine F.fn.ok sc_shown_by_halves (fun vs H Q E h=>?_) (fun cdv A outer s H vs Q E hr h=>?_)
 ·obtain ⟨v,wide,ws,x,zz,o,t,p,q,rfl,_⟩:=h
  rfl
 ·obtain ⟨v,wide,ws,x,zz,o,t,p,q,rfl,net,w1,w8,ok,len,pa,dp,fin⟩:=h
  obtain ⟨nn,tn,rns,rfl,hn,htn,hrs⟩:=id net
  obtain ⟨a,y,z,rfl,ha,tz,to,tt,hpy,hqz⟩:=id pa
  have lrs:=hrs.len
  have dpp:p.dep≤n:=by have:1 + max p.dep q.dep≤n + 1:=dp;walk_at"q"
  have dpq:q.dep≤n:=by have:1 + max p.dep q.dep≤n + 1:=dp;walk_at"q"
  have no:∀ H',Same H H'→¬ ShowsX H wide ws (.hlv zz o t p q)→Q (.bl false) H':=fun H' s' c=>fin false H' s' ⟨fun z=>Bool.noConfusion z,fun z=>absurd z c⟩
  refine ⟨_,(pss_cons (ps_set (i:=2) sc_shown_by_halves.nd rfl (by walk_at"r") (pe_ix ix_tup (pv 1) pe_int (fun _ _=>rfl)))
  (pss_cons (ps_set (i:=3) sc_shown_by_halves.nd rfl (by walk_at"r") (pe_ix ix_tup (pv 1) pe_int (fun _ _=>rfl)))
  (pss_cons (ps_set (i:=4) sc_shown_by_halves.nd rfl (by walk_at"r") (pe_ix ix_tup (pv 1) pe_int (fun _ _=>rfl)))
  (pss_cons (ps_if (PW.pt (pw_or (pt_not (pt_val (pe_callC Cis_whole (hr.mono (by walk_at"d")) rfl (pa_cons (pv 2) pa_nil)))) (pw_or (pt_not (pt_chain op_le op_le pe_int (pv 2) (pe_callB call_len_seq rfl T.n_len PySem.boot_len (pa_cons (pe_ix ix_tup (pv 0) pe_int (fun _ _=>rfl)) pa_nil)))) (pw_or1 (pt_not (pt_val (pe_callC Care_halves (hr.mono (by walk_at"d")) rfl (pa_cons (pe_ix ix_tup (pv 0) pe_int (fun _ _=>rfl)) (pa_cons (pv 3) (pa_cons (pv 4) pa_nil))))))))))
  (pss_one (ps_ret pe_bl))
  pss_nil)
  (pss_cons (ps_set (i:=5) sc_shown_by_halves.nd rfl (by walk_at"r") (pe_slice sl_tupU (pe_ix ix_tup (pv 0) pe_int (fun _ _=>rfl)) po_none (po_some (pv 2))))
  (pss_cons (ps_if (PW.pt (pw_or (pt_not (pt_val (pe_callC Ckeep_apart (hr.mono (by walk_at"d")) rfl (pa_cons (pv 5) (pa_cons (pv 3) pa_nil))))) (pw_or1 (pt_not (pt_val (pe_callC Cput_together (hr.mono (by walk_at"d")) rfl (pa_cons (pe_tup (pa_cons (pe_ix ix_tup (pv 0) pe_int (fun _ _=>rfl)) (pa_cons (pe_slice sl_tupU (pe_ix ix_tup (pv 0) pe_int (fun _ _=>rfl)) (po_some (pv 2)) po_none) pa_nil))) (pa_cons (pv 3) (pa_cons (pv 4) pa_nil)))))))))
  (pss_one (ps_ret pe_bl))
  pss_nil)
  (pss_one (ps_ret (pe_and (pe_callC Cshows (hr.mono (by walk_at"d")) rfl (pa_cons (pe_callC Cnet_within (hr.mono (by walk_at"d")) rfl (pa_cons (pv 3) (pa_cons (pv 5) pa_nil))) (pa_cons (pe_ix ix_tup (pv 1) pe_int (fun _ _=>rfl)) pa_nil))) (pe_one (pe_callC Cshows (hr.mono (by walk_at"d")) rfl (pa_cons (pe_callC Cnet_within (hr.mono (by walk_at"d")) rfl (pa_cons (pv 4) (pa_cons (pv 5) pa_nil))) (pa_cons (pe_ix ix_tup (pv 1) pe_int (fun _ _=>rfl)) pa_nil))))))))))))),?_⟩
  refine ⟨_,rfl,a,_,_,_,rfl,rfl,SqT.of ha,rfl,?_⟩
  refine ⟨_,rfl,a,_,_,_,rfl,rfl,SqT.of ha,rfl,?_⟩
  refine ⟨_,rfl,a,_,_,_,rfl,rfl,SqT.of ha,rfl,?_⟩
  refine ⟨_,rfl,zz,rfl,tz,_,rfl,?_⟩
  rcases tz with ⟨k,rfl⟩ | oz
  rotate_left
  ·rw [odd_notI oz]
   refine iteTd rfl (no H (Same.refl _) ?_)
   rintro ⟨k,ns,ms,e1,_⟩
   subst e1
   exact Bool.noConfusion (show true=false from odd_notI oz)
  refine iteFd (by show ¬ (!true)=true;decide) ?_
  refine ⟨_,rfl,_,_,rfl,rfl,_,rfl,?_⟩
  by_cases k0:0≤k
  rotate_left
  ·refine iteFd (by simpa using k0) ?_
   exact ⟨_,rfl,iteTd rfl (no H (Same.refl _) fun ⟨_,_,_,e,h0,_⟩=>by cases e;exact k0 h0)⟩
  refine iteTd (decide_eq_true k0) ?_
  by_cases k1:k≤ws.length
  rotate_left
  ·refine ⟨_,rfl,nn,_,_,_,rfl,rfl,SqT.of hn,rfl,tn,_,rfl,.inr (SqT.of htn),_,_,rfl,rfl,_,rfl,iteTd (by simp;walk_at"q") ?_⟩
   exact no H (Same.refl _) fun ⟨_,_,_,e,_,h1,_⟩=>by cases e;exact k1 h1
  refine ⟨_,rfl,nn,_,_,_,rfl,rfl,SqT.of hn,rfl,tn,_,rfl,.inr (SqT.of htn),_,_,rfl,rfl,_,rfl,iteFd (by simp;walk_at"q") ?_⟩
  refine ⟨_,rfl,nn,_,_,_,rfl,rfl,SqT.of hn,rfl,_,rfl,_,rfl,wide,o,t,rfl,to,tt,w1,w8,fun b H1 s1 hb=>?_⟩
  refine ⟨_,rfl,?_⟩
  cases b with
  | false=>exact iteTd rfl (no H1 s1 fun ⟨_,ns,ms,_,_,_,hf,_⟩=>absurd (hb.mpr ⟨ns,ms,hf⟩) (by decide))
  | true =>
   obtain ⟨as,bs,hf⟩:=hb.mp rfl
   obtain ⟨⟨oa,eo,hoa,lo⟩,⟨ta,et,hta,lt⟩,elh,pmh⟩:=id hf
   subst eo
   subst et
   have hm:HalfM wide as bs:=⟨lo,lt,elh,pmh⟩
   have red:ShowsX H wide ws (.hlv (.int k) (.ref oa) (.ref ta) p q)↔(0≤k∧k≤ws.length∧HalfM wide as bs∧KeepM (ws.take k.toNat) as∧PutM wide (ws.drop k.toNat) as bs∧ShowsX H as.length (inM as (ws.take k.toNat)) p∧ShowsX H bs.length (inM bs (ws.take k.toNat)) q):=by
    constructor
    ·rintro ⟨k',ns,ms,e1,h0,h1,hf',km,pm,s1,s2⟩
     cases e1
     obtain ⟨rfl,rfl⟩:=half_eq hoa hta hf'
     exact ⟨h0,h1,hm,km,pm,s1,s2⟩
    ·rintro ⟨h0,h1,_,km,pm,s1,s2⟩
     exact ⟨k,as,bs,rfl,h0,h1,hf,km,pm,s1,s2⟩
   replace fin:∀ (c:Bool) (H':Hp),Same H H'→(c=true↔_)→Q (.bl c) H':=fun c H' s' h=>fin c H' s' (h.trans red.symm)
   clear no
   have no:∀ H',Same H H'→¬ (0≤k∧k≤ws.length∧HalfM wide as bs∧KeepM (ws.take k.toNat) as∧PutM wide (ws.drop k.toNat) as bs∧ShowsX H as.length (inM as (ws.take k.toNat)) p∧ShowsX H bs.length (inM bs (ws.take k.toNat)) q)→Q (.bl false) H':=fun H' s' c=>fin false H' s' ⟨fun z=>Bool.noConfusion z,fun z=>absurd z c⟩
   have hl:=hf.len
   have el:=hm.2.2.1
   refine iteFd (by decide) ?_
   have hn1:=s1 _ _ hn
   have htn1:=s1 _ _ htn
   refine ⟨_,rfl,nn,_,_,_,rfl,rfl,SqT.of hn1,rfl,_,rfl,k,rfl,tn,_,rfl,htn1,fun pw0 H2 s2 x2=>?_⟩
   have e0:cutV rns none (some k)=rns.take k.toNat:=by
    have:=cut_take rns k.toNat
    rw [show ((k.toNat:Nat):Int)=k by walk_at"q"] at this
    exact this
   rw [e0] at x2
   have s02:=Same.trans s1 s2
   have okt:WOk wide (ws.take k.toNat):=ok.sub fun w hw=>List.mem_of_mem_take hw
   have okd:WOk wide (ws.drop k.toNat):=ok.sub fun w hw=>List.mem_of_mem_drop hw
   refine ⟨_,rfl,_,rfl,pw0,oa,_,ws.take k.toNat,as,rfl,x2,(hrs.same s02).take _,by rw [List.length_take];walk_at"q", s02 _ _ hoa,fun b H3 s3 hk=>?_⟩
   have s03:=Same.trans s02 s3
   cases b with
   | false=>exact ⟨_,rfl,iteTd rfl (no H3 s03 fun z=>absurd (hk.mpr z.2.2.2.1) (by decide))⟩
   | true =>
   have km:=hk.mp rfl
   refine ⟨_,rfl,iteFd (by decide) ?_⟩
   refine ⟨_,rfl,nn,_,_,_,rfl,rfl,SqT.of (s03 _ _ hn),rfl,_,rfl,nn,_,_,_,rfl,rfl,SqT.of (s03 _ _ hn),rfl,_,rfl,k,rfl,tn,_,rfl,s03 _ _ htn,fun p4 H4 s4 x4=>?_⟩
   have e1:cutV rns (some k) none=rns.drop k.toNat:=by
    have:=cut_from (xs:=rns) (n:=k.toNat) (by walk_at"q")
    rw [show ((k.toNat:Nat):Int)=k by walk_at"q"] at this
    exact this
   rw [e1] at x4
   refine ⟨lenLine (by show 2≤100000;decide),fun n5 f5=>?_⟩
   have s5:Same H4 (upd H4 n5 (HO.tup [V.int wide,V.ref p4])):=same_new f5 _
   have s45:=Same.trans s4 s5
   have s05:=Same.trans s03 s45
   have net5:Net (upd H4 n5 (HO.tup [V.int wide,V.ref p4])) (.ref n5) wide (ws.drop k.toNat):=⟨n5,p4,_,rfl,upd_same,s5 _ _ x4,(hrs.same s05).drop _⟩
   generalize upd H4 n5 (HO.tup [V.int wide,V.ref p4])=H5 at s5 s45 s05 net5
   refine ⟨_,rfl,_,rfl,.ref n5,wide,_,oa,ta,as,bs,rfl,net5,w1,w8,okd,by rw [List.length_drop];walk_at"q", hf.same s05,fun b H6 s6 hput=>?_⟩
   have s06:=Same.trans s05 s6
   refine ⟨_,rfl,?_⟩
   cases b with
   | false=>exact iteTd rfl (no H6 s06 fun z=>absurd (hput.mpr z.2.2.2.2.1) (by decide))
   | true =>
    refine iteFd (by decide) ?_
    have s26:=Same.trans s3 (Same.trans s45 s6)
    have x26:=s26 _ _ x2
    have r26:Refs H6 (rns.take k.toNat) (ws.take k.toNat):=(hrs.same s06).take _
    have lt41:(ws.take k.toNat).length≤41:=by rw [List.length_take];walk_at"q"
    have ne:∀ w∈ws.take k.toNat,w.1≠w.2:=fun w hw=>(okt w hw).2.2.2.2
    have kmo:=km.other hm okt
    have nl:(as.length:Int)≤8:=by walk_at"q"
    have n1:1≤(as.length:Int):=by walk_at"q"
    refine ⟨_,rfl,_,rfl,pw0,oa,_,_,as,rfl,x26,r26,by walk_at"q", s06 _ _ hoa,by walk_at"q", km,fun v7 H7 s7 net7=>?_⟩
    have s07:=Same.trans s06 s7
    refine ⟨_,rfl,a,_,_,_,rfl,rfl,SqT.of (s07 _ _ ha),rfl,v7,_,_,y,p,rfl,net7,n1,nl,inM_ok km ne,Nat.le_trans (inM_len _ _) lt41,hpy.same s07,dpp,fun b H8 s8 hb8=>?_⟩
    rw [ShowsX.same s07 hpy] at hb8
    have s08:=Same.trans s07 s8
    refine ⟨_,rfl,?_⟩
    cases b with
    | false=>exact iteFd (by decide) (no H8 s08 fun z=>absurd (hb8.mpr z.2.2.2.2.2.1) (by decide))
    | true =>
     refine iteTd rfl ?_
     refine ⟨_,rfl,_,rfl,pw0,ta,_,_,bs,rfl,(Same.trans s7 s8) _ _ x26,r26.same (Same.trans s7 s8),by walk_at"q", s08 _ _ hta,by walk_at"q", kmo,fun v9 H9 s9 net9=>?_⟩
     have s09:=Same.trans s08 s9
     refine ⟨_,rfl,a,_,_,_,rfl,rfl,SqT.of (s09 _ _ ha),rfl,v9,_,_,z,q,rfl,net9,by walk_at"q", by walk_at"q", inM_ok kmo ne,Nat.le_trans (inM_len _ _) lt41,hqz.same s09,dpq,fun b Ha sa hba=>?_⟩
     rw [ShowsX.same s09 hqz] at hba
     exact fin b Ha (Same.trans s09 sa) (hba.trans ⟨fun z=>⟨k0,k1,hm,km,hput.mp rfl,hb8.mp rfl,z⟩,fun z=>z.2.2.2.2.2.2⟩)
theorem sc_shows:FnScope ["net", "paper"] ["net", "paper"] (defScope s_shows):=⟨rfl,rfl,rfl,by decide +kernel,rfl,by decide +kernel,by decide +kernel⟩
theorem ok_shows1 {n m:Nat} (T:Bn mg) (F:Here K mg "shows" s_shows f fd) (Cis_paper:Callee P w K mg base "is_paper" 1 ["thing", "word", "size"] spIsPaper) (Clevels_as_told:Callee P w K mg base "levels_as_told" 7 ["net"] spAsTold) (Cshown_by_halves:Callee P w K mg base "shown_by_halves" (m + 9) ["net", "paper"] (spShownX n)):FnOk P w K mg base CX0 (m + 10) f fd ["net", "paper"] (spShowsX n):=by
 refine F.fn.ok sc_shows (fun vs H Q E h=>?_) (fun cdv A outer s H vs Q E hr h=>?_)
 ·obtain ⟨v,wide,ws,x,p,rfl,_⟩:=h
  rfl
 ·obtain ⟨v,wide,ws,x,p,rfl,net,w1,w8,ok,len,pa,dp,q⟩:=h
  obtain ⟨nn,tn,rns,rfl,hn,htn,hrs⟩:=id net
  have not_pap:∀ {t:Addr} {y:Str} {ys:List V} {word:Str} {size:Int} {b:Bool},H t=some (.tup (.str y :: ys))→¬ (((V.str y :: ys).length:Int)=size∧y=word)→(b=true↔isPap H (.ref t) word size)→b=false:=fun {t y ys word size b} h c hb=>by
   cases b with
   | false=>rfl
   | true =>
    obtain ⟨a',xs,e,h',l,d⟩:=hb.mp rfl
    cases e
    rw [h] at h'
    obtain rfl:=HO.tup.inj (Option.some.inj h')
    exact absurd ⟨l,V.str.inj (Option.some.inj d)⟩ c
  refine ⟨_,(pss_cons (ps_if (pt_val (pe_callC Cis_paper (hr.mono (by walk_at"d")) rfl (pa_cons (pv 1) (pa_cons pe_str (pa_cons pe_int pa_nil)))))
  (pss_one (ps_ret (pe_cmpR op_eq (pe_ix ix_tup (pv 0) pe_int (fun _ _=>rfl)) pe_int (nomark _))))
  pss_nil)
  (pss_cons (ps_if (pt_val (pe_callC Cis_paper (hr.mono (by walk_at"d")) rfl (pa_cons (pv 1) (pa_cons pe_str (pa_cons pe_int pa_nil)))))
  (pss_one (ps_ret (pe_callC Clevels_as_told (hr.mono (by walk_at"d")) rfl (pa_cons (pv 0) pa_nil))))
  pss_nil)
  (pss_one (ps_ret (pe_and (pe_callC Cis_paper (hr.mono (by walk_at"d")) rfl (pa_cons (pv 1) (pa_cons pe_str (pa_cons pe_int pa_nil)))) (pe_one (pe_callC Cshown_by_halves (hr.mono (by walk_at"d")) rfl (pa_cons (pv 0) (pa_cons (pv 1) pa_nil))))))))),?_⟩
  cases p with
  | one =>
   obtain ⟨a,rfl,ha⟩:=pa
   refine ⟨_,rfl,_,_,1,rfl,papT_str ha,by decide,fun b hb=>?_⟩
   obtain rfl:b=true:=hb.mpr ⟨a,_,rfl,ha,rfl,rfl⟩
   refine ⟨_,rfl,iteTd rfl ?_⟩
   refine ⟨_,rfl,nn,_,_,_,rfl,rfl,SqT.of hn,rfl,rfl,q _ H (Same.refl _) ?_⟩
   rw [decide_eq_true_iff]
   exact ⟨fun z=>V.int.inj z,fun z=>congrArg V.int z⟩
  | all =>
   obtain ⟨a,rfl,ha⟩:=pa
   refine ⟨_,rfl,_,_,1,rfl,papT_str ha,by decide,fun b hb=>?_⟩
   obtain rfl:=not_pap ha (fun z=>absurd z.2 (by decide +kernel)) hb
   refine ⟨_,rfl,iteFd (by decide) ?_⟩
   refine ⟨_,rfl,_,_,1,rfl,papT_str ha,by decide,fun b hb=>?_⟩
   obtain rfl:b=true:=hb.mpr ⟨a,_,rfl,ha,rfl,rfl⟩
   refine ⟨_,rfl,iteTd rfl ?_⟩
   exact ⟨_,rfl,.ref nn,wide,ws,rfl,net,w1,w8,ok,len,q⟩
  | no =>
   have nb:∀ {word:Str} {size:Int} {b:Bool},¬ isPap H x word size→(b=true↔isPap H x word size)→b=false:=fun {word size b} c hb=>by
    cases b with
    | false=>rfl
    | true=>exact absurd (hb.mp rfl) c
   have pa':NoPap H x:=pa
   refine ⟨_,rfl,_,_,1,rfl,pa'.1,by decide,fun b1 hb=>?_⟩
   obtain rfl:=nb pa'.2.1 hb
   refine ⟨_,rfl,iteFd (by decide) ?_⟩
   refine ⟨_,rfl,_,_,1,rfl,pa'.1,by decide,fun b1 hb=>?_⟩
   obtain rfl:=nb pa'.2.2.1 hb
   refine ⟨_,rfl,iteFd (by decide) ?_⟩
   refine ⟨_,rfl,_,_,6,rfl,pa'.1,by decide,fun b1 hb=>?_⟩
   obtain rfl:=nb pa'.2.2.2 hb
   refine ⟨_,rfl,iteFd (by decide) ?_⟩
   exact q false H (Same.refl _) (ffI id)
  | hlv zz o u p r =>
   obtain ⟨t,y,z,rfl,ht,_⟩:=id pa
   refine ⟨_,rfl,_,_,1,rfl,papT_str ht,by decide,fun b1 hb=>?_⟩
   obtain rfl:=not_pap ht (fun z=>absurd z.2 (by decide +kernel)) hb
   refine ⟨_,rfl,iteFd (by decide) ?_⟩
   refine ⟨_,rfl,_,_,1,rfl,papT_str ht,by decide,fun b1 hb=>?_⟩
   obtain rfl:=not_pap ht (fun z=>absurd z.2 (by decide +kernel)) hb
   refine ⟨_,rfl,iteFd (by decide) ?_⟩
   refine ⟨_,rfl,_,_,6,rfl,papT_str ht,by decide,fun b1 hb=>?_⟩
   obtain rfl:b1=true:=hb.mpr ⟨t,_,rfl,ht,rfl,rfl⟩
   refine ⟨_,rfl,iteTd rfl ?_⟩
   exact ⟨_,rfl,_,rfl,.ref nn,wide,ws,.ref t,zz,o,u,p,r,rfl,net,w1,w8,ok,len,pa,dp,q⟩
theorem sc_deep:FnScope ["_law_wickets_here", "_law_reached", "_law_first", "_law_second", "_law_layer"] ["_law_wickets_here"] (defScope s_deep):=⟨rfl,rfl,rfl,by decide +kernel,rfl,by decide +kernel,by decide +kernel⟩
theorem ok_deep (T:Bn mg) (F:Here K mg "_law_deep" s_deep f fd):FnOk P w K mg base CX0 1 f fd ["_law_wickets_here"] spDeep44:=by
 refine F.fn.ok sc_deep (fun vs H Q E h=>?_) (fun cdv A outer s H vs Q E hr h=>?_)
 ·obtain ⟨wide,l,ws,rfl,_⟩:=h
  rfl
 ·obtain ⟨wide,l,ws,rfl,w1,w8,⟨rs,hl,hrs⟩,ok,len,q⟩:=h
  have lrs:=hrs.len
  have ok8:=ok_eight w8 ok
  refine ⟨_,(pss_cons (ps_set (i:=1) sc_deep.nd rfl (by walk_at"r") (pe_op op_rep (pe_lst (pa_cons pe_int pa_nil)) pe_int))
  (pss_cons (ps_for PassesOwn.never rfl  (pi_list (pv 0)) (pg_tup rfl (pgs_cons (pg_name (i:=2) sc_deep.nd rfl (by walk_at"r")) (pgs_cons (pg_name (i:=3) sc_deep.nd rfl (by walk_at"r")) pgs_nil)))
  (pss_cons (ps_set (i:=4) sc_deep.nd rfl (by walk_at"r") (pe_op op_add pe_int (pe_callB (call_max2 rfl) rfl T.n_max PyProof.Rows.boot_max (pa_cons (pe_ix ix_list (pv 1) (pv 2) (fun _ _=>rfl)) (pa_cons (pe_ix ix_list (pv 1) (pv 3) (fun _ _=>rfl)) pa_nil)))))
  (pss_cons (ps_asg (pv 4) (pg_sub (pv 1) (pv 2) set_list))
  (pss_one (ps_asg (pv 4) (pg_sub (pv 1) (pv 3) set_list))))))
  (pss_one (ps_ret (pe_callB (call_maxL rfl) rfl T.n_max PyProof.Rows.boot_max (pa_cons (pv 1) pa_nil)))))),?_⟩
  refine ⟨lenLine (by show 1≤100000;decide),fun la fa=>?_⟩
  obtain ⟨Ha,e_,sa,xa⟩:=nw fa (HO.lst [V.int 0]);rw [← e_];clear e_
  refine ⟨la,8,_,rfl,rfl,xa,by decide,by decide,lenLine (by show 1 * (8:Int).toNat≤100000;decide),fun lr fr=>?_⟩
  have er:(List.replicate (8:Int).toNat [V.int 0]).flatten=(layS 8 []).1.map V.int:=by rfl
  rw [er]
  obtain ⟨Hb,e_,sb,xb⟩:=nw fr (HO.lst ((layS 8 []).1.map V.int));rw [← e_];clear e_
  have frl:H lr=none:=sa.free fr
  have s0b:=Same.trans sa sb
  refine ⟨_,rfl,l,rfl,⟨rs,SqL.of (s0b _ _ hl)⟩,?_⟩
  refine for_list (K:=K) (a:=l) (xs:=rs) (fun i σ Hc=>∃ v2 v3 v4,σ=[some (.ref l),some (.ref lr),v2,v3,v4]∧Same H Hc∧Hc lr=some (.lst ((layS 8 (ws.take i)).1.map V.int)))
   ⟨none,none,none,rfl,s0b,xb⟩ (fun i σ Hc _ ⟨_,_,_,_,sc,_⟩=>SqL.of (sc _ _ hl)) ?_ ?_
  ·rintro i x σ Hc hx ⟨v2,v3,v4,rfl,sc,xn⟩
   obtain ⟨w0,t0,hw0,rfl,ht0⟩:=hrs.get hx
   obtain ⟨o1,o2,o3,o4,o5⟩:=WOk.mem ok8 hw0
   have lth:=(layS_len 8 (ws.take i)).1
   have l8:(8:Int).toNat=8:=rfl
   rw [l8] at lth
   refine ⟨t0,_,rfl,SqT.of (sc _ _ ht0),rfl,?_⟩
   refine ⟨_,_,rfl,_,_,rfl,rfl,?_⟩
   refine ⟨_,rfl,_,rfl,lr,_,_,_,rfl,rfl,SqL.of xn,atI_int o1 (by walk_at"q"),_,rfl,_,rfl,lr,_,_,_,rfl,rfl,SqL.of xn,atI_int o3 (by walk_at"q"),_,_,rfl,_,_,rfl,rfl,?_⟩
   refine ⟨_,rfl,_,rfl,_,rfl,lr,_,w0.1,w0.1.toNat,rfl,rfl,xn,ixN_of o1 (by rw [List.length_map];walk_at"q"),?_⟩
   refine ⟨_,rfl,_,rfl,_,rfl,lr,_,w0.2,w0.2.toNat,rfl,rfl,upd_same,ixN_of o3 (by rw [List.length_set,List.length_map];walk_at"q"),?_⟩
   rw [upd_upd]
   refine ⟨_,_,_,rfl,Same.put frl sc,?_⟩
   rw [upd_same,take_snoc hw0,layS_snoc]
   exact congrArg (fun z=>some (HO.lst z)) (lay_set _ _)
  ·rintro σ Hc ⟨v2,v3,v4,rfl,sc,xn⟩
   rw [lrs,List.take_length] at xn
   refine ⟨_,rfl,lr,_,rfl,SqL.of xn,?_,fun m hm=>?_⟩
   ·intro z
    have:=(layS_len 8 ws).1
    rw [z] at this
    exact absurd this (by decide)
   ·have e:=deep_max ok8 hm
    rw [dep_wide w8 ok] at e
    rw [e]
    exact q Hc sc
theorem sc_through:FnScope ["_law_wickets_here", "_law_counts", "_law_found", "_law_first", "_law_second", "_law_total"] ["_law_wickets_here", "_law_counts"] (defScope s_through):=⟨rfl,rfl,rfl,by decide +kernel,rfl,by decide +kernel,by decide +kernel⟩
theorem ok_through (T:Bn mg) (F:Here K mg "_law_through" s_through f fd):FnOk P w K mg base CX0 1 f fd ["_law_wickets_here", "_law_counts"] spThru44:=by
 refine F.fn.ok sc_through (fun vs H Q E h=>?_) (fun cdv A outer s H vs Q E hr h=>?_)
 ·obtain ⟨wide,t,ws,c,cs,rfl,_⟩:=h
  rfl
 ·obtain ⟨wide,t,ws,c,cs,rfl,⟨rs,ht,hrs⟩,ok,len,hc,lc,q⟩:=h
  have lrs:=hrs.len
  refine ⟨_,(pss_cons (ps_set (i:=2) sc_through.nd rfl (by walk_at"r") (pe_callTy call_list_of rfl T.n_list boot_listT (pa_cons (pv 1) pa_nil)))
  (pss_cons (ps_for PassesOwn.never rfl  (pi_list (pv 0)) (pg_tup rfl (pgs_cons (pg_name (i:=3) sc_through.nd rfl (by walk_at"r")) (pgs_cons (pg_name (i:=4) sc_through.nd rfl (by walk_at"r")) pgs_nil)))
  (pss_cons (ps_set (i:=5) sc_through.nd rfl (by walk_at"r") (pe_op op_add (pe_ix ix_list (pv 2) (pv 3) (fun _ _=>rfl)) (pe_ix ix_list (pv 2) (pv 4) (fun _ _=>rfl))))
  (pss_cons (ps_asg (pe_op op_sub (pv 5) (pe_op op_fdiv (pv 5) pe_int)) (pg_sub (pv 2) (pv 3) set_list))
  (pss_one (ps_asg (pe_op op_fdiv (pv 5) pe_int) (pg_sub (pv 2) (pv 4) set_list))))))
  (pss_one (ps_ret (pv 2))))),?_⟩
  refine ⟨_,rfl,c,_,rfl,.inl (SqL.of hc),fun ln fn=>?_⟩
  refine ⟨_,rfl,t,rfl,⟨rs,SqL.of (same_new fn _ _ _ ht)⟩,?_⟩
  refine for_list (K:=K) (a:=t) (xs:=rs) (fun i σ Hc=>∃ v3 v4 v5,σ=[some (.ref t),some (.ref c),some (.ref ln),v3,v4,v5]∧Same H Hc∧Hc ln=some (.lst ((thruM cs (ws.take i)).map V.int)))
   ⟨none,none,none,rfl,same_new fn _,upd_same⟩ (fun i σ Hc _ ⟨_,_,_,_,sc,_⟩=>SqL.of (sc _ _ ht)) ?_ ?_
  ·rintro i x σ Hc hx ⟨v3,v4,v5,rfl,sc,xn⟩
   obtain ⟨w0,t0,hw0,rfl,ht0⟩:=hrs.get hx
   obtain ⟨o1,o2,o3,o4,o5⟩:=WOk.mem ok hw0
   have lth:=thruM_len (ws.take i) cs
   refine ⟨t0,_,rfl,SqT.of (sc _ _ ht0),rfl,?_⟩
   refine ⟨_,_,rfl,_,_,rfl,rfl,?_⟩
   refine ⟨_,rfl,_,rfl,ln,_,_,_,rfl,rfl,SqL.of xn,atI_int o1 (by walk_at"q"),_,rfl,_,rfl,ln,_,_,_,rfl,rfl,SqL.of xn,atI_int o3 (by walk_at"q"),_,_,rfl,rfl,?_⟩
   refine ⟨_,rfl,_,rfl,_,_,rfl,rfl,⟨by decide,by decide⟩,_,_,rfl,rfl,_,rfl,_,rfl,ln,_,w0.1,w0.1.toNat,rfl,rfl,xn,ixN_of o1 (by rw [List.length_map];walk_at"q"),?_⟩
   refine ⟨_,rfl,_,_,rfl,rfl,⟨by decide,by decide⟩,_,rfl,_,rfl,ln,_,w0.2,w0.2.toNat,rfl,rfl,upd_same,ixN_of o3 (by rw [List.length_set,List.length_map];walk_at"q"),?_⟩
   rw [upd_upd]
   have eL:((List.map V.int (thruM cs (ws.take i))).set w0.1.toNat (V.int ((thruM cs (ws.take i)).getD w0.1.toNat 0 + (thruM cs (ws.take i)).getD w0.2.toNat 0 - ((thruM cs (ws.take i)).getD w0.1.toNat 0 + (thruM cs (ws.take i)).getD w0.2.toNat 0) / 2))).set w0.2.toNat (V.int (((thruM cs (ws.take i)).getD w0.1.toNat 0 + (thruM cs (ws.take i)).getD w0.2.toNat 0) / 2))=(thruM cs (ws.take (i + 1))).map V.int:=by
    rw [take_snoc hw0,thruM_snoc,set_map,set_map]
    show _=((((thruM cs (ws.take i)).set w0.1.toNat ((both (thruM cs (ws.take i)) w0 + 1) / 2)).set w0.2.toNat (both (thruM cs (ws.take i)) w0 / 2))).map V.int
    have e:(thruM cs (ws.take i)).getD w0.1.toNat 0 + (thruM cs (ws.take i)).getD w0.2.toNat 0 - ((thruM cs (ws.take i)).getD w0.1.toNat 0 + (thruM cs (ws.take i)).getD w0.2.toNat 0) / 2=(both (thruM cs (ws.take i)) w0 + 1) / 2:=by unfold both;walk_at"q"
    rw [e]
    rfl
   refine ⟨_,_,_,rfl,Same.put fn sc,?_⟩
   rw [upd_same]
   exact congrArg (fun z=>some (HO.lst z)) eL
  ·rintro σ Hc ⟨v3,v4,v5,rfl,sc,xn⟩
   rw [lrs,List.take_length] at xn
   exact ⟨_,rfl,q ln Hc fn sc xn⟩
theorem sc_even:FnScope ["_law_counts"] ["_law_counts"] (defScope s_even):=⟨rfl,rfl,rfl,by decide +kernel,rfl,by decide +kernel,by decide +kernel⟩
theorem ok_even (T:Bn mg) (F:Here K mg "_law_even" s_even f fd):FnOk P w K mg base CX0 1 f fd ["_law_counts"] spEven44:=by
 refine F.fn.ok sc_even (fun vs H Q E h=>?_) (fun cdv A outer s H vs Q E hr h=>?_)
 ·obtain ⟨l,cs,rfl,_⟩:=h
  rfl
 ·obtain ⟨l,cs,rfl,hl,l1,l8,q⟩:=h
  refine ⟨_,(pss_one (ps_ret (pe_and (pe_cmpR (op_eqL hr.units) (pv 0) (pe_sortedR rfl T.n_sorted (pv 0) pe_bl) (nomark _)) (pe_one (pe_cmpR op_le (pe_ix ix_list (pv 0) pe_int (fun _ _=>rfl)) (pe_op op_add (pe_ix ix_list (pv 0) (pe_un un_neg pe_int) (fun _ _=>rfl)) pe_int) (nomark _)))))),?_⟩
  refine ⟨_,rfl,_,rfl,l,cs,rfl,rfl,SqL.of hl,by walk_at"q", fun l2 ns f2 pm pw=>?_⟩
  obtain ⟨H2,e_,s2,x2⟩:=nw f2 (HO.lst (ns.map V.int));rw [← e_];clear e_
  refine ⟨l,l2,cs,ns,rfl,rfl,SqL.of (s2 _ _ hl),SqL.of x2,?_⟩
  refine ⟨_,rfl,?_⟩
  by_cases c:cs=ns
  rotate_left
  ·refine iteFd (by simpa using c) ?_
   exact q false _ s2 (ffI fun z=>c (level_sorted z pm pw))
  subst c
  refine iteTd (by simp) ?_
  refine ⟨_,rfl,l,_,_,_,rfl,rfl,SqL.of (s2 _ _ hl),atI_int (i:=0) (by decide) (by walk_at"q"),?_⟩
  refine ⟨_,rfl,_,rfl,l,_,_,_,rfl,rfl,SqL.of (s2 _ _ hl),at_last l1,?_⟩
  refine ⟨_,_,rfl,rfl,_,_,rfl,rfl,?_⟩
  refine q _ H2 s2 ?_
  rw [decide_eq_true_iff]
  constructor
  ·exact fun g=>level_of pw g
  ·intro lv
   have g:=(lv 0 (cs.length - 1) (by walk_at"q") (by walk_at"q")).2
   show cs.getD 0 0≤_
   walk_at"q"
theorem sc_laid:FnScope ["_law_one", "_law_other", "_law_here", "_law_there", "_law_counts", "_law_k", "_law_lane"] ["_law_one", "_law_other", "_law_here", "_law_there"] (defScope s_laid):=⟨rfl,rfl,rfl,by decide +kernel,rfl,by decide +kernel,by decide +kernel⟩
theorem ok_laid (T:Bn mg) (F:Here K mg "_law_laid" s_laid f fd):FnOk P w K mg base CX0 1 f fd ["_law_one", "_law_other", "_law_here", "_law_there"] spLaid44:=by
 refine F.fn.ok sc_laid (fun vs H Q E h=>?_) (fun cdv A outer s H vs Q E hr h=>?_)
 ·obtain ⟨wide,o,t,ns,ms,a,b,rfl,_⟩:=h
  rfl
 ·obtain ⟨wide,o,t,ns,ms,a,b,rfl,w1,w8,hf,q⟩:=h
  have hl:=hf.len
  obtain ⟨⟨o',eo,ho,lo⟩,⟨t',et,ht,lt⟩,el,pm⟩:=hf
  cases eo
  cases et
  have n1:1≤ns.length:=by walk_at"q"
  have npos:(0:Int) < (ns.length:Int):=by walk_at"q"
  refine ⟨_,(pss_cons (ps_set (i:=4) sc_laid.nd rfl (by walk_at"r") (pe_op op_rep (pe_lst (pa_cons pe_int pa_nil)) (pe_op op_mul pe_int (pe_callB call_len_seq rfl T.n_len PySem.boot_len (pa_cons (pv 0) pa_nil)))))
  (pss_cons (ps_for PassesOwn.never rfl  (pi_enumT rfl T.n_enumerate (pa_cons (pv 0) pa_nil)) (pg_tup rfl (pgs_cons (pg_name (i:=5) sc_laid.nd rfl (by walk_at"r")) (pgs_cons (pg_name (i:=6) sc_laid.nd rfl (by walk_at"r")) pgs_nil)))
  (pss_one (ps_asg (pe_op op_fdiv (pe_op op_sub (pe_op op_sub (pe_op op_add (pv 2) (pe_callB call_len_seq rfl T.n_len PySem.boot_len (pa_cons (pv 0) pa_nil))) pe_int) (pv 5)) (pe_callB call_len_seq rfl T.n_len PySem.boot_len (pa_cons (pv 0) pa_nil))) (pg_sub (pv 4) (pv 6) set_list))))
  (pss_cons (ps_for PassesOwn.never rfl  (pi_enumT rfl T.n_enumerate (pa_cons (pv 1) pa_nil)) (pg_tup rfl (pgs_cons (pg_name (i:=5) sc_laid.nd rfl (by walk_at"r")) (pgs_cons (pg_name (i:=6) sc_laid.nd rfl (by walk_at"r")) pgs_nil)))
  (pss_one (ps_asg (pe_op op_fdiv (pe_op op_sub (pe_op op_sub (pe_op op_add (pv 3) (pe_callB call_len_seq rfl T.n_len PySem.boot_len (pa_cons (pv 0) pa_nil))) pe_int) (pv 5)) (pe_callB call_len_seq rfl T.n_len PySem.boot_len (pa_cons (pv 0) pa_nil))) (pg_sub (pv 4) (pv 6) set_list))))
  (pss_one (ps_ret (pv 4)))))),?_⟩
  refine ⟨lenLine (by show 1≤100000;decide),fun la fa=>?_⟩
  obtain ⟨Ha,e_,sa,xa⟩:=nw fa (HO.lst [V.int 0]);rw [← e_];clear e_
  refine ⟨_,rfl,o,_,rfl,.inr (SqT.of (sa _ _ ho)),?_⟩
  rw [List.length_map]
  refine ⟨_,_,rfl,rfl,.inl ⟨by walk_at"q", by walk_at"q"⟩,?_⟩
  have ew:(2:Int) * (ns.length:Int)=wide:=by walk_at"q"
  dsimp only
  rw [ew]
  refine ⟨la,wide,_,rfl,rfl,xa,by walk_at"q", by walk_at"q", lenLine (by show 1 * wide.toNat≤100000;walk_at"q"),fun lr fr=>?_⟩
  have er:(List.replicate wide.toNat [V.int 0]).flatten=(putL wide.toNat []).map V.int:=by
   show _=(List.replicate wide.toNat (0:Int)).map V.int
   generalize wide.toNat=k
   induction k with
   | zero=>rfl
   | succ k ih=>rw [List.replicate_succ,List.flatten_cons,ih,List.replicate_succ,List.map_cons];rfl
  rw [er]
  obtain ⟨Hb,e_,sb,xb⟩:=nw fr (HO.lst ((putL wide.toNat []).map V.int));rw [← e_];clear e_
  have frl:H lr=none:=sa.free fr
  have s0b:=Same.trans sa sb
  refine ⟨_,rfl,o,rfl,⟨_,SqT.of (s0b _ _ ho)⟩,?_⟩
  refine for_enum (xs:=ns.map V.int) (fun i σ Hc=>∃ v5 v6,σ=[some (.ref o),some (.ref t),some (.int a),some (.int b),some (.ref lr),v5,v6]∧Same H Hc∧Hc lr=some (.lst ((putL wide.toNat ((ns.zip (levelM ns.length a)).take i)).map V.int)))
   ⟨none,none,rfl,s0b,xb⟩ (fun i σ Hc _ ⟨_,_,_,sc,_⟩=>SqT.of (sc _ _ ho)) ?_ ?_
  ·rintro i x T1 σ Hc hx fT ⟨v5,v6,rfl,sc,xc⟩
   obtain ⟨x,hx',rfl⟩:=int_item hx
   have hi:i < ns.length:=(List.getElem?_eq_some_iff.mp hx').1
   obtain ⟨x0,x8⟩:=lo x (List.mem_of_getElem? hx')
   have hz:(ns.zip (levelM ns.length a))[i]?=some (x,(levelM ns.length a).getD i 0):=by
    rw [List.getElem?_zip_eq_some]
    exact ⟨hx',by have:=levelM_len ns.length a;simp [List.getD,show i < (levelM ns.length a).length by walk_at"q"]⟩
   have sT:Same Hc (upd Hc T1 (HO.tup [V.int (i:Int),V.int x])):=same_new fT _
   have xT:(upd Hc T1 (HO.tup [V.int (i:Int),V.int x])) T1=some (.tup [V.int (i:Int),V.int x]):=upd_same
   have s0T:=Same.trans sc sT
   have xcT:=sT _ _ xc
   generalize upd Hc T1 (HO.tup [V.int (i:Int),V.int x])=HT at sT xT s0T xcT
   refine ⟨T1,_,rfl,SqT.of xT,rfl,?_⟩
   refine ⟨_,_,rfl,_,_,rfl,rfl,?_⟩
   refine ⟨_,rfl,_,rfl,o,_,rfl,.inr (SqT.of (s0T _ _ ho)),?_⟩
   rw [List.length_map]
   refine ⟨_,_,rfl,rfl,_,_,rfl,rfl,_,rfl,_,_,rfl,rfl,_,rfl,o,_,rfl,.inr (SqT.of (s0T _ _ ho)),?_⟩
   rw [List.length_map]
   refine ⟨_,_,rfl,rfl,⟨npos,by walk_at"q"⟩,?_⟩
   dsimp only
   refine ⟨_,rfl,_,rfl,lr,_,x,x.toNat,rfl,rfl,xcT,ixN_of x0 (by rw [List.length_map,putL_len];walk_at"q"),?_⟩
   refine ⟨_,_,rfl,Same.put frl s0T,?_⟩
   rw [upd_same,take_snoc hz,putL_snoc,ceil_lv npos,← levelM_getD hi,← List.map_set]
  ·rintro σ Hc ⟨v5,v6,rfl,sc,xc⟩
   have lz:(ns.zip (levelM ns.length a)).length=ns.length:=by rw [List.length_zip,levelM_len,Nat.min_self]
   rw [List.length_map,List.take_of_length_le (by walk_at"q")] at xc
   refine ⟨_,rfl,t,rfl,⟨_,SqT.of (sc _ _ ht)⟩,?_⟩
   refine for_enum (xs:=ms.map V.int) (fun i σ Hc=>∃ v5 v6,σ=[some (.ref o),some (.ref t),some (.int a),some (.int b),some (.ref lr),v5,v6]∧Same H Hc∧Hc lr=some (.lst ((putL wide.toNat (ns.zip (levelM ns.length a) ++ (ms.zip (levelM ms.length b)).take i)).map V.int)))
    ⟨_,_,rfl,sc,by rw [List.take_zero,List.append_nil];exact xc⟩ (fun i σ Hc _ ⟨_,_,_,sc,_⟩=>SqT.of (sc _ _ ht)) ?_ ?_
   ·rintro i x T1 σ Hc hx fT ⟨v5,v6,rfl,sc,xc⟩
    obtain ⟨x,hx',rfl⟩:=int_item hx
    have hi:i < ms.length:=(List.getElem?_eq_some_iff.mp hx').1
    obtain ⟨x0,x8⟩:=lt x (List.mem_of_getElem? hx')
    have hz:(ms.zip (levelM ms.length b))[i]?=some (x,(levelM ms.length b).getD i 0):=by
     rw [List.getElem?_zip_eq_some]
     exact ⟨hx',by have:=levelM_len ms.length b;simp [List.getD,show i < (levelM ms.length b).length by walk_at"q"]⟩
    have sT:Same Hc (upd Hc T1 (HO.tup [V.int (i:Int),V.int x])):=same_new fT _
    have xT:(upd Hc T1 (HO.tup [V.int (i:Int),V.int x])) T1=some (.tup [V.int (i:Int),V.int x]):=upd_same
    have s0T:=Same.trans sc sT
    have xcT:=sT _ _ xc
    generalize upd Hc T1 (HO.tup [V.int (i:Int),V.int x])=HT at sT xT s0T xcT
    refine ⟨T1,_,rfl,SqT.of xT,rfl,?_⟩
    refine ⟨_,_,rfl,_,_,rfl,rfl,?_⟩
    refine ⟨_,rfl,_,rfl,o,_,rfl,.inr (SqT.of (s0T _ _ ho)),?_⟩
    rw [List.length_map]
    refine ⟨_,_,rfl,rfl,_,_,rfl,rfl,_,rfl,_,_,rfl,rfl,_,rfl,o,_,rfl,.inr (SqT.of (s0T _ _ ho)),?_⟩
    rw [List.length_map]
    refine ⟨_,_,rfl,rfl,⟨npos,by walk_at"q"⟩,?_⟩
    dsimp only
    refine ⟨_,rfl,_,rfl,lr,_,x,x.toNat,rfl,rfl,xcT,ixN_of x0 (by rw [List.length_map,putL_len];walk_at"q"),?_⟩
    refine ⟨_,_,rfl,Same.put frl s0T,?_⟩
    rw [upd_same,take_snoc hz,← List.append_assoc,putL_snoc,ceil_lv npos,el,← levelM_getD hi,← List.map_set]
   ·rintro σ Hc ⟨v5,v6,rfl,sc,xc⟩
    have lz2:(ms.zip (levelM ms.length b)).length=ms.length:=by rw [List.length_zip,levelM_len,Nat.min_self]
    rw [List.length_map,List.take_of_length_le (by walk_at"q"),← laidM_zip] at xc
    exact ⟨_,rfl,q lr Hc frl sc xc⟩
theorem sc_puts:FnScope ["_law_wickets_here", "_law_one", "_law_other", "_law_most", "_law_here", "_law_there"] ["_law_wickets_here", "_law_one", "_law_other"] (defScope s_puts):=⟨rfl,rfl,rfl,by decide +kernel,rfl,by decide +kernel,by decide +kernel⟩
theorem ok_puts (T:Bn mg) (F:Here K mg "_law_puts" s_puts f fd) (C_law_deep:Callee P w K mg base "_law_deep" 1 ["_law_wickets_here"] spDeep44) (C_law_through:Callee P w K mg base "_law_through" 1 ["_law_wickets_here", "_law_counts"] spThru44) (C_law_even:Callee P w K mg base "_law_even" 1 ["_law_counts"] spEven44) (C_law_laid:Callee P w K mg base "_law_laid" 1 ["_law_one", "_law_other", "_law_here", "_law_there"] spLaid44):FnOk P w K mg base CX0 2 f fd ["_law_wickets_here", "_law_one", "_law_other"] spPuts44:=by
 refine F.fn.ok sc_puts (fun vs H Q E h=>?_) (fun cdv A outer s H vs Q E hr h=>?_)
 ·obtain ⟨wide,l,ws,o,t,ns,ms,rfl,_⟩:=h
  rfl
 ·obtain ⟨wide,l,ws,o,t,ns,ms,rfl,w1,w8,wl,ok,len,hf,q⟩:=h
  have hl:=hf.len
  have el:=hf.2.2.1
  obtain ⟨⟨o',eo,ho,lo⟩,⟨t',et,ht,_⟩,_⟩:=id hf
  cases eo
  cases et
  have n1:1≤ns.length:=by walk_at"q"
  have wls:∀ {H'},Same H H'→WsL H' l ws:=fun {H'} s=>let ⟨rs,a,b⟩:=wl;⟨rs,s _ _ a,b.same s⟩
  refine ⟨_,(pss_cons (ps_set (i:=3) sc_puts.nd rfl (by walk_at"r") (pe_op op_shl (pe_callB call_len_seq rfl T.n_len PySem.boot_len (pa_cons (pv 1) pa_nil)) (pe_callB (call_min2 rfl) rfl T.n_min PyProof.Rows.boot_min (pa_cons (pe_callC C_law_deep (hr.mono (by walk_at"d")) rfl (pa_cons (pv 0) pa_nil)) (pa_cons pe_int pa_nil)))))
  (pss_cons (ps_if (pt_cmpR op_gt (pv 3) pe_int (nomark _))
  (pss_one (ps_ret pe_bl))
  pss_nil)
  (pss_cons (ps_for PassesOwn.never rfl  (pi_range1 rfl T.n_range (pa_cons (pv 3) pa_nil)) (pg_name (i:=4) sc_puts.nd rfl (by walk_at"r"))
  (pss_one (ps_for PassesOwn.never rfl  (pi_range1 rfl T.n_range (pa_cons (pv 3) pa_nil)) (pg_name (i:=5) sc_puts.nd rfl (by walk_at"r"))
  (pss_one (ps_if (pt_not (pt_val (pe_callC C_law_even (hr.mono (by walk_at"d")) rfl (pa_cons (pe_callC C_law_through (hr.mono (by walk_at"d")) rfl (pa_cons (pv 0) (pa_cons (pe_callC C_law_laid (hr.mono (by walk_at"d")) rfl (pa_cons (pv 1) (pa_cons (pv 2) (pa_cons (pv 4) (pa_cons (pv 5) pa_nil))))) pa_nil))) pa_nil))))
  (pss_one (ps_ret pe_bl))
  pss_nil)))))
  (pss_cons (ps_for PassesOwn.never rfl  (pi_list (pe_lst (pa_cons (pe_tup (pa_cons (pv 3) (pa_cons pe_int pa_nil))) (pa_cons (pe_tup (pa_cons pe_int (pa_cons (pv 3) pa_nil))) pa_nil)))) (pg_tup rfl (pgs_cons (pg_name (i:=4) sc_puts.nd rfl (by walk_at"r")) (pgs_cons (pg_name (i:=5) sc_puts.nd rfl (by walk_at"r")) pgs_nil)))
  (pss_one (ps_if (pt_cmpR op_gt (pe_callB call_lenS rfl T.n_len PySem.boot_len (pa_cons (pe_callTy (call_setL rfl) rfl T.n_set boot_setT (pa_cons (pe_callC C_law_through (hr.mono (by walk_at"d")) rfl (pa_cons (pv 0) (pa_cons (pe_callC C_law_laid (hr.mono (by walk_at"d")) rfl (pa_cons (pv 1) (pa_cons (pv 2) (pa_cons (pv 4) (pa_cons (pv 5) pa_nil))))) pa_nil))) pa_nil)) pa_nil)) pe_int (nomark _))
  (pss_one (ps_ret pe_bl))
  pss_nil)))
  (pss_one (ps_ret pe_bl)))))),?_⟩
  refine ⟨_,rfl,o,_,rfl,.inr (SqT.of ho),?_⟩
  rw [List.length_map]
  refine ⟨_,rfl,wide,l,ws,rfl,w1,w8,wl,ok,len,fun H1 s1=>?_⟩
  refine ⟨_,_,rfl,_,_,rfl,rfl,⟨?_,?_,?_⟩,?_⟩
  ·split <;> walk_at"q"
  ·split <;> walk_at"q"
  ·walk_at"q"
  dsimp only
  have big:¬ (ns.length:Int) * 2 ^ (if (9:Int) < (depM wide ws:Int) then (9:Int) else (depM wide ws:Int)).toNat≤32→¬ PutM wide ws ns ms:=fun c z=>most_max n1 c z.1
  have fit:(ns.length:Int) * 2 ^ (if (9:Int) < (depM wide ws:Int) then (9:Int) else (depM wide ws:Int)).toNat≤32→(ns.length:Int) * 2 ^ (if (9:Int) < (depM wide ws:Int) then (9:Int) else (depM wide ws:Int)).toNat=(ns.length:Int) * whole wide ws:=fun c=>most_min n1 c
  have mp:0≤(ns.length:Int) * whole wide ws:=Int.mul_nonneg (by walk_at"q") (by have:=whole_pos wide ws;walk_at"q")
  generalize (ns.length:Int) * 2 ^ (if (9:Int) < (depM wide ws:Int) then (9:Int) else (depM wide ws:Int)).toNat=most at big fit
  refine ⟨_,rfl,_,_,rfl,rfl,_,rfl,?_⟩
  by_cases c:32 < most
  ·exact iteTd (decide_eq_true c) (q false _ s1 (ffI (big (by walk_at"q"))))
  refine iteFd (by simpa using c) ?_
  have em:=fit (by walk_at"q")
  unfold PutM at q
  rw [← em] at q mp
  clear big fit em
  have step:∀ {i j:Int} {Hd:Hp} {R:VK},Same H Hd→(∀ (d:Addr) (H':Hp),Same Hd H'→H' d=some (.lst ((sumsM wide ws ns ms i j).map V.int))→R (.ref d) H')→spLaid44 [.ref o,.ref t,.int i,.int j] Hd (fun u Hu=>spThru44 [.ref l,u] Hu R (fun _ _ _=>True)) (fun _ _ _=>True):=fun {i j Hd R} sd r=>by
   refine ⟨wide,o,t,ns,ms,i,j,rfl,w1,w8,hf.same sd,fun l4 H4 f4 s4 x4=>?_⟩
   have s04:=Same.trans sd s4
   exact ⟨wide,l,ws,l4,_,rfl,wls s04,ok,len,x4,laidM_len,fun d H5 f5 s5 x5=>r d H5 (Same.trans s4 s5) x5⟩
  refine ⟨_,rfl,most,rfl,by walk_at"q", by walk_at"q", ?_⟩
  refine for_range (n:=most.toNat) (fun i σ Hc=>∃ v4 v5,σ=[some (.ref l),some (.ref o),some (.ref t),some (.int most),v4,v5]∧Same H Hc∧∀ a b:Nat,a < i→(b:Int) < most→Level (sumsM wide ws ns ms a b)) ⟨none,none,rfl,s1,fun a b h=>absurd h (Nat.not_lt_zero _)⟩ ?_ ?_
  ·rintro i σ Hc hi ⟨v4,v5,rfl,sc,lv⟩
   refine ⟨_,rfl,most,rfl,by walk_at"q", by walk_at"q", ?_⟩
   refine for_range (n:=most.toNat) (fun j σ Hd=>∃ v5,σ=[some (.ref l),some (.ref o),some (.ref t),some (.int most),some (.int (0 + (i:Int))),v5]∧Same H Hd∧∀ b:Nat,b < j→Level (sumsM wide ws ns ms i b)) ⟨v5,rfl,sc,fun b h=>absurd h (Nat.not_lt_zero _)⟩ ?_ ?_
   ·rintro j σ Hd hj ⟨v5,rfl,sd,lvj⟩
    refine ⟨_,rfl,_,rfl,_,rfl,_,rfl,_,rfl,?_⟩
    rw [Int.zero_add,Int.zero_add]
    refine step sd fun d H5 s5 x5=>?_
    refine ⟨d,_,rfl,x5,by rw [sumsM_len];walk_at"q", by rw [sumsM_len];walk_at"q", fun bo H6 s6 hb=>?_⟩
    have s06:=Same.trans sd (Same.trans s5 s6)
    refine ⟨_,rfl,?_⟩
    cases bo with
    | true =>
     refine iteFd (by decide) ?_
     refine ⟨_,rfl,s06,fun b hb'=>?_⟩
     by_cases e:b=j
     ·rw [e];exact hb.mp rfl
     ·exact lvj b (by walk_at"q")
    | false =>
     refine iteTd rfl ?_
     exact q false _ s06 (ffI fun z=>by have:=hb.mpr (z.2.1 i j (by walk_at"q") (by walk_at"q"));cases this)
   ·rintro σ Hd ⟨v5,rfl,sd,lvj⟩
    refine ⟨_,_,rfl,sd,fun a b ha hb=>?_⟩
    by_cases e:a=i
    ·rw [e];exact lvj b (by walk_at"q")
    ·exact lv a b (by walk_at"q") hb
  ·rintro σ Hc ⟨v4,v5,rfl,sc,lv⟩
   refine ⟨_,rfl,lenLine (by show 2≤100000;decide),fun t6 f6=>?_⟩
   obtain ⟨H6,e_,s6,x6⟩:=nw f6 (HO.tup [V.int most,V.int 0]);rw [← e_];clear e_
   refine ⟨_,rfl,lenLine (by show 2≤100000;decide),fun t7 f7=>?_⟩
   obtain ⟨H7,e_,s7,x7⟩:=nw f7 (HO.tup [V.int 0,V.int most]);rw [← e_];clear e_
   refine ⟨lenLine (by show 2≤100000;decide),fun l8 f8=>?_⟩
   obtain ⟨H8,e_,s8,x8⟩:=nw f8 (HO.lst [V.ref t6,V.ref t7]);rw [← e_];clear e_
   have y6:=(Same.trans s7 s8) _ _ x6
   have y7:=s8 _ _ x7
   have s08:=Same.trans sc (Same.trans s6 (Same.trans s7 s8))
   refine ⟨l8,rfl,⟨_,SqL.of x8⟩,?_⟩
   refine for_list (K:=K) (a:=l8) (xs:=[V.ref t6,V.ref t7]) (fun i σ He=>∃ v4 v5,σ=[some (.ref l),some (.ref o),some (.ref t),some (.int most),v4,v5]∧Same H He∧He l8=some (.lst [V.ref t6,V.ref t7])∧He t6=some (.tup [V.int most,V.int 0])∧He t7=some (.tup [V.int 0,V.int most])∧(1≤i→∀ c∈sumsM wide ws ns ms most 0,c=(sumsM wide ws ns ms most 0).getD 0 0)∧(2≤i→∀ c∈sumsM wide ws ns ms 0 most,c=(sumsM wide ws ns ms 0 most).getD 0 0))
    ⟨_,_,rfl,s08,x8,y6,y7,fun h=>absurd h (by decide),fun h=>absurd h (by decide)⟩ (fun i σ He _ ⟨_,_,_,_,z8,_⟩=>SqL.of z8) ?_ ?_
   ·rintro i x σ He hx ⟨v4,v5,rfl,s0e,z8,z6,z7,e1,e2⟩
    obtain ⟨u,a,b,rfl,hu,cs⟩:∃ (u:Addr) (a b:Int),x=.ref u∧He u=some (.tup [V.int a,V.int b])∧((i=0∧a=most∧b=0)∨(i=1∧a=0∧b=most)):=by
     match i,hx with
     | 0,hx=>cases hx;exact ⟨t6,most,0,rfl,z6,.inl ⟨rfl,rfl,rfl⟩⟩
     | 1,hx=>cases hx;exact ⟨t7,0,most,rfl,z7,.inr ⟨rfl,rfl,rfl⟩⟩
    refine ⟨u,_,rfl,SqT.of hu,rfl,?_⟩
    refine ⟨_,_,rfl,_,_,rfl,rfl,?_⟩
    refine ⟨_,rfl,_,rfl,_,rfl,_,rfl,_,rfl,?_⟩
    refine step s0e fun d H5 s5 x5=>?_
    have sl:0 < (sumsM wide ws ns ms a b).length:=by rw [sumsM_len];walk_at"q"
    refine ⟨d,_,rfl,SqL.of x5,by rw [sumsM_len];walk_at"q", fun l9 f9=>?_⟩
    obtain ⟨H9,e_,s9,x9⟩:=nw f9 (HO.set (fun k=>(metL (sumsM wide ws ns ms a b)).any (· == k)) (metL (sumsM wide ws ns ms a b)).length);rw [← e_];clear e_
    have se9:=Same.trans s5 s9
    have s09:=Same.trans s0e se9
    refine ⟨l9,_,_,rfl,x9,by have:=met_len (sumsM wide ws ns ms a b);rw [sumsM_len] at this;walk_at"q", ?_⟩
    refine ⟨_,_,rfl,rfl,_,rfl,?_⟩
    have mg:=met_gt sl
    by_cases c9:(metL (sumsM wide ws ns ms a b)).length≤1
    ·refine iteFd (by simp;walk_at"q") ?_
     have al:=mg.mp c9
     refine ⟨_,_,rfl,s09,se9 _ _ z8,se9 _ _ z6,se9 _ _ z7,fun h=>?_,fun h=>?_⟩
     ·rcases cs with ⟨_,rfl,rfl⟩ | ⟨rfl,_,_⟩
      ·exact al
      ·exact e1 (by decide)
     ·rcases cs with ⟨rfl,_,_⟩ | ⟨_,rfl,rfl⟩
      ·exact absurd h (by decide)
      ·exact al
    ·refine iteTd (by simp;walk_at"q") ?_
     refine q false _ s09 (ffI fun z=>c9 (mg.mpr ?_))
     rcases cs with ⟨_,rfl,rfl⟩ | ⟨_,rfl,rfl⟩
     ·exact z.2.2.1
     ·exact z.2.2.2
   ·rintro σ He ⟨v4,v5,rfl,se,_,_,_,e1,e2⟩
    exact q true _ se (ttI ⟨by walk_at"q", fun i j hi hj=>lv i j (by walk_at"q") hj,e1 (Nat.le_succ 1),e2 (Nat.le_refl 2)⟩)
theorem sc_told_so:FnScope ["_law_net", "_law_found"] ["_law_net"] (defScope s_told_so):=⟨rfl,rfl,rfl,by decide +kernel,rfl,by decide +kernel,by decide +kernel⟩
theorem ok_told_so {am:Addr} (T:Bn mg) (F:Here K mg "_law_told_so" s_told_so f fd) (ER:ManyT K mg am) (Clevels:CalleeE P w K mg base "levels" 6 ["net"] (spLevels am)):FnOk P w K mg base CX0 7 f fd ["_law_net"] spAsTold:=by
 refine F.fn.ok sc_told_so (fun vs H Q E h=>?_) (fun cdv A outer s H vs Q E hr h=>?_)
 ·obtain ⟨v,wide,ws,rfl,_⟩:=h
  rfl
 ·obtain ⟨v,wide,ws,rfl,net,w1,w8,ok,len,q⟩:=h
  refine ⟨_,(pss_cons (ps_set (i:=1) sc_told_so.nd rfl (by walk_at"r") pe_bl)
  (pss_cons (ps_try0 rfl rfl (psx_set (i:=1) sc_told_so.nd rfl (by walk_at"r") (px_cmpR (op_eqD hr.units) (px_call Clevels (hr.mono (by walk_at"d")) rfl (pa_cons (pv 0) pa_nil)) (pe_tup (pa_cons pe_str pa_nil)) (nomark _))) rfl ER.at_TooMany (fun _=>(pss_one (ps_set (i:=1) sc_told_so.nd rfl (by walk_at"r") pe_bl))))
  (pss_one (ps_ret (pv 1))))),?_⟩
  refine ⟨_,rfl,v,wide,ws,rfl,net,w1,w8,ok,len,fun ev mu H1 s1=>?_,fun nn T1 H1 fT s1 x1 lv=>?_,fun nn T1 l r H1 fT fl s1 x1 xl rl bad=>?_⟩
  ·refine ⟨ER.m_TooMany,fun ea fea=>?_⟩
   have s2:Same H1 (upd H1 ea (excO ea (.ref am))):=same_new fea _
   exact ⟨_,rfl,q false _ (Same.trans s1 s2) (ffI fun z=>z.1 ⟨ev,mu⟩)⟩
  ·refine ⟨lenLine (by show 1≤100000;decide),fun t2 f2=>?_⟩
   obtain ⟨H2,e_,s2,x2⟩:=nw f2 (HO.tup [V.str "levels"]);rw [← e_];clear e_
   refine ⟨_,_,dat1s (s2 _ _ x1),dat1s x2,shaped_levels,shaped_levels,by simp [noMix,noMixAll],?_⟩
   have z:Q (.bl (PySem.Spec.same (.tuple [.str "levels"]) (.tuple [.str "levels"]))) H2:=by
    rw [PyProof.Rows.same_refl]
    exact q true _ (Same.trans s1 s2) (ttI ⟨nn,lv⟩)
   exact ⟨_,rfl,z⟩
  ·refine ⟨lenLine (by show 1≤100000;decide),fun t2 f2=>?_⟩
   obtain ⟨H2,e_,s2,x2⟩:=nw f2 (HO.tup [V.str "levels"]);rw [← e_];clear e_
   refine ⟨_,_,dat_not (s2 _ _ x1) (s2 _ _ xl),dat1s x2,shaped_not r,shaped_levels,mix_not r,?_⟩
   have z:Q (.bl (PySem.Spec.same (notD r) (.tuple [.str "levels"]))) H2:=by
    rw [not_levels]
    exact q false _ (Same.trans s1 s2) (ffI fun z=>bad (z.2 r rl))
   exact ⟨_,rfl,z⟩
theorem sc_shown:FnScope ["_law_wide", "_law_wickets_here", "_law_paper_here", "_law_word", "_law_k", "_law_one", "_law_other", "_law_p", "_law_q", "_law_sides", "_law_first", "_law_second", "_law_lanes"] ["_law_wide", "_law_wickets_here", "_law_paper_here"] (defScope s_shown):=⟨rfl,rfl,rfl,by decide +kernel,rfl,by decide +kernel,by decide +kernel⟩
theorem ok_shown0:FnOk P w K mg base CX0 8 f fd ["_law_wide", "_law_wickets_here", "_law_paper_here"] (spShown44 0) :=
 ⟨fun vs H Q E ⟨_,_,_,_,_,_,_,_,_,_,_,_,h,_⟩=>absurd h (Nat.not_lt_zero _),fun A outer s H args us vs Q E _ _ _ _ ⟨_,_,_,_,_,_,_,_,_,_,_,_,h,_⟩=>absurd h (Nat.not_lt_zero _)⟩
theorem ok_shown1 {n m:Nat} (T:Bn mg) (F:Here K mg "_law_shown" s_shown f fd) (C_law_told_so:Callee P w K mg base "_law_told_so" 7 ["_law_net"] spAsTold) (C_law_puts:Callee P w K mg base "_law_puts" 2 ["_law_wickets_here", "_law_one", "_law_other"] spPuts44) (C_law_shown:Callee P w K mg base "_law_shown" (m + 8) ["_law_wide", "_law_wickets_here", "_law_paper_here"] (spShown44 n)):FnOk P w K mg base CX0 (m + 9) f fd ["_law_wide", "_law_wickets_here", "_law_paper_here"] (spShown44 (n + 1)):=by
 refine F.fn.ok sc_shown (fun vs H Q E h=>?_) (fun cdv A outer s H vs Q E hr h=>?_)
 ·obtain ⟨wide,l,ws,x,p,rfl,_⟩:=h
  rfl
 ·obtain ⟨wide,l,ws,x,p,rfl,w1,w8,⟨rs,hl,hrs⟩,ok,len,pa,dp,q⟩:=h
  have lrs:=hrs.len
  refine ⟨_,(pss_cons (ps_if (pt_cmpR op_eq (pe_ix ix_tup (pv 2) pe_int (fun _ _=>rfl)) pe_str (nomark _))
  (pss_one (ps_ret (pe_cmpR op_eq (pv 0) pe_int (nomark _))))
  pss_nil)
  (pss_cons (ps_if (pt_cmpR op_eq (pe_ix ix_tup (pv 2) pe_int (fun _ _=>rfl)) pe_str (nomark _))
  (pss_one (ps_ret (pe_callC C_law_told_so (hr.mono (by walk_at"d")) rfl (pa_cons (pe_tup (pa_cons (pv 0) (pa_cons (pe_callTy call_tuple_of rfl T.n_tuple boot_tupleT (pa_cons (pv 1) pa_nil)) pa_nil))) pa_nil))))
  pss_nil)
  (pss_cons (ps_asg (pv 2) (pg_tup rfl (pgs_cons (pg_name (i:=3) sc_shown.nd rfl (by walk_at"r")) (pgs_cons (pg_name (i:=4) sc_shown.nd rfl (by walk_at"r")) (pgs_cons (pg_name (i:=5) sc_shown.nd rfl (by walk_at"r")) (pgs_cons (pg_name (i:=6) sc_shown.nd rfl (by walk_at"r")) (pgs_cons (pg_name (i:=7) sc_shown.nd rfl (by walk_at"r")) (pgs_cons (pg_name (i:=8) sc_shown.nd rfl (by walk_at"r")) pgs_nil))))))))
  (pss_cons (ps_if (PW.pt (pw_or (pt_not (pt_chain op_le op_le pe_int (pv 4) (pe_callB call_len_seq rfl T.n_len PySem.boot_len (pa_cons (pv 1) pa_nil)))) (pw_or (pt_cmpR op_ne (pe_callB call_len_seq rfl T.n_len PySem.boot_len (pa_cons (pv 5) pa_nil)) (pe_callB call_len_seq rfl T.n_len PySem.boot_len (pa_cons (pv 6) pa_nil)) (nomark _)) (pw_or1 (pt_cmpR (op_neL hr.units) (pe_callB call_sortedT rfl T.n_sorted PyProof.Rows.boot_sorted (pa_cons (pe_op op_catA (pv 5) (pv 6)) pa_nil)) (pe_callTy (call_listRng rfl) rfl T.n_list boot_listT (pa_cons (pe_callTy call_rng1 rfl T.n_range boot_rangeT (pa_cons (pv 0) pa_nil)) pa_nil)) (nomark _))))))
  (pss_one (ps_ret pe_bl))
  pss_nil)
  (pss_cons (ps_set (i:=9) sc_shown.nd rfl (by walk_at"r") (pe_lst (pa_cons (pe_lst pa_nil) (pa_cons (pe_lst pa_nil) pa_nil))))
  (pss_cons (ps_for PassesOwn.never rfl  (pi_list (pe_slice sl_list (pv 1) po_none (po_some (pv 4)))) (pg_tup rfl (pgs_cons (pg_name (i:=10) sc_shown.nd rfl (by walk_at"r")) (pgs_cons (pg_name (i:=11) sc_shown.nd rfl (by walk_at"r")) pgs_nil)))
  (pss_cons (ps_if (pt_cmpR op_ne (pe_cmpR op_in_seq (pv 10) (pv 5) (by with_unfolding_all rfl)) (pe_cmpR op_in_seq (pv 11) (pv 5) (by with_unfolding_all rfl)) (nomark _))
  (pss_one (ps_ret pe_bl))
  pss_nil)
  (pss_cons (ps_set (i:=12) sc_shown.nd rfl (by walk_at"r") (pe_ix ix_list (pe_lst (pa_cons (pv 5) (pa_cons (pv 6) pa_nil))) (pe_callTy call_int1 rfl T.n_int boot_intT (pa_cons (pe_cmpR op_in_seq (pv 10) (pv 6) (by with_unfolding_all rfl)) pa_nil)) (fun _ _=>rfl)))
  (pss_one (ps_expr (pe_bm PySem.F.plainAttrs_list PySem.F.slot_list_append PySem.F.type_list_append mt_append (pe_ix ix_list (pv 9) (pe_callTy call_int1 rfl T.n_int boot_intT (pa_cons (pe_cmpR op_in_seq (pv 10) (pv 6) (by with_unfolding_all rfl)) pa_nil)) (fun _ _=>rfl)) (pa_cons (pe_tup (pa_cons (bmK K rfl (pe_bm PySem.F.plainAttrs_tuple PySem.F.slot_tuple_index PySem.F.type_tuple_index mt_indexT (pv 12) (pa_cons (pv 10) pa_nil))) (pa_cons (bmK K rfl (pe_bm PySem.F.plainAttrs_tuple PySem.F.slot_tuple_index PySem.F.type_tuple_index mt_indexT (pv 12) (pa_cons (pv 11) pa_nil))) pa_nil))) pa_nil)))))))
  (pss_cons (ps_if (PW.pt (pw_or (pt_not (pt_val (pe_callC C_law_shown (hr.mono (by walk_at"d")) rfl (pa_cons (pe_callB call_len_seq rfl T.n_len PySem.boot_len (pa_cons (pv 5) pa_nil)) (pa_cons (pe_ix ix_list (pv 9) pe_int (fun _ _=>rfl)) (pa_cons (pv 7) pa_nil)))))) (pw_or1 (pt_not (pt_val (pe_callC C_law_shown (hr.mono (by walk_at"d")) rfl (pa_cons (pe_callB call_len_seq rfl T.n_len PySem.boot_len (pa_cons (pv 5) pa_nil)) (pa_cons (pe_ix ix_list (pv 9) pe_int (fun _ _=>rfl)) (pa_cons (pv 8) pa_nil)))))))))
  (pss_one (ps_ret pe_bl))
  pss_nil)
  (pss_one (ps_ret (pe_callC C_law_puts (hr.mono (by walk_at"d")) rfl (pa_cons (pe_slice sl_list (pv 1) (po_some (pv 4)) po_none) (pa_cons (pv 5) (pa_cons (pv 6) pa_nil))))))))))))),?_⟩
  try dsimp only [gName]
  cases p with
  | one =>
   obtain ⟨a,rfl,ha⟩:=pa
   refine ⟨_,rfl,a,_,_,_,rfl,rfl,SqT.of ha,rfl,rfl,_,rfl,iteTd (by decide +kernel) ?_⟩
   refine ⟨_,rfl,rfl,q _ H (Same.refl _) ?_⟩
   rw [decide_eq_true_iff]
   exact ⟨fun z=>V.int.inj z,fun z=>congrArg V.int z⟩
  | all =>
   obtain ⟨a,rfl,ha⟩:=pa
   refine ⟨_,rfl,a,_,_,_,rfl,rfl,SqT.of ha,rfl,rfl,_,rfl,iteFd (by decide +kernel) ?_⟩
   refine ⟨_,rfl,a,_,_,_,rfl,rfl,SqT.of ha,rfl,rfl,_,rfl,iteTd (by decide +kernel) ?_⟩
   refine ⟨_,rfl,_,rfl,l,_,rfl,.inl ⟨SqL.of hl,fun t5 f5=>?_⟩⟩
   obtain ⟨H5,e_,s5,x5⟩:=nw f5 (HO.tup rs);rw [← e_];clear e_
   refine ⟨lenLine (by show 2≤100000;decide),fun n6 f6=>?_⟩
   obtain ⟨H6,e_,s6,x6⟩:=nw f6 (HO.tup [V.int wide,V.ref t5]);rw [← e_];clear e_
   have s06:=Same.trans s5 s6
   have net:Net H6 (.ref n6) wide ws:=⟨n6,t5,rs,rfl,x6,s6 _ _ x5,hrs.same s06⟩
   exact ⟨.ref n6,wide,ws,rfl,net,w1,w8,ok,len,fun b H7 s7 hb=>q b H7 (Same.trans s06 s7) hb⟩
  | halves k as bs p r =>
   obtain ⟨t,o,u,y,z,rfl,ht,ho,hu,la,lb,hpy,hqz⟩:=id pa
   have dpp:p.dep < n:=by have:1 + max p.dep r.dep < n + 1:=dp;walk_at"q"
   have dpq:r.dep < n:=by have:1 + max p.dep r.dep < n + 1:=dp;walk_at"q"
   have no:∀ H',Same H H'→¬ ShowsM wide ws (.halves k as bs p r)→Q (.bl false) H':=fun H' s' c=>q false H' s' ⟨fun z=>Bool.noConfusion z,fun z=>absurd z c⟩
   refine ⟨_,rfl,t,_,_,_,rfl,rfl,SqT.of ht,rfl,rfl,_,rfl,iteFd (by decide +kernel) ?_⟩
   refine ⟨_,rfl,t,_,_,_,rfl,rfl,SqT.of ht,rfl,rfl,_,rfl,iteFd (by decide +kernel) ?_⟩
   refine ⟨_,rfl,t,_,rfl,SqT.of ht,rfl,?_⟩
   refine ⟨_,_,rfl,_,_,rfl,_,_,rfl,_,_,rfl,_,_,rfl,_,_,rfl,rfl,?_⟩
   refine ⟨_,rfl,_,_,rfl,rfl,_,rfl,?_⟩
   by_cases k0:0≤k
   rotate_left
   ·refine iteFd (by simpa using k0) ?_
    exact ⟨_,rfl,iteTd rfl (no H (Same.refl _) fun z=>k0 z.1)⟩
   refine iteTd (decide_eq_true k0) ?_
   by_cases k1:k≤ws.length
   rotate_left
   ·refine ⟨_,rfl,l,_,rfl,.inl (SqL.of hl),_,_,rfl,rfl,_,rfl,iteTd (by simp;walk_at"q") ?_⟩
    exact no H (Same.refl _) fun z=>k1 z.2.1
   refine ⟨_,rfl,l,_,rfl,.inl (SqL.of hl),_,_,rfl,rfl,_,rfl,iteFd (by simp;walk_at"q") ?_⟩
   refine ⟨_,rfl,o,_,rfl,.inr (SqT.of ho),_,rfl,u,_,rfl,.inr (SqT.of hu),rfl,_,rfl,?_⟩
   rw [List.length_map,List.length_map]
   by_cases el:as.length=bs.length
   rotate_left
   ·refine iteTd (by simp;walk_at"q") ?_
    exact no H (Same.refl _) fun z=>el z.2.2.1.2.2.1
   refine iteFd (by simp [el]) ?_
   refine ⟨_,rfl,_,rfl,o,u,_,_,rfl,rfl,ho,hu,lenLine (by rw [List.length_map,List.length_map];walk_at"q"),fun t3 H3 s3 x3=>?_⟩
   rw [← List.map_append] at x3
   refine ⟨t3,as ++ bs,rfl,SqT.of x3,by rw [List.length_append];walk_at"q", fun l4 ns' f4 pm pw'=>?_⟩
   obtain ⟨H4,e_,s4,x4⟩:=nw f4 (HO.lst (ns'.map V.int));rw [← e_];clear e_
   refine ⟨_,rfl,_,rfl,fun r5 f5=>?_⟩
   obtain ⟨H5,e_,s5,x5⟩:=nw f5 (HO.rng 0 wide);rw [← e_];clear e_
   refine ⟨r5,0,wide,rfl,x5,by decide,by decide,by walk_at"q", by walk_at"q", by walk_at"q", fun l6 f6=>?_⟩
   obtain ⟨H6,e_,s6,x6⟩:=nw f6 (HO.lst ((rngL 0 wide).map V.int));rw [← e_];clear e_
   have s46:=Same.trans s5 s6
   have s06:=Same.trans s3 (Same.trans s4 s46)
   refine ⟨l4,l6,_,_,rfl,rfl,SqL.of (s46 _ _ x4),SqL.of x6,_,rfl,?_⟩
   by_cases en:ns'=rngL 0 wide
   rotate_left
   ·refine iteTd (by simpa using en) ?_
    exact no H6 s06 fun z=>en (sorted_rng pm pw' z.2.2.1.2.2.2)
   refine iteFd (by simpa using en) ?_
   have hm:HalfM wide as bs:=half_of el (by rw [← en];exact pm.symm)
   have hf:HalfT H wide (.ref o) (.ref u) as bs:=⟨⟨o,rfl,ho,hm.1⟩,⟨u,rfl,hu,hm.2.1⟩,hm.2.2⟩
   have hlen:=hf.len
   have okt:WOk wide (ws.take k.toNat):=ok.sub fun w hw=>List.mem_of_mem_take hw
   have okd:WOk wide (ws.drop k.toNat):=ok.sub fun w hw=>List.mem_of_mem_drop hw
   clear s46 s4 s5 s6 s3 x3 x4 x5 x6 f4 f5 f6 pm pw'
   refine ⟨lenLine (by show 0≤100000;decide),fun a0 f0=>?_⟩
   obtain ⟨HA,e_,sA,xA⟩:=nw f0 (HO.lst []);rw [← e_];clear e_
   refine ⟨lenLine (by show 0≤100000;decide),fun a1 f1=>?_⟩
   have n01:a0≠a1:=fun z=>by rw [← z,xA] at f1;cases f1
   obtain ⟨HB,e_,sB,xB⟩:=nw f1 (HO.lst []);rw [← e_];clear e_
   refine ⟨lenLine (by show 2≤100000;decide),fun a2 f2=>?_⟩
   obtain ⟨HC,e_,sC,xC⟩:=nw f2 (HO.lst [V.ref a0,V.ref a1]);rw [← e_];clear e_
   have yA:=sC _ _ (sB _ _ xA)
   have yB:=sC _ _ xB
   have n20:a2≠a0:=fun z=>by rw [z,sB _ _ xA] at f2;cases f2
   have n21:a2≠a1:=fun z=>by rw [z,xB] at f2;cases f2
   have s0C:=Same.trans s06 (Same.trans sA (Same.trans sB sC))
   have fr0:H a0=none:=s06.free f0
   have fr1:H a1=none:=(Same.trans s06 sA).free f1
   clear sA sB sC xA xB f0 f1 f2 s06
   refine ⟨_,rfl,_,rfl,k,rfl,l,_,rfl,SqL.of (s0C _ _ hl),fun a3 f3=>?_⟩
   have e0:cutV rs none (some k)=rs.take k.toNat:=by
    have:=cut_take rs k.toNat
    rw [show ((k.toNat:Nat):Int)=k by walk_at"q"] at this
    exact this
   rw [e0]
   have n30:a3≠a0:=fun z=>by rw [z,yA] at f3;cases f3
   have n31:a3≠a1:=fun z=>by rw [z,yB] at f3;cases f3
   obtain ⟨HD,e_,sD,xD⟩:=nw f3 (HO.lst (rs.take k.toNat));rw [← e_];clear e_
   have s0D:=Same.trans s0C sD
   replace yA:=sD _ _ yA
   replace yB:=sD _ _ yB
   replace xC:=sD _ _ xC
   have ltk:(ws.take k.toNat).length≤41:=by rw [List.length_take];walk_at"q"
   have hrt:Refs H (rs.take k.toNat) (ws.take k.toNat):=hrs.take _
   have lrt:=hrt.len
   clear sD f3 e0
   refine ⟨a3,rfl,⟨_,SqL.of xD⟩,?_⟩
   refine for_list (K:=K) (a:=a3) (xs:=rs.take k.toNat) (fun i σ Hc=>∃ v10 v11 v12 y0 y1,σ=[some (.int wide),some (.ref l),some (.ref t),some (.str "halves"),some (.int k),some (.ref o),some (.ref u),some y,some z,some (.ref a2),v10,v11,v12]∧Same H Hc∧Hc a3=some (.lst (rs.take k.toNat))∧Hc a2=some (.lst [V.ref a0,V.ref a1])∧Hc a0=some (.lst y0)∧Hc a1=some (.lst y1)∧Refs Hc y0 (inM as ((ws.take k.toNat).take i))∧Refs Hc y1 (inM bs ((ws.take k.toNat).take i))∧KeepM ((ws.take k.toNat).take i) as)
    ⟨none,none,none,[],[],rfl,s0D,xD,xC,yA,yB,.nil,.nil,fun w hw=>by simp at hw⟩ (fun i σ Hc _ ⟨_,_,_,_,_,_,_,z3,_⟩=>SqL.of z3) ?_ ?_
   ·rintro i x σ Hc hx ⟨v10,v11,v12,y0,y1,rfl,sc,z3,z2,z0,z1,r0,r1,km⟩
    obtain ⟨w0,t0,hw0,rfl,ht0⟩:=hrt.get hx
    obtain ⟨o1,o2,o3,o4,o5⟩:=WOk.mem okt hw0
    refine ⟨t0,_,rfl,SqT.of (sc _ _ ht0),rfl,?_⟩
    refine ⟨_,_,rfl,_,_,rfl,rfl,?_⟩
    refine ⟨_,rfl,_,rfl,o,_,rfl,.inr (SqT.of (sc _ _ ho)),rfl,by simp [flatV],?_⟩
    refine ⟨_,rfl,_,rfl,o,_,rfl,.inr (SqT.of (sc _ _ ho)),rfl,by simp [flatV],rfl,_,rfl,?_⟩
    have en:(!decide (V.bl (inV (V.int w0.1) (as.map V.int))=V.bl (inV (V.int w0.2) (as.map V.int))))=!decide (w0.1∈as↔w0.2∈as):=by
     rw [inV_ints,inV_ints]
     by_cases a:w0.1∈as <;> by_cases b:w0.2∈as <;> simp [a,b]
    by_cases kw:(w0.1∈as↔w0.2∈as)
    rotate_left
    ·refine iteTd (en.trans (by simp [kw])) ?_
     exact no Hc sc fun z=>kw (z.2.2.2.1 w0 (List.mem_of_getElem? hw0))
    refine iteFd (fun h=>absurd (en.symm.trans h) (by simp [kw])) ?_
    refine ⟨_,rfl,_,rfl,lenLine (by show 2≤100000;decide),fun l5 f5=>?_⟩
    obtain ⟨H5,e_,s5,x5⟩:=nw f5 (HO.lst [V.ref o,V.ref u]);rw [← e_];clear e_
    have s05:=Same.trans sc s5
    have hm1:=half_or hm o1 o2
    have hm2:=half_or hm o3 o4
    refine ⟨_,rfl,_,rfl,u,_,rfl,.inr (SqT.of (s05 _ _ hu)),rfl,by simp [flatV],?_⟩
    refine .inr ⟨_,rfl,?_⟩
    have ei:inV (V.int w0.1) (bs.map V.int)=decide (w0.1∈bs):=inV_ints ..
    have e1:=take_snoc hw0
    by_cases c:w0.1∈bs
    ·have c2:w0.2∈bs:=hm2.mpr fun z=>hm1.mp c (kw.mpr z)
     have nc:w0.1 ∉ as:=hm1.mp c
     have ej:(if inV (V.int w0.1) (bs.map V.int)=true then (1:Int) else 0)=1:=by rw [ei,if_pos (decide_eq_true c)]
     refine ⟨l5,_,1,V.ref u,rfl,congrArg V.int ej,SqL.of x5,rfl,?_⟩
     refine ⟨_,rfl,_,rfl,_,rfl,u,_,rfl,.inr (SqT.of (s05 _ _ hu)),rfl,by simp [flatV],?_⟩
     refine .inr ⟨_,rfl,?_⟩
     refine ⟨a2,_,1,V.ref a1,rfl,congrArg V.int ej,SqL.of (s5 _ _ z2),rfl,?_⟩
     refine ⟨.inl ⟨rfl,_,SqL.of (s5 _ _ z1)⟩,?_⟩
     have hhc:=s05 _ _ hu
     refine ⟨_,rfl,.inr (.inl ⟨rfl,.inr ⟨_,hhc⟩⟩),?_⟩
     refine ⟨_,rfl,u,bs,w0.1,rfl,rfl,hhc,c,by walk_at"q", ?_⟩
     refine ⟨_,rfl,.inr (.inl ⟨rfl,.inr ⟨_,hhc⟩⟩),?_⟩
     refine ⟨_,rfl,u,bs,w0.2,rfl,rfl,hhc,c2,by walk_at"q", ?_⟩
     refine ⟨lenLine (by show 2≤100000;decide),fun t6 f6=>?_⟩
     obtain ⟨H6,e_,s6,x6⟩:=nw f6 (HO.tup [V.int ((bs.idxOf w0.1:Nat):Int),V.int ((bs.idxOf w0.2:Nat):Int)]);rw [← e_];clear e_
     have sc6:=Same.trans s5 s6
     have e6:=s6 _ _ (s5 _ _ z1)
     have ly:y1.length≤41:=by
      have h1:=r1.len
      have h2:=inM_len bs ((ws.take k.toNat).take i)
      have h3:((ws.take k.toNat).take i).length≤(ws.take k.toNat).length:=by rw [List.length_take];walk_at"q"
      walk_at"q"
     refine ⟨a1,_,_,rfl,rfl,e6,lenLine (by walk_at"q"),?_⟩
     have k4:KT H6 (upd H6 a1 (HO.lst (y1 ++ [V.ref t6]))):=KT.lst e6 (KT.refl _)
     rw [e1]
     refine ⟨_,_,_,y0,y1 ++ [V.ref t6],rfl,Same.put fr1 (Same.trans sc sc6),(upd_ne n31).trans (sc6 _ _ z3),(upd_ne n21).trans (sc6 _ _ z2),(upd_ne n01).trans (sc6 _ _ z0),upd_same,?_,?_,km.snoc kw⟩
     ·rw [inM_snoc,if_neg nc,List.append_nil]
      exact (r0.same sc6).kt k4
     ·rw [inM_snoc,if_pos c]
      exact ((r1.same sc6).kt k4).app (.cons ⟨t6,rfl,k4 _ _ x6⟩ .nil)
    ·have ca:w0.1∈as:=Decidable.byContradiction fun z=>c (hm1.mpr z)
     have c2:w0.2∈as:=kw.mp ca
     have ej:(if inV (V.int w0.1) (bs.map V.int)=true then (1:Int) else 0)=0:=by rw [ei,if_neg (by simpa using c)]
     refine ⟨l5,_,0,V.ref o,rfl,congrArg V.int ej,SqL.of x5,rfl,?_⟩
     refine ⟨_,rfl,_,rfl,_,rfl,u,_,rfl,.inr (SqT.of (s05 _ _ hu)),rfl,by simp [flatV],?_⟩
     refine .inr ⟨_,rfl,?_⟩
     refine ⟨a2,_,0,V.ref a0,rfl,congrArg V.int ej,SqL.of (s5 _ _ z2),rfl,?_⟩
     refine ⟨.inl ⟨rfl,_,SqL.of (s5 _ _ z0)⟩,?_⟩
     have hhc:=s05 _ _ ho
     refine ⟨_,rfl,.inr (.inl ⟨rfl,.inr ⟨_,hhc⟩⟩),?_⟩
     refine ⟨_,rfl,o,as,w0.1,rfl,rfl,hhc,ca,by walk_at"q", ?_⟩
     refine ⟨_,rfl,.inr (.inl ⟨rfl,.inr ⟨_,hhc⟩⟩),?_⟩
     refine ⟨_,rfl,o,as,w0.2,rfl,rfl,hhc,c2,by walk_at"q", ?_⟩
     refine ⟨lenLine (by show 2≤100000;decide),fun t6 f6=>?_⟩
     obtain ⟨H6,e_,s6,x6⟩:=nw f6 (HO.tup [V.int ((as.idxOf w0.1:Nat):Int),V.int ((as.idxOf w0.2:Nat):Int)]);rw [← e_];clear e_
     have sc6:=Same.trans s5 s6
     have e6:=s6 _ _ (s5 _ _ z0)
     have ly:y0.length≤41:=by
      have h1:=r0.len
      have h2:=inM_len as ((ws.take k.toNat).take i)
      have h3:((ws.take k.toNat).take i).length≤(ws.take k.toNat).length:=by rw [List.length_take];walk_at"q"
      walk_at"q"
     refine ⟨a0,_,_,rfl,rfl,e6,lenLine (by walk_at"q"),?_⟩
     have k4:KT H6 (upd H6 a0 (HO.lst (y0 ++ [V.ref t6]))):=KT.lst e6 (KT.refl _)
     rw [e1]
     refine ⟨_,_,_,y0 ++ [V.ref t6],y1,rfl,Same.put fr0 (Same.trans sc sc6),(upd_ne n30).trans (sc6 _ _ z3),(upd_ne n20).trans (sc6 _ _ z2),upd_same,(upd_ne (Ne.symm n01)).trans (sc6 _ _ z1),?_,?_,km.snoc kw⟩
     ·rw [inM_snoc,if_pos ca]
      exact ((r0.same sc6).kt k4).app (.cons ⟨t6,rfl,k4 _ _ x6⟩ .nil)
     ·rw [inM_snoc,if_neg c,List.append_nil]
      exact (r1.same sc6).kt k4
   ·rintro σ Hc ⟨v10,v11,v12,y0,y1,rfl,sc,z3,z2,z0,z1,r0,r1,km⟩
    rw [lrt,List.take_length] at r0 r1 km
    have ne:∀ w∈ws.take k.toNat,w.1≠w.2:=fun w hw=>(okt w hw).2.2.2.2
    have kmo:=km.other hm okt
    have nl:(as.length:Int)≤8:=by walk_at"q"
    have n1:1≤(as.length:Int):=by walk_at"q"
    refine ⟨_,rfl,o,_,rfl,.inr (SqT.of (sc _ _ ho)),?_⟩
    rw [List.length_map]
    refine ⟨_,rfl,a2,_,_,_,rfl,rfl,SqL.of z2,rfl,_,rfl,(as.length:Int),a0,_,y,p,rfl,n1,nl,⟨y0,z0,r0⟩,inM_ok km ne,Nat.le_trans (inM_len _ _) ltk,hpy.same sc,dpp,fun b H7 s7 hb7=>?_⟩
    have s07:=Same.trans sc s7
    refine ⟨_,rfl,?_⟩
    cases b with
    | false=>exact iteTd rfl (no H7 s07 fun z=>absurd (hb7.mpr z.2.2.2.2.2.1) (by decide))
    | true =>
    refine iteFd (by decide) ?_
    refine ⟨_,rfl,o,_,rfl,.inr (SqT.of (s07 _ _ ho)),?_⟩
    rw [List.length_map]
    refine ⟨_,rfl,a2,_,_,_,rfl,rfl,SqL.of (s7 _ _ z2),rfl,_,rfl,(as.length:Int),a1,_,z,r,rfl,n1,nl,⟨y1,s7 _ _ z1,r1.same s7⟩,by rw [el];exact inM_ok kmo ne,Nat.le_trans (inM_len _ _) ltk,hqz.same s07,dpq,fun b H8 s8 hb8=>?_⟩
    rw [el] at hb8
    have s08:=Same.trans s07 s8
    refine ⟨_,rfl,?_⟩
    cases b with
    | false=>exact iteTd rfl (no H8 s08 fun z=>absurd (hb8.mpr z.2.2.2.2.2.2) (by decide))
    | true =>
    refine iteFd (by decide) ?_
    refine ⟨_,rfl,_,rfl,k,rfl,l,_,rfl,SqL.of (s08 _ _ hl),fun a9 f9=>?_⟩
    have e1:cutV rs (some k) none=rs.drop k.toNat:=by
     have:=cut_from (xs:=rs) (n:=k.toNat) (by walk_at"q")
     rw [show ((k.toNat:Nat):Int)=k by walk_at"q"] at this
     exact this
    rw [e1]
    obtain ⟨H9,e_,s9,x9⟩:=nw f9 (HO.lst (rs.drop k.toNat));rw [← e_];clear e_
    have s09:=Same.trans s08 s9
    refine ⟨_,rfl,_,rfl,wide,a9,ws.drop k.toNat,o,u,as,bs,rfl,w1,w8,⟨_,x9,(hrs.same s09).drop _⟩,okd,by rw [List.length_drop];walk_at"q", hf.same s09,fun b Ha sa hba=>?_⟩
    exact q b Ha (Same.trans s09 sa) (hba.trans ⟨fun z=>⟨k0,k1,hm,km,z,hb7.mp rfl,hb8.mp rfl⟩,fun z=>z.2.2.2.2.1⟩)
theorem sc_paper:FnScope ["_law_wide", "_law_half", "_law_below", "_law_lanes"] ["_law_wide"] (defScope s_paper):=⟨rfl,rfl,rfl,by decide +kernel,rfl,by decide +kernel,by decide +kernel⟩
theorem ok_paper0:FnOk P w K mg base CX0 7 f fd ["_law_wide"] (spPaper 0) :=
 ⟨fun vs H Q E ⟨k,_,h,_,_⟩=>absurd h (Nat.not_lt_zero _),fun A outer s H args us vs Q E _ _ _ _ ⟨k,_,h,_,_⟩=>absurd h (Nat.not_lt_zero _)⟩
theorem ok_paper1 {n m:Nat} (T:Bn mg) (F:Here K mg "_law_paper" s_paper f fd) (C_law_folded:Callee P w K mg base "_law_folded" 6 ["_law_wide"] (spFold 4)) (C_law_paper:Callee P w K mg base "_law_paper" (m + 7) ["_law_wide"] (spPaper n)):FnOk P w K mg base CX0 (m + 8) f fd ["_law_wide"] (spPaper (n + 1)):=by
 refine F.fn.ok sc_paper (fun vs H Q E h=>?_) (fun cdv A outer s H vs Q E hr h=>?_)
 ·obtain ⟨k,rfl,_⟩:=h
  rfl
 ·obtain ⟨k,rfl,kn,k3,q⟩:=h
  refine ⟨_,(pss_cons (ps_if (pt_cmpR op_eq (pv 0) pe_int (nomark _))
  (pss_one (ps_ret (pe_tup (pa_cons pe_str pa_nil))))
  pss_nil)
  (pss_cons (ps_set (i:=1) sc_paper.nd rfl (by walk_at"r") (pe_op op_fdiv (pv 0) pe_int))
  (pss_cons (ps_set (i:=2) sc_paper.nd rfl (by walk_at"r") (pe_callC C_law_paper (hr.mono (by walk_at"d")) rfl (pa_cons (pv 1) pa_nil)))
  (pss_cons (ps_set (i:=3) sc_paper.nd rfl (by walk_at"r") (pe_callTy (call_tupRng rfl) rfl T.n_tuple boot_tupleT (pa_cons (pe_callTy call_rng1 rfl T.n_range boot_rangeT (pa_cons (pv 0) pa_nil)) pa_nil)))
  (pss_one (ps_ret (pe_tup (pa_cons pe_str (pa_cons (pe_op op_mul pe_int (pe_callB call_len_seq rfl T.n_len PySem.boot_len (pa_cons (pe_callC C_law_folded (hr.mono (by walk_at"d")) rfl (pa_cons (pv 1) pa_nil)) pa_nil))) (pa_cons (pe_slice sl_tupU (pv 3) po_none (po_some (pv 1))) (pa_cons (pe_slice sl_tupU (pv 3) (po_some (pv 1)) po_none) (pa_cons (pv 2) (pa_cons (pv 2) pa_nil))))))))))))),?_⟩
  refine ⟨_,rfl,rfl,_,rfl,?_⟩
  cases k with
  | zero =>
   refine iteTd (by decide) ?_
   refine ⟨lenLine (by show 1≤100000;decide),fun t f1=>?_⟩
   exact q _ _ (same_new f1 _) (.one upd_same)
  | succ k =>
   have kc:k=0∨k=1∨k=2:=by walk_at"q"
   refine iteFd (by rcases kc with z | z | z <;> subst z <;> decide) ?_
   refine ⟨_,rfl,_,_,rfl,rfl,⟨by decide,by decide⟩,?_⟩
   have eh:pw (k + 1) / 2=pw k:=by rcases kc with z | z | z <;> subst z <;> decide
   rw [eh]
   refine ⟨_,rfl,k,rfl,by walk_at"q", by walk_at"q", fun x H1 s1 fx=>?_⟩
   have hw:1≤pw (k + 1)∧pw (k + 1)≤8:=by rcases kc with z | z | z <;> subst z <;> decide
   obtain ⟨w1,w8⟩:=hw
   refine ⟨_,rfl,_,rfl,fun r2 f2=>?_⟩
   obtain ⟨H2,e_,s2,x2⟩:=nw f2 (HO.rng 0 (pw (k + 1)));rw [← e_];clear e_
   refine ⟨r2,0,pw (k + 1),rfl,x2,by decide,by decide,by walk_at"q", by walk_at"q", by walk_at"q", fun l3 f3=>?_⟩
   obtain ⟨H3,e_,s3,x3⟩:=nw f3 (HO.tup ((rngL 0 (pw (k + 1))).map V.int));rw [← e_];clear e_
   refine ⟨_,rfl,k,rfl,by walk_at"q", by walk_at"q", fun lf H4 ff s4 ⟨rf,xf,rrf⟩=>?_⟩
   have lrf:=rrf.len
   refine ⟨lf,_,rfl,.inl (SqL.of xf),_,_,rfl,rfl,.inl ⟨by decide,by decide⟩,?_⟩
   refine ⟨_,rfl,_,rfl,pw k,rfl,l3,_,rfl,s4 _ _ x3,fun p5 H5 s5 x5=>?_⟩
   refine ⟨_,rfl,_,rfl,pw k,rfl,l3,_,rfl,s5 _ _ (s4 _ _ x3),fun p6 H6 s6 x6=>?_⟩
   refine ⟨_,rfl,_,rfl,lenLine (by show 6≤100000;decide),fun t7 f7=>?_⟩
   have e5:cutV ((rngL 0 (pw (k + 1))).map V.int) none (some (pw k))=(rngL 0 (pw k)).map V.int:=by rcases kc with z | z | z <;> subst z <;> decide +kernel
   have e6:cutV ((rngL 0 (pw (k + 1))).map V.int) (some (pw k)) none=(rngL (pw k) (pw (k + 1))).map V.int:=by rcases kc with z | z | z <;> subst z <;> decide +kernel
   rw [e5] at x5
   rw [e6] at x6
   have s7:=same_new f7 (HO.tup [V.str "halves", V.int (2 * (rf.length:Int)),V.ref p5,V.ref p6,x,x])
   have s17:=Same.trans s2 (Same.trans s3 (Same.trans s4 (Same.trans s5 (Same.trans s6 s7))))
   refine q _ _ (Same.trans s1 s17) (.hlv (x:=x) (y:=x) ?_ (s7 _ _ (s6 _ _ x5)) (s7 _ _ x6) (fx.same s17) (fx.same s17))
   rw [two_len,← lrf]
   exact upd_same
theorem sc_order:FnScope ["_law_pen_here", "_law_wide", "_law_left", "_law_found"] ["_law_pen_here", "_law_wide"] (defScope s_order):=⟨rfl,rfl,rfl,by decide +kernel,rfl,by decide +kernel,by decide +kernel⟩
theorem ok_order (T:Bn mg) (F:Here K mg "_law_order" s_order f fd) (C_law_take:Callee P w K mg base "_law_take" 1 ["_law_pen_here", "_law_size"] spTake):FnOk P w K mg base CX0 2 f fd ["_law_pen_here", "_law_wide"] spOrder:=by
 refine F.fn.ok sc_order (fun vs H Q E h=>?_) (fun cdv A outer s H vs Q E hr h=>?_)
 ·obtain ⟨p,wide,rfl,_⟩:=h
  rfl
 ·obtain ⟨p,wide,rfl,⟨a0,b0,c0,hp0⟩,w1,w8,q⟩:=h
  refine ⟨_,(pss_cons (ps_set (i:=2) sc_order.nd rfl (by walk_at"r") (pe_callTy (call_listRng rfl) rfl T.n_list boot_listT (pa_cons (pe_callTy call_rng1 rfl T.n_range boot_rangeT (pa_cons (pv 1) pa_nil)) pa_nil)))
  (pss_cons (ps_set (i:=3) sc_order.nd rfl (by walk_at"r") (pe_lst pa_nil))
  (pss_cons (ps_while PassesOwn.never  (pt_cmpR (op_neL hr.units) (pv 2) (pe_lst pa_nil) (nomark _))
  (pss_one (ps_expr (pe_bm PySem.F.plainAttrs_list PySem.F.slot_list_append PySem.F.type_list_append mt_append (pv 3) (pa_cons (pe_bm PySem.F.plainAttrs_list PySem.F.slot_list_pop PySem.F.type_list_pop mt_popAt (pv 2) (pa_cons (pe_callC C_law_take (hr.mono (by walk_at"d")) rfl (pa_cons (pv 0) (pa_cons (pe_callB call_len_seq rfl T.n_len PySem.boot_len (pa_cons (pv 2) pa_nil)) pa_nil))) pa_nil)) pa_nil)))))
  (pss_one (ps_ret (pv 3)))))),?_⟩
  refine ⟨_,rfl,_,rfl,fun r fr=>?_⟩
  obtain ⟨k1,hp1,x1,n1⟩:=fresh_step hp0 fr (.rng 0 wide)
  generalize upd H r (HO.rng 0 wide)=H1 at k1 hp1 x1
  refine ⟨r,0,wide,rfl,x1,by walk_at"q", by walk_at"q", by walk_at"q", by walk_at"q", by walk_at"q", fun l fl=>?_⟩
  obtain ⟨k2,hp2,x2,n2⟩:=fresh_step hp1 fl (.lst ((rngL 0 wide).map V.int))
  generalize upd H1 l (HO.lst ((rngL 0 wide).map V.int))=H2 at k2 hp2 x2
  refine ⟨lenLine (by show 0≤100000;decide),fun lf ff=>?_⟩
  obtain ⟨k3,hp3,x3,n3⟩:=fresh_step hp2 ff (.lst [])
  have nlf:l≠lf:=ne_of_none x2 ff
  have x3l:(upd H2 lf (HO.lst [])) l=some (.lst ((rngL 0 wide).map V.int)):=(upd_ne nlf).trans x2
  have fl0:H l=none:=by
   cases e:H l with
   | none=>rfl
   | some o=>rw [k1 _ _ e n2] at fl;cases fl
  have ff0:H lf=none:=by
   cases e:H lf with
   | none=>rfl
   | some o=>rw [k2 _ _ (k1 _ _ e n3) n3] at ff;cases ff
  have kH3:=Kp.trans k1 (Kp.trans k2 k3)
  generalize upd H2 lf (HO.lst [])=H3 at k3 hp3 x3 x3l kH3
  refine while_m (fun m σ Hd=>∃ (fs ls:List Int),σ=[some (.ref p),some (.int wide),some (.ref l),some (.ref lf)]∧Kp p H Hd∧Pen Hd p∧Hd l=some (.lst (ls.map V.int))∧Hd lf=some (.lst (fs.map V.int))∧IsOrd wide (fs ++ ls)∧ls.length=m)
   _ ⟨[],rngL 0 wide,rfl,kH3,⟨_,_,_,hp3⟩,x3l,x3,ord_rng (by walk_at"q"),rfl⟩ ?_ ?_
  ·rintro m σ Hd ⟨fs,ls,rfl,kd,⟨pa,pb,pc,hpd⟩,xl,xf,io,rfl⟩
   have lo:=io.len
   rw [List.length_append] at lo
   refine ⟨_,rfl,lenLine (by show 0≤100000;decide),fun le fe=>?_⟩
   obtain ⟨k4,hp4,x4,n4⟩:=fresh_step hpd fe (.lst [])
   have s4:Same Hd (upd Hd le (HO.lst [])):=same_new fe _
   generalize upd Hd le (HO.lst [])=H4 at k4 hp4 x4 s4
   have xl4:=s4 _ _ xl
   have xf4:=s4 _ _ xf
   refine ⟨l,le,ls,[],rfl,rfl,SqL.of xl4,SqL.of x4,_,rfl,?_⟩
   by_cases c:ls=[]
   ·subst c
    refine iteFd (by decide) ?_
    rw [List.append_nil] at io
    exact ⟨_,rfl,q lf fs _ ff0 (Kp.trans kd k4) ⟨_,_,_,hp4⟩ xf4 io⟩
   ·have lp:0 < ls.length:=List.length_pos_iff.mpr c
    refine iteTd (by simp [c]) ?_
    refine ⟨_,rfl,.inl ⟨rfl,_,SqL.of xf4⟩,?_⟩
    refine ⟨_,rfl,.inl ⟨rfl,_,SqL.of xl4⟩,?_⟩
    refine ⟨_,rfl,_,rfl,l,_,rfl,.inl (SqL.of xl4),p,_,_,_,((ls.map V.int).length:Int),rfl,hp4,by rw [List.length_map];walk_at"q", by rw [List.length_map];walk_at"q", fun z a5 b5 c5 z0 z1=>?_⟩
    rw [List.length_map] at z1
    have k5:Kp p H (upd H4 p (.lst [.int a5,.int b5,.int c5])):=Kp.trans kd (Kp.trans k4 Kp.upd)
    have hp5:(upd H4 p (.lst [.int a5,.int b5,.int c5])) p=some (.lst [.int a5,.int b5,.int c5]):=upd_same
    have xl5:(upd H4 p (.lst [.int a5,.int b5,.int c5])) l=some (.lst (ls.map V.int)):=(upd_ne n2).trans xl4
    have xf5:(upd H4 p (.lst [.int a5,.int b5,.int c5])) lf=some (.lst (fs.map V.int)):=(upd_ne n3).trans xf4
    generalize upd H4 p (HO.lst [V.int a5,V.int b5,V.int c5])=H5 at k5 hp5 xl5 xf5
    have zl:z.toNat < ls.length:=by walk_at"q"
    have hz:ls[z.toNat]?=some ls[z.toNat]:=by simp [zl]
    refine ⟨l,ls.map V.int,z,z.toNat,V.int ls[z.toNat],rfl,rfl,xl5,by walk_at"q", by walk_at"q", sqIx z0 (by rw [List.length_map];walk_at"q"),by rw [List.getElem?_map,hz];rfl,?_⟩
    have xf6:(upd H5 l (HO.lst ((ls.map V.int).eraseIdx z.toNat))) lf=some (.lst (fs.map V.int)):=(upd_ne (Ne.symm nlf)).trans xf5
    refine ⟨lf,_,_,rfl,rfl,xf6,lenLt (by rw [List.length_map];walk_at"q"),?_⟩
    have el:(ls.map V.int).eraseIdx z.toNat=(ls.eraseIdx z.toNat).map V.int:=era_map _ _ _
    refine ⟨ls.length - 1,by walk_at"q", fs ++ [ls[z.toNat]],ls.eraseIdx z.toNat,rfl,Kp.put ff0 (Kp.put fl0 k5),⟨_,_,_,(upd_ne (Ne.symm n3)).trans ((upd_ne (Ne.symm n2)).trans hp5)⟩,?_,?_,ord_pop io hz,by rw [List.length_eraseIdx,if_pos zl]⟩
    ·rw [upd_ne nlf,upd_same,el]
    ·rw [upd_same,List.map_append];rfl
  ·rintro σ Hd Q' Q'' hq ⟨y,f0,z0,h⟩
   refine ⟨y,f0,z0,fun le fe=>?_⟩
   obtain ⟨a1,a2,a3,a4,a5,a6,a7,a8,k',e2,h2⟩:=h le fe
   exact ⟨a1,a2,a3,a4,a5,a6,a7,a8,k',e2,hq _ _ h2⟩
theorem sc_exchanged:FnScope ["_law_paper_here"] ["_law_paper_here"] (defScope s_exchanged):=⟨rfl,rfl,rfl,by decide +kernel,rfl,by decide +kernel,by decide +kernel⟩
theorem cut_6 (a b c d e g:V):cutV [a,b,c,d,e,g] none (some 2)=[a,b]:=rfl
theorem ok_exchanged (T:Bn mg) (F:Here K mg "_law_exchanged" s_exchanged f fd):FnOk P w K mg base CX0 1 f fd ["_law_paper_here"] spExch:=by
 refine F.fn.ok sc_exchanged (fun vs H Q E h=>?_) (fun cdv A outer s H vs Q E hr h=>?_)
 ·obtain ⟨x,p,rfl,_⟩:=h
  rfl
 ·obtain ⟨x,p,rfl,hx,q⟩:=h
  refine ⟨_,(pss_cons (ps_if (pt_cmpR op_lt (pe_callB call_len_seq rfl T.n_len PySem.boot_len (pa_cons (pv 0) pa_nil)) pe_int (nomark _))
  (pss_one (ps_ret (pv 0)))
  pss_nil)
  (pss_one (ps_ret (pe_op op_catA (pe_slice sl_tupU (pv 0) po_none (po_some pe_int)) (pe_tup (pa_cons (pe_ix ix_tup (pv 0) pe_int (fun _ _=>rfl)) (pa_cons (pe_ix ix_tup (pv 0) pe_int (fun _ _=>rfl)) (pa_cons (pe_ix ix_tup (pv 0) pe_int (fun _ _=>rfl)) (pa_cons (pe_ix ix_tup (pv 0) pe_int (fun _ _=>rfl)) pa_nil))))))))),?_⟩
  cases p with
  | one =>
   obtain ⟨t,rfl,ht⟩:=hx
   refine ⟨_,rfl,t,_,rfl,.inr (SqT.of ht),_,_,rfl,rfl,_,rfl,iteTd (by decide) ?_⟩
   exact ⟨_,rfl,q _ .one _ (Same.refl _) ⟨t,rfl,ht⟩ (Nat.le_refl _)⟩
  | all =>
   obtain ⟨t,rfl,ht⟩:=hx
   refine ⟨_,rfl,t,_,rfl,.inr (SqT.of ht),_,_,rfl,rfl,_,rfl,iteTd (by decide) ?_⟩
   exact ⟨_,rfl,q _ .all _ (Same.refl _) ⟨t,rfl,ht⟩ (Nat.le_refl _)⟩
  | halves k a b p1 p2 =>
   obtain ⟨t,o,u,y,z,rfl,ht,ho,hu,la,lb,hp,hq⟩:=hx
   refine ⟨_,rfl,t,_,rfl,.inr (SqT.of ht),_,_,rfl,rfl,_,rfl,iteFd (by simp) ?_⟩
   refine ⟨_,rfl,2,rfl,t,_,rfl,ht,fun c1 H1 s1 x1=>?_⟩
   rw [cut_6] at x1
   have ht1:=s1 _ _ ht
   refine ⟨_,rfl,t,_,_,_,rfl,rfl,SqT.of ht1,rfl,?_⟩
   refine ⟨_,rfl,t,_,_,_,rfl,rfl,SqT.of ht1,rfl,?_⟩
   refine ⟨_,rfl,t,_,_,_,rfl,rfl,SqT.of ht1,rfl,?_⟩
   refine ⟨_,rfl,t,_,_,_,rfl,rfl,SqT.of ht1,rfl,?_⟩
   refine ⟨lenLine (by show 4≤100000;decide),fun c2 f2=>?_⟩
   obtain ⟨H2,e_,s2,x2⟩:=nw f2 (HO.tup [V.ref u,V.ref o,z,y]);rw [← e_];clear e_
   refine ⟨c1,c2,_,_,rfl,rfl,s2 _ _ x1,x2,lenLine (by show 6≤100000;decide),fun c3 H3 s3 x3=>?_⟩
   have s13:=Same.trans s1 (Same.trans s2 s3)
   refine q _ (.halves k b a p2 p1) _ s13 ⟨c3,u,o,z,y,rfl,x3,s13 _ _ hu,s13 _ _ ho,lb,la,hq.same s13,hp.same s13⟩ ?_
   show 1 + max p2.dep p1.dep≤1 + max p1.dep p2.dep
   walk_at"q"
theorem sc_other_net:FnScope ["_law_pen_here", "_law_wide", "_law_way", "_law_wickets_here", "_law_k", "_law_lane", "_law_far", "_law_at"] ["_law_pen_here", "_law_wide", "_law_way", "_law_wickets_here", "_law_k", "_law_lane", "_law_far"] (defScope s_other_net):=⟨rfl,rfl,rfl,by decide +kernel,rfl,by decide +kernel,by decide +kernel⟩
def OtherJ (p:Addr) (wide way lane far:Int) (ws:List (Int × Int)) (k:Int) (H:Hp) (m:Int) (σ:St) (Hf:Hp):Prop :=
 ∃ (l:Addr) (us:List (Int × Int)) (k':Int) (v7:Option V),σ=[some (.ref p),some (.int wide),some (.int way),some (.ref l),some (.int k'),some (.int lane),some (.int far),v7]∧l≠p∧Kp p H Hf∧Pen Hf p∧WsL Hf l us∧WOk wide us∧us.length≤40∧(m≤way→us.length=ws.length∧k'=k)
theorem cut_last (rs:List V):(cutV rs (some (-1)) none).length≤1:=by
 unfold cutV
 rw [HT.sIx_none,List.length_take,List.length_drop]
 have:HT.sIx rs.length 0 (some (-1))=rs.length - 1:=by
  simp [HT.sIx]
  walk_at"q"
 walk_at"q"
theorem ok_rep {wide:Int} {ws:List (Int × Int)} (h:WOk wide ws) (n:Nat):WOk wide (List.replicate n ws).flatten:=fun w hw=>by
 obtain ⟨x,hx,hw⟩:=List.mem_flatten.mp hw
 rw [(List.mem_replicate.mp hx).2] at hw
 exact h w hw
theorem ok_other_net (T:Bn mg) (F:Here K mg "_law_other_net" s_other_net f fd) (C_law_take:Callee P w K mg base "_law_take" 1 ["_law_pen_here", "_law_size"] spTake) (C_law_wickets:Callee P w K mg base "_law_wickets" 2 ["_law_pen_here", "_law_wide", "_law_many"] spWickets) (C_law_bent:Callee P w K mg base "_law_bent" 3 ["_law_pen_here", "_law_wide", "_law_wickets_here"] spBentX) :
  FnOk P w K mg base CX0 4 f fd ["_law_pen_here", "_law_wide", "_law_way", "_law_wickets_here", "_law_k", "_law_lane", "_law_far"] spOther:=by
 refine F.fn.ok sc_other_net (fun vs H Q E h=>?_) (fun cdv A outer s H vs Q E hr h=>?_)
 ·obtain ⟨p,wide,way,a,ws,k,lane,far,rfl,_⟩:=h
  rfl
 ·obtain ⟨p,wide,way,a,ws,k,lane,far,rfl,pn0,w1,w8,nap,wl,ok0,len,k0,k100,h13,h11,q⟩:=h
  refine ⟨_,(pss_cons (ps_if (pt_cmpR op_eq (pv 2) pe_int (nomark _))
  (pss_one (ps_set (i:=3) sc_other_net.nd rfl (by walk_at"r") (pe_callC C_law_bent (hr.mono (by walk_at"d")) rfl (pa_cons (pv 0) (pa_cons (pv 1) (pa_cons (pv 3) pa_nil))))))
  pss_nil)
  (pss_cons (ps_if (pt_cmpR op_eq (pv 2) pe_int (nomark _))
  (pss_one (ps_set (i:=3) sc_other_net.nd rfl (by walk_at"r") (pe_op op_cat (pv 3) (pe_callC C_law_wickets (hr.mono (by walk_at"d")) rfl (pa_cons (pv 0) (pa_cons (pv 1) (pa_cons pe_int pa_nil)))))))
  pss_nil)
  (pss_cons (ps_if (pt_cmpR op_eq (pv 2) pe_int (nomark _))
  (pss_one (ps_set (i:=3) sc_other_net.nd rfl (by walk_at"r") (pe_op op_cat (pe_callC C_law_wickets (hr.mono (by walk_at"d")) rfl (pa_cons (pv 0) (pa_cons (pv 1) (pa_cons pe_int pa_nil)))) (pv 3))))
  pss_nil)
  (pss_cons (ps_if (pt_cmpR op_eq (pv 2) pe_int (nomark _))
  (pss_one (ps_set (i:=3) sc_other_net.nd rfl (by walk_at"r") (pe_op op_cat (pv 3) (pe_op op_rep (pe_slice sl_list (pv 3) (po_some (pe_un un_neg pe_int)) po_none) (pe_callC C_law_take (hr.mono (by walk_at"d")) rfl (pa_cons (pv 0) (pa_cons pe_int pa_nil)))))))
  pss_nil)
  (pss_cons (ps_if (pt_cmpR op_eq (pv 2) pe_int (nomark _))
  (pss_cons (ps_set (i:=7) sc_other_net.nd rfl (by walk_at"r") (pe_callC C_law_take (hr.mono (by walk_at"d")) rfl (pa_cons (pv 0) (pa_cons (pe_op op_add (pv 4) pe_int) pa_nil))))
  (pss_cons (ps_set (i:=3) sc_other_net.nd rfl (by walk_at"r") (pe_op op_cat (pe_op op_cat (pe_slice sl_list (pv 3) po_none (po_some (pv 7))) (pe_lst (pa_cons (pe_tup (pa_cons (pv 5) (pa_cons (pv 6) pa_nil))) pa_nil))) (pe_slice sl_list (pv 3) (po_some (pv 7)) po_none)))
  (pss_one (ps_set (i:=4) sc_other_net.nd rfl (by walk_at"r") (pe_op op_add (pv 4) pe_int)))))
  pss_nil)
  (pss_cons (ps_if (pt_cmpR op_eq (pv 2) pe_int (nomark _))
  (pss_one (ps_set (i:=3) sc_other_net.nd rfl (by walk_at"r") (pe_slice sl_list (pv 3) po_none (po_some (pv 4)))))
  pss_nil)
  (pss_cons (ps_if (pt_cmpR op_eq (pv 2) pe_int (nomark _))
  (pss_cons (ps_set (i:=7) sc_other_net.nd rfl (by walk_at"r") (pe_op op_add (pv 4) (pe_callC C_law_take (hr.mono (by walk_at"d")) rfl (pa_cons (pv 0) (pa_cons (pe_op op_sub (pe_callB call_len_seq rfl T.n_len PySem.boot_len (pa_cons (pv 3) pa_nil)) (pv 4)) pa_nil)))))
  (pss_one (ps_set (i:=3) sc_other_net.nd rfl (by walk_at"r") (pe_op op_cat (pe_slice sl_list (pv 3) po_none (po_some (pv 7))) (pe_slice sl_list (pv 3) (po_some (pe_op op_add (pv 7) pe_int)) po_none)))))
  pss_nil)
  (pss_one (ps_ret (pe_tup (pa_cons (pv 3) (pa_cons (pv 4) pa_nil)))))))))))),?_⟩
  try dsimp only [gName]
  have no:∀ m:Int,¬ way=m→¬ (decide (V.int way=V.int m)=true):=fun m c=>by
   rw [decide_eq_true_iff];intro z;exact c (V.int.inj z)
  refine seq_by (OtherJ p wide way lane far ws k H 8) (fun N hN=>?_) ?_
  ·refine ⟨_,rfl,rfl,_,rfl,?_⟩
   by_cases c:way=7
   ·refine iteTd (by rw [c];decide) ?_
    refine ⟨_,rfl,_,rfl,_,rfl,p,wide,a,ws,rfl,pn0,w1,w8,nap,wl,ok0,by walk_at"q", fun l us H1 n1 k1 pn1 wl1 ok1 le1=>?_⟩
    exact hN _ _ ⟨l,us,k,_,rfl,n1,k1,pn1,wl1,ok1,by walk_at"q", fun z=>by walk_at"q"⟩
   ·refine iteFd (no 7 c) ?_
    exact hN _ _ ⟨a,ws,k,_,rfl,nap,Kp.refl _ _,pn0,wl,ok0,by walk_at"q", fun _=>⟨rfl,rfl⟩⟩
  rintro σ H1 ⟨l,us,k',v7,rfl,n,kp,pn,wl',ok,le,un⟩
  refine seq_by (OtherJ p wide way lane far ws k H 9) (fun N hN=>?_) ?_
  ·refine ⟨_,rfl,rfl,_,rfl,?_⟩
   by_cases c:way=8
   ·obtain ⟨pa,pb,pc,hp⟩:=pn
    obtain ⟨rs,xl,rr⟩:=wl'
    have lr:=rr.len
    refine iteTd (by rw [c];decide) ?_
    refine ⟨_,rfl,_,rfl,_,rfl,p,wide,1,rfl,⟨_,_,_,hp⟩,w1,w8,by decide,by decide,fun l2 us2 H2 f2 k2 ⟨a2,b2,c2,hp2⟩ ⟨rs2,x2,r2⟩ ok2 le2=>?_⟩
    have lr2:=r2.len
    have u:=un (by walk_at"q")
    refine ⟨l,l2,_,_,rfl,rfl,k2 _ _ xl n,x2,lenLine (by walk_at"q"),fun l3 f3=>?_⟩
    obtain ⟨k3,hp3,x3,n3⟩:=fresh_step hp2 f3 (.lst (rs ++ rs2))
    exact hN _ _ ⟨l3,us ++ us2,k',_,rfl,n3,Kp.trans kp (Kp.trans k2 k3),⟨_,_,_,hp3⟩,⟨_,x3,((rr.kp k2 hp).app r2).kp k3 hp2⟩,ok.app ok2,by rw [List.length_append];walk_at"q", fun z=>by walk_at"q"⟩
   ·refine iteFd (no 8 c) ?_
    exact hN _ _ ⟨l,us,k',_,rfl,n,kp,pn,wl',ok,le,fun z=>un (by walk_at"q")⟩
  clear un wl' pn kp
  rintro σ H1 ⟨l,us,k',v7,rfl,n,kp,pn,wl',ok,le,un⟩
  refine seq_by (OtherJ p wide way lane far ws k H 10) (fun N hN=>?_) ?_
  ·refine ⟨_,rfl,rfl,_,rfl,?_⟩
   by_cases c:way=9
   ·obtain ⟨pa,pb,pc,hp⟩:=pn
    obtain ⟨rs,xl,rr⟩:=wl'
    have lr:=rr.len
    refine iteTd (by rw [c];decide) ?_
    refine ⟨_,rfl,_,rfl,p,wide,1,rfl,⟨_,_,_,hp⟩,w1,w8,by decide,by decide,fun l2 us2 H2 f2 k2 ⟨a2,b2,c2,hp2⟩ ⟨rs2,x2,r2⟩ ok2 le2=>?_⟩
    have lr2:=r2.len
    have u:=un (by walk_at"q")
    refine ⟨_,rfl,l2,l,_,_,rfl,rfl,x2,k2 _ _ xl n,lenLine (by walk_at"q"),fun l3 f3=>?_⟩
    obtain ⟨k3,hp3,x3,n3⟩:=fresh_step hp2 f3 (.lst (rs2 ++ rs))
    exact hN _ _ ⟨l3,us2 ++ us,k',_,rfl,n3,Kp.trans kp (Kp.trans k2 k3),⟨_,_,_,hp3⟩,⟨_,x3,(r2.app (rr.kp k2 hp)).kp k3 hp2⟩,ok2.app ok,by rw [List.length_append];walk_at"q", fun z=>by walk_at"q"⟩
   ·refine iteFd (no 9 c) ?_
    exact hN _ _ ⟨l,us,k',_,rfl,n,kp,pn,wl',ok,le,fun z=>un (by walk_at"q")⟩
  clear un wl' pn kp
  rintro σ H1 ⟨l,us,k',v7,rfl,n,kp,pn,wl',ok,le,un⟩
  refine seq_by (OtherJ p wide way lane far ws k H 11) (fun N hN=>?_) ?_
  ·refine ⟨_,rfl,rfl,_,rfl,?_⟩
   by_cases c:way=10
   ·obtain ⟨pa,pb,pc,hp⟩:=pn
    obtain ⟨rs,xl,rr⟩:=wl'
    have lr:=rr.len
    have u:=un (by walk_at"q")
    refine iteTd (by rw [c];decide) ?_
    refine ⟨_,rfl,_,rfl,_,rfl,-1,rfl,l,rs,rfl,SqL.of xl,fun l2 f2=>?_⟩
    have c1:=cut_last rs
    obtain ⟨us2,r2,sub2,_⟩:=rr.cut (some (-1)) none
    obtain ⟨k2,hp2,x2,n2⟩:=fresh_step hp f2 (.lst (cutV rs (some (-1)) none))
    have lc:=r2.len
    generalize cutV rs (some (-1)) none=cs at c1 r2 k2 hp2 x2 lc
    generalize upd H1 l2 (HO.lst cs)=H2 at k2 hp2 x2
    refine ⟨_,rfl,p,_,_,_,6,rfl,hp2,by decide,by decide,fun v a3 b3 c3 v0 v6=>?_⟩
    have k3:Kp p H2 (upd H2 p (HO.lst [V.int a3,V.int b3,V.int c3])):=Kp.upd
    have hp3:(upd H2 p (HO.lst [V.int a3,V.int b3,V.int c3])) p=some (.lst [.int a3,.int b3,.int c3]):=upd_same
    generalize upd H2 p (HO.lst [V.int a3,V.int b3,V.int c3])=H3 at k3 hp3
    have lm:cs.length * v.toNat≤5:=Nat.le_trans (Nat.mul_le_mul c1 (Nat.le_refl _)) (by walk_at"q")
    refine ⟨l2,v,_,rfl,rfl,k3 _ _ x2 n2,by walk_at"q", by walk_at"q", lenLine (by walk_at"q"),fun l4 f4=>?_⟩
    obtain ⟨k4,hp4,x4,n4⟩:=fresh_step hp3 f4 (.lst (List.replicate v.toNat cs).flatten)
    generalize upd H3 l4 (HO.lst (List.replicate v.toNat cs).flatten)=H4 at k4 hp4 x4
    have k14:=Kp.trans k2 (Kp.trans k3 k4)
    have lf:(List.replicate v.toNat cs).flatten.length≤5:=by rw [len_rep,Nat.mul_comm];exact lm
    have lf2:(List.replicate v.toNat us2).flatten.length≤5:=by rw [len_rep,Nat.mul_comm,← lc];exact lm
    refine ⟨l,l4,_,_,rfl,rfl,k14 _ _ xl n,x4,lenLine (by walk_at"q"),fun l5 f5=>?_⟩
    obtain ⟨k5,hp5,x5,n5⟩:=fresh_step hp4 f5 (.lst (rs ++ (List.replicate v.toNat cs).flatten))
    exact hN _ _ ⟨l5,us ++ (List.replicate v.toNat us2).flatten,k',_,rfl,n5,Kp.trans kp (Kp.trans k14 k5),⟨_,_,_,hp5⟩,⟨_,x5,(rr.app (Refs.rep r2 v.toNat)).kp (Kp.trans k14 k5) hp⟩,ok.app (ok_rep (ok.sub sub2) _),by rw [List.length_append];walk_at"q", fun z=>by walk_at"q"⟩
   ·refine iteFd (no 10 c) ?_
    exact hN _ _ ⟨l,us,k',_,rfl,n,kp,pn,wl',ok,le,fun z=>un (by walk_at"q")⟩
  clear un wl' pn kp
  rintro σ H1 ⟨l,us,k',v7,rfl,n,kp,pn,wl',ok,le,un⟩
  refine seq_by (OtherJ p wide way lane far ws k H 12) (fun N hN=>?_) ?_
  ·refine ⟨_,rfl,rfl,_,rfl,?_⟩
   by_cases c:way=11
   ·obtain ⟨pa,pb,pc,hp⟩:=pn
    obtain ⟨rs,xl,rr⟩:=wl'
    have lr:=rr.len
    obtain ⟨lok,kle⟩:=h11 c
    obtain ⟨u1,u2⟩:=un (by walk_at"q")
    refine iteTd (by rw [c];decide) ?_
    refine ⟨_,rfl,_,rfl,_,_,rfl,rfl,p,_,_,_,k' + 1,rfl,hp,by walk_at"q", by walk_at"q", fun v a2 b2 c2 v0 v1=>?_⟩
    have k2:Kp p H1 (upd H1 p (HO.lst [V.int a2,V.int b2,V.int c2])):=Kp.upd
    have hp2:(upd H1 p (HO.lst [V.int a2,V.int b2,V.int c2])) p=some (.lst [.int a2,.int b2,.int c2]):=upd_same
    generalize upd H1 p (HO.lst [V.int a2,V.int b2,V.int c2])=H2 at k2 hp2
    have xl2:=k2 _ _ xl n
    have cb:=cut_both (rs:=rs) v0 (by walk_at"q")
    obtain ⟨us3,r3,sub3,_⟩:=rr.cut none (some v)
    obtain ⟨us6,r6,sub6,_⟩:=rr.cut (some v) none
    have l3:=r3.len
    have l6:=r6.len
    refine ⟨_,rfl,_,rfl,v,rfl,l,rs,rfl,SqL.of xl2,fun c3 f3=>?_⟩
    obtain ⟨k3,hp3,x3,n3⟩:=fresh_step hp2 f3 (.lst (cutV rs none (some v)))
    generalize cutV rs none (some v)=cs3 at cb r3 k3 hp3 x3 l3
    generalize upd H2 c3 (HO.lst cs3)=H3 at k3 hp3 x3
    refine ⟨_,rfl,_,rfl,lenLine (by show 2≤100000;decide),fun t4 f4=>?_⟩
    obtain ⟨k4,hp4,x4,n4⟩:=fresh_step hp3 f4 (.tup [V.int lane,V.int far])
    generalize upd H3 t4 (HO.tup [V.int lane,V.int far])=H4 at k4 hp4 x4
    refine ⟨lenLine (by show 1≤100000;decide),fun c5 f5=>?_⟩
    obtain ⟨k5,hp5,x5,n5⟩:=fresh_step hp4 f5 (.lst [V.ref t4])
    generalize upd H4 c5 (HO.lst [V.ref t4])=H5 at k5 hp5 x5
    have k35:=Kp.trans k4 k5
    refine ⟨c3,c5,_,_,rfl,rfl,k35 _ _ x3 n3,x5,lenLine (by show cs3.length + 1≤_;walk_at"q"),fun c6 f6=>?_⟩
    obtain ⟨k6,hp6,x6,n6⟩:=fresh_step hp5 f6 (.lst (cs3 ++ [V.ref t4]))
    generalize upd H5 c6 (HO.lst (cs3 ++ [V.ref t4]))=H6 at k6 hp6 x6
    have k26:=Kp.trans k3 (Kp.trans k35 k6)
    refine ⟨_,rfl,_,rfl,v,rfl,l,rs,rfl,SqL.of (k26 _ _ xl2 n),fun c7 f7=>?_⟩
    obtain ⟨k7,hp7,x7,n7⟩:=fresh_step hp6 f7 (.lst (cutV rs (some v) none))
    generalize cutV rs (some v) none=cs7 at cb r6 k7 hp7 x7 l6
    generalize upd H6 c7 (HO.lst cs7)=H7 at k7 hp7 x7
    refine ⟨c6,c7,_,_,rfl,rfl,k7 _ _ x6 n6,x7,lenLine (by rw [List.length_append];show cs3.length + 1 + _≤_;walk_at"q"),fun c8 f8=>?_⟩
    obtain ⟨k8,hp8,x8,n8⟩:=fresh_step hp7 f8 (.lst ((cs3 ++ [V.ref t4]) ++ cs7))
    generalize upd H7 c8 (HO.lst ((cs3 ++ [V.ref t4]) ++ cs7))=H8 at k8 hp8 x8
    refine ⟨_,rfl,_,_,rfl,rfl,?_⟩
    have k48:=Kp.trans k5 (Kp.trans k6 (Kp.trans k7 k8))
    have k18:=Kp.trans k2 (Kp.trans k3 (Kp.trans k4 k48))
    exact hN _ _ ⟨c8,(us3 ++ [(lane,far)]) ++ us6,k' + 1,_,rfl,n8,Kp.trans kp k18,⟨_,_,_,hp8⟩,⟨_,x8,((r3.kp k18 hp).app (.cons ⟨t4,rfl,k48 _ _ x4 n4⟩ .nil)).app (r6.kp k18 hp)⟩,((ok.sub sub3).app (WOk.one lok)).app (ok.sub sub6),by rw [List.length_append,List.length_append];show us3.length + 1 + _≤_;walk_at"q", fun z=>by walk_at"q"⟩
   ·refine iteFd (no 11 c) ?_
    exact hN _ _ ⟨l,us,k',_,rfl,n,kp,pn,wl',ok,le,fun z=>un (by walk_at"q")⟩
  clear un wl' pn kp
  rintro σ H1 ⟨l,us,k',v7,rfl,n,kp,pn,wl',ok,le,un⟩
  refine seq_by (OtherJ p wide way lane far ws k H 13) (fun N hN=>?_) ?_
  ·refine ⟨_,rfl,rfl,_,rfl,?_⟩
   by_cases c:way=12
   ·obtain ⟨pa,pb,pc,hp⟩:=pn
    obtain ⟨rs,xl,rr⟩:=wl'
    refine iteTd (by rw [c];decide) ?_
    refine ⟨_,rfl,_,rfl,k',rfl,l,rs,rfl,SqL.of xl,fun c3 f3=>?_⟩
    obtain ⟨us3,r3,sub3,le3⟩:=rr.cut none (some k')
    obtain ⟨k3,hp3,x3,n3⟩:=fresh_step hp f3 (.lst (cutV rs none (some k')))
    exact hN _ _ ⟨c3,us3,k',_,rfl,n3,Kp.trans kp k3,⟨_,_,_,hp3⟩,⟨_,x3,r3.kp k3 hp⟩,ok.sub sub3,by walk_at"q", fun z=>by walk_at"q"⟩
   ·refine iteFd (no 12 c) ?_
    exact hN _ _ ⟨l,us,k',_,rfl,n,kp,pn,wl',ok,le,fun z=>un (by walk_at"q")⟩
  clear un wl' pn kp
  rintro σ H1 ⟨l,us,k',v7,rfl,n,kp,pn,wl',ok,le,un⟩
  refine seq_by (OtherJ p wide way lane far ws k H 14) (fun N hN=>?_) ?_
  ·refine ⟨_,rfl,rfl,_,rfl,?_⟩
   by_cases c:way=13
   ·obtain ⟨pa,pb,pc,hp⟩:=pn
    obtain ⟨rs,xl,rr⟩:=wl'
    have lr:=rr.len
    have kl:=h13 c
    obtain ⟨u1,u2⟩:=un (by walk_at"q")
    refine iteTd (by rw [c];decide) ?_
    refine ⟨_,rfl,_,rfl,_,rfl,l,_,rfl,.inl (SqL.of xl),_,rfl,_,_,rfl,rfl,p,_,_,_,(rs.length:Int) - k',rfl,hp,by walk_at"q", by walk_at"q", fun v a2 b2 c2 v0 v1=>?_⟩
    have k2:Kp p H1 (upd H1 p (HO.lst [V.int a2,V.int b2,V.int c2])):=Kp.upd
    have hp2:(upd H1 p (HO.lst [V.int a2,V.int b2,V.int c2])) p=some (.lst [.int a2,.int b2,.int c2]):=upd_same
    generalize upd H1 p (HO.lst [V.int a2,V.int b2,V.int c2])=H2 at k2 hp2
    have xl2:=k2 _ _ xl n
    obtain ⟨us3,r3,sub3,le3⟩:=rr.cut none (some (k' + v))
    obtain ⟨us6,r6,sub6,le6⟩:=rr.cut (some (k' + v + 1)) none
    have l3:=r3.len
    have l6:=r6.len
    have ct:=cut_two (rs:=rs) (n:=k' + v) (by walk_at"q") (by walk_at"q")
    refine ⟨_,_,rfl,rfl,?_⟩
    refine ⟨_,rfl,_,rfl,k' + v,rfl,l,rs,rfl,SqL.of xl2,fun c3 f3=>?_⟩
    obtain ⟨k3,hp3,x3,n3⟩:=fresh_step hp2 f3 (.lst (cutV rs none (some (k' + v))))
    generalize cutV rs none (some (k' + v))=cs3 at ct r3 k3 hp3 x3 l3
    generalize upd H2 c3 (HO.lst cs3)=H3 at k3 hp3 x3
    refine ⟨_,rfl,_,rfl,_,_,rfl,rfl,k' + v + 1,rfl,l,rs,rfl,SqL.of (k3 _ _ xl2 n),fun c7 f7=>?_⟩
    obtain ⟨k7,hp7,x7,n7⟩:=fresh_step hp3 f7 (.lst (cutV rs (some (k' + v + 1)) none))
    generalize cutV rs (some (k' + v + 1)) none=cs7 at ct r6 k7 hp7 x7 l6
    generalize upd H3 c7 (HO.lst cs7)=H7 at k7 hp7 x7
    refine ⟨c3,c7,_,_,rfl,rfl,k7 _ _ x3 n3,x7,lenLine (by walk_at"q"),fun c8 f8=>?_⟩
    obtain ⟨k8,hp8,x8,n8⟩:=fresh_step hp7 f8 (.lst (cs3 ++ cs7))
    have k18:=Kp.trans k2 (Kp.trans k3 (Kp.trans k7 k8))
    exact hN _ _ ⟨c8,us3 ++ us6,k',_,rfl,n8,Kp.trans kp k18,⟨_,_,_,hp8⟩,⟨_,x8,(r3.app r6).kp k18 hp⟩,(ok.sub sub3).app (ok.sub sub6),by rw [List.length_append];walk_at"q", fun z=>by walk_at"q"⟩
   ·refine iteFd (no 13 c) ?_
    exact hN _ _ ⟨l,us,k',_,rfl,n,kp,pn,wl',ok,le,fun z=>un (by walk_at"q")⟩
  clear un wl' pn kp
  rintro σ H1 ⟨l,us,k',v7,rfl,n,kp,⟨pa,pb,pc,hp⟩,wl',ok,le,un⟩
  refine ⟨_,rfl,_,rfl,lenLine (by show 2≤100000;decide),fun T2 f2=>?_⟩
  have s2:Same H1 (upd H1 T2 (HO.tup [V.ref l,V.int k'])):=same_new f2 _
  exact q T2 l us k' _ n (Kp.trans kp (Kp.same s2)) ⟨_,_,_,s2 _ _ hp⟩ upd_same (wl'.same s2) ok le
theorem sc_drawn:FnScope ["_law_pen_here", "_law_wide", "_law_wickets_here", "_law_paper_here", "_law_order_here", "_law_begun", "_law_one", "_law_other", "_law_k", "_law_p", "_law_q", "_law_way", "_law_at", "_law_mine", "_law_yours"] ["_law_pen_here", "_law_wide"] (defScope s_drawn):=⟨rfl,rfl,rfl,by decide +kernel,rfl,by decide +kernel,by decide +kernel⟩
theorem cut_mapI (A:List Int) (lo hi:Option Int):∃ B:List Int,cutV (A.map V.int) lo hi=B.map V.int:=by
 unfold cutV
 rw [← List.map_drop,← List.map_take]
 exact ⟨_,rfl⟩
theorem lanes_far {k:Nat} (h:k≤2) {os:List Int} (o:IsOrd (pw (k + 1)) os):LaneOk (pw (k + 1)) ((restr os (rngL 0 (pw k))).getD 0 0,(restr os (rngL (pw k) (pw (k + 1)))).getD ((restr os (rngL (pw k) (pw (k + 1)))).length - 1) 0):=by
 have kc:k=0∨k=1∨k=2:=by walk_at"q"
 rcases kc with z | z | z <;> subst z
 ·exact ren_ok o (w:=(0,1)) (by decide)
 ·exact ren_ok o (w:=(0,3)) (by decide)
 ·exact ren_ok o (w:=(0,7)) (by decide)
theorem fold_more {k:Nat} (h:k≤2):2 * ((foldM k).length:Int) < (foldM (k + 1)).length:=by
 have kc:k=0∨k=1∨k=2:=by walk_at"q"
 rcases kc with z | z | z <;> subst z <;> decide
theorem half_n {k:Nat} (h:k≤2):(rngL 0 (pw k)).length=(pw k).toNat∧(rngL (pw k) (pw (k + 1))).length=(pw k).toNat:=by
 have kc:k=0∨k=1∨k=2:=by walk_at"q"
 rcases kc with z | z | z <;> subst z <;> decide
theorem half_in {k:Nat} (h:k≤2):(∀ x∈rngL 0 (pw k),0≤x∧x < pw (k + 1))∧(∀ x∈rngL (pw k) (pw (k + 1)),0≤x∧x < pw (k + 1)):=by
 have kc:k=0∨k=1∨k=2:=by walk_at"q"
 rcases kc with z | z | z <;> subst z <;> decide
def DrawJ (p:Addr) (wide way:Int) (lw t lo lb:Addr) (k0:Int) (A0 B0:List Int) (H:Hp) (m:Int) (σ:St) (Hf:Hp):Prop :=
 ∃ (k':Int) (t1 t2:Addr) (A B:List Int) (y z:V) (py pz:Pap) (v12 v13 v14:Option V),σ=[some (.ref p),some (.int wide),some (.ref lw),some (.ref t),some (.ref lo),some (.ref lb),some (.ref t1),some (.ref t2),some (.int k'),some y,some z,some (.int way),v12,v13,v14]∧Kp p H Hf∧Pen Hf p∧Hf t1=some (.tup (A.map V.int))∧Hf t2=some (.tup (B.map V.int))∧1≤A.length∧A.length≤8∧B.length=A.length∧0≤k'∧k'≤100∧PapAt Hf y py∧py.dep≤2∧PapAt Hf z pz∧pz.dep≤2∧(m≤way→k'=k0∧A=A0∧B=B0)
theorem ok_drawn (T:Bn mg) (F:Here K mg "_law_drawn" s_drawn f fd) (C_law_take:Callee P w K mg base "_law_take" 1 ["_law_pen_here", "_law_size"] spTake) (C_law_folded:Callee P w K mg base "_law_folded" 6 ["_law_wide"] (spFold 4)) (C_law_paper:Callee P w K mg base "_law_paper" 12 ["_law_wide"] (spPaper 4)) (C_law_order:Callee P w K mg base "_law_order" 2 ["_law_pen_here", "_law_wide"] spOrder) (C_law_exchanged:Callee P w K mg base "_law_exchanged" 1 ["_law_paper_here"] spExch) (C_law_other_net:Callee P w K mg base "_law_other_net" 4 ["_law_pen_here", "_law_wide", "_law_way", "_law_wickets_here", "_law_k", "_law_lane", "_law_far"] spOther) :
  FnOk P w K mg base CX0 13 f fd ["_law_pen_here", "_law_wide"] spDrawn5:=by
 refine F.fn.ok sc_drawn (fun vs H Q E h=>?_) (fun cdv A outer s H vs Q E hr h=>?_)
 ·obtain ⟨p,k,rfl,_⟩:=h
  rfl
 ·obtain ⟨p,k,rfl,k3,⟨pa,pb,pc,hp⟩,q⟩:=h
  refine ⟨_,(pss_cons (ps_set (i:=2) sc_drawn.nd rfl (by walk_at"r") (pe_callC C_law_folded (hr.mono (by walk_at"d")) rfl (pa_cons (pv 1) pa_nil)))
  (pss_cons (ps_set (i:=3) sc_drawn.nd rfl (by walk_at"r") (pe_callC C_law_paper (hr.mono (by walk_at"d")) rfl (pa_cons (pv 1) pa_nil)))
  (pss_cons (ps_if (pt_cmpR op_eq (pv 1) pe_int (nomark _))
  (pss_one (ps_ret (pe_tup (pa_cons (pv 2) (pa_cons (pv 3) pa_nil)))))
  pss_nil)
  (pss_cons (ps_set (i:=4) sc_drawn.nd rfl (by walk_at"r") (pe_callTy (call_listRng rfl) rfl T.n_list boot_listT (pa_cons (pe_callTy call_rng1 rfl T.n_range boot_rangeT (pa_cons (pv 1) pa_nil)) pa_nil)))
  (pss_cons (ps_if (pt_cmpR op_eq (pe_callC C_law_take (hr.mono (by walk_at"d")) rfl (pa_cons (pv 0) (pa_cons pe_int pa_nil))) pe_int (nomark _))
  (pss_one (ps_set (i:=4) sc_drawn.nd rfl (by walk_at"r") (pe_callC C_law_order (hr.mono (by walk_at"d")) rfl (pa_cons (pv 0) (pa_cons (pv 1) pa_nil)))))
  pss_nil)
  (pss_cons (ps_setComp (i:=5) sc_drawn.nd rfl (by walk_at"r") ["_law_first", "_law_second"] [("_law_order_here", 4)] rfl (pi_list (pe_slice sl_list (pv 2) po_none (po_some (pe_ix ix_tup (pv 3) pe_int (fun _ _=>rfl))))) (fun _ _ _ _ _ _=>by exact (pg_tupK K rfl (n:=2) rfl (pgs_cons (pg_name (i:=0) (show List.Nodup (["_law_first", "_law_second", "_law_order_here"]:List Str) by decide +kernel) rfl (by walk_at"r")) (pgs_cons (pg_name (i:=1) (show List.Nodup (["_law_first", "_law_second", "_law_order_here"]:List Str) by decide +kernel) rfl (by walk_at"r")) pgs_nil)))) (fun _ _ _ _ _ _=>by exact pts_nil) (fun _ _ _ _ _ _=>by exact (pe_tup (pa_cons (pe_ix (ix_listK K rfl) (pv 2) (pv 0) (fun _ _=>rfl)) (pa_cons (pe_ix (ix_listK K rfl) (pv 2) (pv 1) (fun _ _=>rfl)) pa_nil)))))
  (pss_cons (ps_set (i:=2) sc_drawn.nd rfl (by walk_at"r") (pe_op op_cat (pv 5) (pe_comp ["_law_first", "_law_second"] [("_law_order_here", 4)] rfl (pi_list (pe_slice sl_list (pv 2) (po_some (pe_ix ix_tup (pv 3) pe_int (fun _ _=>rfl))) po_none)) (fun _ _ _ _ _ _=>by exact (pg_tupK K rfl (n:=2) rfl (pgs_cons (pg_name (i:=0) (show List.Nodup (["_law_first", "_law_second", "_law_order_here"]:List Str) by decide +kernel) rfl (by walk_at"r")) (pgs_cons (pg_name (i:=1) (show List.Nodup (["_law_first", "_law_second", "_law_order_here"]:List Str) by decide +kernel) rfl (by walk_at"r")) pgs_nil)))) (fun _ _ _ _ _ _=>by exact pts_nil) (fun _ _ _ _ _ _=>by exact (pe_tup (pa_cons (pe_ix (ix_listK K rfl) (pv 2) (pv 0) (fun _ _=>rfl)) (pa_cons (pe_ix (ix_listK K rfl) (pv 2) (pv 1) (fun _ _=>rfl)) pa_nil)))))))
  (pss_cons (ps_set (i:=6) sc_drawn.nd rfl (by walk_at"r") (pe_callTy call_tuple_of rfl T.n_tuple boot_tupleT (pa_cons (pe_comp ["_law_lane"] [("_law_order_here", 4)] rfl (pi_tup (pe_ix ix_tup (pv 3) pe_int (fun _ _=>rfl))) (fun _ _ _ _ _ _=>by exact (pg_name (i:=0) (show List.Nodup (["_law_lane", "_law_order_here"]:List Str) by decide +kernel) rfl (by walk_at"r"))) (fun _ _ _ _ _ _=>by exact pts_nil) (fun _ _ _ _ _ _=>by exact (pe_ix (ix_listK K rfl) (pv 1) (pv 0) (fun _ _=>rfl)))) pa_nil)))
  (pss_cons (ps_set (i:=7) sc_drawn.nd rfl (by walk_at"r") (pe_callTy call_tuple_of rfl T.n_tuple boot_tupleT (pa_cons (pe_comp ["_law_lane"] [("_law_order_here", 4)] rfl (pi_tup (pe_ix ix_tup (pv 3) pe_int (fun _ _=>rfl))) (fun _ _ _ _ _ _=>by exact (pg_name (i:=0) (show List.Nodup (["_law_lane", "_law_order_here"]:List Str) by decide +kernel) rfl (by walk_at"r"))) (fun _ _ _ _ _ _=>by exact pts_nil) (fun _ _ _ _ _ _=>by exact (pe_ix (ix_listK K rfl) (pv 1) (pv 0) (fun _ _=>rfl)))) pa_nil)))
  (pss_cons (ps_par3 (i:=8) (j:=9) (l:=10) rfl sc_drawn.nd rfl rfl rfl (by decide) (by decide) (by decide) rfl rfl rfl (pa_cons (pe_ix ix_tup (pv 3) pe_int (fun _ _=>rfl)) (pa_cons (pe_ix ix_tup (pv 3) pe_int (fun _ _=>rfl)) (pa_cons (pe_ix ix_tup (pv 3) pe_int (fun _ _=>rfl)) pa_nil))) (by first | rfl | with_unfolding_all rfl))
  (pss_cons (ps_set (i:=11) sc_drawn.nd rfl (by walk_at"r") (pe_callC C_law_take (hr.mono (by walk_at"d")) rfl (pa_cons (pv 0) (pa_cons pe_int pa_nil))))
  (pss_cons (ps_if (pt_cmpR op_eq (pv 11) pe_int (nomark _))
  (pss_one (ps_set (i:=8) sc_drawn.nd rfl (by walk_at"r") (pe_callB (call_max2 rfl) rfl T.n_max PyProof.Rows.boot_max (pa_cons pe_int (pa_cons (pe_op op_add (pv 8) (pe_ix ix_list (pe_lst (pa_cons pe_int (pa_cons (pe_un un_neg pe_int) (pa_cons pe_int (pa_cons (pe_un un_neg pe_int) pa_nil))))) (pe_callC C_law_take (hr.mono (by walk_at"d")) rfl (pa_cons (pv 0) (pa_cons pe_int pa_nil))) (fun _ _=>rfl))) pa_nil)))))
  pss_nil)
  (pss_cons (ps_if (pt_cmpR op_eq (pv 11) pe_int (nomark _))
  (pss_one (ps_par (i:=6) (j:=7) rfl sc_drawn.nd rfl rfl (by decide) rfl rfl (pa_cons (pv 7) (pa_cons (pv 6) pa_nil)) (by first | rfl | with_unfolding_all rfl)))
  pss_nil)
  (pss_cons (ps_if (pt_cmpR op_eq (pv 11) pe_int (nomark _))
  (pss_cons (ps_set (i:=12) sc_drawn.nd rfl (by walk_at"r") (pe_callC C_law_take (hr.mono (by walk_at"d")) rfl (pa_cons (pv 0) (pa_cons (pe_callB call_len_seq rfl T.n_len PySem.boot_len (pa_cons (pv 6) pa_nil)) pa_nil))))
  (pss_cons (ps_par (i:=13) (j:=14) rfl sc_drawn.nd rfl rfl (by decide) rfl rfl (pa_cons (pe_ix ix_tup (pv 6) (pv 12) (fun _ _=>rfl)) (pa_cons (pe_ix ix_tup (pv 7) (pv 12) (fun _ _=>rfl)) pa_nil)) (by first | rfl | with_unfolding_all rfl))
  (pss_cons (ps_set (i:=6) sc_drawn.nd rfl (by walk_at"r") (pe_op op_catA (pe_op op_catA (pe_slice sl_tupU (pv 6) po_none (po_some (pv 12))) (pe_tup (pa_cons (pv 14) pa_nil))) (pe_slice sl_tupU (pv 6) (po_some (pe_op op_add (pv 12) pe_int)) po_none)))
  (pss_one (ps_set (i:=7) sc_drawn.nd rfl (by walk_at"r") (pe_op op_catA (pe_op op_catA (pe_slice sl_tupU (pv 7) po_none (po_some (pv 12))) (pe_tup (pa_cons (pv 13) pa_nil))) (pe_slice sl_tupU (pv 7) (po_some (pe_op op_add (pv 12) pe_int)) po_none)))))))
  pss_nil)
  (pss_cons (ps_if (pt_cmpR op_eq (pv 11) pe_int (nomark _))
  (pss_one (ps_set (i:=6) sc_drawn.nd rfl (by walk_at"r") (pe_sliceRevT (pv 6) (pe_un un_neg pe_int))))
  pss_nil)
  (pss_cons (ps_if (pt_cmpR op_eq (pv 11) pe_int (nomark _))
  (pss_one (ps_set (i:=9) sc_drawn.nd rfl (by walk_at"r") (pe_ix ix_list (pe_lst (pa_cons (pe_tup (pa_cons pe_str pa_nil)) (pa_cons (pe_tup (pa_cons pe_str pa_nil)) (pa_cons (pe_callC C_law_exchanged (hr.mono (by walk_at"d")) rfl (pa_cons (pv 9) pa_nil)) pa_nil)))) (pe_callC C_law_take (hr.mono (by walk_at"d")) rfl (pa_cons (pv 0) (pa_cons pe_int pa_nil))) (fun _ _=>rfl))))
  pss_nil)
  (pss_cons (ps_if (pt_cmpR op_eq (pv 11) pe_int (nomark _))
  (pss_one (ps_set (i:=10) sc_drawn.nd rfl (by walk_at"r") (pe_ix ix_list (pe_lst (pa_cons (pe_tup (pa_cons pe_str pa_nil)) (pa_cons (pe_tup (pa_cons pe_str pa_nil)) (pa_cons (pe_callC C_law_exchanged (hr.mono (by walk_at"d")) rfl (pa_cons (pv 10) pa_nil)) pa_nil)))) (pe_callC C_law_take (hr.mono (by walk_at"d")) rfl (pa_cons (pv 0) (pa_cons pe_int pa_nil))) (fun _ _=>rfl))))
  pss_nil)
  (pss_cons (ps_asg (pe_callC C_law_other_net (hr.mono (by walk_at"d")) rfl (pa_cons (pv 0) (pa_cons (pv 1) (pa_cons (pv 11) (pa_cons (pv 2) (pa_cons (pv 8) (pa_cons (pe_ix ix_tup (pv 6) pe_int (fun _ _=>rfl)) (pa_cons (pe_ix ix_tup (pv 7) (pe_un un_neg pe_int) (fun _ _=>rfl)) pa_nil)))))))) (pg_tup rfl (pgs_cons (pg_name (i:=2) sc_drawn.nd rfl (by walk_at"r")) (pgs_cons (pg_name (i:=8) sc_drawn.nd rfl (by walk_at"r")) pgs_nil))))
  (pss_one (ps_ret (pe_tup (pa_cons (pv 2) (pa_cons (pe_tup (pa_cons pe_str (pa_cons (pv 8) (pa_cons (pv 6) (pa_cons (pv 7) (pa_cons (pv 9) (pa_cons (pv 10) pa_nil))))))) pa_nil))))))))))))))))))))))),?_⟩
  try dsimp only [gName]
  have w1:=pw_pos k
  have w8:=pw_le k3
  refine ⟨_,rfl,k,rfl,by walk_at"q", k3,fun lf H1 ff s1 ⟨rf,xf,rrf⟩=>?_⟩
  have nlf:lf≠p:=Ne.symm (ne_of_none hp ff)
  refine ⟨_,rfl,k,rfl,by walk_at"q", k3,fun x H2 s2 fx=>?_⟩
  refine ⟨_,rfl,rfl,_,rfl,?_⟩
  cases k with
  | zero =>
   refine iteTd (by decide) ?_
   refine ⟨_,rfl,_,rfl,lenLine (by show 2≤100000;decide),fun T3 f3=>?_⟩
   have s3:Same H2 (upd H2 T3 (HO.tup [V.ref lf,x])):=same_new f3 _
   have s03:=Same.trans s1 (Same.trans s2 s3)
   exact q T3 lf x _ _ _ nlf (Kp.same s03) ⟨_,_,_,s03 _ _ hp⟩ upd_same ⟨rf,(Same.trans s2 s3) _ _ xf,rrf.same (Same.trans s2 s3)⟩ (fold_all (k:=0) (by decide)).1 (by decide) ((fx.at_ (by decide)).same s3) (by decide)
  | succ k =>
   have k2:k≤2:=by walk_at"q"
   have ps:=pw_succ k
   have pp1:=pw_pos k
   refine iteFd (by rw [decide_eq_true_iff];intro z;have:=V.int.inj z;walk_at"q") ?_
   have fx':PapAt H2 x (.halves (2 * ((foldM k).length:Int)) (rngL 0 (pw k)) (rngL (pw k) (pw (k + 1))) (papM k) (papM k)):=fx.at_ (by walk_at"q")
   obtain ⟨t,o,u,y,z,rfl,ht,ho,hu,la,lb,hy,hz⟩:=fx'
   clear fx
   obtain ⟨ok0,len0⟩:=fold_all k3
   have lrf:=rrf.len
   have fm:=fold_more k2
   refine ⟨_,rfl,_,rfl,fun r fr=>?_⟩
   obtain ⟨H3,e_,s3,x3⟩:=nw fr (HO.rng 0 (pw (k + 1)));rw [← e_];clear e_
   refine ⟨r,0,pw (k + 1),rfl,x3,by walk_at"q", by walk_at"q", by walk_at"q", by walk_at"q", by walk_at"q", fun l4 f4=>?_⟩
   obtain ⟨H4,e_,s4,x4⟩:=nw f4 (HO.lst ((rngL 0 (pw (k + 1))).map V.int));rw [← e_];clear e_
   have s24:=Same.trans s3 s4
   have s14:=Same.trans s2 s24
   have s04:=Same.trans s1 s14
   have hp4:=s04 _ _ hp
   have n4:l4≠p:=fun e=>by rw [e,(Same.trans s1 (Same.trans s2 s3)) _ _ hp] at f4;cases f4
   have xf4:=s14 _ _ xf
   have rr4:=rrf.same s14
   have ht4:=s24 _ _ ht
   have ho4:=s24 _ _ ho
   have hu4:=s24 _ _ hu
   have hy4:=hy.same s24
   have hz4:=hz.same s24
   clear xf rrf ht ho hu hy hz x3 s3 s4 f4 fr s24 s14 s2 s1 ff
   try dsimp only [gName]
   refine seq_by (fun σ Hf=>∃ (lo:Addr) (os:List Int),σ=[some (.ref p),some (.int (pw (k + 1))),some (.ref lf),some (.ref t),some (.ref lo),none,none,none,none,none,none,none,none,none,none]∧lo≠p∧Kp p H4 Hf∧Pen Hf p∧Hf lo=some (.lst (os.map V.int))∧IsOrd (pw (k + 1)) os) (fun N hN=>?_) ?_
   ·refine ⟨_,rfl,p,_,_,_,4,rfl,hp4,by decide,by decide,fun v a5 b5 c5 v0 v4=>?_⟩
    have k5:Kp p H4 (upd H4 p (HO.lst [V.int a5,V.int b5,V.int c5])):=Kp.upd
    have hp5:(upd H4 p (HO.lst [V.int a5,V.int b5,V.int c5])) p=some (.lst [.int a5,.int b5,.int c5]):=upd_same
    generalize upd H4 p (HO.lst [V.int a5,V.int b5,V.int c5])=H5 at k5 hp5
    refine ⟨rfl,_,rfl,?_⟩
    refine ite2 (fun g=>?_) (fun g=>?_)
    ·refine ⟨_,rfl,_,rfl,p,_,rfl,⟨_,_,_,hp5⟩,w1,w8,fun l6 os H6 f6 k6 pn6 x6 io=>?_⟩
     exact hN _ _ ⟨l6,os,rfl,Ne.symm (ne_of_none hp5 f6),Kp.trans k5 k6,pn6,x6,io⟩
    ·exact hN _ _ ⟨l4,rngL 0 (pw (k + 1)),rfl,n4,k5,⟨_,_,_,hp5⟩,k5 _ _ x4 n4,ord_rng (by walk_at"q")⟩
   rintro σ H5 ⟨lo,os,rfl,nlo,k5,⟨a5,b5,c5,hp5⟩,x5,io⟩
   have kt5:KT H4 H5:=KT.kp k5 hp4 (KT.refl _)
   have lo5:=io.len
   have xf5:=k5 _ _ xf4 nlf
   have rr5:=rr4.kt kt5
   have ht5:=kt5 _ _ ht4
   have ho5:=kt5 _ _ ho4
   have hu5:=kt5 _ _ hu4
   have hy5:=hy4.kt kt5
   have hz5:=hz4.kt kt5
   have kp5:Kp p H H5:=Kp.trans (Kp.same s04) k5
   clear kt5 k5 xf4 rr4 ht4 ho4 hu4 hy4 hz4 hp4 x4 s04
   have cb:=cut_both (rs:=rf) (n:=2 * ((foldM k).length:Int)) (by walk_at"q") (by walk_at"q")
   obtain ⟨us1,r1,sub1,_⟩:=rr5.cut none (some (2 * ((foldM k).length:Int)))
   obtain ⟨us2,r2,sub2,_⟩:=rr5.cut (some (2 * ((foldM k).length:Int))) none
   have lu1:=r1.len
   have lu2:=r2.len
   have o1:=ok0.sub sub1
   have o2:=ok0.sub sub2
   refine ⟨_,rfl,_,rfl,t,_,_,_,rfl,rfl,SqT.of ht5,rfl,2 * ((foldM k).length:Int),rfl,lf,rf,rfl,SqL.of xf5,fun c6 f6=>?_⟩
   generalize e6:cutV rf none (some (2 * ((foldM k).length:Int)))=cs1 at cb r1 lu1
   obtain ⟨H6,e_,s6,x6⟩:=nw f6 (HO.lst cs1);rw [← e_];clear e_
   refine ⟨c6,rfl,⟨_,SqL.of x6⟩,fun l7 f7=>?_⟩
   refine comp_list (xs:=cs1) (fun i ys Hc=>Same H6 Hc∧Hc l7=some (.lst ys)∧Refs Hc ys ((us1.take i).map (renM os))) ⟨Same.put f7 (Same.refl H6),upd_same,.nil⟩ (lenLine (by walk_at"q")) (fun i ys Hc hi ⟨sc,e1,r1⟩=>⟨SqL.of (sc _ _ x6),e1,by have:=r1.len;simp at this;walk_at"q"⟩) ?_ ?_
   ·rintro i x ys Hc hx ⟨sc,e1,rc⟩
    obtain ⟨w0,t0,hw0,rfl,ht0⟩:=r1.get hx
    obtain ⟨q1,q2,q3,q4,q5⟩:=WOk.mem o1 hw0
    have s5c:=Same.trans s6 sc
    refine ⟨t0,_,rfl,SqT.of (s5c _ _ ht0),rfl,?_⟩
    refine ⟨_,_,rfl,_,_,rfl,rfl,?_⟩
    refine ⟨⟨.inl rfl,.inl rfl,.inr rfl,trivial⟩,?_⟩
    refine tru_if ?_
    refine ⟨_,rfl,_,rfl,lo,_,_,_,rfl,rfl,SqL.of (s5c _ _ x5),atI_int q1 (by walk_at"q"),?_⟩
    refine ⟨_,rfl,_,rfl,lo,_,_,_,rfl,rfl,SqL.of (s5c _ _ x5),atI_int q3 (by walk_at"q"),?_⟩
    refine ⟨lenLine (by show 2≤100000;decide),fun u0 hu0=>?_⟩
    have nul:u0≠l7:=fun z=>by rw [z,e1] at hu0;cases hu0
    refine ⟨by rw [upd_ne (Ne.symm nul)];exact e1,Same.put f7 (Same.trans sc (same_new hu0 _)),upd_same,?_⟩
    rw [take_snoc hw0,List.map_append]
    have kt0:KT Hc (upd (upd Hc u0 (HO.tup [V.int (os.getD w0.1.toNat 0),V.int (os.getD w0.2.toNat 0)])) l7 (HO.lst (ys ++ [V.ref u0]))):=KT.lst ((upd_ne (Ne.symm nul)).trans e1) (KT.new hu0 (KT.refl _))
    exact (rc.kt kt0).app (.cons ⟨u0,rfl,(upd_ne nul).trans upd_same⟩ .nil)
   rintro rs7 H7 ⟨s7,x7,r7⟩
   rw [lu1,List.take_length] at r7
   have s57:=Same.trans s6 s7
   have ht7:=s57 _ _ ht5
   refine ⟨_,rfl,_,rfl,_,rfl,t,_,_,_,rfl,rfl,SqT.of ht7,rfl,2 * ((foldM k).length:Int),rfl,lf,rf,rfl,SqL.of (s57 _ _ xf5),fun c8 f8=>?_⟩
   generalize e8:cutV rf (some (2 * ((foldM k).length:Int))) none=cs2 at cb r2 lu2
   obtain ⟨H8,e_,s8,x8⟩:=nw f8 (HO.lst cs2);rw [← e_];clear e_
   have s58:=Same.trans s57 s8
   refine ⟨c8,rfl,⟨_,SqL.of x8⟩,fun l9 f9=>?_⟩
   refine comp_list (xs:=cs2) (fun i ys Hc=>Same H8 Hc∧Hc l9=some (.lst ys)∧Refs Hc ys ((us2.take i).map (renM os))) ⟨Same.put f9 (Same.refl H8),upd_same,.nil⟩ (lenLine (by walk_at"q")) (fun i ys Hc hi ⟨sc,e1,r1⟩=>⟨SqL.of (sc _ _ x8),e1,by have:=r1.len;simp at this;walk_at"q"⟩) ?_ ?_
   ·rintro i x ys Hc hx ⟨sc,e1,rc⟩
    obtain ⟨w0,t0,hw0,rfl,ht0⟩:=r2.get hx
    obtain ⟨q1,q2,q3,q4,q5⟩:=WOk.mem o2 hw0
    have s5c:=Same.trans s58 sc
    refine ⟨t0,_,rfl,SqT.of (s5c _ _ ht0),rfl,?_⟩
    refine ⟨_,_,rfl,_,_,rfl,rfl,?_⟩
    refine ⟨⟨.inl rfl,.inl rfl,.inr rfl,trivial⟩,?_⟩
    refine tru_if ?_
    refine ⟨_,rfl,_,rfl,lo,_,_,_,rfl,rfl,SqL.of (s5c _ _ x5),atI_int q1 (by walk_at"q"),?_⟩
    refine ⟨_,rfl,_,rfl,lo,_,_,_,rfl,rfl,SqL.of (s5c _ _ x5),atI_int q3 (by walk_at"q"),?_⟩
    refine ⟨lenLine (by show 2≤100000;decide),fun u0 hu0=>?_⟩
    have nul:u0≠l9:=fun z=>by rw [z,e1] at hu0;cases hu0
    refine ⟨by rw [upd_ne (Ne.symm nul)];exact e1,Same.put f9 (Same.trans sc (same_new hu0 _)),upd_same,?_⟩
    rw [take_snoc hw0,List.map_append]
    have kt0:KT Hc (upd (upd Hc u0 (HO.tup [V.int (os.getD w0.1.toNat 0),V.int (os.getD w0.2.toNat 0)])) l9 (HO.lst (ys ++ [V.ref u0]))):=KT.lst ((upd_ne (Ne.symm nul)).trans e1) (KT.new hu0 (KT.refl _))
    exact (rc.kt kt0).app (.cons ⟨u0,rfl,(upd_ne nul).trans upd_same⟩ .nil)
   rintro rs9 H9 ⟨s9,x9,r9⟩
   rw [lu2,List.take_length] at r9
   have s79:=Same.trans s8 s9
   have l7r:=r7.len
   have l9r:=r9.len
   rw [List.length_map] at l7r l9r
   refine ⟨l7,l9,_,_,rfl,rfl,s79 _ _ x7,x9,lenLine (by walk_at"q"),fun lw fw=>?_⟩
   obtain ⟨HA,e_,sA,xA⟩:=nw fw (HO.lst (rs7 ++ rs9));rw [← e_];clear e_
   have rA:Refs HA (rs7 ++ rs9) (us1.map (renM os) ++ us2.map (renM os)):=((r7.same s79).app r9).same sA
   have okA:WOk (pw (k + 1)) (us1.map (renM os) ++ us2.map (renM os)):=(ren_wok io o1).app (ren_wok io o2)
   have lenA:(us1.map (renM os) ++ us2.map (renM os)).length=(foldM (k + 1)).length:=by
    rw [List.length_append,List.length_map,List.length_map];walk_at"q"
   generalize us1.map (renM os) ++ us2.map (renM os)=ws at rA okA lenA
   have s5A:=Same.trans s57 (Same.trans s79 sA)
   have nlw:lw≠p:=fun e=>by rw [e,(Same.trans s57 s79) _ _ hp5] at fw;cases fw
   have kpA:Kp p H HA:=Kp.trans kp5 (Kp.same s5A)
   have hpA:=s5A _ _ hp5
   have x5A:=s5A _ _ x5
   have htA:=s5A _ _ ht5
   have hoA:=s5A _ _ ho5
   have huA:=s5A _ _ hu5
   have hyA:=hy5.same s5A
   have hzA:=hz5.same s5A
   clear xf5 rr5 ht5 ho5 hu5 hy5 hz5 hp5 x5 s5A s57 s58 s6 s7 s8 s9 s79 sA r7 r9 r1 r2 x6 x7 x8 x9 ht7 kp5 f6 f7 f8 f9 fw
   obtain ⟨hn1,hn2⟩:=half_n k2
   obtain ⟨in1,in2⟩:=half_in k2
   refine ⟨_,rfl,t,_,_,_,rfl,rfl,SqT.of htA,rfl,o,rfl,⟨_,SqT.of hoA⟩,fun lB fB=>?_⟩
   refine comp_tup (xs:=(rngL 0 (pw k)).map V.int) (fun i ys Hc=>Same HA Hc∧Hc lB=some (.lst ys)∧ys=(restr os ((rngL 0 (pw k)).take i)).map V.int) ⟨Same.put fB (Same.refl HA),upd_same,rfl⟩ (lenLine (by rw [List.length_map];walk_at"q")) (fun i ys Hc hi ⟨sc,e1,r1⟩=>⟨SqT.of (sc _ _ hoA),e1,by rw [r1,List.length_map,restr_len,List.length_take];walk_at"q"⟩) ?_ ?_
   ·rintro i x ys Hc hx ⟨sc,e1,rfl⟩
    obtain ⟨v,hv,rfl⟩:=int_item hx
    obtain ⟨v0,v1⟩:=in1 v (List.mem_of_getElem? hv)
    refine ⟨⟨.inl rfl,.inr rfl,trivial⟩,tru_if ?_⟩
    refine ⟨_,rfl,_,rfl,lo,_,_,_,rfl,rfl,SqL.of (sc _ _ x5A),atI_int v0 (by walk_at"q"),e1,Same.put fB sc,upd_same,?_⟩
    rw [take_snoc hv]
    unfold restr
    rw [List.map_append,List.map_append]
    rfl
   rintro ysB HB ⟨sB,xB,rfl⟩
   rw [List.length_map,List.take_length] at xB
   refine ⟨lB,_,rfl,.inl ⟨SqL.of xB,fun t1 f1=>?_⟩⟩
   obtain ⟨HC,e_,sC,xC⟩:=nw f1 (HO.tup ((restr os (rngL 0 (pw k))).map V.int));rw [← e_];clear e_
   have sAC:=Same.trans sB sC
   refine ⟨_,rfl,t,_,_,_,rfl,rfl,SqT.of (sAC _ _ htA),rfl,u,rfl,⟨_,SqT.of (sAC _ _ huA)⟩,fun lD fD=>?_⟩
   refine comp_tup (xs:=(rngL (pw k) (pw (k + 1))).map V.int) (fun i ys Hc=>Same HC Hc∧Hc lD=some (.lst ys)∧ys=(restr os ((rngL (pw k) (pw (k + 1))).take i)).map V.int) ⟨Same.put fD (Same.refl HC),upd_same,rfl⟩ (lenLine (by rw [List.length_map];walk_at"q")) (fun i ys Hc hi ⟨sc,e1,r1⟩=>⟨SqT.of ((Same.trans sAC sc) _ _ huA),e1,by rw [r1,List.length_map,restr_len,List.length_take];walk_at"q"⟩) ?_ ?_
   ·rintro i x ys Hc hx ⟨sc,e1,rfl⟩
    obtain ⟨v,hv,rfl⟩:=int_item hx
    obtain ⟨v0,v1⟩:=in2 v (List.mem_of_getElem? hv)
    refine ⟨⟨.inl rfl,.inr rfl,trivial⟩,tru_if ?_⟩
    refine ⟨_,rfl,_,rfl,lo,_,_,_,rfl,rfl,SqL.of ((Same.trans sAC sc) _ _ x5A),atI_int v0 (by walk_at"q"),e1,Same.put fD sc,upd_same,?_⟩
    rw [take_snoc hv]
    unfold restr
    rw [List.map_append,List.map_append]
    rfl
   rintro ysD HD ⟨sD,xD,rfl⟩
   rw [List.length_map,List.take_length] at xD
   refine ⟨lD,_,rfl,.inl ⟨SqL.of xD,fun t2 f2=>?_⟩⟩
   obtain ⟨HE,e_,sE,xE⟩:=nw f2 (HO.tup ((restr os (rngL (pw k) (pw (k + 1)))).map V.int));rw [← e_];clear e_
   have sCE:=Same.trans sD sE
   have sAE:=Same.trans sAC sCE
   have htE:=sAE _ _ htA
   refine ⟨_,rfl,t,_,_,_,rfl,rfl,SqT.of htE,rfl,_,rfl,t,_,_,_,rfl,rfl,SqT.of htE,rfl,_,rfl,t,_,_,_,rfl,rfl,SqT.of htE,rfl,_,_,_,rfl,?_⟩
   have sAF:=sAE
   have kpF:=Kp.trans kpA (Kp.same sAF)
   have hpF:=sAF _ _ hpA
   have xlF:=sAF _ _ xA
   have rrF:=rA.same sAF
   have t1F:=sCE _ _ xC
   have t2F:=xE
   have hyF:=hyA.same sAF
   have hzF:=hzA.same sAF
   have lA0:(restr os (rngL 0 (pw k))).length=(pw k).toNat:=by rw [restr_len];exact hn1
   have lB0:(restr os (rngL (pw k) (pw (k + 1)))).length=(pw k).toNat:=by rw [restr_len];exact hn2
   have far:=lanes_far k2 io
   have dpk:=papM_dep k
   clear xA rA hyA hzA xB xC xD xE sB sC sD sE sAC sCE sAF sAE htA hoA huA x5A hpA htE f1 f2 fB fD kpA
   generalize restr os (rngL 0 (pw k))=A0 at t1F lA0 far
   generalize restr os (rngL (pw k) (pw (k + 1)))=B0 at t2F lB0 far
   refine ⟨_,rfl,p,_,_,_,28,rfl,hpF,by decide,by decide,fun way aG bG cG way0 way28=>?_⟩
   have kG:Kp p HE (upd HE p (HO.lst [V.int aG,V.int bG,V.int cG])):=Kp.upd
   have hpG:(upd HE p (HO.lst [V.int aG,V.int bG,V.int cG])) p=some (.lst [.int aG,.int bG,.int cG]):=upd_same
   generalize upd HE p (HO.lst [V.int aG,V.int bG,V.int cG])=HG at kG hpG
   have ktG:KT HE HG:=KT.kp kG hpF (KT.refl _)
   have no:∀ m:Int,¬ way=m→¬ (decide (V.int way=V.int m)=true):=fun m c=>by
    rw [decide_eq_true_iff];intro z;exact c (V.int.inj z)
   have b1:2 * ((foldM k).length:Int)≤100:=by walk_at"q"
   -- 1
   try dsimp only [gName]
   refine seq_by (DrawJ p (pw (k + 1)) way lw t lo l7 (2 * ((foldM k).length:Int)) A0 B0 HG 2) (fun N hN=>?_) ?_
   ·refine ⟨_,rfl,rfl,_,rfl,?_⟩
    by_cases c:way=1
    ·refine iteTd (by rw [c];decide) ?_
     refine ⟨_,rfl,_,rfl,_,rfl,lenLine (by show 4≤100000;decide),fun m1 g1=>?_⟩
     obtain ⟨k1,hp1,x1,n1⟩:=fresh_step hpG g1 (.lst [V.int 1,V.int (-1),V.int 2,V.int (-2)])
     have sm:Same HG (upd HG m1 (HO.lst [V.int 1,V.int (-1),V.int 2,V.int (-2)])):=same_new g1 _
     generalize upd HG m1 (HO.lst [V.int 1,V.int (-1),V.int 2,V.int (-2)])=HH at k1 hp1 x1 sm
     refine ⟨_,rfl,p,_,_,_,4,rfl,hp1,by decide,by decide,fun v aI bI cI v0 v4=>?_⟩
     have k2':Kp p HH (upd HH p (HO.lst [V.int aI,V.int bI,V.int cI])):=Kp.upd
     have hp2:(upd HH p (HO.lst [V.int aI,V.int bI,V.int cI])) p=some (.lst [.int aI,.int bI,.int cI]):=upd_same
     have x2:(upd HH p (HO.lst [V.int aI,V.int bI,V.int cI])) m1=some (.lst [V.int 1,V.int (-1),V.int 2,V.int (-2)]):=(upd_ne n1).trans x1
     generalize upd HH p (HO.lst [V.int aI,V.int bI,V.int cI])=HI at k2' hp2 x2
     obtain ⟨d,ed,d1,d2⟩:∃ d:Int,atI [V.int 1,V.int (-1),V.int 2,V.int (-2)] v=some (.int d)∧-2≤d∧d≤2:=by
      have vc:v=0∨v=1∨v=2∨v=3:=by walk_at"q"
      rcases vc with e | e | e | e <;> subst e
      ·exact ⟨1,rfl,by decide,by decide⟩
      ·exact ⟨-1,rfl,by decide,by decide⟩
      ·exact ⟨2,rfl,by decide,by decide⟩
      ·exact ⟨-2,rfl,by decide,by decide⟩
     refine ⟨m1,_,_,_,rfl,rfl,SqL.of x2,ed,_,_,rfl,rfl,_,_,rfl,?_⟩
     have kt:KT HE HI:=KT.kp k2' hp1 (KT.same sm ktG)
     exact hN _ _ ⟨_,t1,t2,A0,B0,y,z,papM k,papM k,_,_,_,rfl,Kp.trans k1 k2',⟨_,_,_,hp2⟩,kt _ _ t1F,kt _ _ t2F,by walk_at"q", by walk_at"q", by walk_at"q", by split <;> walk_at"q", by split <;> walk_at"q", hyF.kt kt,by walk_at"q", hzF.kt kt,by walk_at"q", fun z=>by walk_at"q"⟩
    ·refine iteFd (no 1 c) ?_
     exact hN _ _ ⟨_,t1,t2,A0,B0,y,z,papM k,papM k,_,_,_,rfl,Kp.refl _ _,⟨_,_,_,hpG⟩,ktG _ _ t1F,ktG _ _ t2F,by walk_at"q", by walk_at"q", by walk_at"q", by walk_at"q", b1,hyF.kt ktG,by walk_at"q", hzF.kt ktG,by walk_at"q", fun _=>⟨rfl,rfl,rfl⟩⟩
   have xlG:=kG _ _ xlF nlw
   have rrG:=rrF.kt ktG
   have kpG:=Kp.trans kpF kG
   clear kG ktG xlF rrF t1F t2F hyF hzF kpF hpF
   rintro σ H1 ⟨k',t1,t2,A,B,y,z,py,pz,v12,v13,v14,rfl,kp,pn,e1,e2,l1,l8,lB',q0,q1,hy,dy,hz,dz,un⟩
   -- 2
   refine seq_by (DrawJ p (pw (k + 1)) way lw t lo l7 (2 * ((foldM k).length:Int)) A0 B0 HG 3) (fun N hN=>?_) ?_
   ·refine ⟨_,rfl,rfl,_,rfl,?_⟩
    by_cases c:way=2
    ·refine iteTd (by rw [c];decide) ?_
     refine ⟨_,rfl,_,rfl,_,_,rfl,?_⟩
     exact hN _ _ ⟨k',t2,t1,B,A,y,z,py,pz,v12,v13,v14,rfl,kp,pn,e2,e1,by walk_at"q", by walk_at"q", lB'.symm,q0,q1,hy,dy,hz,dz,fun z=>by walk_at"q"⟩
    ·refine iteFd (no 2 c) ?_
     exact hN _ _ ⟨k',t1,t2,A,B,y,z,py,pz,v12,v13,v14,rfl,kp,pn,e1,e2,l1,l8,lB',q0,q1,hy,dy,hz,dz,fun z=>un (by walk_at"q")⟩
   clear un hy hz e1 e2 pn kp
   rintro σ H1 ⟨k',t1,t2,A,B,y,z,py,pz,v12,v13,v14,rfl,kp,pn,e1,e2,l1,l8,lB',q0,q1,hy,dy,hz,dz,un⟩
   -- 3
   refine seq_by (DrawJ p (pw (k + 1)) way lw t lo l7 (2 * ((foldM k).length:Int)) A0 B0 HG 4) (fun N hN=>?_) ?_
   ·refine ⟨_,rfl,rfl,_,rfl,?_⟩
    by_cases c:way=3
    ·refine iteTd (by rw [c];decide) ?_
     obtain ⟨a1,b1',c1,hp1⟩:=pn
     refine ⟨_,rfl,_,rfl,t1,_,rfl,.inr (SqT.of e1),p,_,_,_,_,rfl,hp1,by rw [List.length_map];walk_at"q", by rw [List.length_map];walk_at"q", fun v a2 b2 c2 v0 v1=>?_⟩
     rw [List.length_map] at v1
     have k2':Kp p H1 (upd H1 p (HO.lst [V.int a2,V.int b2,V.int c2])):=Kp.upd
     have hp2:(upd H1 p (HO.lst [V.int a2,V.int b2,V.int c2])) p=some (.lst [.int a2,.int b2,.int c2]):=upd_same
     generalize upd H1 p (HO.lst [V.int a2,V.int b2,V.int c2])=H2' at k2' hp2
     have kt2:KT H1 H2':=KT.kp k2' hp1 (KT.refl _)
     have e12:=kt2 _ _ e1
     have e22:=kt2 _ _ e2
     refine ⟨_,rfl,_,rfl,t1,_,_,_,rfl,rfl,SqT.of e12,atI_int v0 (by walk_at"q"),_,rfl,_,rfl,t2,_,_,_,rfl,rfl,SqT.of e22,atI_int v0 (by walk_at"q"),_,_,rfl,?_⟩
     obtain ⟨A1,eA1⟩:=cut_mapI A none (some v)
     obtain ⟨A2,eA2⟩:=cut_mapI A (some (v + 1)) none
     obtain ⟨B1,eB1⟩:=cut_mapI B none (some v)
     obtain ⟨B2,eB2⟩:=cut_mapI B (some (v + 1)) none
     have ctA:=cut_two (rs:=A.map V.int) (n:=v) v0 (by rw [List.length_map];walk_at"q")
     have ctB:=cut_two (rs:=B.map V.int) (n:=v) v0 (by rw [List.length_map];walk_at"q")
     rw [eA1,eA2,List.length_map,List.length_map,List.length_map] at ctA
     rw [eB1,eB2,List.length_map,List.length_map,List.length_map] at ctB
     refine ⟨_,rfl,_,rfl,v,rfl,t1,_,rfl,e12,fun m3 H3' s3 x3=>?_⟩
     rw [eA1] at x3
     refine ⟨_,rfl,lenLine (by show 1≤100000;decide),fun m4 g4=>?_⟩
     obtain ⟨H4',e_,s4,x4⟩:=nw g4 (HO.tup [V.int (B.getD v.toNat 0)]);rw [← e_];clear e_
     refine ⟨m3,m4,_,_,rfl,rfl,s4 _ _ x3,x4,lenLine (by rw [List.length_map];show _ + 1≤_;walk_at"q"),fun m5 H5' s5 x5'=>?_⟩
     have s25:=Same.trans s3 (Same.trans s4 s5)
     refine ⟨_,rfl,_,rfl,_,_,rfl,rfl,v + 1,rfl,t1,_,rfl,s25 _ _ e12,fun m6 H6' s6 x6=>?_⟩
     rw [eA2] at x6
     refine ⟨m5,m6,_,_,rfl,rfl,s6 _ _ x5',x6,lenLine (by rw [List.length_append,List.length_map,List.length_map];show _ + 1 + _≤_;walk_at"q"),fun m7 H7' s7 x7=>?_⟩
     have s27:=Same.trans s25 (Same.trans s6 s7)
     refine ⟨_,rfl,_,rfl,v,rfl,t2,_,rfl,s27 _ _ e22,fun n3 I3' z3 y3=>?_⟩
     rw [eB1] at y3
     refine ⟨_,rfl,lenLine (by show 1≤100000;decide),fun n4' h4=>?_⟩
     obtain ⟨I4',e_,z4,y4⟩:=nw h4 (HO.tup [V.int (A.getD v.toNat 0)]);rw [← e_];clear e_
     refine ⟨n3,n4',_,_,rfl,rfl,z4 _ _ y3,y4,lenLine (by rw [List.length_map];show _ + 1≤_;walk_at"q"),fun n5 I5' z5 y5=>?_⟩
     have z25:=Same.trans z3 (Same.trans z4 z5)
     refine ⟨_,rfl,_,rfl,_,_,rfl,rfl,v + 1,rfl,t2,_,rfl,z25 _ _ (s27 _ _ e22),fun n6 I6' z6 y6=>?_⟩
     rw [eB2] at y6
     refine ⟨n5,n6,_,_,rfl,rfl,z6 _ _ y5,y6,lenLine (by rw [List.length_append,List.length_map,List.length_map];show _ + 1 + _≤_;walk_at"q"),fun n7 I7' z7 y7=>?_⟩
     have z27:=Same.trans z25 (Same.trans z6 z7)
     have sAll:=Same.trans s27 z27
     have ktA:=KT.same sAll kt2
     refine hN _ _ ⟨k',m7,n7,A1 ++ [B.getD v.toNat 0] ++ A2,B1 ++ [A.getD v.toNat 0] ++ B2,y,z,py,pz,_,_,_,rfl,Kp.trans kp (Kp.trans k2' (Kp.same sAll)),⟨_,_,_,sAll _ _ hp2⟩,?_,?_,?_,?_,?_,q0,q1,hy.kt ktA,dy,hz.kt ktA,dz,fun z=>by walk_at"q"⟩
     ·rw [List.map_append,List.map_append];exact z27 _ _ x7
     ·rw [List.map_append,List.map_append];exact y7
     ·rw [List.length_append,List.length_append];show 1≤_ + 1 + _;walk_at"q"
     ·rw [List.length_append,List.length_append];show _ + 1 + _≤8;walk_at"q"
     ·rw [List.length_append,List.length_append,List.length_append,List.length_append];show _ + 1 + _=_ + 1 + _;walk_at"q"
    ·refine iteFd (no 3 c) ?_
     exact hN _ _ ⟨k',t1,t2,A,B,y,z,py,pz,v12,v13,v14,rfl,kp,pn,e1,e2,l1,l8,lB',q0,q1,hy,dy,hz,dz,fun z=>un (by walk_at"q")⟩
   clear un hy hz e1 e2 pn kp
   rintro σ H1 ⟨k',t1,t2,A,B,y,z,py,pz,v12,v13,v14,rfl,kp,pn,e1,e2,l1,l8,lB',q0,q1,hy,dy,hz,dz,un⟩
   -- 4
   refine seq_by (DrawJ p (pw (k + 1)) way lw t lo l7 (2 * ((foldM k).length:Int)) A0 B0 HG 5) (fun N hN=>?_) ?_
   ·refine ⟨_,rfl,rfl,_,rfl,?_⟩
    by_cases c:way=4
    ·refine iteTd (by rw [c];decide) ?_
     refine ⟨_,rfl,_,rfl,t1,_,rfl,rfl,SqT.of e1,fun m3 g3=>?_⟩
     obtain ⟨a1,b1',c1,hp1⟩:=pn
     have s3:Same H1 (upd H1 m3 (HO.tup (A.map V.int).reverse)):=same_new g3 _
     exact hN _ _ ⟨k',m3,t2,A.reverse,B,y,z,py,pz,v12,v13,v14,rfl,Kp.trans kp (Kp.same s3),⟨_,_,_,s3 _ _ hp1⟩,by rw [List.map_reverse];exact upd_same,s3 _ _ e2,by rw [List.length_reverse];walk_at"q", by rw [List.length_reverse];walk_at"q", by rw [List.length_reverse];walk_at"q", q0,q1,hy.same s3,dy,hz.same s3,dz,fun z=>by walk_at"q"⟩
    ·refine iteFd (no 4 c) ?_
     exact hN _ _ ⟨k',t1,t2,A,B,y,z,py,pz,v12,v13,v14,rfl,kp,pn,e1,e2,l1,l8,lB',q0,q1,hy,dy,hz,dz,fun z=>un (by walk_at"q")⟩
   clear un hy hz e1 e2 pn kp
   rintro σ H1 ⟨k',t1,t2,A,B,y,z,py,pz,v12,v13,v14,rfl,kp,pn,e1,e2,l1,l8,lB',q0,q1,hy,dy,hz,dz,un⟩
   -- 5
   refine seq_by (DrawJ p (pw (k + 1)) way lw t lo l7 (2 * ((foldM k).length:Int)) A0 B0 HG 6) (fun N hN=>?_) ?_
   ·refine ⟨_,rfl,rfl,_,rfl,?_⟩
    by_cases c:way=5
    ·refine iteTd (by rw [c];decide) ?_
     obtain ⟨a1,b1',c1,hp1⟩:=pn
     refine ⟨lenLine (by show 1≤100000;decide),fun m3 g3=>?_⟩
     obtain ⟨H3',e_,s3,x3⟩:=nw g3 (HO.tup [V.str "all"]);rw [← e_];clear e_
     refine ⟨lenLine (by show 1≤100000;decide),fun m4 g4=>?_⟩
     obtain ⟨H4',e_,s4,x4⟩:=nw g4 (HO.tup [V.str "one"]);rw [← e_];clear e_
     refine ⟨_,rfl,y,py,rfl,hy.same (Same.trans s3 s4),fun y' py' H5' s5 hy' dy'=>?_⟩
     refine ⟨lenLine (by show 3≤100000;decide),fun m6 g6=>?_⟩
     have s15:=Same.trans s3 (Same.trans s4 s5)
     obtain ⟨k6,hp6,x6,n6⟩:=fresh_step (s15 _ _ hp1) g6 (.lst [V.ref m3,V.ref m4,y'])
     have s6:Same H5' (upd H5' m6 (HO.lst [V.ref m3,V.ref m4,y'])):=same_new g6 _
     generalize upd H5' m6 (HO.lst [V.ref m3,V.ref m4,y'])=H6' at k6 hp6 x6 s6
     refine ⟨_,rfl,p,_,_,_,3,rfl,hp6,by decide,by decide,fun v a7 b7 c7 v0 v3=>?_⟩
     have k7:Kp p H6' (upd H6' p (HO.lst [V.int a7,V.int b7,V.int c7])):=Kp.upd
     have hp7:(upd H6' p (HO.lst [V.int a7,V.int b7,V.int c7])) p=some (.lst [.int a7,.int b7,.int c7]):=upd_same
     generalize upd H6' p (HO.lst [V.int a7,V.int b7,V.int c7])=H7' at k7 hp7
     have s16:=Same.trans s15 s6
     have kt7:KT H6' H7':=KT.kp k7 hp6 (KT.refl _)
     have kt17:KT H1 H7':=KT.kp k7 hp6 (KT.same s16 (KT.refl _))
     have kt57:KT H5' H7':=KT.kp k7 hp6 (KT.same s6 (KT.refl _))
     obtain ⟨y2,py2,ey,hy2,dy2⟩:∃ (y2:V) (py2:Pap),atI [V.ref m3,V.ref m4,y'] v=some y2∧PapAt H7' y2 py2∧py2.dep≤2:=by
      have vc:v=0∨v=1∨v=2:=by walk_at"q"
      rcases vc with e | e | e <;> subst e
      ·exact ⟨_,.all,rfl,⟨m3,rfl,kt57 _ _ (s5 _ _ (s4 _ _ x3))⟩,by decide⟩
      ·exact ⟨_,.one,rfl,⟨m4,rfl,kt57 _ _ (s5 _ _ x4)⟩,by decide⟩
      ·exact ⟨_,py',rfl,hy'.kt kt57,by walk_at"q"⟩
     refine ⟨m6,_,_,_,rfl,rfl,SqL.of (k7 _ _ x6 n6),ey,?_⟩
     exact hN _ _ ⟨k',t1,t2,A,B,y2,z,py2,pz,v12,v13,v14,rfl,Kp.trans kp (Kp.trans (Kp.same s16) k7),⟨_,_,_,hp7⟩,kt17 _ _ e1,kt17 _ _ e2,l1,l8,lB',q0,q1,hy2,dy2,hz.kt kt17,dz,fun z=>by walk_at"q"⟩
    ·refine iteFd (no 5 c) ?_
     exact hN _ _ ⟨k',t1,t2,A,B,y,z,py,pz,v12,v13,v14,rfl,kp,pn,e1,e2,l1,l8,lB',q0,q1,hy,dy,hz,dz,fun z=>un (by walk_at"q")⟩
   clear un hy hz e1 e2 pn kp
   rintro σ H1 ⟨k',t1,t2,A,B,y,z,py,pz,v12,v13,v14,rfl,kp,pn,e1,e2,l1,l8,lB',q0,q1,hy,dy,hz,dz,un⟩
   -- 6
   refine seq_by (DrawJ p (pw (k + 1)) way lw t lo l7 (2 * ((foldM k).length:Int)) A0 B0 HG 7) (fun N hN=>?_) ?_
   ·refine ⟨_,rfl,rfl,_,rfl,?_⟩
    by_cases c:way=6
    ·refine iteTd (by rw [c];decide) ?_
     obtain ⟨a1,b1',c1,hp1⟩:=pn
     refine ⟨lenLine (by show 1≤100000;decide),fun m3 g3=>?_⟩
     obtain ⟨H3',e_,s3,x3⟩:=nw g3 (HO.tup [V.str "all"]);rw [← e_];clear e_
     refine ⟨lenLine (by show 1≤100000;decide),fun m4 g4=>?_⟩
     obtain ⟨H4',e_,s4,x4⟩:=nw g4 (HO.tup [V.str "one"]);rw [← e_];clear e_
     refine ⟨_,rfl,z,pz,rfl,hz.same (Same.trans s3 s4),fun y' py' H5' s5 hy' dy'=>?_⟩
     refine ⟨lenLine (by show 3≤100000;decide),fun m6 g6=>?_⟩
     have s15:=Same.trans s3 (Same.trans s4 s5)
     obtain ⟨k6,hp6,x6,n6⟩:=fresh_step (s15 _ _ hp1) g6 (.lst [V.ref m3,V.ref m4,y'])
     have s6:Same H5' (upd H5' m6 (HO.lst [V.ref m3,V.ref m4,y'])):=same_new g6 _
     generalize upd H5' m6 (HO.lst [V.ref m3,V.ref m4,y'])=H6' at k6 hp6 x6 s6
     refine ⟨_,rfl,p,_,_,_,3,rfl,hp6,by decide,by decide,fun v a7 b7 c7 v0 v3=>?_⟩
     have k7:Kp p H6' (upd H6' p (HO.lst [V.int a7,V.int b7,V.int c7])):=Kp.upd
     have hp7:(upd H6' p (HO.lst [V.int a7,V.int b7,V.int c7])) p=some (.lst [.int a7,.int b7,.int c7]):=upd_same
     generalize upd H6' p (HO.lst [V.int a7,V.int b7,V.int c7])=H7' at k7 hp7
     have s16:=Same.trans s15 s6
     have kt17:KT H1 H7':=KT.kp k7 hp6 (KT.same s16 (KT.refl _))
     have kt57:KT H5' H7':=KT.kp k7 hp6 (KT.same s6 (KT.refl _))
     obtain ⟨y2,py2,ey,hy2,dy2⟩:∃ (y2:V) (py2:Pap),atI [V.ref m3,V.ref m4,y'] v=some y2∧PapAt H7' y2 py2∧py2.dep≤2:=by
      have vc:v=0∨v=1∨v=2:=by walk_at"q"
      rcases vc with e | e | e <;> subst e
      ·exact ⟨_,.all,rfl,⟨m3,rfl,kt57 _ _ (s5 _ _ (s4 _ _ x3))⟩,by decide⟩
      ·exact ⟨_,.one,rfl,⟨m4,rfl,kt57 _ _ (s5 _ _ x4)⟩,by decide⟩
      ·exact ⟨_,py',rfl,hy'.kt kt57,by walk_at"q"⟩
     refine ⟨m6,_,_,_,rfl,rfl,SqL.of (k7 _ _ x6 n6),ey,?_⟩
     exact hN _ _ ⟨k',t1,t2,A,B,y,y2,py,py2,v12,v13,v14,rfl,Kp.trans kp (Kp.trans (Kp.same s16) k7),⟨_,_,_,hp7⟩,kt17 _ _ e1,kt17 _ _ e2,l1,l8,lB',q0,q1,hy.kt kt17,dy,hy2,dy2,fun z=>by walk_at"q"⟩
    ·refine iteFd (no 6 c) ?_
     exact hN _ _ ⟨k',t1,t2,A,B,y,z,py,pz,v12,v13,v14,rfl,kp,pn,e1,e2,l1,l8,lB',q0,q1,hy,dy,hz,dz,fun z=>un (by walk_at"q")⟩
   clear un hy hz e1 e2 pn kp
   rintro σ H1 ⟨k',t1,t2,A,B,y,z,py,pz,v12,v13,v14,rfl,kp,⟨a1,b1',c1,hp1⟩,e1,e2,l1,l8,lB',q0,q1,hy,dy,hz,dz,un⟩
   have kt1:KT HG H1:=KT.kp kp hpG (KT.refl _)
   refine ⟨_,rfl,_,rfl,_,rfl,_,rfl,_,rfl,_,rfl,t1,_,_,_,rfl,rfl,SqT.of e1,atI_int (i:=0) (by decide) (by walk_at"q"),_,rfl,_,rfl,t2,_,_,_,rfl,rfl,SqT.of e2,at_last (by walk_at"q"),?_⟩
   refine ⟨p,pw (k + 1),way,lw,ws,k',_,_,rfl,⟨_,_,_,hp1⟩,w1,w8,nlw,⟨_,kp _ _ xlG nlw,rrG.kt kt1⟩,okA,by walk_at"q", q0,q1,fun c=>by rw [(un (by walk_at"q")).1];walk_at"q", fun c=>?_,fun T2 l2 us k2' H2' n2 kk2 pn2 hT2 wl2 ok2 le2=>?_⟩
   ·obtain ⟨u1,u2,u3⟩:=un (by walk_at"q")
    rw [u1,u2,u3]
    exact ⟨far,by walk_at"q"⟩
   ·have kt2:KT H1 H2':=KT.kp kk2 hp1 (KT.refl _)
    obtain ⟨a2,b2,c2,hp2⟩:=pn2
    refine ⟨T2,_,rfl,SqT.of hT2,rfl,?_⟩
    refine ⟨_,_,rfl,_,_,rfl,rfl,?_⟩
    refine ⟨_,rfl,_,rfl,_,rfl,_,rfl,_,rfl,_,rfl,lenLine (by show 6≤100000;decide),fun m3 g3=>?_⟩
    obtain ⟨H3',e_,s3,x3⟩:=nw g3 (HO.tup [V.str "halves", V.int k2',V.ref t1,V.ref t2,y,z]);rw [← e_];clear e_
    refine ⟨lenLine (by show 2≤100000;decide),fun m4 g4=>?_⟩
    have s4:Same H3' (upd H3' m4 (HO.tup [V.ref l2,V.ref m3])):=same_new g4 _
    have s24:=Same.trans s3 s4
    have kt4:=KT.same s24 kt2
    refine q m4 l2 (.ref m3) us (.halves k2' A B py pz) _ n2 (Kp.trans kpG (Kp.trans kp (Kp.trans kk2 (Kp.same s24)))) ⟨_,_,_,s24 _ _ hp2⟩ upd_same (wl2.same s24) ok2 le2 ⟨m3,t1,t2,y,z,rfl,s4 _ _ x3,kt4 _ _ e1,kt4 _ _ e2,by walk_at"q", by walk_at"q", hy.kt kt4,hz.kt kt4⟩ ?_
    show 1 + max py.dep pz.dep≤3
    walk_at"q"
theorem sc_misformed:FnScope ["_law_pen_here", "_law_wide", "_law_paper_here", "_law_one", "_law_some"] ["_law_pen_here", "_law_wide"] (defScope s_misformed):=⟨rfl,rfl,rfl,by decide +kernel,rfl,by decide +kernel,by decide +kernel⟩
theorem ok_misformed (T:Bn mg) (F:Here K mg "_law_misformed" s_misformed f fd) (C_law_take:Callee P w K mg base "_law_take" 1 ["_law_pen_here", "_law_size"] spTake) (C_law_folded:Callee P w K mg base "_law_folded" 6 ["_law_wide"] (spFold 4)) (C_law_paper:Callee P w K mg base "_law_paper" 12 ["_law_wide"] (spPaper 4)):FnOk P w K mg base CX0 13 f fd ["_law_pen_here", "_law_wide"] spMis44:=by
 refine F.fn.ok sc_misformed (fun vs H Q E h=>?_) (fun cdv A outer s H vs Q E hr h=>?_)
 ·obtain ⟨p,k,rfl,_⟩:=h
  rfl
 ·obtain ⟨p,k,rfl,k1,⟨pa,pb,pc,hp⟩,q⟩:=h
  refine ⟨_,(pss_cons (ps_set (i:=2) sc_misformed.nd rfl (by walk_at"r") (pe_callC C_law_paper (hr.mono (by walk_at"d")) rfl (pa_cons (pv 1) pa_nil)))
  (pss_cons (ps_set (i:=3) sc_misformed.nd rfl (by walk_at"r") (pe_tup (pa_cons pe_str pa_nil)))
  (pss_cons (ps_set (i:=4) sc_misformed.nd rfl (by walk_at"r") (pe_lst (pa_cons (pe_op op_catA (pv 2) (pe_tup (pa_cons (pv 3) pa_nil))) (pa_cons (pe_slice sl_tupU (pv 2) po_none (po_some pe_int)) (pa_cons (pe_callTy call_list_of rfl T.n_list boot_listT (pa_cons (pv 2) pa_nil)) (pa_cons (pe_op op_catA (pe_tup (pa_cons pe_str pa_nil)) (pe_slice sl_tupU (pv 2) (po_some pe_int) po_none)) (pa_cons (pe_op op_catA (pe_slice sl_tupU (pv 2) po_none (po_some pe_int)) (pe_tup (pa_cons pe_non pa_nil))) pa_nil)))))))
  (pss_cons (ps_expr (pe_bm PySem.F.plainAttrs_list PySem.F.slot_list_append PySem.F.type_list_append mt_append (pv 4) (pa_cons (pe_op op_catA (pe_tup (pa_cons pe_str (pa_cons (pe_op op_sub (pe_ix ix_tup (pv 2) pe_int (fun _ _=>rfl)) (pe_callB call_len_seq rfl T.n_len PySem.boot_len (pa_cons (pe_callC C_law_folded (hr.mono (by walk_at"d")) rfl (pa_cons (pv 1) pa_nil)) pa_nil))) pa_nil))) (pe_slice sl_tupU (pv 2) (po_some pe_int) po_none)) pa_nil)))
  (pss_cons (ps_set (i:=4) sc_misformed.nd rfl (by walk_at"r") (pe_op op_cat (pv 4) (pe_lst (pa_cons (pe_op op_catA (pe_op op_catA (pe_slice sl_tupU (pv 2) po_none (po_some pe_int)) (pe_tup (pa_cons (pe_callTy call_list_of rfl T.n_list boot_listT (pa_cons (pe_ix ix_tup (pv 2) pe_int (fun _ _=>rfl)) pa_nil)) pa_nil))) (pe_slice sl_tupU (pv 2) (po_some pe_int) po_none)) (pa_cons (pe_op op_catA (pe_op op_catA (pe_slice sl_tupU (pv 2) po_none (po_some pe_int)) (pe_tup (pa_cons (pe_callTy call_list_of rfl T.n_list boot_listT (pa_cons (pe_ix ix_tup (pv 2) pe_int (fun _ _=>rfl)) pa_nil)) pa_nil))) (pe_slice sl_tupU (pv 2) (po_some pe_int) po_none)) pa_nil)))))
  (pss_cons (ps_set (i:=4) sc_misformed.nd rfl (by walk_at"r") (pe_op op_cat (pv 4) (pe_lst (pa_cons (pe_op op_catA (pe_op op_catA (pe_slice sl_tupU (pv 2) po_none (po_some pe_int)) (pe_tup (pa_cons (pe_callTy call_list_of rfl T.n_list boot_listT (pa_cons (pe_ix ix_tup (pv 2) pe_int (fun _ _=>rfl)) pa_nil)) pa_nil))) (pe_slice sl_tupU (pv 2) (po_some pe_int) po_none)) (pa_cons (pe_op op_catA (pe_slice sl_tupU (pv 2) po_none (po_some pe_int)) (pe_tup (pa_cons (pe_callTy call_list_of rfl T.n_list boot_listT (pa_cons (pe_ix ix_tup (pv 2) pe_int (fun _ _=>rfl)) pa_nil)) pa_nil))) pa_nil)))))
  (pss_cons (ps_set (i:=4) sc_misformed.nd rfl (by walk_at"r") (pe_op op_cat (pv 4) (pe_lst (pa_cons (pe_op op_catA (pe_op op_catA (pe_slice sl_tupU (pv 2) po_none (po_some pe_int)) (pe_tup (pa_cons (pe_op op_catA (pe_tup (pa_cons pe_bl pa_nil)) (pe_slice sl_tupU (pe_ix ix_tup (pv 2) pe_int (fun _ _=>rfl)) (po_some pe_int) po_none)) pa_nil))) (pe_slice sl_tupU (pv 2) (po_some pe_int) po_none)) (pa_cons (pe_op op_catA (pe_op op_catA (pe_slice sl_tupU (pv 2) po_none (po_some pe_int)) (pe_tup (pa_cons (pe_op op_catA (pe_ix ix_tup (pv 2) pe_int (fun _ _=>rfl)) (pv 3)) pa_nil))) (pe_slice sl_tupU (pv 2) (po_some pe_int) po_none)) pa_nil)))))
  (pss_cons (ps_set (i:=4) sc_misformed.nd rfl (by walk_at"r") (pe_op op_cat (pv 4) (pe_lst (pa_cons (pe_op op_catA (pe_op op_catA (pe_slice sl_tupU (pv 2) po_none (po_some pe_int)) (pe_tup (pa_cons (pe_ix ix_tup (pv 2) pe_int (fun _ _=>rfl)) pa_nil))) (pe_slice sl_tupU (pv 2) (po_some pe_int) po_none)) (pa_cons (pe_op op_catA (pe_op op_catA (pe_slice sl_tupU (pv 2) po_none (po_some pe_int)) (pe_tup (pa_cons (pe_ix ix_tup (pv 2) pe_int (fun _ _=>rfl)) pa_nil))) (pe_slice sl_tupU (pv 2) (po_some pe_int) po_none)) pa_nil)))))
  (pss_cons (ps_if (pt_cmpR op_eq (pv 1) pe_int (nomark _))
  (pss_one (ps_set (i:=4) sc_misformed.nd rfl (by walk_at"r") (pe_op op_cat (pv 4) (pe_lst (pa_cons (pe_op op_catA (pe_tup (pa_cons pe_str (pa_cons pe_bl pa_nil))) (pe_slice sl_tupU (pv 2) (po_some pe_int) po_none)) (pa_cons (pe_op op_catA (pe_op op_catA (pe_slice sl_tupU (pv 2) po_none (po_some pe_int)) (pe_tup (pa_cons (pe_tup (pa_cons pe_bl pa_nil)) pa_nil))) (pe_slice sl_tupU (pv 2) (po_some pe_int) po_none)) pa_nil))))))
  pss_nil)
  (pss_one (ps_ret (pe_ix ix_list (pv 4) (pe_callC C_law_take (hr.mono (by walk_at"d")) rfl (pa_cons (pv 0) (pa_cons (pe_callB call_len_seq rfl T.n_len PySem.boot_len (pa_cons (pv 4) pa_nil)) pa_nil))) (fun _ _=>rfl))))))))))))),?_⟩
  try dsimp only [gName]
  refine ⟨_,rfl,k + 1,rfl,by walk_at"q", by walk_at"q", fun x H1 s1 fx=>?_⟩
  obtain ⟨_,_⟩ | ⟨hX,ho,hu,hy,hz⟩:=fx
  rename_i X o u y z
  have kc:k=0∨k=1:=by walk_at"q"
  have hp1:=s1 _ _ hp
  obtain ⟨a4,w4,y4,rfl,hy4,ly4⟩:=fpap_tup hy
  obtain ⟨a5,w5,y5,rfl,hz5,lz5⟩:=fpap_tup hz
  obtain ⟨py,hpy,dpy⟩:=fpap_x hy (by walk_at"q")
  obtain ⟨pz,hpz,dpz⟩:=fpap_x hz (by walk_at"q")
  obtain ⟨lo,lu⟩:=half_lens (k:=k) (by walk_at"q")
  have no_hl:∀ {G:Hp} {wide:Int} {x:V},True:=fun {_ _ _}=>trivial
  clear no_hl hy hz
  try dsimp only [gName]
  refine ⟨lenLine (by show 1≤100000;decide),fun t2 f2=>?_⟩
  obtain ⟨H2,e_,s2,x2⟩:=nw f2 (HO.tup [V.str "one"]);rw [← e_];clear e_
  have S2:=s2
  have hX2:=s2 _ _ hX
  have ho2:=s2 _ _ ho
  have hu2:=s2 _ _ hu
  replace hy4:=s2 _ _ hy4
  replace hz5:=s2 _ _ hz5
  replace hpy:=hpy.same s2
  replace hpz:=hpz.same s2
  have S02:=Same.trans s1 s2
  clear hX ho hu s1 s2 S2 f2
  refine ⟨_,rfl,_,rfl,lenLine (by show 1≤100000;decide),fun t3 f3=>?_⟩
  obtain ⟨H3,e_,s3,x3⟩:=nw f3 (HO.tup [V.ref t2]);rw [← e_];clear e_
  refine ⟨X,t3,_,_,rfl,rfl,s3 _ _ hX2,x3,lenLine (by show 6 + 1≤100000;decide),fun e0 H4 s4 x4=>?_⟩
  have b0:Bad44 H4 (pw (k + 1)) (foldM (k + 1)) (.ref e0):=bad_nop (no_len x4 (.inr (.str _)) (by simp) (by simp))
  have S4:=Same.trans s3 s4
  refine ⟨_,rfl,5,rfl,X,_,rfl,S4 _ _ hX2,fun e1 H5 s5 x5=>?_⟩
  have x5':H5 e1=some (.tup [V.str "halves", V.int ((foldM k ++ (foldM k).map (lift (pw k))).length:Int),V.ref o,V.ref u,V.ref a4]):=x5
  have b1:Bad44 H5 (pw (k + 1)) (foldM (k + 1)) (.ref e1):=bad_nop (no_len x5' (.inr (.str _)) (by simp) (by simp))
  replace b0:=b0.same s5
  have S5:=Same.trans S4 s5
  refine ⟨_,rfl,X,_,rfl,.inr (SqT.of (S5 _ _ hX2)),fun e2 f6=>?_⟩
  obtain ⟨H6,e_,s6,x6⟩:=nw f6 (HO.lst [V.str "halves", V.int ((foldM k ++ (foldM k).map (lift (pw k))).length:Int),V.ref o,V.ref u,V.ref a4,V.ref a5]);rw [← e_];clear e_
  have b2:Bad44 H6 (pw (k + 1)) (foldM (k + 1)) (.ref e2):=bad_nop (no_lst x6)
  replace b0:=b0.same s6
  replace b1:=b1.same s6
  have S6:=Same.trans S5 s6
  clear f6 x5 x5' x4 x3 s3 s4 s5 S4 S5 f3
  refine ⟨lenLine (by show 1≤100000;decide),fun t7 f7=>?_⟩
  obtain ⟨H7,e_,s7,x7⟩:=nw f7 (HO.tup [V.str "Halves"]);rw [← e_];clear e_
  have S7:=Same.trans S6 s7
  refine ⟨_,rfl,1,rfl,X,_,rfl,S7 _ _ hX2,fun t8 H8 s8 x8=>?_⟩
  have x8':H8 t8=some (.tup [V.int ((foldM k ++ (foldM k).map (lift (pw k))).length:Int),V.ref o,V.ref u,V.ref a4,V.ref a5]):=x8
  refine ⟨t7,t8,_,_,rfl,rfl,s8 _ _ x7,x8',lenLine (by show 1 + 5≤100000;decide),fun e3 H9 s9 x9=>?_⟩
  have b3:Bad44 H9 (pw (k + 1)) (foldM (k + 1)) (.ref e3):=bad_nop (no_word (show H9 e3=some (.tup (V.str "Halves" :: _)) from x9) (by decide +kernel) (by decide +kernel) (by decide +kernel))
  have s69:=Same.trans s7 (Same.trans s8 s9)
  replace b0:=b0.same s69
  replace b1:=b1.same s69
  replace b2:=b2.same s69
  have S9:=Same.trans S6 s69
  clear s69 s7 s8 s9 x7 x8 x8' x9 S7 S6 f7
  refine rd2 (Pv:=fun v _=>v=.non) rfl (S9 _ _ hX2) (by simp) (fun Ha Qa sa ka=>ka _ _ (Same.refl _) rfl) fun v Ha e4 Hb sa pv sb xb=>?_
  subst pv
  have sab:=Same.trans sa sb
  have Sb:=Same.trans S9 sab
  have xb':Hb e4=some (.tup [V.str "halves", V.int ((foldM k ++ (foldM k).map (lift (pw k))).length:Int),V.ref o,V.ref u,V.ref a4,V.non]):=xb
  have b4:Bad44 Hb (pw (k + 1)) (foldM (k + 1)) (.ref e4):=bad_hlv xb' (.inl ⟨_,rfl⟩) (tt_ints _ (Sb _ _ ho2) lo) (tt_ints _ (Sb _ _ hu2) lu) (hpy.same Sb) (q:=.no) no_non dpy (Nat.zero_le _) (.inr (.inr (.inr rfl)))
  replace b0:=b0.same sab
  replace b1:=b1.same sab
  replace b2:=b2.same sab
  replace b3:=b3.same sab
  clear xb xb' sa sb sab S9
  refine ⟨lenLine (by show 5≤100000;decide),fun ls fl=>?_⟩
  obtain ⟨Hl,e_,sl,xl⟩:=nw fl (HO.lst [V.ref e0,V.ref e1,V.ref e2,V.ref e3,V.ref e4]);rw [← e_];clear e_
  have Sl:=Same.trans Sb sl
  replace b0:=b0.same sl
  replace b1:=b1.same sl
  replace b2:=b2.same sl
  replace b3:=b3.same sl
  replace b4:=b4.same sl
  have fls:H2 ls=none:=Sb.free fl
  clear Sb sl fl
  try dsimp only [gName]
  refine ⟨_,rfl,.inl ⟨rfl,_,SqL.of xl⟩,?_⟩
  refine ⟨_,rfl,X,_,_,_,rfl,rfl,SqT.of (Sl _ _ hX2),rfl,?_⟩
  refine ⟨_,rfl,k + 1,rfl,by walk_at"q", by walk_at"q", fun lf Hf ff sf ⟨rf,xf,rrf⟩=>?_⟩
  have lrf:=rrf.len
  refine ⟨lf,_,rfl,.inl (SqL.of xf),?_⟩
  refine ⟨_,_,rfl,rfl,?_⟩
  have neg:=fold_neg (k:=k) (by walk_at"q")
  rw [← lrf] at neg
  dsimp only
  generalize ((foldM k ++ (foldM k).map (lift (pw k))).length:Int) - (rf.length:Int)=cc at neg
  refine ⟨lenLine (by show 2≤100000;decide),fun tm fm=>?_⟩
  obtain ⟨Hm,e_,sm,xm⟩:=nw fm (HO.tup [V.str "halves", V.int cc]);rw [← e_];clear e_
  have Sm:=Same.trans Sl (Same.trans sf sm)
  refine ⟨_,rfl,2,rfl,X,_,rfl,Sm _ _ hX2,fun tn Hn sn xn=>?_⟩
  have xn':Hn tn=some (.tup [V.ref o,V.ref u,V.ref a4,V.ref a5]):=xn
  refine ⟨tm,tn,_,_,rfl,rfl,sn _ _ xm,xn',lenLine (by show 2 + 4≤100000;decide),fun e5 Hq sq xq=>?_⟩
  have slq:=Same.trans sf (Same.trans sm (Same.trans sn sq))
  have Sq:=Same.trans Sl slq
  have xq':Hq e5=some (.tup [V.str "halves", V.int cc,V.ref o,V.ref u,V.ref a4,V.ref a5]):=xq
  have b5:Bad44 Hq (pw (k + 1)) (foldM (k + 1)) (.ref e5):=bad_hlv xq' (.inl ⟨_,rfl⟩) (tt_ints _ (Sq _ _ ho2) lo) (tt_ints _ (Sq _ _ hu2) lu) (hpy.same Sq) (hpz.same Sq) dpy dpz (.inl fun i e=>by cases e;exact neg)
  have xlq:=slq _ _ xl
  refine ⟨ls,_,_,rfl,rfl,xlq,lenLine (by show 5 < 100000;decide),?_⟩
  have lk:=like_upd [V.ref e0,V.ref e1,V.ref e2,V.ref e3,V.ref e4,V.ref e5] xlq
  have xB:(upd Hq ls (HO.lst [V.ref e0,V.ref e1,V.ref e2,V.ref e3,V.ref e4,V.ref e5])) ls=some (HO.lst [V.ref e0,V.ref e1,V.ref e2,V.ref e3,V.ref e4,V.ref e5]):=upd_same
  have SB:Same H2 (upd Hq ls (HO.lst [V.ref e0,V.ref e1,V.ref e2,V.ref e3,V.ref e4,V.ref e5])):=Same.put fls Sq
  have hB:∀ x∈[V.ref e0,V.ref e1,V.ref e2,V.ref e3,V.ref e4,V.ref e5],Bad44 (upd Hq ls (HO.lst [V.ref e0,V.ref e1,V.ref e2,V.ref e3,V.ref e4,V.ref e5])) (pw (k + 1)) (foldM (k + 1)) x:=by
   intro x hx
   simp only [List.mem_cons,List.not_mem_nil,or_false] at hx
   rcases hx with rfl | rfl | rfl | rfl | rfl | rfl
   ·exact (b0.same slq).like lk
   ·exact (b1.same slq).like lk
   ·exact (b2.same slq).like lk
   ·exact (b3.same slq).like lk
   ·exact (b4.same slq).like lk
   ·exact b5.like lk
  refine add2 (wide:=pw (k + 1)) (ws:=foldM (k + 1)) rfl xB (by simp) hB (fun H' Q' s' kk=>?_) (fun H' Q' s' kk=>?_) fun lC ysC HC fC sC xC cC bC=>?_
  ·have S':=Same.trans SB s'
   refine rd3 rfl (S' _ _ hX2) (by simp) (m_list rfl (S' _ _ hX2) rfl (S' _ _ ho2)) fun v G2 t G3 sg pv s3 x3=>?_
   obtain ⟨l,rfl,hl⟩:=pv
   have S3:=Same.trans S' (Same.trans sg s3)
   have x3':G3 t=some (.tup [V.str "halves", V.int ((foldM k ++ (foldM k).map (lift (pw k))).length:Int),V.ref l,V.ref u,V.ref a4,V.ref a5]):=x3
   exact kk _ _ (Same.trans sg s3) (bad_hlv x3' (.inl ⟨_,rfl⟩) (tt_lst (s3 _ _ hl)) (tt_ints _ (S3 _ _ hu2) lu) (hpy.same S3) (hpz.same S3) dpy dpz (.inr (.inl fun ns ms hf=>no_lanes_lst (s3 _ _ hl) ns hf.1)))
  ·have S':=Same.trans SB s'
   refine rd3 rfl (S' _ _ hX2) (by simp) (m_list rfl (S' _ _ hX2) rfl (S' _ _ hu2)) fun v G2 t G3 sg pv s3 x3=>?_
   obtain ⟨l,rfl,hl⟩:=pv
   have S3:=Same.trans S' (Same.trans sg s3)
   have x3':G3 t=some (.tup [V.str "halves", V.int ((foldM k ++ (foldM k).map (lift (pw k))).length:Int),V.ref o,V.ref l,V.ref a4,V.ref a5]):=x3
   exact kk _ _ (Same.trans sg s3) (bad_hlv x3' (.inl ⟨_,rfl⟩) (tt_ints _ (S3 _ _ ho2) lo) (tt_lst (s3 _ _ hl)) (hpy.same S3) (hpz.same S3) dpy dpz (.inr (.inl fun ns ms hf=>no_lanes_lst (s3 _ _ hl) ms hf.2.1)))
  have SC:=Same.trans SB sC
  clear hB
  try dsimp only [gName]
  refine add2 (wide:=pw (k + 1)) (ws:=foldM (k + 1)) rfl xC (by rw [cC];simp) bC (fun H' Q' s' kk=>?_) (fun H' Q' s' kk=>?_) fun lD ysD HD fD sD xD cD bD=>?_
  ·have S':=Same.trans SC s'
   refine rd3 rfl (S' _ _ hX2) (by simp) (m_list rfl (S' _ _ hX2) rfl (S' _ _ hy4)) fun v G2 t G3 sg pv s3 x3=>?_
   obtain ⟨l,rfl,hl⟩:=pv
   have S3:=Same.trans S' (Same.trans sg s3)
   have x3':G3 t=some (.tup [V.str "halves", V.int ((foldM k ++ (foldM k).map (lift (pw k))).length:Int),V.ref o,V.ref u,V.ref l,V.ref a5]):=x3
   exact kk _ _ (Same.trans sg s3) (bad_hlv x3' (.inl ⟨_,rfl⟩) (tt_ints _ (S3 _ _ ho2) lo) (tt_ints _ (S3 _ _ hu2) lu) (p:=.no) (no_lst (s3 _ _ hl)) (hpz.same S3) (Nat.zero_le _) dpz (.inr (.inr (.inl rfl))))
  ·have S':=Same.trans SC s'
   refine rd2 rfl (S' _ _ hX2) (by simp) (m_list rfl (S' _ _ hX2) rfl (S' _ _ hz5)) fun v G2 t G3 sg pv s3 x3=>?_
   obtain ⟨l,rfl,hl⟩:=pv
   have S3:=Same.trans S' (Same.trans sg s3)
   have x3':G3 t=some (.tup [V.str "halves", V.int ((foldM k ++ (foldM k).map (lift (pw k))).length:Int),V.ref o,V.ref u,V.ref a4,V.ref l]):=x3
   exact kk _ _ (Same.trans sg s3) (bad_hlv x3' (.inl ⟨_,rfl⟩) (tt_ints _ (S3 _ _ ho2) lo) (tt_ints _ (S3 _ _ hu2) lu) (hpy.same S3) (q:=.no) (no_lst (s3 _ _ hl)) dpy (Nat.zero_le _) (.inr (.inr (.inr rfl))))
  have SD:=Same.trans SC sD
  clear bC
  try dsimp only [gName]
  refine add2 (wide:=pw (k + 1)) (ws:=foldM (k + 1)) rfl xD (by rw [cD,cC];simp) bD (fun H' Q' s' kk=>?_) (fun H' Q' s' kk=>?_) fun lE ysE HE fE sE xE cE bE=>?_
  ·have S':=Same.trans SD s'
   refine rd3 (Pv:=fun v G=>∃ l,v=.ref l∧∃ r:List Int,G l=some (.tup (.bl false :: r.map V.int))∧r.length≤(rngL 0 (pw k)).length) rfl (S' _ _ hX2) (by simp) (fun Ha Qa sa ka=>by
    refine ⟨lenLine (by show 1≤100000;decide),fun tt ft=>?_⟩
    refine ⟨_,rfl,X,_,_,_,rfl,rfl,SqT.of (same_new ft _ _ _ (sa _ _ (S' _ _ hX2))),rfl,1,rfl,o,_,rfl,same_new ft _ _ _ (sa _ _ (S' _ _ ho2)),fun tw Hw sw xw=>?_⟩
    obtain ⟨r,er,lr⟩:=cut_int (rngL 0 (pw k)) (some 1) none
    rw [er] at xw
    refine ⟨tt,tw,_,_,rfl,rfl,sw _ _ upd_same,xw,lenLine (by rw [List.length_map];show 1 + _≤100000;walk_at"q"),fun c Hc sc xc=>?_⟩
    exact ka _ _ (Same.trans (same_new ft _) (Same.trans sw sc)) ⟨c,rfl,r,xc,lr⟩) fun v G2 t G3 sg pv s3 x3=>?_
   obtain ⟨l,rfl,r,hl,lr⟩:=pv
   have lr9:r.length≤19:=by rcases kc with z | z <;> subst z <;> exact Nat.le_trans lr (by decide)
   have S3:=Same.trans S' (Same.trans sg s3)
   have x3':G3 t=some (.tup [V.str "halves", V.int ((foldM k ++ (foldM k).map (lift (pw k))).length:Int),V.ref l,V.ref u,V.ref a4,V.ref a5]):=x3
   exact kk _ _ (Same.trans sg s3) (bad_hlv x3' (.inl ⟨_,rfl⟩) (tt_bl (s3 _ _ hl) lr9) (tt_ints _ (S3 _ _ hu2) lu) (hpy.same S3) (hpz.same S3) dpy dpz (.inr (.inl fun ns ms hf=>no_lanes_bl (s3 _ _ hl) ns hf.1)))
  ·have S':=Same.trans SD s'
   refine rd3 (Pv:=fun v G=>∃ l,v=.ref l∧G l=some (.tup ((V.str w4 :: y4) ++ [V.str "one"]))) rfl (S' _ _ hX2) (by simp) (fun Ha Qa sa ka=>⟨_,rfl,X,_,_,_,rfl,rfl,SqT.of (sa _ _ (S' _ _ hX2)),rfl,_,rfl,a4,t2,_,_,rfl,rfl,sa _ _ (S' _ _ hy4),sa _ _ (S' _ _ x2),lenLine (by rw [List.length_cons];show _ + 1 + 1≤100000;walk_at"q"),fun c Hc sc xc=>ka _ _ sc ⟨c,rfl,xc⟩⟩) fun v G2 t G3 sg pv s3 x3=>?_
   obtain ⟨l,rfl,hl⟩:=pv
   have S3:=Same.trans S' (Same.trans sg s3)
   have x3':G3 t=some (.tup [V.str "halves", V.int ((foldM k ++ (foldM k).map (lift (pw k))).length:Int),V.ref o,V.ref u,V.ref l,V.ref a5]):=x3
   exact kk _ _ (Same.trans sg s3) (bad_hlv x3' (.inl ⟨_,rfl⟩) (tt_ints _ (S3 _ _ ho2) lo) (tt_ints _ (S3 _ _ hu2) lu) (p:=.no) (no_len (xs:=y4 ++ [V.str "one"]) (s3 _ _ hl) (.inr (.str _)) (by rw [List.length_append];simp) (by rw [List.length_append,List.length_singleton];walk_at"q")) (hpz.same S3) (Nat.zero_le _) dpz (.inr (.inr (.inl rfl))))
  have SE:=Same.trans SD sE
  clear bD
  try dsimp only [gName]
  refine add2 (wide:=pw (k + 1)) (ws:=foldM (k + 1)) rfl xE (by rw [cE,cD,cC];simp) bE (fun H' Q' s' kk=>?_) (fun H' Q' s' kk=>?_) fun lF ysF HF fF sF xF cF bF=>?_
  ·have S':=Same.trans SE s'
   refine rd3 (Pv:=fun v _=>v=.ref o) rfl (S' _ _ hX2) (by simp) (fun Ha Qa sa ka=>⟨_,rfl,X,_,_,_,rfl,rfl,SqT.of (sa _ _ (S' _ _ hX2)),rfl,ka _ _ (Same.refl _) rfl⟩) fun v G2 t G3 sg pv s3 x3=>?_
   subst pv
   have S3:=Same.trans S' (Same.trans sg s3)
   have x3':G3 t=some (.tup [V.str "halves", V.int ((foldM k ++ (foldM k).map (lift (pw k))).length:Int),V.ref o,V.ref o,V.ref a4,V.ref a5]):=x3
   exact kk _ _ (Same.trans sg s3) (bad_hlv x3' (.inl ⟨_,rfl⟩) (tt_ints _ (S3 _ _ ho2) lo) (tt_ints _ (S3 _ _ ho2) lo) (hpy.same S3) (hpz.same S3) dpy dpz (.inr (.inl (no_twice (by walk_at"q") (S3 _ _ ho2) (.inl rfl)))))
  ·have S':=Same.trans SE s'
   refine rd3 (Pv:=fun v _=>v=.ref u) rfl (S' _ _ hX2) (by simp) (fun Ha Qa sa ka=>⟨_,rfl,X,_,_,_,rfl,rfl,SqT.of (sa _ _ (S' _ _ hX2)),rfl,ka _ _ (Same.refl _) rfl⟩) fun v G2 t G3 sg pv s3 x3=>?_
   subst pv
   have S3:=Same.trans S' (Same.trans sg s3)
   have x3':G3 t=some (.tup [V.str "halves", V.int ((foldM k ++ (foldM k).map (lift (pw k))).length:Int),V.ref u,V.ref u,V.ref a4,V.ref a5]):=x3
   exact kk _ _ (Same.trans sg s3) (bad_hlv x3' (.inl ⟨_,rfl⟩) (tt_ints _ (S3 _ _ hu2) lu) (tt_ints _ (S3 _ _ hu2) lu) (hpy.same S3) (hpz.same S3) dpy dpz (.inr (.inl (no_twice (by walk_at"q") (S3 _ _ hu2) (.inr rfl)))))
  have SF:=Same.trans SE sF
  clear bE
  try dsimp only [gName]
  refine ⟨_,rfl,rfl,_,rfl,?_⟩
  rcases kc with z | z
  ·subst z
   refine iteTd (by decide) ?_
   refine add2 (wide:=pw (0 + 1)) (ws:=foldM (0 + 1)) rfl xF (by rw [cF,cE,cD,cC];simp) bF (fun H' Q' s' kk=>?_) (fun H' Q' s' kk=>?_) fun lG ysG HG fG sG xG cG bG=>?_
   ·have S':=Same.trans SF s'
    refine ⟨lenLine (by show 2≤100000;decide),fun tt ft=>?_⟩
    refine ⟨_,rfl,2,rfl,X,_,rfl,same_new ft _ _ _ (S' _ _ hX2),fun tw Hw sw xw=>?_⟩
    have xw':Hw tw=some (.tup [V.ref o,V.ref u,V.ref a4,V.ref a5]):=xw
    refine ⟨tt,tw,_,_,rfl,rfl,sw _ _ upd_same,xw',lenLine (by show 2 + 4≤100000;decide),fun c Hc sc xc=>?_⟩
    have s3:=Same.trans (same_new ft _) (Same.trans sw sc)
    have S3:=Same.trans S' s3
    have x3':Hc c=some (.tup [V.str "halves", V.bl false,V.ref o,V.ref u,V.ref a4,V.ref a5]):=xc
    exact kk _ _ s3 (bad_hlv x3' (.inr (.bl _)) (tt_ints _ (S3 _ _ ho2) lo) (tt_ints _ (S3 _ _ hu2) lu) (hpy.same S3) (hpz.same S3) dpy dpz (.inl fun i e=>nomatch e))
   ·have S':=Same.trans SF s'
    refine rd3 (Pv:=fun v G=>∃ l,v=.ref l∧G l=some (.tup (V.bl true :: ([]:List Int).map V.int))) rfl (S' _ _ hX2) (by simp) (fun Ha Qa sa ka=>⟨lenLine (by show 1≤100000;decide),fun c f=>ka _ _ (same_new f _) ⟨c,rfl,upd_same⟩⟩) fun v G2 t G3 sg pv s3 x3=>?_
    obtain ⟨l,rfl,hl⟩:=pv
    have S3:=Same.trans S' (Same.trans sg s3)
    have x3':G3 t=some (.tup [V.str "halves", V.int ((foldM 0 ++ (foldM 0).map (lift (pw 0))).length:Int),V.ref o,V.ref l,V.ref a4,V.ref a5]):=x3
    exact kk _ _ (Same.trans sg s3) (bad_hlv x3' (.inl ⟨_,rfl⟩) (tt_ints _ (S3 _ _ ho2) lo) (tt_bl (s3 _ _ hl) (Nat.zero_le _)) (hpy.same S3) (hpz.same S3) dpy dpz (.inr (.inl fun ns ms hf=>no_lanes_bl (s3 _ _ hl) ms hf.2.1)))
   have SG:=Same.trans SF sG
   have l16:ysG.length=16:=by rw [cG,cF,cE,cD,cC];rfl
   try dsimp only [gName]
   refine ⟨_,rfl,_,rfl,_,rfl,lG,_,rfl,.inl (SqL.of xG),?_⟩
   have hpG:HG p=some (.lst [.int pa,.int pb,.int pc]):=SG _ _ (S02 _ _ hp)
   refine ⟨p,_,_,_,_,rfl,hpG,by walk_at"q", by walk_at"q", fun v a9 b9 c9 v0 v1=>?_⟩
   have npl:lG≠p:=fun z=>by rw [z,SF _ _ (S02 _ _ hp)] at fG;cases fG
   have lkp:=like_upd [V.int a9,V.int b9,V.int c9] hpG
   have kp:Kp p H (upd HG p (HO.lst [V.int a9,V.int b9,V.int c9])):=Kp.trans (Kp.same (Same.trans S02 SG)) Kp.upd
   have hp9:(upd HG p (HO.lst [V.int a9,V.int b9,V.int c9])) p=some (.lst [V.int a9,V.int b9,V.int c9]):=upd_same
   have xl9:(upd HG p (HO.lst [V.int a9,V.int b9,V.int c9])) lG=some (.lst ysG):=(upd_ne npl).trans xG
   generalize upd HG p (HO.lst [V.int a9,V.int b9,V.int c9])=H9 at lkp kp hp9 xl9
   have hv:v.toNat < ysG.length:=by walk_at"q"
   have ev:atI ysG v=some (ysG[v.toNat]):=by
    unfold atI
    rw [ixN_of v0 (by walk_at"q")]
    simp [hv]
   refine ⟨lG,_,_,_,rfl,rfl,SqL.of xl9,ev,?_⟩
   exact q _ H9 kp ⟨_,_,_,hp9⟩ ((bG _ (List.getElem_mem hv)).like lkp)
  ·subst z
   refine iteFd (by decide) ?_
   have l14:ysF.length=14:=by rw [cF,cE,cD,cC];rfl
   try dsimp only [gName]
   refine ⟨_,rfl,_,rfl,_,rfl,lF,_,rfl,.inl (SqL.of xF),?_⟩
   have hpF:HF p=some (.lst [.int pa,.int pb,.int pc]):=SF _ _ (S02 _ _ hp)
   refine ⟨p,_,_,_,_,rfl,hpF,by walk_at"q", by walk_at"q", fun v a9 b9 c9 v0 v1=>?_⟩
   have npl:lF≠p:=fun z=>by rw [z,SE _ _ (S02 _ _ hp)] at fF;cases fF
   have lkp:=like_upd [V.int a9,V.int b9,V.int c9] hpF
   have kp:Kp p H (upd HF p (HO.lst [V.int a9,V.int b9,V.int c9])):=Kp.trans (Kp.same (Same.trans S02 SF)) Kp.upd
   have hp9:(upd HF p (HO.lst [V.int a9,V.int b9,V.int c9])) p=some (.lst [V.int a9,V.int b9,V.int c9]):=upd_same
   have xl9:(upd HF p (HO.lst [V.int a9,V.int b9,V.int c9])) lF=some (.lst ysF):=(upd_ne npl).trans xF
   generalize upd HF p (HO.lst [V.int a9,V.int b9,V.int c9])=H9 at lkp kp hp9 xl9
   have hv:v.toNat < ysF.length:=by walk_at"q"
   have ev:atI ysF v=some (ysF[v.toNat]):=by
    unfold atI
    rw [ixN_of v0 (by walk_at"q")]
    simp [hv]
   refine ⟨lF,_,_,_,rfl,rfl,SqL.of xl9,ev,?_⟩
   exact q _ H9 kp ⟨_,_,_,hp9⟩ ((bF _ (List.getElem_mem hv)).like lkp)
theorem sc_same_lanes:FnScope ["_law_net", "_law_found"] [] (defScope s_same_lanes):=⟨rfl,rfl,rfl,by decide +kernel,rfl,by decide +kernel,by decide +kernel⟩
theorem ok_same_lanes (T:Bn mg) (F:Here K mg "_law_same_lanes" s_same_lanes f fd) (Cshows:Callee P w K mg base "shows" 16 ["net", "paper"] (spShowsX 3)):FnOk P w K mg base CX0 17 f fd [] spSame44:=by
 refine F.fn.ok sc_same_lanes (fun vs H Q E h=>?_) (fun cdv A outer s H vs Q E hr h=>?_)
 ·obtain ⟨rfl,_⟩:=h
  rfl
 ·obtain ⟨rfl,q⟩:=h
  refine ⟨_,(@pss_cons _ _ _ _ _ (@ps_set _ _ 0 _ _ _ _ (by exact sc_same_lanes.nd) (by exact rfl) (by walk_at"r") (@PEs.h _ _ _ (q_tup (pas_consD (PEs.mk pe_int) (pas_consD (q_tup (pas_consD (q_tup (pas_consD (PEs.mk pe_int) (pas_consD (PEs.mk pe_int) pas_nil))) (pas_consD (q_tup (pas_consD (PEs.mk pe_int) (pas_consD (PEs.mk pe_int) pas_nil))) (pas_consD (q_tup (pas_consD (PEs.mk pe_int) (pas_consD (PEs.mk pe_int) pas_nil))) (pas_consD (q_tup (pas_consD (PEs.mk pe_int) (pas_consD (PEs.mk pe_int) pas_nil))) (pas_consD (q_tup (pas_consD (PEs.mk pe_int) (pas_consD (PEs.mk pe_int) pas_nil))) pas_nil)))))) pas_nil)))) (by rfl) (by first | exact .inl rfl | exact .inr rfl))
  (by exact (@pss_cons _ _ _ _ _ (by exact (ps_setComp (i:=1) sc_same_lanes.nd rfl (by walk_at"r") ["_law_one"] [("_law_net", 0)] rfl (pi_list (pe_lst (pa_cons (pe_tup (pa_cons pe_int (pa_cons pe_int pa_nil))) (pa_cons (pe_tup (pa_cons pe_int (pa_cons pe_int pa_nil))) (pa_cons (pe_tup (pa_cons pe_int (pa_cons pe_int pa_nil))) pa_nil))))) (fun _ _ _ _ _ _=>by exact (pg_name (i:=0) (show List.Nodup (["_law_one", "_law_net"]:List Str) by decide +kernel) rfl (by walk_at"r"))) (fun _ _ _ _ _ _=>by exact pts_nil) (fun _ _ _ _ _ _=>by exact (pe_callC Cshows (hr.mono (by walk_at"d")) rfl (pa_cons (pv 1) (pa_cons (pe_tup (pa_cons pe_str (pa_cons pe_int (pa_cons (pv 0) (pa_cons (pv 0) (pa_cons (pe_tup (pa_cons pe_str pa_nil)) (pa_cons (pe_tup (pa_cons pe_str pa_nil)) pa_nil))))))) pa_nil))))))
  (by exact (@pss_one _ _ _ (by exact (ps_ret (pe_cmpR (op_neD hr.units) (pv 1) (pe_lst (pa_cons pe_bl (pa_cons pe_bl (pa_cons pe_bl pa_nil)))) (nomark _))))))))),?_⟩
  try dsimp only [gName]
  refine ⟨lenLine (by show 2≤100000;decide),fun t1 f1=>?_⟩
  obtain ⟨H1,e_,s1,x1⟩:=nw f1 (HO.tup [V.int 0,V.int 1]);rw [← e_];clear e_
  refine ⟨lenLine (by show 2≤100000;decide),fun t2 f2=>?_⟩
  obtain ⟨H2,e_,s2,x2⟩:=nw f2 (HO.tup [V.int 0,V.int 2]);rw [← e_];clear e_
  refine ⟨lenLine (by show 2≤100000;decide),fun t3 f3=>?_⟩
  obtain ⟨H3,e_,s3,x3⟩:=nw f3 (HO.tup [V.int 1,V.int 3]);rw [← e_];clear e_
  refine ⟨lenLine (by show 2≤100000;decide),fun t4 f4=>?_⟩
  obtain ⟨H4,e_,s4,x4⟩:=nw f4 (HO.tup [V.int 0,V.int 1]);rw [← e_];clear e_
  refine ⟨lenLine (by show 2≤100000;decide),fun t5 f5=>?_⟩
  obtain ⟨H5,e_,s5,x5⟩:=nw f5 (HO.tup [V.int 2,V.int 3]);rw [← e_];clear e_
  refine ⟨lenLine (by show 5≤100000;decide),fun t6 f6=>?_⟩
  obtain ⟨H6,e_,s6,x6⟩:=nw f6 (HO.tup [V.ref t1,V.ref t2,V.ref t3,V.ref t4,V.ref t5]);rw [← e_];clear e_
  refine ⟨lenLine (by show 2≤100000;decide),fun t7 f7=>?_⟩
  obtain ⟨H7,e_,s7,x7⟩:=nw f7 (HO.tup [V.int 4,V.ref t6]);rw [← e_];clear e_
  have s56:=Same.trans s6 s7
  have s46:=Same.trans s5 s56
  have s36:=Same.trans s4 s46
  have s26:=Same.trans s3 s36
  have s16:=Same.trans s2 s26
  have S7:=Same.trans s1 s16
  have net:Net H7 (.ref t7) 4 [(0,1),(0,2),(1,3),(0,1),(2,3)]:=⟨t7,t6,_,rfl,x7,s7 _ _ x6,.cons ⟨t1,rfl,s16 _ _ x1⟩ (.cons ⟨t2,rfl,s26 _ _ x2⟩ (.cons ⟨t3,rfl,s36 _ _ x3⟩ (.cons ⟨t4,rfl,s46 _ _ x4⟩ (.cons ⟨t5,rfl,s56 _ _ x5⟩ .nil))))⟩
  clear s1 s2 s3 s4 s5 s6 s7 s56 s46 s36 s26 s16 x1 x2 x3 x4 x5 x6 x7 f1 f2 f3 f4 f5 f6 f7
  try dsimp only [gName]
  refine ⟨lenLine (by show 2≤100000;decide),fun t8 f8=>?_⟩
  obtain ⟨H8,e_,s8,x8⟩:=nw f8 (HO.tup [V.int 0,V.int 1]);rw [← e_];clear e_
  refine ⟨lenLine (by show 2≤100000;decide),fun t9 f9=>?_⟩
  obtain ⟨H9,e_,s9,x9⟩:=nw f9 (HO.tup [V.int 1,V.int 0]);rw [← e_];clear e_
  refine ⟨lenLine (by show 2≤100000;decide),fun ta fa=>?_⟩
  obtain ⟨Ha,e_,sa,xa⟩:=nw fa (HO.tup [V.int 0,V.int 0]);rw [← e_];clear e_
  refine ⟨lenLine (by show 3≤100000;decide),fun tb fb=>?_⟩
  obtain ⟨Hb,e_,sb,xb⟩:=nw fb (HO.lst [V.ref t8,V.ref t9,V.ref ta]);rw [← e_];clear e_
  have y8:=sb _ _ (sa _ _ (s9 _ _ x8))
  have y9:=sb _ _ (sa _ _ x9)
  have ya:=sb _ _ xa
  have S7b:=Same.trans s8 (Same.trans s9 (Same.trans sa sb))
  have Sb:=Same.trans S7 S7b
  replace net:=net.kt (KT.same S7b (KT.refl _))
  have two:∀ (i:Nat) (x:V),[V.ref t8,V.ref t9,V.ref ta][i]?=some x→∃ (t:Addr) (as:List Int),x=.ref t∧Hb t=some (.tup (as.map V.int))∧as.length≤20∧¬ (as ++ as).Perm (rngL 0 4):=by
   intro i x hx
   match i,hx with
   | 0,hx=>cases hx;exact ⟨t8,[0,1],rfl,y8,by decide,by decide⟩
   | 1,hx=>cases hx;exact ⟨t9,[1,0],rfl,y9,by decide,by decide⟩
   | 2,hx=>cases hx;exact ⟨ta,[0,0],rfl,ya,by decide,by decide⟩
  clear s8 s9 sa sb x8 x9 xa f8 f9 fa S7 S7b
  refine ⟨tb,rfl,⟨_,SqL.of xb⟩,fun lc fc=>?_⟩
  refine comp_list (xs:=[V.ref t8,V.ref t9,V.ref ta]) (fun i ys Hc=>Same Hb Hc∧Hc lc=some (.lst ys)∧ys=List.replicate i (V.bl false)) ⟨Same.put fc (Same.refl Hb),upd_same,rfl⟩ (lenLine (by show 3≤100000;decide)) (fun i ys Hc hi ⟨sc,e1,e2⟩=>⟨SqL.of (sc _ _ xb),e1,by rw [e2,List.length_replicate];exact Nat.le_refl _⟩) ?_ ?_
  ·rintro i x ys Hc hx ⟨sc,e1,rfl⟩
   obtain ⟨t,as,rfl,ht,la,np⟩:=two i x hx
   refine ⟨⟨.inl rfl,.inr rfl,trivial⟩,tru_if ?_⟩
   refine ⟨_,rfl,_,rfl,_,rfl,?_⟩
   have htc:=sc _ _ ht
   refine ⟨lenLine (by show 1≤100000;decide),fun g1 h1=>?_⟩
   obtain ⟨G1,e_,q1,z1⟩:=nw h1 (HO.tup [V.str "all"]);rw [← e_];clear e_
   refine ⟨lenLine (by show 1≤100000;decide),fun g2 h2=>?_⟩
   obtain ⟨G2,e_,q2,z2⟩:=nw h2 (HO.tup [V.str "all"]);rw [← e_];clear e_
   refine ⟨lenLine (by show 6≤100000;decide),fun g3 h3=>?_⟩
   obtain ⟨G3,e_,q3,z3⟩:=nw h3 (HO.tup [V.str "halves", V.int 1,V.ref t,V.ref t,V.ref g1,V.ref g2]);rw [← e_];clear e_
   have qc:=Same.trans q1 (Same.trans q2 q3)
   have ht3:=qc _ _ htc
   have at3:PxAt G3 (.ref g3) (.hlv (.int 1) (.ref t) (.ref t) .all .all):=⟨g3,_,_,rfl,z3,.inl ⟨1,rfl⟩,tt_ints _ ht3 la,tt_ints _ ht3 la,⟨g1,rfl,q3 _ _ (q2 _ _ z1)⟩,⟨g2,rfl,q3 _ _ z2⟩⟩
   refine ⟨.ref t7,4,_,.ref g3,_,rfl,net.kt (KT.same (Same.trans sc qc) (KT.refl _)),by decide,by decide,(by intro w hw;simp only [List.mem_cons,List.not_mem_nil,or_false] at hw;rcases hw with rfl | rfl | rfl | rfl | rfl <;> decide),by decide,at3,(by show 1 + max 0 0≤3;decide),fun b G4 q4 hb=>?_⟩
   have eb:b=false:=by
    cases b with
    | false=>rfl
    | true =>
     obtain ⟨_,ns,ms,_,_,_,hf,_⟩:=hb.mp rfl
     obtain ⟨rfl,rfl⟩:=half_eq ht3 ht3 hf
     exact absurd hf.2.2.2 np
   subst eb
   have s04:=Same.trans qc q4
   exact ⟨s04 _ _ e1,Same.put fc (Same.trans sc s04),upd_same,by rw [List.replicate_succ']⟩
  ·rintro ys Hc ⟨sc,e1,rfl⟩
   try dsimp only [gName]
   refine ⟨_,rfl,lenLine (by show 3≤100000;decide),fun td fd=>?_⟩
   obtain ⟨Hd,e_,sd,xd⟩:=nw fd (HO.lst [V.bl false,V.bl false,V.bl false]);rw [← e_];clear e_
   have e2:Hd lc=some (.lst [V.bl false,V.bl false,V.bl false]):=sd _ _ e1
   have d3:∀ {l:Addr},Hd l=some (.lst [V.bl false,V.bl false,V.bl false])→Dat Hd (.ref l) (.list [.bool false,.bool false,.bool false]):=fun {l} h=>.lst h (.cons (.bl _) (.cons (.bl _) (.cons (.bl _) .nil)))
   have sh:shaped (.list [.bool false,.bool false,.bool false])=true:=by
    show (PyData.canLay0 _ && decide (PyData.depth _≤64))=true
    simp [PyData.canLay0,PyData.canLayAll0,PyData.depth,PyData.depthAll]
   refine ⟨_,_,d3 e2,d3 xd,sh,sh,by simp [noMix,noMixAll],?_⟩
   have z:Q (.bl (!PySem.Spec.same (.list [.bool false,.bool false,.bool false]) (.list [.bool false,.bool false,.bool false]))) Hd:=by
    rw [PyProof.Rows.same_refl]
    exact q Hd (Same.trans Sb (Same.trans sc sd))
   exact z
theorem sc_law:FnScope ["_law_script", "_law_k", "_law_pen_here", "_law_wide", "_law_wickets_here", "_law_paper_here", "_law_net", "_law_due", "_law_found"] ["_law_script"] (defScope s_law):=⟨rfl,rfl,rfl,by decide +kernel,rfl,by decide +kernel,by decide +kernel⟩
theorem ok_law (T:Bn mg) (F:Here K mg "law" s_law f fd) (C_law_take:Callee P w K mg base "_law_take" 1 ["_law_pen_here", "_law_size"] spTake) (C_law_pen:Callee P w K mg base "_law_pen" 1 ["_law_script", "_law_k"] (spPen K)) (C_law_folded:Callee P w K mg base "_law_folded" 6 ["_law_wide"] (spFold 4)) (C_law_paper:Callee P w K mg base "_law_paper" 12 ["_law_wide"] (spPaper 4)) (C_law_drawn:Callee P w K mg base "_law_drawn" 13 ["_law_pen_here", "_law_wide"] spDrawn5) (C_law_shown:Callee P w K mg base "_law_shown" 12 ["_law_wide", "_law_wickets_here", "_law_paper_here"] (spShown44 4)) (Cshows:Callee P w K mg base "shows" 16 ["net", "paper"] (spShowsX 3)) (C_law_misformed:Callee P w K mg base "_law_misformed" 13 ["_law_pen_here", "_law_wide"] spMis44) (C_law_same_lanes:Callee P w K mg base "_law_same_lanes" 17 [] spSame44) :
  FnOk P w K mg base CX0 19 f fd ["_law_script"] (spLaw K):=by
 refine F.fn.ok sc_law (fun vs H Q E h=>?_) (fun cdv A outer s H vs Q E hr h=>?_)
 ·obtain ⟨a,ns,rfl,_⟩:=h
  rfl
 ·obtain ⟨a,ns,rfl,hS,h63,q⟩:=h
  refine ⟨_,(@pss_cons _ _ _ _ _ (@ps_for _ _ _ _ _ _ _ _ (by exact PassesOwn.never) (by rfl) (by exact (pi_range1 rfl T.n_range (pa_cons pe_int pa_nil))) (by exact (pg_name (i:=1) sc_law.nd rfl (by walk_at"r"))) (by exact (@pss_cons _ _ _ _ _ (@ps_set _ _ 2 _ _ _ _ (by exact sc_law.nd) (by exact rfl) (by walk_at"r") (by exact (pe_callC C_law_pen (hr.mono (by walk_at"d")) rfl (pa_cons (pv 0) (pa_cons (pv 1) pa_nil)))) (by rfl) (by first | exact .inl rfl | exact .inr rfl))
  (by exact (@pss_cons _ _ _ _ _ (@ps_set _ _ 3 _ _ _ _ (by exact sc_law.nd) (by exact rfl) (by walk_at"r") (@pe_ix _ _ _ _ _ _ _ ix_list (@PEs.h _ _ _ (q_lst (pas_consD (PEs.mk pe_int) (pas_consD (PEs.mk pe_int) (pas_consD (PEs.mk pe_int) (pas_consD (PEs.mk pe_int) (pas_consD (PEs.mk pe_int) (pas_consD (PEs.mk (pe_ix ix_list (pe_lst (pa_cons pe_int (pa_cons pe_int pa_nil))) (pe_callTy call_int1 rfl T.n_int boot_intT (pa_cons (pe_cmpR op_gt (pv 1) pe_int (nomark _)) pa_nil)) (fun _ _=>rfl))) pas_nil)))))))) (by exact (pe_callC C_law_take (hr.mono (by walk_at"d")) rfl (pa_cons (pv 2) (pa_cons pe_int pa_nil)))) (by exact (fun _ _=>rfl))) (by rfl) (by first | exact .inl rfl | exact .inr rfl))
  (by exact (@pss_cons _ _ _ _ _ (by exact (ps_asg (pe_callC C_law_drawn (hr.mono (by walk_at"d")) rfl (pa_cons (pv 2) (pa_cons (pv 3) pa_nil))) (pg_tup rfl (pgs_cons (pg_name (i:=4) sc_law.nd rfl (by walk_at"r")) (pgs_cons (pg_name (i:=5) sc_law.nd rfl (by walk_at"r")) pgs_nil)))))
  (by exact (@pss_cons _ _ _ _ _ (@ps_set _ _ 6 _ _ _ _ (by exact sc_law.nd) (by exact rfl) (by walk_at"r") (@PEs.h _ _ _ (q_tup (pas_consD (PEs.mk (pv 3)) (pas_consD (PEs.mk (pe_callTy call_tuple_of rfl T.n_tuple boot_tupleT (pa_cons (pv 4) pa_nil))) pas_nil)))) (by rfl) (by first | exact .inl rfl | exact .inr rfl))
  (by exact (@pss_cons _ _ _ _ _ (@ps_set _ _ 7 _ _ _ _ (by exact sc_law.nd) (by exact rfl) (by walk_at"r") (by exact (pe_callC C_law_shown (hr.mono (by walk_at"d")) rfl (pa_cons (pv 3) (pa_cons (pv 4) (pa_cons (pv 5) pa_nil))))) (by rfl) (by first | exact .inl rfl | exact .inr rfl))
  (by exact (@pss_cons _ _ _ _ _ (@ps_set _ _ 8 _ _ _ _ (by exact sc_law.nd) (by exact rfl) (by walk_at"r") (by exact (pe_callC Cshows (hr.mono (by walk_at"d")) rfl (pa_cons (pv 6) (pa_cons (pv 5) pa_nil)))) (by rfl) (by first | exact .inl rfl | exact .inr rfl))
  (by exact (@pss_cons _ _ _ _ _ (by exact (ps_if (PW.pt (pw_or (pt_not (pt_val (pe_callB call_isinst rfl T.n_isinstance boot_isinstance (pa_cons (pv 8) (pa_cons (pe_bltn (v:=V.ty "bool") (u:=.type "bool") rfl T.n_bool (by decide +kernel) rfl) pa_nil))))) (pw_or (pt_cmpR op_ne (pv 8) (pv 7) (nomark _)) (pw_or1 (PW.pt (pw_and (pt_cmpR op_lt (pv 3) pe_int (nomark _)) (pw_and1 (pt_cmpR op_ne (pe_callC Cshows (hr.mono (by walk_at"d")) rfl (pa_cons (pv 6) (pa_cons (pv 5) pa_nil))) (pv 7) (nomark _)))))))))
  (pss_one (ps_ret pe_bl))
  pss_nil))
  (by exact (@pss_cons _ _ _ _ _ (@ps_set _ _ 3 _ _ _ _ (by exact sc_law.nd) (by exact rfl) (by walk_at"r") (@pe_ix _ _ _ _ _ _ _ ix_list (@PEs.h _ _ _ (q_lst (pas_consD (PEs.mk pe_int) (pas_consD (PEs.mk pe_int) pas_nil)))) (by exact (pe_callC C_law_take (hr.mono (by walk_at"d")) rfl (pa_cons (pv 2) (pa_cons pe_int pa_nil)))) (by exact (fun _ _=>rfl))) (by rfl) (by first | exact .inl rfl | exact .inr rfl))
  (by exact (@pss_cons _ _ _ _ _ (@ps_set _ _ 6 _ _ _ _ (by exact sc_law.nd) (by exact rfl) (by walk_at"r") (@PEs.h _ _ _ (q_tup (pas_consD (PEs.mk (pv 3)) (pas_consD (PEs.mk (pe_callTy call_tuple_of rfl T.n_tuple boot_tupleT (pa_cons (pe_callC C_law_folded (hr.mono (by walk_at"d")) rfl (pa_cons (pv 3) pa_nil)) pa_nil))) pas_nil)))) (by rfl) (by first | exact .inl rfl | exact .inr rfl))
  (by exact (@pss_one _ _ _ (by exact (ps_if (PW.pt (pw_or (pt_cmpR op_notB (pe_callC Cshows (hr.mono (by walk_at"d")) rfl (pa_cons (pv 6) (pa_cons (pe_callC C_law_paper (hr.mono (by walk_at"d")) rfl (pa_cons (pv 3) pa_nil)) pa_nil))) pe_bl (nomark _)) (pw_or1 (pt_cmpR op_notB (pe_callC Cshows (hr.mono (by walk_at"d")) rfl (pa_cons (pv 6) (pa_cons (pe_callC C_law_misformed (hr.mono (by walk_at"d")) rfl (pa_cons (pv 2) (pa_cons (pv 3) pa_nil))) pa_nil))) pe_bl (nomark _)))))
  (pss_one (ps_ret pe_bl))
  pss_nil)))))))))))))))))))))) (by intro x;rfl))
  (by exact (@pss_one _ _ _ (by exact (ps_ret (pe_not (pe_callC0 C_law_same_lanes (hr.mono (by walk_at"d")) rfl))))))),?_⟩
  refine ⟨3,rfl,by decide,by decide,?_⟩
  refine for_range (n:=(3:Int).toNat) (fun i σ Hc=>∃ v1 v2 v3 v4 v5 v6 v7 v8,σ=[some (.ref a),v1,v2,v3,v4,v5,v6,v7,v8]∧Same H Hc) ⟨none,none,none,none,none,none,none,none,rfl,Same.refl H⟩ ?_ ?_
  ·rintro i σ Hc hi ⟨v1,v2,v3,v4,v5,v6,v7,v8,rfl,sc⟩
   have hi4:i < 3:=hi
   refine ⟨_,rfl,_,rfl,a,ns,0 + (i:Int),rfl,sc.seq hS,h63,by walk_at"q", by walk_at"q", fun p pa pb pc fp=>?_⟩
   obtain ⟨H1,e_,s1,hp1⟩:=nw fp (HO.lst [V.int pa,V.int pb,V.int pc]);rw [← e_];clear e_
   refine ⟨lenLine (by show 2≤100000;decide),fun l0 f0=>?_⟩
   obtain ⟨H0,e_,s0,x0⟩:=nw f0 (HO.lst [V.int 8,V.int 4]);rw [← e_];clear e_
   refine ⟨_,rfl,_,_,rfl,rfl,.inr ⟨_,rfl,?_⟩⟩
   obtain ⟨ke,ke3,eke⟩:∃ ke:Nat,ke≤3∧atI [V.int 8,V.int 4] (if decide ((0:Int) + (i:Int) > 0)=true then 1 else 0)=some (.int (pw ke)):=by
    by_cases c:(0:Int) + (i:Int) > 0
    ·exact ⟨2,by decide,by rw [if_pos (decide_eq_true c)];rfl⟩
    ·exact ⟨3,by decide,by rw [if_neg (by simpa using c)];rfl⟩
   refine ⟨l0,_,_,_,rfl,rfl,SqL.of x0,eke,?_⟩
   have hp0:=s0 _ _ hp1
   have s10:=Same.trans s1 s0
   clear s0 x0 f0 eke
   refine ⟨lenLine (by show 6≤100000;decide),fun l2 f2=>?_⟩
   obtain ⟨k2,hp2,x2,n2⟩:=fresh_step hp0 f2 (.lst [V.int 2,V.int 4,V.int 4,V.int 2,V.int 1,V.int (pw ke)])
   generalize upd H0 l2 (HO.lst [V.int 2,V.int 4,V.int 4,V.int 2,V.int 1,V.int (pw ke)])=H2 at k2 hp2 x2
   refine ⟨_,rfl,p,_,_,_,6,rfl,hp2,by decide,by decide,fun v a3 b3 c3 v0 v6'=>?_⟩
   have k3:Kp p H0 (upd H2 p (HO.lst [V.int a3,V.int b3,V.int c3])):=Kp.trans k2 Kp.upd
   have hp3:(upd H2 p (HO.lst [V.int a3,V.int b3,V.int c3])) p=some (.lst [.int a3,.int b3,.int c3]):=upd_same
   have x3:(upd H2 p (HO.lst [V.int a3,V.int b3,V.int c3])) l2=some (.lst [V.int 2,V.int 4,V.int 4,V.int 2,V.int 1,V.int (pw ke)]):=(upd_ne n2).trans x2
   generalize upd H2 p (HO.lst [V.int a3,V.int b3,V.int c3])=H3 at k3 hp3 x3
   obtain ⟨k,ek,kk3⟩:∃ k:Nat,atI [V.int 2,V.int 4,V.int 4,V.int 2,V.int 1,V.int (pw ke)] v=some (.int (pw k))∧k≤3:=by
    have vc:v=0∨v=1∨v=2∨v=3∨v=4∨v=5:=by walk_at"q"
    rcases vc with y | y | y | y | y | y <;> subst y
    ·exact ⟨1,rfl,by decide⟩
    ·exact ⟨2,rfl,by decide⟩
    ·exact ⟨2,rfl,by decide⟩
    ·exact ⟨1,rfl,by decide⟩
    ·exact ⟨0,rfl,by decide⟩
    ·exact ⟨ke,rfl,ke3⟩
   refine ⟨l2,_,_,_,rfl,rfl,SqL.of x3,ek,?_⟩
   have w1:=pw_pos k
   have w8:=pw_le kk3
   refine ⟨_,rfl,_,rfl,p,k,rfl,kk3,⟨_,_,_,hp3⟩,fun T4 l4 x4 ws pp H4 n4 k4 pn4 hT4 wl4 ok len pa4 dep=>?_⟩
   refine ⟨T4,_,rfl,SqT.of hT4,rfl,?_⟩
   refine ⟨_,_,rfl,_,_,rfl,rfl,?_⟩
   obtain ⟨a4,b4,c4,hp4⟩:=pn4
   obtain ⟨rs,xl4,rr4⟩:=wl4
   refine ⟨_,rfl,_,rfl,l4,_,rfl,.inl ⟨SqL.of xl4,fun t5 f5=>?_⟩⟩
   obtain ⟨H5,e_,s5,x5⟩:=nw f5 (HO.tup rs);rw [← e_];clear e_
   refine ⟨lenLine (by show 2≤100000;decide),fun n6 f6=>?_⟩
   obtain ⟨H6,e_,s6,x6⟩:=nw f6 (HO.tup [V.int (pw k),V.ref t5]);rw [← e_];clear e_
   have s46:=Same.trans s5 s6
   have net:Net H6 (.ref n6) (pw k) ws:=⟨n6,t5,rs,rfl,x6,s6 _ _ x5,rr4.same s46⟩
   replace pa4:=pa4.same s46
   obtain ⟨px,ax,dx,hx⟩:=pap_x pa4
   have kcc:∀ {H'},Same H6 H'→Same Hc H':=fun {H'} s' b o e=>s' _ _ (s46 _ _ (k4 _ _ (k3 _ _ (s10 _ _ e) (ne_of_none e fp)) (ne_of_none e fp)))
   have hp6:=s46 _ _ hp4
   refine ⟨_,rfl,_,rfl,_,rfl,pw k,l4,ws,x4,pp,rfl,w1,w8,⟨rs,s46 _ _ xl4,rr4.same s46⟩,ok,by walk_at"q", pa4,by walk_at"q", fun b7 H7 s7 hb7=>?_⟩
   refine ⟨_,rfl,_,rfl,.ref n6,pw k,ws,x4,px,rfl,net.kt (KT.same s7 (KT.refl _)),w1,w8,ok,by walk_at"q", ax.same s7,by walk_at"q", fun b8 H8 s8 hb8=>?_⟩
   have s68:=Same.trans s7 s8
   have eb:b8=b7:=Bool.eq_iff_iff.mpr (hb8.trans (((ShowsX.same s7 ax).trans (hx _ _)).trans hb7.symm))
   subst eb
   clear k3 k4 s5 s6 x5 x6 f5 f6 f2 k2 hp1 hp2 hp3 x2 x3 hT4
   refine ⟨_,rfl,_,_,_,true,rfl,TyOf.bl _,rfl,_,rfl,iteFd (by decide) ?_⟩
   refine ⟨_,rfl,_,rfl,rfl,_,rfl,iteFd (by simp) ?_⟩
   refine ⟨_,rfl,_,_,rfl,rfl,_,rfl,?_⟩
   refine skip_and (fun H9 s9=>?_) fun rem c8=>?_
   rotate_left
   ·refine ⟨_,rfl,_,rfl,.ref n6,pw k,ws,x4,px,rfl,net.kt (KT.same s68 (KT.refl _)),w1,w8,ok,by walk_at"q", ax.same s68,by walk_at"q", fun b9 H9 s9 hb9=>?_⟩
    have eb9:b9=b8:=Bool.eq_iff_iff.mpr (hb9.trans (((ShowsX.same s68 ax).trans (hx _ _)).trans hb7.symm))
    subst eb9
    exact ⟨_,rfl,rfl,_,rfl,iteFd (by simp) (rem H9 s9)⟩
   have S9:=Same.trans s68 s9
   try dsimp only [gName]
   refine ⟨lenLine (by show 2≤100000;decide),fun la fa=>?_⟩
   have hp9:=S9 _ _ hp6
   obtain ⟨ka,hpa,xa,na⟩:=fresh_step hp9 fa (.lst [V.int 2,V.int 4])
   generalize upd H9 la (HO.lst [V.int 2,V.int 4])=Ha at ka hpa xa
   refine ⟨_,rfl,p,_,_,_,2,rfl,hpa,by decide,by decide,fun vb ab bb cb vb0 vb2=>?_⟩
   have kb:Kp p H9 (upd Ha p (HO.lst [V.int ab,V.int bb,V.int cb])):=Kp.trans ka Kp.upd
   have hpb:(upd Ha p (HO.lst [V.int ab,V.int bb,V.int cb])) p=some (.lst [.int ab,.int bb,.int cb]):=upd_same
   have xb:(upd Ha p (HO.lst [V.int ab,V.int bb,V.int cb])) la=some (.lst [V.int 2,V.int 4]):=(upd_ne na).trans xa
   generalize upd Ha p (HO.lst [V.int ab,V.int bb,V.int cb])=Hb at kb hpb xb
   obtain ⟨k2,ek2,k21⟩:∃ k2:Nat,atI [V.int 2,V.int 4] vb=some (.int (pw (k2 + 1)))∧k2≤1:=by
    have vc:vb=0∨vb=1:=by walk_at"q"
    rcases vc with y | y <;> subst y
    ·exact ⟨0,rfl,by decide⟩
    ·exact ⟨1,rfl,by decide⟩
   refine ⟨la,_,_,_,rfl,rfl,SqL.of xb,ek2,?_⟩
   obtain ⟨ok2,len2⟩:=fold_all (k:=k2 + 1) (by walk_at"q")
   have u1:=pw_pos (k2 + 1)
   have u8:=pw_le (k:=k2 + 1) (by walk_at"q")
   refine ⟨_,rfl,_,rfl,k2 + 1,rfl,by walk_at"q", by walk_at"q", fun lf Hf ff sf ⟨rf,xf,rrf⟩=>?_⟩
   refine ⟨lf,_,rfl,.inl ⟨SqL.of xf,fun tg fg=>?_⟩⟩
   obtain ⟨Hg,e_,sg,xg⟩:=nw fg (HO.tup rf);rw [← e_];clear e_
   refine ⟨lenLine (by show 2≤100000;decide),fun nh fh=>?_⟩
   obtain ⟨Hh,e_,sh,xh⟩:=nw fh (HO.tup [V.int (pw (k2 + 1)),V.ref tg]);rw [← e_];clear e_
   have net2:Net Hh (.ref nh) (pw (k2 + 1)) (foldM (k2 + 1)):=⟨nh,tg,rf,rfl,xh,sh _ _ xg,rrf.same (Same.trans sg sh)⟩
   have sbh:=Same.trans sf (Same.trans sg sh)
   refine ⟨_,rfl,_,rfl,k2 + 1,rfl,by walk_at"q", by walk_at"q", fun xi Hi si fxi=>?_⟩
   obtain ⟨pxi,axi,dxi,hxi⟩:=pap_x (fxi.at_ (by walk_at"q"))
   refine ⟨.ref nh,pw (k2 + 1),_,xi,pxi,rfl,net2.kt (KT.same si (KT.refl _)),u1,u8,ok2,by walk_at"q", axi,by rw [dxi,papM_dep];walk_at"q", fun bj Hj sj hbj=>?_⟩
   obtain rfl:bj=true:=hbj.mpr ((hxi _ _).mpr (shows_fold (by walk_at"q")))
   refine ⟨_,_,rfl,rfl,_,rfl,iteFd (by decide) ?_⟩
   have shj:=Same.trans si sj
   have hpj:=shj _ _ (sbh _ _ hpb)
   refine ⟨_,rfl,_,rfl,_,rfl,p,k2,rfl,k21,⟨_,_,_,hpj⟩,fun xk Hk kk pk bad=>?_⟩
   obtain ⟨pxk,axk,dxk,nxk⟩:=bad
   refine ⟨.ref nh,pw (k2 + 1),_,xk,pxk,rfl,net2.kt (KT.kp kk hpj (KT.same shj (KT.refl _))),u1,u8,ok2,by walk_at"q", axk,dxk,fun bl Hl sl hbl=>?_⟩
   have ebl:bl=false:=by
    cases bl with
    | false=>rfl
    | true=>exact absurd (hbl.mp rfl) nxk
   subst ebl
   refine ⟨_,_,rfl,rfl,_,rfl,iteFd (by decide) ?_⟩
   refine ⟨_,_,_,_,_,_,_,_,rfl,Same.trans sc fun b o e=>sl _ _ (kk _ _ (shj _ _ (sbh _ _ (kb _ _ (kcc S9 _ _ e) (ne_of_none e fp)))) (ne_of_none e fp))⟩
  ·rintro σ Hc ⟨v1,v2,v3,v4,v5,v6,v7,v8,rfl,sc⟩
   refine ⟨rfl,fun H' s'=>?_⟩
   exact ⟨_,rfl,q H'⟩
end
end Ep
namespace Ep
open PySem L2 PySem.SeqAt
theorem us1 {us:List Value} (h:us.length=1):∃ a,us=[a]:=by
 cases us with
 | nil=>cases h
 | cons a r=>cases r with
  | nil=>exact ⟨a,rfl⟩
  | cons b r=>simp at h
theorem us2 {us:List Value} (h:us.length=2):∃ a b,us=[a,b]:=by
 cases us with
 | nil=>cases h
 | cons x r =>
  obtain ⟨a,rfl⟩:=us1 (us:=r) (by simpa using h)
  exact ⟨x,a,rfl⟩
theorem us3 {us:List Value} (h:us.length=3):∃ a b c,us=[a,b,c]:=by
 cases us with
 | nil=>cases h
 | cons x r =>
  obtain ⟨a,b,rfl⟩:=us2 (us:=r) (by simpa using h)
  exact ⟨x,a,b,rfl⟩
theorem us4 {us:List Value} (h:us.length=4):∃ a b c d,us=[a,b,c,d]:=by
 cases us with
 | nil=>cases h
 | cons x r =>
  obtain ⟨a,b,c,rfl⟩:=us3 (us:=r) (by simpa using h)
  exact ⟨x,a,b,c,rfl⟩
theorem us5 {us:List Value} (h:us.length=5):∃ a b c d e,us=[a,b,c,d,e]:=by
 cases us with
 | nil=>cases h
 | cons x r =>
  obtain ⟨a,b,c,d,rfl⟩:=us4 (us:=r) (by simpa using h)
  exact ⟨x,a,b,c,d,rfl⟩
theorem us6 {us:List Value} (h:us.length=6):∃ a b c d e f,us=[a,b,c,d,e,f]:=by
 cases us with
 | nil=>cases h
 | cons x r =>
  obtain ⟨a,b,c,d,e,rfl⟩:=us5 (us:=r) (by simpa using h)
  exact ⟨x,a,b,c,d,e,rfl⟩
theorem us7 {us:List Value} (h:us.length=7):∃ a b c d e f g,us=[a,b,c,d,e,f,g]:=by
 cases us with
 | nil=>cases h
 | cons x r =>
  obtain ⟨a,b,c,d,e,f,rfl⟩:=us6 (us:=r) (by simpa using h)
  exact ⟨x,a,b,c,d,e,f,rfl⟩
abbrev Pd (K:PySem.W.Frag) (x:Str) (st:Stmt) (f:Addr) (od an:Option Addr) (sl:Array (Option Value)) (oc kV dc pm cd ct:Value):Prop :=
 PySem.W.nsIn K mainGlobals x=some (some (.ref f))∧K.lookup f=some ⟨oc,od,.func (PySem.W.fnOf x x (defArgs st) (defBody st) (defScope st) .none kV dc pm an cd ct),sl⟩∧PySem.W.codeIn K cd x=true∧PySem.W.keepIn K (.ref f)=true
theorem pd_here {K:PySem.W.Frag} {h:Heap} {mg:Str→Option Value} {x:Str} {st:Stmt} {f:Addr} {od an:Option Addr} {sl:Array (Option Value)} {oc kV dc pm cd ct:Value} (X:K.In h) (G:h.Ns mainGlobals mg) (p:Pd K x st f od an sl oc kV dc pm cd ct):Here K mg x st f (PySem.W.fnOf x x (defArgs st) (defBody st) (defScope st) .none kV dc pm an cd ct) :=
 ⟨fun_mk p.2.1 p.2.2.1 p.2.2.2,PySem.W.mg_of X G p.1⟩
theorem all_mk {l:PySem.W.OpenLaw} {w:World} {K:PySem.W.Frag} {h:Heap} {mg:Str→Option Value} {fa:Addr} (X:K.In h) (G:h.Ns mainGlobals mg) (hfa:mg "law" = some (.ref fa))
  {e_many:Addr} (ae_many:PySem.W.nsIn K mainGlobals "TooMany" = some (some (.ref e_many))) (qe_many:PySem.W.excIn K e_many veB "ValueError.__new__" = true) (me_many:PySem.W.exmOne K (.ref e_many) (.ref e_many)=some true)
  {k_MOST_DOUBLINGS:Tok} (g_MOST_DOUBLINGS:PySem.W.nsIn K mainGlobals "MOST_DOUBLINGS" = some (some (.int 10 k_MOST_DOUBLINGS)))
  {k_MOST_TO_PUT_TOGETHER:Tok} (g_MOST_TO_PUT_TOGETHER:PySem.W.nsIn K mainGlobals "MOST_TO_PUT_TOGETHER" = some (some (.int 32 k_MOST_TO_PUT_TOGETHER)))
  {f1:Addr} {od1 an1:Option Addr} {sl1:Array (Option Value)} {oc1 kV1 dc1 pm1 cd1 ct1:Value}
  (p1:Pd K "_law_take" s_take f1 od1 an1 sl1 oc1 kV1 dc1 pm1 cd1 ct1)
  {f2:Addr} {od2 an2:Option Addr} {sl2:Array (Option Value)} {oc2 kV2 dc2 pm2 cd2 ct2:Value}
  (p2:Pd K "_law_pen" s_pen f2 od2 an2 sl2 oc2 kV2 dc2 pm2 cd2 ct2)
  {f3:Addr} {od3 an3:Option Addr} {sl3:Array (Option Value)} {oc3 kV3 dc3 pm3 cd3 ct3:Value}
  (p3:Pd K "_law_wickets" s_wickets f3 od3 an3 sl3 oc3 kV3 dc3 pm3 cd3 ct3)
  {f4:Addr} {od4 an4:Option Addr} {sl4:Array (Option Value)} {oc4 kV4 dc4 pm4 cd4 ct4:Value}
  (p4:Pd K "_law_lifted" s_lifted f4 od4 an4 sl4 oc4 kV4 dc4 pm4 cd4 ct4)
  {f5:Addr} {od5 an5:Option Addr} {sl5:Array (Option Value)} {oc5 kV5 dc5 pm5 cd5 ct5:Value}
  (p5:Pd K "_law_folded" s_folded f5 od5 an5 sl5 oc5 kV5 dc5 pm5 cd5 ct5)
  {f6:Addr} {od6 an6:Option Addr} {sl6:Array (Option Value)} {oc6 kV6 dc6 pm6 cd6 ct6:Value}
  (p6:Pd K "_law_bent" s_bent f6 od6 an6 sl6 oc6 kV6 dc6 pm6 cd6 ct6)
  {f7:Addr} {od7 an7:Option Addr} {sl7:Array (Option Value)} {oc7 kV7 dc7 pm7 cd7 ct7:Value}
  (p7:Pd K "is_whole" s_is_whole f7 od7 an7 sl7 oc7 kV7 dc7 pm7 cd7 ct7)
  {f8:Addr} {od8 an8:Option Addr} {sl8:Array (Option Value)} {oc8 kV8 dc8 pm8 cd8 ct8:Value}
  (p8:Pd K "is_lane" s_is_lane f8 od8 an8 sl8 oc8 kV8 dc8 pm8 cd8 ct8)
  {f9:Addr} {od9 an9:Option Addr} {sl9:Array (Option Value)} {oc9 kV9 dc9 pm9 cd9 ct9:Value}
  (p9:Pd K "let_through" s_let_through f9 od9 an9 sl9 oc9 kV9 dc9 pm9 cd9 ct9)
  {f10:Addr} {od10 an10:Option Addr} {sl10:Array (Option Value)} {oc10 kV10 dc10 pm10 cd10 ct10:Value}
  (p10:Pd K "exits" s_exits f10 od10 an10 sl10 oc10 kV10 dc10 pm10 cd10 ct10)
  {f11:Addr} {od11 an11:Option Addr} {sl11:Array (Option Value)} {oc11 kV11 dc11 pm11 cd11 ct11:Value}
  (p11:Pd K "layers" s_layers f11 od11 an11 sl11 oc11 kV11 dc11 pm11 cd11 ct11)
  {f12:Addr} {od12 an12:Option Addr} {sl12:Array (Option Value)} {oc12 kV12 dc12 pm12 cd12 ct12:Value}
  (p12:Pd K "depth" s_depth f12 od12 an12 sl12 oc12 kV12 dc12 pm12 cd12 ct12)
  {f13:Addr} {od13 an13:Option Addr} {sl13:Array (Option Value)} {oc13 kV13 dc13 pm13 cd13 ct13:Value}
  (p13:Pd K "depth_power" s_depth_power f13 od13 an13 sl13 oc13 kV13 dc13 pm13 cd13 ct13)
  {f14:Addr} {od14 an14:Option Addr} {sl14:Array (Option Value)} {oc14 kV14 dc14 pm14 cd14 ct14:Value}
  (p14:Pd K "longer_rows" s_longer_rows f14 od14 an14 sl14 oc14 kV14 dc14 pm14 cd14 ct14)
  {f15:Addr} {od15 an15:Option Addr} {sl15:Array (Option Value)} {oc15 kV15 dc15 pm15 cd15 ct15:Value}
  (p15:Pd K "rows_of" s_rows_of f15 od15 an15 sl15 oc15 kV15 dc15 pm15 cd15 ct15)
  {f16:Addr} {od16 an16:Option Addr} {sl16:Array (Option Value)} {oc16 kV16 dc16 pm16 cd16 ct16:Value}
  (p16:Pd K "first_layer" s_first_layer f16 od16 an16 sl16 oc16 kV16 dc16 pm16 cd16 ct16)
  {f17:Addr} {od17 an17:Option Addr} {sl17:Array (Option Value)} {oc17 kV17 dc17 pm17 cd17 ct17:Value}
  (p17:Pd K "common_trials" s_common_trials f17 od17 an17 sl17 oc17 kV17 dc17 pm17 cd17 ct17)
  {f18:Addr} {od18 an18:Option Addr} {sl18:Array (Option Value)} {oc18 kV18 dc18 pm18 cd18 ct18:Value}
  (p18:Pd K "trials" s_trials f18 od18 an18 sl18 oc18 kV18 dc18 pm18 cd18 ct18)
  {f19:Addr} {od19 an19:Option Addr} {sl19:Array (Option Value)} {oc19 kV19 dc19 pm19 cd19 ct19:Value}
  (p19:Pd K "falls" s_falls f19 od19 an19 sl19 oc19 kV19 dc19 pm19 cd19 ct19)
  {f20:Addr} {od20 an20:Option Addr} {sl20:Array (Option Value)} {oc20 kV20 dc20 pm20 cd20 ct20:Value}
  (p20:Pd K "is_level" s_is_level f20 od20 an20 sl20 oc20 kV20 dc20 pm20 cd20 ct20)
  {f21:Addr} {od21 an21:Option Addr} {sl21:Array (Option Value)} {oc21 kV21 dc21 pm21 cd21 ct21:Value}
  (p21:Pd K "level_counts" s_level_counts f21 od21 an21 sl21 oc21 kV21 dc21 pm21 cd21 ct21)
  {f22:Addr} {od22 an22:Option Addr} {sl22:Array (Option Value)} {oc22 kV22 dc22 pm22 cd22 ct22:Value}
  (p22:Pd K "all_on_one" s_all_on_one f22 od22 an22 sl22 oc22 kV22 dc22 pm22 cd22 ct22)
  {f23:Addr} {od23 an23:Option Addr} {sl23:Array (Option Value)} {oc23 kV23 dc23 pm23 cd23 ct23:Value}
  (p23:Pd K "shares" s_shares f23 od23 an23 sl23 oc23 kV23 dc23 pm23 cd23 ct23)
  {f24:Addr} {od24 an24:Option Addr} {sl24:Array (Option Value)} {oc24 kV24 dc24 pm24 cd24 ct24:Value}
  (p24:Pd K "uneven" s_uneven f24 od24 an24 sl24 oc24 kV24 dc24 pm24 cd24 ct24)
  {f25:Addr} {od25 an25:Option Addr} {sl25:Array (Option Value)} {oc25 kV25 dc25 pm25 cd25 ct25:Value}
  (p25:Pd K "levels" s_levels f25 od25 an25 sl25 oc25 kV25 dc25 pm25 cd25 ct25)
  {f26:Addr} {od26 an26:Option Addr} {sl26:Array (Option Value)} {oc26 kV26 dc26 pm26 cd26 ct26:Value}
  (p26:Pd K "is_paper" s_is_paper f26 od26 an26 sl26 oc26 kV26 dc26 pm26 cd26 ct26)
  {f27:Addr} {od27 an27:Option Addr} {sl27:Array (Option Value)} {oc27 kV27 dc27 pm27 cd27 ct27:Value}
  (p27:Pd K "levels_as_told" s_levels_as_told f27 od27 an27 sl27 oc27 kV27 dc27 pm27 cd27 ct27)
  {f28:Addr} {od28 an28:Option Addr} {sl28:Array (Option Value)} {oc28 kV28 dc28 pm28 cd28 ct28:Value}
  (p28:Pd K "are_lanes" s_are_lanes f28 od28 an28 sl28 oc28 kV28 dc28 pm28 cd28 ct28)
  {f29:Addr} {od29 an29:Option Addr} {sl29:Array (Option Value)} {oc29 kV29 dc29 pm29 cd29 ct29:Value}
  (p29:Pd K "are_halves" s_are_halves f29 od29 an29 sl29 oc29 kV29 dc29 pm29 cd29 ct29)
  {f30:Addr} {od30 an30:Option Addr} {sl30:Array (Option Value)} {oc30 kV30 dc30 pm30 cd30 ct30:Value}
  (p30:Pd K "keep_apart" s_keep_apart f30 od30 an30 sl30 oc30 kV30 dc30 pm30 cd30 ct30)
  {f31:Addr} {od31 an31:Option Addr} {sl31:Array (Option Value)} {oc31 kV31 dc31 pm31 cd31 ct31:Value}
  (p31:Pd K "net_within" s_net_within f31 od31 an31 sl31 oc31 kV31 dc31 pm31 cd31 ct31)
  {f32:Addr} {od32 an32:Option Addr} {sl32:Array (Option Value)} {oc32 kV32 dc32 pm32 cd32 ct32:Value}
  (p32:Pd K "exits_of_sums" s_exits_of_sums f32 od32 an32 sl32 oc32 kV32 dc32 pm32 cd32 ct32)
  {f33:Addr} {od33 an33:Option Addr} {sl33:Array (Option Value)} {oc33 kV33 dc33 pm33 cd33 ct33:Value}
  (p33:Pd K "level_below" s_level_below f33 od33 an33 sl33 oc33 kV33 dc33 pm33 cd33 ct33)
  {f34:Addr} {od34 an34:Option Addr} {sl34:Array (Option Value)} {oc34 kV34 dc34 pm34 cd34 ct34:Value}
  (p34:Pd K "all_alike" s_all_alike f34 od34 an34 sl34 oc34 kV34 dc34 pm34 cd34 ct34)
  {f35:Addr} {od35 an35:Option Addr} {sl35:Array (Option Value)} {oc35 kV35 dc35 pm35 cd35 ct35:Value}
  (p35:Pd K "put_together" s_put_together f35 od35 an35 sl35 oc35 kV35 dc35 pm35 cd35 ct35)
  {f36:Addr} {od36 an36:Option Addr} {sl36:Array (Option Value)} {oc36 kV36 dc36 pm36 cd36 ct36:Value}
  (p36:Pd K "shown_by_halves" s_shown_by_halves f36 od36 an36 sl36 oc36 kV36 dc36 pm36 cd36 ct36)
  {f37:Addr} {od37 an37:Option Addr} {sl37:Array (Option Value)} {oc37 kV37 dc37 pm37 cd37 ct37:Value}
  (p37:Pd K "shows" s_shows f37 od37 an37 sl37 oc37 kV37 dc37 pm37 cd37 ct37)
  {f38:Addr} {od38 an38:Option Addr} {sl38:Array (Option Value)} {oc38 kV38 dc38 pm38 cd38 ct38:Value}
  (p38:Pd K "_law_deep" s_deep f38 od38 an38 sl38 oc38 kV38 dc38 pm38 cd38 ct38)
  {f39:Addr} {od39 an39:Option Addr} {sl39:Array (Option Value)} {oc39 kV39 dc39 pm39 cd39 ct39:Value}
  (p39:Pd K "_law_through" s_through f39 od39 an39 sl39 oc39 kV39 dc39 pm39 cd39 ct39)
  {f40:Addr} {od40 an40:Option Addr} {sl40:Array (Option Value)} {oc40 kV40 dc40 pm40 cd40 ct40:Value}
  (p40:Pd K "_law_even" s_even f40 od40 an40 sl40 oc40 kV40 dc40 pm40 cd40 ct40)
  {f41:Addr} {od41 an41:Option Addr} {sl41:Array (Option Value)} {oc41 kV41 dc41 pm41 cd41 ct41:Value}
  (p41:Pd K "_law_laid" s_laid f41 od41 an41 sl41 oc41 kV41 dc41 pm41 cd41 ct41)
  {f42:Addr} {od42 an42:Option Addr} {sl42:Array (Option Value)} {oc42 kV42 dc42 pm42 cd42 ct42:Value}
  (p42:Pd K "_law_puts" s_puts f42 od42 an42 sl42 oc42 kV42 dc42 pm42 cd42 ct42)
  {f43:Addr} {od43 an43:Option Addr} {sl43:Array (Option Value)} {oc43 kV43 dc43 pm43 cd43 ct43:Value}
  (p43:Pd K "_law_told_so" s_told_so f43 od43 an43 sl43 oc43 kV43 dc43 pm43 cd43 ct43)
  {f44:Addr} {od44 an44:Option Addr} {sl44:Array (Option Value)} {oc44 kV44 dc44 pm44 cd44 ct44:Value}
  (p44:Pd K "_law_shown" s_shown f44 od44 an44 sl44 oc44 kV44 dc44 pm44 cd44 ct44)
  {f45:Addr} {od45 an45:Option Addr} {sl45:Array (Option Value)} {oc45 kV45 dc45 pm45 cd45 ct45:Value}
  (p45:Pd K "_law_paper" s_paper f45 od45 an45 sl45 oc45 kV45 dc45 pm45 cd45 ct45)
  {f46:Addr} {od46 an46:Option Addr} {sl46:Array (Option Value)} {oc46 kV46 dc46 pm46 cd46 ct46:Value}
  (p46:Pd K "_law_order" s_order f46 od46 an46 sl46 oc46 kV46 dc46 pm46 cd46 ct46)
  {f47:Addr} {od47 an47:Option Addr} {sl47:Array (Option Value)} {oc47 kV47 dc47 pm47 cd47 ct47:Value}
  (p47:Pd K "_law_exchanged" s_exchanged f47 od47 an47 sl47 oc47 kV47 dc47 pm47 cd47 ct47)
  {f48:Addr} {od48 an48:Option Addr} {sl48:Array (Option Value)} {oc48 kV48 dc48 pm48 cd48 ct48:Value}
  (p48:Pd K "_law_other_net" s_other_net f48 od48 an48 sl48 oc48 kV48 dc48 pm48 cd48 ct48)
  {f49:Addr} {od49 an49:Option Addr} {sl49:Array (Option Value)} {oc49 kV49 dc49 pm49 cd49 ct49:Value}
  (p49:Pd K "_law_drawn" s_drawn f49 od49 an49 sl49 oc49 kV49 dc49 pm49 cd49 ct49)
  {f50:Addr} {od50 an50:Option Addr} {sl50:Array (Option Value)} {oc50 kV50 dc50 pm50 cd50 ct50:Value}
  (p50:Pd K "_law_misformed" s_misformed f50 od50 an50 sl50 oc50 kV50 dc50 pm50 cd50 ct50)
  {f51:Addr} {od51 an51:Option Addr} {sl51:Array (Option Value)} {oc51 kV51 dc51 pm51 cd51 ct51:Value}
  (p51:Pd K "_law_same_lanes" s_same_lanes f51 od51 an51 sl51 oc51 kV51 dc51 pm51 cd51 ct51)
  {f52:Addr} {od52 an52:Option Addr} {sl52:Array (Option Value)} {oc52 kV52 dc52 pm52 cd52 ct52:Value}
  (p52:Pd K "law" s_law f52 od52 an52 sl52 oc52 kV52 dc52 pm52 cd52 ct52)
  (z1:PySem.W.nsIn K mainGlobals "len" = some none) (z2:PySem.W.nsIn K mainGlobals "max" = some none) (z3:PySem.W.nsIn K mainGlobals "min" = some none) (z4:PySem.W.nsIn K mainGlobals "int" = some none) (z5:PySem.W.nsIn K mainGlobals "bool" = some none) (z6:PySem.W.nsIn K mainGlobals "list" = some none) (z7:PySem.W.nsIn K mainGlobals "tuple" = some none) (z8:PySem.W.nsIn K mainGlobals "str" = some none) (z9:PySem.W.nsIn K mainGlobals "dict" = some none) (z10:PySem.W.nsIn K mainGlobals "range" = some none) (z11:PySem.W.nsIn K mainGlobals "isinstance" = some none) (z12:PySem.W.nsIn K mainGlobals "all" = some none) (z13:PySem.W.nsIn K mainGlobals "any" = some none) (z14:PySem.W.nsIn K mainGlobals "enumerate" = some none) (z15:PySem.W.nsIn K mainGlobals "sum" = some none) (z16:PySem.W.nsIn K mainGlobals "abs" = some none) (z17:PySem.W.nsIn K mainGlobals "sorted" = some none) (z18:PySem.W.nsIn K mainGlobals "reversed" = some none) (z19:PySem.W.nsIn K mainGlobals "zip" = some none) (z20:PySem.W.nsIn K mainGlobals "ord" = some none) (z21:PySem.W.nsIn K mainGlobals "repr" = some none) (z22:PySem.W.nsIn K mainGlobals "set" = some none) (z23:PySem.W.nsIn K mainGlobals "divmod" = some none) (z24:PySem.W.nsIn K mainGlobals "ValueError" = some none) (z25:PySem.W.nsIn K mainGlobals "KeyError" = some none) :
  ∃ fd:FuncData,(∀ (s:Shared) (v:Value),BindsTo s fd ⟨[v],[]⟩ [("_law_script", v)])∧∀ base:Heap,K.In base→base.Ns mainGlobals mg→FnOk l.prog w K mg base CX0 19 fa fd ["_law_script"] (spLaw K):=by
 have e:=hfa.symm.trans (PySem.W.mg_of X G p52.1)
 cases e
 have ERM:ManyT K mg e_many:=⟨qe_many,PySem.W.mg_of X G ae_many,me_many⟩
 have GMOST_DOUBLINGS:∃ t,mg "MOST_DOUBLINGS" = some (.int 10 t):=⟨_,PySem.W.mg_of X G g_MOST_DOUBLINGS⟩
 have GMOST_TO_PUT_TOGETHER:∃ t,mg "MOST_TO_PUT_TOGETHER" = some (.int 32 t):=⟨_,PySem.W.mg_of X G g_MOST_TO_PUT_TOGETHER⟩
 have H_take:=pd_here X G p1
 have H_pen:=pd_here X G p2
 have H_wickets:=pd_here X G p3
 have H_lifted:=pd_here X G p4
 have H_folded:=pd_here X G p5
 have H_bent:=pd_here X G p6
 have H_is_whole:=pd_here X G p7
 have H_is_lane:=pd_here X G p8
 have H_let_through:=pd_here X G p9
 have H_exits:=pd_here X G p10
 have H_layers:=pd_here X G p11
 have H_depth:=pd_here X G p12
 have H_depth_power:=pd_here X G p13
 have H_longer_rows:=pd_here X G p14
 have H_rows_of:=pd_here X G p15
 have H_first_layer:=pd_here X G p16
 have H_common_trials:=pd_here X G p17
 have H_trials:=pd_here X G p18
 have H_falls:=pd_here X G p19
 have H_is_level:=pd_here X G p20
 have H_level_counts:=pd_here X G p21
 have H_all_on_one:=pd_here X G p22
 have H_shares:=pd_here X G p23
 have H_uneven:=pd_here X G p24
 have H_levels:=pd_here X G p25
 have H_is_paper:=pd_here X G p26
 have H_levels_as_told:=pd_here X G p27
 have H_are_lanes:=pd_here X G p28
 have H_are_halves:=pd_here X G p29
 have H_keep_apart:=pd_here X G p30
 have H_net_within:=pd_here X G p31
 have H_exits_of_sums:=pd_here X G p32
 have H_level_below:=pd_here X G p33
 have H_all_alike:=pd_here X G p34
 have H_put_together:=pd_here X G p35
 have H_shown_by_halves:=pd_here X G p36
 have H_shows:=pd_here X G p37
 have H_deep:=pd_here X G p38
 have H_through:=pd_here X G p39
 have H_even:=pd_here X G p40
 have H_laid:=pd_here X G p41
 have H_puts:=pd_here X G p42
 have H_told_so:=pd_here X G p43
 have H_shown:=pd_here X G p44
 have H_paper:=pd_here X G p45
 have H_order:=pd_here X G p46
 have H_exchanged:=pd_here X G p47
 have H_other_net:=pd_here X G p48
 have H_drawn:=pd_here X G p49
 have H_misformed:=pd_here X G p50
 have H_same_lanes:=pd_here X G p51
 have H_law:=pd_here X G p52
 have T:Bn mg:=⟨PySem.W.mg_none_of X G z1,PySem.W.mg_none_of X G z2,PySem.W.mg_none_of X G z3,PySem.W.mg_none_of X G z4,PySem.W.mg_none_of X G z5,PySem.W.mg_none_of X G z6,PySem.W.mg_none_of X G z7,PySem.W.mg_none_of X G z8,PySem.W.mg_none_of X G z9,PySem.W.mg_none_of X G z10,PySem.W.mg_none_of X G z11,PySem.W.mg_none_of X G z12,PySem.W.mg_none_of X G z13,PySem.W.mg_none_of X G z14,PySem.W.mg_none_of X G z15,PySem.W.mg_none_of X G z16,PySem.W.mg_none_of X G z17,PySem.W.mg_none_of X G z18,PySem.W.mg_none_of X G z19,PySem.W.mg_none_of X G z20,PySem.W.mg_none_of X G z21,PySem.W.mg_none_of X G z22,PySem.W.mg_none_of X G z23,PySem.W.mg_none_of X G z24,PySem.W.mg_none_of X G z25⟩
 refine ⟨PySem.W.fnOf "law" "law" (defArgs s_law) (defBody s_law) (defScope s_law) .none kV52 dc52 pm52 an52 cd52 ct52,fun s v=>.of_eq rfl,fun base _ _=>?_⟩
 have C_law_take:Callee l.prog w K mg base "_law_take" 1 ["_law_pen_here", "_law_size"] spTake:=H_take.callee (ok_take H_take) (fun _ _ _ _ _ _ u h=>by obtain⟨x0,x1,rfl⟩:=us2 h;rfl)
 have C_law_pen:Callee l.prog w K mg base "_law_pen" 1 ["_law_script", "_law_k"] (spPen K):=H_pen.callee (ok_pen T H_pen) (fun _ _ _ _ _ _ u h=>by obtain⟨x0,x1,rfl⟩:=us2 h;rfl)
 have C_law_wickets:Callee l.prog w K mg base "_law_wickets" 2 ["_law_pen_here", "_law_wide", "_law_many"] spWickets:=H_wickets.callee (ok_wickets T H_wickets C_law_take) (fun _ _ _ _ _ _ u h=>by obtain⟨x0,x1,x2,rfl⟩:=us3 h;rfl)
 have C_law_lifted:Callee l.prog w K mg base "_law_lifted" 1 ["_law_wickets_here", "_law_by"] spLifted:=H_lifted.callee (ok_lifted H_lifted) (fun _ _ _ _ _ _ u h=>by obtain⟨x0,x1,rfl⟩:=us2 h;rfl)
 have R_folded:∀ n:Nat,Callee l.prog w K mg base "_law_folded" (n + 1) ["_law_wide"] (spFold n):=fun n=>by
   induction n with
   | zero=>exact H_folded.callee ok_folded0 (fun _ _ _ _ _ _ u h=>by obtain⟨x0,rfl⟩:=us1 h;rfl)
   | succ n ih=>exact H_folded.callee (ok_folded1 T H_folded C_law_lifted ih) (fun _ _ _ _ _ _ u h=>by obtain⟨x0,rfl⟩:=us1 h;rfl)
 have C_law_folded:Callee l.prog w K mg base "_law_folded" 6 ["_law_wide"] (spFold 4):=(R_folded 4).mono (by decide)
 have C_law_bent:Callee l.prog w K mg base "_law_bent" 3 ["_law_pen_here", "_law_wide", "_law_wickets_here"] spBentX:=H_bent.callee (ok_bent T H_bent C_law_take C_law_wickets) (fun _ _ _ _ _ _ u h=>by obtain⟨x0,x1,x2,rfl⟩:=us3 h;rfl)
 have Cis_wholeS:Callee l.prog w K mg base "is_whole" 1 ["thing"] spWholeG:=H_is_whole.callee (ok_is_whole T H_is_whole) (fun _ _ _ _ _ _ u h=>by obtain⟨x0,rfl⟩:=us1 h;rfl)
 have Cis_whole:Callee l.prog w K mg base "is_whole" 1 ["thing"] spIsWhole:=Cis_wholeS.imp whole_of
 have Cis_wholeT:Callee l.prog w K mg base "is_whole" 1 ["thing"] spWholeT:=Cis_wholeS.imp whole_t
 have Cis_laneT:Callee l.prog w K mg base "is_lane" 2 ["wide", "thing"] spLaneT:=H_is_lane.callee (ok_is_lane T H_is_lane Cis_wholeT) (fun _ _ _ _ _ _ u h=>by obtain⟨x0,x1,rfl⟩:=us2 h;rfl)
 have Cis_lane:Callee l.prog w K mg base "is_lane" 2 ["wide", "thing"] spIsLane:=Cis_laneT.imp lane_t
 have Clet_through:Callee l.prog w K mg base "let_through" 1 ["net", "counts"] spThru:=H_let_through.callee (ok_let_through T H_let_through) (fun _ _ _ _ _ _ u h=>by obtain⟨x0,x1,rfl⟩:=us2 h;rfl)
 have Cexits:Callee l.prog w K mg base "exits" 2 ["net", "counts"] spExits:=H_exits.callee (ok_exits T H_exits Clet_through) (fun _ _ _ _ _ _ u h=>by obtain⟨x0,x1,rfl⟩:=us2 h;rfl)
 have Clayers:Callee l.prog w K mg base "layers" 1 ["net"] spLayers:=H_layers.callee (ok_layers T H_layers) (fun _ _ _ _ _ _ u h=>by obtain⟨x0,rfl⟩:=us1 h;rfl)
 have Cdepth:Callee l.prog w K mg base "depth" 2 ["net"] spDepth:=H_depth.callee (ok_depth T H_depth Clayers) (fun _ _ _ _ _ _ u h=>by obtain⟨x0,rfl⟩:=us1 h;rfl)
 have Cdepth_power:Callee l.prog w K mg base "depth_power" 3 ["net"] spPower:=H_depth_power.callee (ok_depth_power T H_depth_power Cdepth) (fun _ _ _ _ _ _ u h=>by obtain⟨x0,rfl⟩:=us1 h;rfl)
 have Clonger_rows:Callee l.prog w K mg base "longer_rows" 1 ["rows", "numbers"] spLonger:=H_longer_rows.callee (ok_longer_rows T H_longer_rows) (fun _ _ _ _ _ _ u h=>by obtain⟨x0,x1,rfl⟩:=us2 h;rfl)
 have Crows_of:Callee l.prog w K mg base "rows_of" 2 ["choices"] spRowsOf:=H_rows_of.callee (ok_rows_of T H_rows_of Clonger_rows) (fun _ _ _ _ _ _ u h=>by obtain⟨x0,rfl⟩:=us1 h;rfl)
 have Cfirst_layer:Callee l.prog w K mg base "first_layer" 2 ["net"] spFirst:=H_first_layer.callee (ok_first_layer T H_first_layer Clayers) (fun _ _ _ _ _ _ u h=>by obtain⟨x0,rfl⟩:=us1 h;rfl)
 have Ccommon_trials:CalleeE l.prog w K mg base "common_trials" 4 ["one", "other"] (spCommon e_many):=H_common_trials.calleeE (ok_common_trials T H_common_trials ERM GMOST_DOUBLINGS Cdepth Cfirst_layer Cdepth_power Crows_of) (fun _ _ _ _ _ _ u h=>by obtain⟨x0,x1,rfl⟩:=us2 h;rfl)
 have Ctrials:CalleeE l.prog w K mg base "trials" 5 ["net"] (spTrials e_many):=H_trials.calleeE (ok_trials H_trials Ccommon_trials) (fun _ _ _ _ _ _ u h=>by obtain⟨x0,rfl⟩:=us1 h;rfl)
 have Cfalls:Callee l.prog w K mg base "falls" 1 ["values"] spFalls:=H_falls.callee (ok_falls T H_falls) (fun _ _ _ _ _ _ u h=>by obtain⟨x0,rfl⟩:=us1 h;rfl)
 have Cis_level:Callee l.prog w K mg base "is_level" 2 ["counts"] spLevel:=H_is_level.callee (ok_is_level T H_is_level Cfalls) (fun _ _ _ _ _ _ u h=>by obtain⟨x0,rfl⟩:=us1 h;rfl)
 have Clevel_counts:Callee l.prog w K mg base "level_counts" 1 ["wide", "total"] spLevelC:=H_level_counts.callee (ok_level_counts T H_level_counts) (fun _ _ _ _ _ _ u h=>by obtain⟨x0,x1,rfl⟩:=us2 h;rfl)
 have Call_on_one:Callee l.prog w K mg base "all_on_one" 1 ["wide", "lane", "number"] spOnOne:=H_all_on_one.callee (ok_all_on_one T H_all_on_one) (fun _ _ _ _ _ _ u h=>by obtain⟨x0,x1,x2,rfl⟩:=us3 h;rfl)
 have Cshares:Callee l.prog w K mg base "shares" 4 ["net"] spShares:=H_shares.callee (ok_shares T H_shares Cdepth_power Call_on_one Cexits) (fun _ _ _ _ _ _ u h=>by obtain⟨x0,rfl⟩:=us1 h;rfl)
 have Cuneven:Callee l.prog w K mg base "uneven" 5 ["net"] spUneven:=H_uneven.callee (ok_uneven T H_uneven Cshares) (fun _ _ _ _ _ _ u h=>by obtain⟨x0,rfl⟩:=us1 h;rfl)
 have Clevels:CalleeE l.prog w K mg base "levels" 6 ["net"] (spLevels e_many):=H_levels.calleeE (ok_levels T H_levels Cuneven Call_on_one Cdepth_power Ctrials Cis_level Cexits) (fun _ _ _ _ _ _ u h=>by obtain⟨x0,rfl⟩:=us1 h;rfl)
 have Cis_paper:Callee l.prog w K mg base "is_paper" 1 ["thing", "word", "size"] spIsPaper:=H_is_paper.callee (ok_is_paper T H_is_paper) (fun _ _ _ _ _ _ u h=>by obtain⟨x0,x1,x2,rfl⟩:=us3 h;rfl)
 have Clevels_as_told:Callee l.prog w K mg base "levels_as_told" 7 ["net"] spAsTold:=H_levels_as_told.callee (ok_levels_as_told T H_levels_as_told ERM Clevels) (fun _ _ _ _ _ _ u h=>by obtain⟨x0,rfl⟩:=us1 h;rfl)
 have Care_lanes:Callee l.prog w K mg base "are_lanes" 3 ["wide", "things"] spAreLanesG:=H_are_lanes.callee (ok_are_lanes T H_are_lanes Cis_laneT) (fun _ _ _ _ _ _ u h=>by obtain⟨x0,x1,rfl⟩:=us2 h;rfl)
 have Care_halves:Callee l.prog w K mg base "are_halves" 4 ["wide", "one", "other"] spAreHalvesG:=H_are_halves.callee (ok_are_halves T H_are_halves Care_lanes) (fun _ _ _ _ _ _ u h=>by obtain⟨x0,x1,x2,rfl⟩:=us3 h;rfl)
 have Ckeep_apart:Callee l.prog w K mg base "keep_apart" 1 ["wickets", "half"] spKeep:=H_keep_apart.callee (ok_keep_apart T H_keep_apart) (fun _ _ _ _ _ _ u h=>by obtain⟨x0,x1,rfl⟩:=us2 h;rfl)
 have Cnet_within:Callee l.prog w K mg base "net_within" 1 ["half", "wickets"] spWithin:=H_net_within.callee (ok_net_within T H_net_within) (fun _ _ _ _ _ _ u h=>by obtain⟨x0,x1,rfl⟩:=us2 h;rfl)
 have Cexits_of_sums:Callee l.prog w K mg base "exits_of_sums" 3 ["net", "one", "other", "sums"] spSums:=H_exits_of_sums.callee (ok_exits_of_sums T H_exits_of_sums Clevel_counts Cexits) (fun _ _ _ _ _ _ u h=>by obtain⟨x0,x1,x2,x3,rfl⟩:=us4 h;rfl)
 have Clevel_below:Callee l.prog w K mg base "level_below" 4 ["net", "one", "other", "most"] spBelow:=H_level_below.callee (ok_level_below T H_level_below Cexits_of_sums Cis_level) (fun _ _ _ _ _ _ u h=>by obtain⟨x0,x1,x2,x3,rfl⟩:=us4 h;rfl)
 have Call_alike:Callee l.prog w K mg base "all_alike" 1 ["row"] spAlikeR:=H_all_alike.callee (ok_all_alike T H_all_alike) (fun _ _ _ _ _ _ u h=>by obtain⟨x0,rfl⟩:=us1 h;rfl)
 have Cput_together:Callee l.prog w K mg base "put_together" 5 ["net", "one", "other"] spTogether:=H_put_together.callee (ok_put_together T H_put_together GMOST_TO_PUT_TOGETHER Cdepth_power Clevel_below Cexits_of_sums Call_alike) (fun _ _ _ _ _ _ u h=>by obtain⟨x0,x1,x2,rfl⟩:=us3 h;rfl)
 have R_shows:∀ n:Nat,Callee l.prog w K mg base "shown_by_halves" (2 * n + 9) ["net", "paper"] (spShownX n)∧Callee l.prog w K mg base "shows" (2 * n + 10) ["net", "paper"] (spShowsX n):=fun n=>by
   induction n with
   | zero =>
    have a:Callee l.prog w K mg base "shown_by_halves" 9 ["net", "paper"] (spShownX 0):=H_shown_by_halves.callee ok_shown_by_halves0 (fun _ _ _ _ _ _ u h=>by obtain⟨x0,x1,rfl⟩:=us2 h;rfl)
    exact ⟨a,H_shows.callee (ok_shows1 (m:=0) T H_shows Cis_paper Clevels_as_told a) (fun _ _ _ _ _ _ u h=>by obtain⟨x0,x1,rfl⟩:=us2 h;rfl)⟩
   | succ n ih =>
    have a:Callee l.prog w K mg base "shown_by_halves" (2 * n + 2 + 9) ["net", "paper"] (spShownX (n + 1)):=H_shown_by_halves.callee (ok_shown_by_halves1 (m:=2 * n + 2) T H_shown_by_halves Cis_wholeT Care_halves Ckeep_apart Cput_together Cnet_within ih.2) (fun _ _ _ _ _ _ u h=>by obtain⟨x0,x1,rfl⟩:=us2 h;rfl)
    exact ⟨a,H_shows.callee (ok_shows1 (m:=2 * n + 2) T H_shows Cis_paper Clevels_as_told a) (fun _ _ _ _ _ _ u h=>by obtain⟨x0,x1,rfl⟩:=us2 h;rfl)⟩
 have Cshows:Callee l.prog w K mg base "shows" 16 ["net", "paper"] (spShowsX 3):=(R_shows 3).2.mono (by decide)
 have C_law_deep:Callee l.prog w K mg base "_law_deep" 1 ["_law_wickets_here"] spDeep44:=H_deep.callee (ok_deep T H_deep) (fun _ _ _ _ _ _ u h=>by obtain⟨x0,rfl⟩:=us1 h;rfl)
 have C_law_through:Callee l.prog w K mg base "_law_through" 1 ["_law_wickets_here", "_law_counts"] spThru44:=H_through.callee (ok_through T H_through) (fun _ _ _ _ _ _ u h=>by obtain⟨x0,x1,rfl⟩:=us2 h;rfl)
 have C_law_even:Callee l.prog w K mg base "_law_even" 1 ["_law_counts"] spEven44:=H_even.callee (ok_even T H_even) (fun _ _ _ _ _ _ u h=>by obtain⟨x0,rfl⟩:=us1 h;rfl)
 have C_law_laid:Callee l.prog w K mg base "_law_laid" 1 ["_law_one", "_law_other", "_law_here", "_law_there"] spLaid44:=H_laid.callee (ok_laid T H_laid) (fun _ _ _ _ _ _ u h=>by obtain⟨x0,x1,x2,x3,rfl⟩:=us4 h;rfl)
 have C_law_puts:Callee l.prog w K mg base "_law_puts" 2 ["_law_wickets_here", "_law_one", "_law_other"] spPuts44:=H_puts.callee (ok_puts T H_puts C_law_deep C_law_through C_law_even C_law_laid) (fun _ _ _ _ _ _ u h=>by obtain⟨x0,x1,x2,rfl⟩:=us3 h;rfl)
 have C_law_told_so:Callee l.prog w K mg base "_law_told_so" 7 ["_law_net"] spAsTold:=H_told_so.callee (ok_told_so T H_told_so ERM Clevels) (fun _ _ _ _ _ _ u h=>by obtain⟨x0,rfl⟩:=us1 h;rfl)
 have R_shown:∀ n:Nat,Callee l.prog w K mg base "_law_shown" (n + 8) ["_law_wide", "_law_wickets_here", "_law_paper_here"] (spShown44 n):=fun n=>by
   induction n with
   | zero=>exact H_shown.callee ok_shown0 (fun _ _ _ _ _ _ u h=>by obtain⟨x0,x1,x2,rfl⟩:=us3 h;rfl)
   | succ n ih=>exact H_shown.callee (ok_shown1 T H_shown C_law_told_so C_law_puts ih) (fun _ _ _ _ _ _ u h=>by obtain⟨x0,x1,x2,rfl⟩:=us3 h;rfl)
 have C_law_shown:Callee l.prog w K mg base "_law_shown" 12 ["_law_wide", "_law_wickets_here", "_law_paper_here"] (spShown44 4):=(R_shown 4).mono (by decide)
 have R_paper:∀ n:Nat,Callee l.prog w K mg base "_law_paper" (n + 7) ["_law_wide"] (spPaper n):=fun n=>by
   induction n with
   | zero=>exact H_paper.callee ok_paper0 (fun _ _ _ _ _ _ u h=>by obtain⟨x0,rfl⟩:=us1 h;rfl)
   | succ n ih=>exact H_paper.callee (ok_paper1 T H_paper C_law_folded ih) (fun _ _ _ _ _ _ u h=>by obtain⟨x0,rfl⟩:=us1 h;rfl)
 have C_law_paper:Callee l.prog w K mg base "_law_paper" 12 ["_law_wide"] (spPaper 4):=(R_paper 4).mono (by decide)
 have C_law_order:Callee l.prog w K mg base "_law_order" 2 ["_law_pen_here", "_law_wide"] spOrder:=H_order.callee (ok_order T H_order C_law_take) (fun _ _ _ _ _ _ u h=>by obtain⟨x0,x1,rfl⟩:=us2 h;rfl)
 have C_law_exchanged:Callee l.prog w K mg base "_law_exchanged" 1 ["_law_paper_here"] spExch:=H_exchanged.callee (ok_exchanged T H_exchanged) (fun _ _ _ _ _ _ u h=>by obtain⟨x0,rfl⟩:=us1 h;rfl)
 have C_law_other_net:Callee l.prog w K mg base "_law_other_net" 4 ["_law_pen_here", "_law_wide", "_law_way", "_law_wickets_here", "_law_k", "_law_lane", "_law_far"] spOther:=H_other_net.callee (ok_other_net T H_other_net C_law_take C_law_wickets C_law_bent) (fun _ _ _ _ _ _ u h=>by obtain⟨x0,x1,x2,x3,x4,x5,x6,rfl⟩:=us7 h;rfl)
 have C_law_drawn:Callee l.prog w K mg base "_law_drawn" 13 ["_law_pen_here", "_law_wide"] spDrawn5:=H_drawn.callee (ok_drawn T H_drawn C_law_take C_law_folded C_law_paper C_law_order C_law_exchanged C_law_other_net) (fun _ _ _ _ _ _ u h=>by obtain⟨x0,x1,rfl⟩:=us2 h;rfl)
 have C_law_misformed:Callee l.prog w K mg base "_law_misformed" 13 ["_law_pen_here", "_law_wide"] spMis44:=H_misformed.callee (ok_misformed T H_misformed C_law_take C_law_folded C_law_paper) (fun _ _ _ _ _ _ u h=>by obtain⟨x0,x1,rfl⟩:=us2 h;rfl)
 have C_law_same_lanes:Callee l.prog w K mg base "_law_same_lanes" 17 [] spSame44:=H_same_lanes.callee (ok_same_lanes T H_same_lanes Cshows) (fun _ _ _ _ _ _ u h=>by cases u with | nil=>rfl | cons a b=>simp at h)
 exact ok_law T H_law C_law_take C_law_pen C_law_folded C_law_paper C_law_drawn C_law_shown Cshows C_law_misformed C_law_same_lanes
theorem walk {l:PySem.W.OpenLaw} {q:Program} {loose:List Str} {XP:(Str→Option Value)→Heap→Prop} {YP:World→Heap→Prop} {d:DefRec} {K:Params→PySem.W.Frag} (hn:l.most=some 63) (hdf:d.params.defaults=[])
  (hY:∀ (w:World) (h:Heap),YP w h→(K w.params).In h)
  (F:∀ (w:World) (mg:Str→Option Value) (fa:Addr) (h:Heap),(K w.params).In h→h.Ns mainGlobals mg→mg d.name=some (.ref fa) →
   ∃ fd:FuncData,(∀ (s:Shared) (u:Value),BindsTo s fd ⟨[u],[]⟩ [("_law_script", u)])∧∀ base:Heap,(K w.params).In base→base.Ns mainGlobals mg→FnOk l.prog w (K w.params) mg base CX0 19 fa fd ["_law_script"] (spLaw (K w.params))) :
  PySem.W.WalkO q loose XP YP l.row.toRowW d [] (fun f vs=>PySem.call f vs) :=
 L2.walk_of (n:=63) (k:=19) (x := "_law_script") (CX:=fun _=>CX0) (sp:=fun w=>spLaw (K w.params)) hn (by decide) hdf ⟨rfl,by decide,by decide,rfl⟩ hY F (fun _ _ a ns hl _ hS=>⟨a,ns,rfl,hS,hl,fun _=>rfl⟩) fun _ _ _ _ _ z=>z
end Ep
open PySem PySem.W PyProof.Rows
set_option maxRecDepth 100000 in
set_option maxHeartbeats 0 in
theorem PySem.Challenge.cw_evenpass_k44_halves_looked_at_holds : PySem.Challenge.rw_evenpass_k44_halves_looked_at.Holds := by
 w_on;o_law;k_head;(case hw=>w_witness2)
 k_fill
 refine Ep.walk (l:=PySem.Challenge.rw_evenpass_k44_halves_looked_at) rfl rfl (fun w h Y=>PySem.W.kIn_of Y) ?F
 case F =>
  intro w mg fa h KX G hmg
  refine' Ep.all_mk KX G hmg ?ae_many ?qe_many ?me_many ?g_MOST_DOUBLINGS ?g_MOST_TO_PUT_TOGETHER ?p1 ?p2 ?p3 ?p4 ?p5 ?p6 ?p7 ?p8 ?p9 ?p10 ?p11 ?p12 ?p13 ?p14 ?p15 ?p16 ?p17 ?p18 ?p19 ?p20 ?p21 ?p22 ?p23 ?p24 ?p25 ?p26 ?p27 ?p28 ?p29 ?p30 ?p31 ?p32 ?p33 ?p34 ?p35 ?p36 ?p37 ?p38 ?p39 ?p40 ?p41 ?p42 ?p43 ?p44 ?p45 ?p46 ?p47 ?p48 ?p49 ?p50 ?p51 ?p52 ?z1 ?z2 ?z3 ?z4 ?z5 ?z6 ?z7 ?z8 ?z9 ?z10 ?z11 ?z12 ?z13 ?z14 ?z15 ?z16 ?z17 ?z18 ?z19 ?z20 ?z21 ?z22 ?z23 ?z24 ?z25
  (case ae_many=>k_is);(case qe_many=>k_exc);(case me_many=>kernel_rfl)
  (case g_MOST_DOUBLINGS=>k_is)
  (case g_MOST_TO_PUT_TOGETHER=>k_is)
  case p1=>refine ⟨?_,?_,?_,?_⟩ <;> k_is
  case p2=>refine ⟨?_,?_,?_,?_⟩ <;> k_is
  case p3=>refine ⟨?_,?_,?_,?_⟩ <;> k_is
  case p4=>refine ⟨?_,?_,?_,?_⟩ <;> k_is
  case p5=>refine ⟨?_,?_,?_,?_⟩ <;> k_is
  case p6=>refine ⟨?_,?_,?_,?_⟩ <;> k_is
  case p7=>refine ⟨?_,?_,?_,?_⟩ <;> k_is
  case p8=>refine ⟨?_,?_,?_,?_⟩ <;> k_is
  case p9=>refine ⟨?_,?_,?_,?_⟩ <;> k_is
  case p10=>refine ⟨?_,?_,?_,?_⟩ <;> k_is
  case p11=>refine ⟨?_,?_,?_,?_⟩ <;> k_is
  case p12=>refine ⟨?_,?_,?_,?_⟩ <;> k_is
  case p13=>refine ⟨?_,?_,?_,?_⟩ <;> k_is
  case p14=>refine ⟨?_,?_,?_,?_⟩ <;> k_is
  case p15=>refine ⟨?_,?_,?_,?_⟩ <;> k_is
  case p16=>refine ⟨?_,?_,?_,?_⟩ <;> k_is
  case p17=>refine ⟨?_,?_,?_,?_⟩ <;> k_is
  case p18=>refine ⟨?_,?_,?_,?_⟩ <;> k_is
  case p19=>refine ⟨?_,?_,?_,?_⟩ <;> k_is
  case p20=>refine ⟨?_,?_,?_,?_⟩ <;> k_is
  case p21=>refine ⟨?_,?_,?_,?_⟩ <;> k_is
  case p22=>refine ⟨?_,?_,?_,?_⟩ <;> k_is
  case p23=>refine ⟨?_,?_,?_,?_⟩ <;> k_is
  case p24=>refine ⟨?_,?_,?_,?_⟩ <;> k_is
  case p25=>refine ⟨?_,?_,?_,?_⟩ <;> k_is
  case p26=>refine ⟨?_,?_,?_,?_⟩ <;> k_is
  case p27=>refine ⟨?_,?_,?_,?_⟩ <;> k_is
  case p28=>refine ⟨?_,?_,?_,?_⟩ <;> k_is
  case p29=>refine ⟨?_,?_,?_,?_⟩ <;> k_is
  case p30=>refine ⟨?_,?_,?_,?_⟩ <;> k_is
  case p31=>refine ⟨?_,?_,?_,?_⟩ <;> k_is
  case p32=>refine ⟨?_,?_,?_,?_⟩ <;> k_is
  case p33=>refine ⟨?_,?_,?_,?_⟩ <;> k_is
  case p34=>refine ⟨?_,?_,?_,?_⟩ <;> k_is
  case p35=>refine ⟨?_,?_,?_,?_⟩ <;> k_is
  case p36=>refine ⟨?_,?_,?_,?_⟩ <;> k_is
  case p37=>refine ⟨?_,?_,?_,?_⟩ <;> k_is
  case p38=>refine ⟨?_,?_,?_,?_⟩ <;> k_is
  case p39=>refine ⟨?_,?_,?_,?_⟩ <;> k_is
  case p40=>refine ⟨?_,?_,?_,?_⟩ <;> k_is
  case p41=>refine ⟨?_,?_,?_,?_⟩ <;> k_is
  case p42=>refine ⟨?_,?_,?_,?_⟩ <;> k_is
  case p43=>refine ⟨?_,?_,?_,?_⟩ <;> k_is
  case p44=>refine ⟨?_,?_,?_,?_⟩ <;> k_is
  case p45=>refine ⟨?_,?_,?_,?_⟩ <;> k_is
  case p46=>refine ⟨?_,?_,?_,?_⟩ <;> k_is
  case p47=>refine ⟨?_,?_,?_,?_⟩ <;> k_is
  case p48=>refine ⟨?_,?_,?_,?_⟩ <;> k_is
  case p49=>refine ⟨?_,?_,?_,?_⟩ <;> k_is
  case p50=>refine ⟨?_,?_,?_,?_⟩ <;> k_is
  case p51=>refine ⟨?_,?_,?_,?_⟩ <;> k_is
  case p52=>refine ⟨?_,?_,?_,?_⟩ <;> k_is
  (case z1=>k_is)
  (case z2=>k_is)
  (case z3=>k_is)
  (case z4=>k_is)
  (case z5=>k_is)
  (case z6=>k_is)
  (case z7=>k_is)
  (case z8=>k_is)
  (case z9=>k_is)
  (case z10=>k_is)
  (case z11=>k_is)
  (case z12=>k_is)
  (case z13=>k_is)
  (case z14=>k_is)
  (case z15=>k_is)
  (case z16=>k_is)
  (case z17=>k_is)
  (case z18=>k_is)
  (case z19=>k_is)
  (case z20=>k_is)
  (case z21=>k_is)
  (case z22=>k_is)
  (case z23=>k_is)
  (case z24=>k_is)
  (case z25=>k_is)
