import PyProof.Rows.All
import Wide.All
import OpenK.AllK
import Wide.FinOn
import Lean
import PyProof.EqAt
import PyProof.EqKinds
import PyProof.TupleCall
import KE.KRevSl
import KE.KTryMore
import PySem.Challenge.RW_evenpass_k91_whole_numbers_of_nets_that
set_option Elab.async false
set_option linter.all false
set_option maxRecDepth 100000
set_option maxHeartbeats 4000000
local macro_rules | `(tactic| walk_at "q") => `(tactic| first | lia | omega)
local macro_rules | `(tactic| walk_at "r") => `(tactic| first | exact Or.inl rfl | exact Or.inr rfl)
local macro_rules | `(tactic| walk_at "d") => `(tactic| first | decide | lia | omega)
namespace PySem.W.Fast
def tw2365186329240634680:=0
def tw14432662972152927929:=0
def tw4811406858191554245:=0
def tw3950256495730097057:=0
def tw7366169597170044903:=0
def tw9105467442495872815:=0
def tw13460978282596983506:=0
def tw15260072044536756814:=0
def tw18116274705764523333:=0
def tw7355606500807132831:=0
def tw4942523370597014337:=0
def tw7836919085246800002:=0
def tw16863002899317265638:=0
def tw14135205010301521504:=0
def tw17960975283045180171:=0
def tw11011057157842373032:=0
def tw1362482414709551709:=0
def tw6117994814661447110:=0
def tw1941796521456908081:=0
def tw10857211341552215071:=0
def tw15080812937081811277:=0
def tw803970059092607448:=0
def tw2542367961864388200:=0
def tw13436000690725838553:=0
def tw16150340014521568748:=0
def tw10814382163485636263:=0
def tw6785967813364027056:=0
def tw2428450724803375741:=0
def tw18408897838513849994:=0
def tw8606893096186453240:=0
def tw17630930170477976617:=0
def tw13086895392013015552:=0
def tw2828759536830573309:=0
def tw8738568695033476390:=0
def tw11062189231372585328:=0
def tw1034735919380708871:=0
def tw3723714025032980868:=0
def tw7110521819557049373:=0
def tw16251651786184005308:=0
def tw1749748393586734486:=0
def tw16354862121977385830:=0
def tw14730959525627713374:=0
def tw10686806399689413732:=0
def tw18350999830801298634:=0
def tw6726551090090858109:=0
def tw2728238284287620097:=0
def tw6135499371932208845:=0
def tw15157287482828564812:=0
def tw11836381318928760523:=0
def tw225343086664783623:=0
def tw17218155448144495077:=0
def tw5990691976795385186:=0
def tw10256088901756549547:=0
def tw4372889945781406329:=0
def tw12959886061852002112:=0
def tw1287809252072002904:=0
def tw14700985286650636071:=0
def tw1308269511464147276:=0
def tw17283777077774035348:=0
def tw17368115312164637981:=0
def tw4616631131945295274:=0
def tw11606456121134523167:=0
def tw4213035310460423729:=0
def tw16013323273570626809:=0
def tw13141298975737769660:=0
def tw18060925875621891439:=0
def tw10436092301969584927:=0
def tw700463778299455749:=0
def tw13552225421264625330:=0
def tw1259147117402113327:=0
def tw2208715229076378757:=0
def tw11562229334388123888:=0
def tw3435174621928115665:=0
def tw4307110973260714664:=0
def tw17601604201344638873:=0
def tw17978645928983779457:=0
def tw10725700705820716929:=0
def tw11516945427107480730:=0
def tw11114182038074615533:=0
def tw13810136336638362919:=0
def tw17749183475112565377:=0
def tw6610853107521401232:=0
def tw12566767571936251935:=0
def tw521466338460847052:=0
def tw18409832739354292749:=0
def tw2169169539831201253:=0
def tw5643477786674165705:=0
def tw15619653715904918963:=0
def tw16439621164581472159:=0
def tw5829337598380658523:=0
def tw12604081646430860640:=0
def tw11261834250173229537:=0
def tw17530540419971500345:=0
def tw12031519920776148308:=0
def tw10295917123990899808:=0
def tw7276980750363396844:=0
def tw11713326009708642864:=0
def tw615166666275659649:=0
def tw12967196857035263425:=0
def tw9356195019583406822:=0
def tw16312333869921013517:=0
def tw18407632729712869197:=0
def tw5031121559701450522:=0
def tw9352685536211481929:=0
def tw16526544727982838188:=0
def tw10007538398518318847:=0
def tw503596635650538142:=0
def tw135488068706632320:=0
def tw174262820062609482:=0
def tw505240756713410887:=0
def tw5514379853353821821:=0
def tw12723179056320033945:=0
def tw12712501477870141589:=0
def tw1340213931478072998:=0
def tw12859686526290214219:=0
def tw3109448009037072080:=0
def tw18398975803895939052:=0
def tw15860123328442428889:=0
def tw13897973296866425154:=0
def tw10696893935868452783:=0
def tw1077529253352426198:=0
def tw3218776926709629309:=0
def tw11801106784966858060:=0
def tw5605158585360945517:=0
def tw1827685664501146376:=0
def tw10930382055605958963:=0
def tw10461617438648048962:=0
def tw14940365592371301207:=0
def tw13214336705137132273:=0
def tw786378731044727360:=0
def tw14831631376368478121:=0
def tw2019392798376930745:=0
def tw7900607901143026758:=0
def tw11973312680967972323:=0
def tw11292010612495728998:=0
def tw16057221657848342826:=0
def tw2511009697839501170:=0
def tw9932341393608855353:=0
def tw11274062171079064205:=0
def tw9973529446080515173:=0
def tw4350334252452608641:=0
def tw5785287088210716622:=0
def tw12323524013058284358:=0
def tw14231647932226728102:=0
def tw10822649522810837946:=0
def tw2042552263163033973:=0
def tw14166069088556276177:=0
def tw6804086934758521435:=0
def tw8870796326757892888:=0
def tw7141236077066924267:=0
def tw17803356389050440702:=0
def tw5861965529486274111:=0
def tw14252663315531393456:=0
def tw1682428310530404944:=0
def tw6513412253853069808:=0
def tw8083233099978266958:=0
def tw3800924032417010300:=0
def tw2105121337746028326:=0
def tw13934469416248077743:=0
def tw9412593708131594825:=0
def tw2814863397588229233:=0
def tw4155863746091613084:=0
def tw3408802219483446356:=0
def tw5564412555196537270:=0
def tw8256556239086934401:=0
def tw9051901249854226831:=0
def tw17315230576861779133:=0
def tw16586829241676470643:=0
def tw3655138998292038758:=0
def tw6314336664151766305:=0
def tw1501102012678046288:=0
def tw16888842861763192856:=0
def tw5449568153161877647:=0
def tw15352944082967119417:=0
def tw11676523028863832375:=0
def tw2351741515687187723:=0
def tw12131354598570385332:=0
def tw6944370822188429255:=0
def tw7373157578648478436:=0
def tw14516081957934843920:=0
def tw17894534990202327623:=0
def tw11823626170290799019:=0
def tw12337552470275741329:=0
def tw2360252918495668910:=0
def tw12658396702127065525:=0
def tw11876455147378271252:=0
def tw9450424193350328486:=0
def tw9863764465692109659:=0
def tw17462230950965465283:=0
def tw7695499350523043896:=0
def tw15323330360887060267:=0
def tw11954268684432813094:=0
def tw1766265471169866729:=0
def tw1960250305636892524:=0
def tw18323118085818465640:=0
def tw3115745744962789057:=0
def tw9711686893169078360:=0
def tw16222346230719488395:=0
def tw13329364183953055459:=0
def tw3027993242328992834:=0
def tw1865986429077623207:=0
def tw14602614415784409062:=0
def tw14205010155750665515:=0
def tw11563186676297352729:=0
def tw14718838418452498582:=0
def tw7514588617198816052:=0
def tw4688502242067763495:=0
def tw9421074531632133479:=0
def tw5605206002248019916:=0
def tw5941059823979076984:=0
def tw7403324782412456777:=0
def tw14248316913387733310:=0
def tw1465104473497587772:=0
def tw4369328626599522240:=0
def tw18423642559164713311:=0
def tw7135732970699198439:=0
def tw7043705171459383183:=0
def tw10840287557734812207:=0
def tw15409018690855151062:=0
def tw7440689869218483083:=0
def tw18147018891039717294:=0
def tw13337010982841481155:=0
def tw14350633229265811083:=0
def tw4484747762399995684:=0
def tw14970613513383620364:=0
def tw14787182553739977326:=0
def tw12679241711953283280:=0
def tw5746957485477219370:=0
def tw17051066748440950987:=0
def tw13864964641657164065:=0
def tw10568680978597471167:=0
def tw8881740099036457164:=0
def tw3260356425587528788:=0
def tw13360523457314111949:=0
def tw3095130044435845027:=0
def tw2353649214707789341:=0
def tw12164081672357037390:=0
def tw7025922626153982297:=0
def tw11750792382283136008:=0
def tw6033533745889783997:=0
def tw6315422225849056766:=0
def tw18268700670839029709:=0
def tw1801547254645125275:=0
def tw8408503911317999525:=0
def tw13163503456856241982:=0
def tw2356607084073407600:=0
def tw11499550507742474043:=0
def tw18078580198744358857:=0
def tw1553977665581819837:=0
def tw3765734750657873747:=0
def tw8154742797341709976:=0
def tw3551906948045290521:=0
def tw10891544672570586293:=0
def tw9632340526038045129:=0
def tw11776354918064836143:=0
def tw3812184327920409334:=0
def tw14228797355138307480:=0
def tw8506225458632829098:=0
def tw3590946648642355002:=0
def tw5004614958705271370:=0
def tw12854629237038029207:=0
def tw972146490872027451:=0
def tw8595187931239308105:=0
def tw8091865819644293640:=0
def tw12607259707733909706:=0
def tw18210517528508041236:=0
def tw6038084477622796405:=0
def tw6805529635579323579:=0
def tw12227639572935888797:=0
def tw2720998429382510749:=0
def tw15368428947441908793:=0
def tw6408142032359837371:=0
def tw4432054589610710641:=0
def tw18279756152333438307:=0
def tw16452254761794098097:=0
def tw12808768688509466362:=0
def tw8228530081257190065:=0
def tw11650944167032351160:=0
def tw8450378671561097613:=0
def tw1563729980211535721:=0
def tw2041463275038699413:=0
def tw13881482157690447753:=0
def tw16318271097519277752:=0
def tw4972703875693985334:=0
def tw12565007434213954190:=0
def tw18094005085555001783:=0
def tw18018226113567104702:=0
def tw9711004232931307960:=0
def tw9078932246377688524:=0
def tw10797706531797792939:=0
def tw5899494837049618477:=0
def tw2760992938067303690:=0
def tw14728445578435612191:=0
def tw8344477100890642625:=0
def tw16121341715199471745:=0
def tw16533684479089304383:=0
def tw15936535575228714452:=0
def tw8716853268406504913:=0
def tw15804897795411721224:=0
def tw17029382407793558819:=0
def tw16811402040289795520:=0
def tw13783145838598174867:=0
def tw9537416831603358968:=0
def tw5390598763113129796:=0
def tw6476682772436892704:=0
def tw6196023326568626362:=0
def tw2782349155355716806:=0
def tw17894537171476134397:=0
def tw2908552187577664444:=0
def tw10126609374490403510:=0
def tw6257901633039133680:=0
def tw6155772895138348835:=0
def tw12489070614699147814:=0
def tw238576705525371725:=0
def tw10947927945443397858:=0
def tw16167677821736311424:=0
def tw2371522001888248947:=0
def tw13707549647837258462:=0
def tw17090476791625880992:=0
def tw17082016908912597409:=0
def tw17229267121857393503:=0
def tw2647291020400317473:=0
def tw11644103166274156300:=0
def tw5934489851125561672:=0
def tw11831695052684532437:=0
def tw7485225237970390227:=0
def tw13778095126497095370:=0
def tw10955108410790536764:=0
def tw16649468129865616630:=0
def tw4183961971741409288:=0
def tw10828721111948765163:=0
def tw8023477963976349417:=0
def tw4630118011158827154:=0
def tw4731705480337430189:=0
def tw14960060776264267960:=0
def tw13822078599070726288:=0
def tw8434539967296865622:=0
def tw5805397825185928608:=0
def tw10515779473490968766:=0
def tw13678706872762278284:=0
def tw13555161825094432938:=0
def tw3117653400337792889:=0
def tw17447608439589619518:=0
def tw1997624486743099682:=0
def tw17598275871450479275:=0
def tw7203953895743729848:=0
def tw13921590373632250900:=0
def tw4303584516537063192:=0
def tw12032629256733133105:=0
def tw7877416840386358347:=0
def tw16669376734098331143:=0
def tw10229572014731092386:=0
def tw12476102154686497821:=0
def tw12894245801758702502:=0
def tw23432656357019084:=0
def tw16937600160528726956:=0
def tw1729900842658030780:=0
def tw4963336128082292984:=0
def tw4250971809631793307:=0
def tw14784468653628023621:=0
def tw15328808778742618725:=0
def tw1049903406164961240:=0
def tw18101608474710838159:=0
def tw10700402357864489390:=0
def tw11066572409170412200:=0
def tw17115769369252882134:=0
def tw9870561068353563729:=0
def tw1842879315151683915:=0
def tw14307718467871392047:=0
def tw16645300465281235038:=0
def tw7440612878800698939:=0
def tw5946060312138687214:=0
def tw6987731243363116342:=0
def tw14460044556932811655:=0
def tw8056357126857730010:=0
def tw8979176377298693329:=0
def tw11555496119359113333:=0
def tw10939884534912666891:=0
def tw8110925716817083717:=0
def tw8193983336706098867:=0
def tw5679458535152439384:=0
def tw15761314116345334164:=0
def tw11595834762147228389:=0
def tw7268012739020543555:=0
def tw3957278935110585248:=0
def tw12289944244900526167:=0
def tw7689517611678056396:=0
def tw12670866002209195507:=0
def tw10665606131845088466:=0
def tw17500825850449258669:=0
def tw15566427925702814701:=0
def tw15461688799109241795:=0
def tw1775594660040903299:=0
def tw16209489062004726754:=0
def tw15148866194646193657:=0
def tw9588108481455397523:=0
def tw8782555539672799544:=0
def tw6297177086060656099:=0
def tw9853970145561402098:=0
def tw7438625170730964663:=0
def tw3302327169454710212:=0
def tw17203499713048266560:=0
def tw14370818633559396931:=0
def tw16888032041126483916:=0
def tw10164676623734615857:=0
def tw13709608668877129757:=0
def tw4888466580280738698:=0
def tw11973162072619149333:=0
def tw16988080980650917502:=0
def tw1808173209772110331:=0
def tw8053447875521104138:=0
def tw7670055045639509392:=0
def tw8744307099150210026:=0
def tw1019478120325551023:=0
def tw17374394964455182898:=0
def tw15801339170225814377:=0
def tw16428183745756601740:=0
def tw11240879103473534892:=0
def tw5815781013299752762:=0
def tw7930502858824071341:=0
end PySem.W.Fast
namespace L2
open PySem PySem.Spec PyProof.Rows
section
abbrev Key:=Sum Int Str
def keyIs:Key→Value→Bool
 |.inl k,v=>Value.isInt k v
 |.inr x,v=>Value.isStrOf x v
def keyH (w:World):Key→Int
 |.inl k=>hashInt k
 |.inr x=>hashStr w x
theorem keyIs_shape:∀ {k:Key} {v:Value},keyIs k v=true→(∃ i t,k=Sum.inl i∧v=Value.int i t)∨(∃ x t,k=Sum.inr x∧v=Value.str x t)
 |.inl i,v,h=>by
  obtain ⟨t,e⟩:=Value.isInt_shape (k:=i) (v:=v) h
  exact .inl ⟨i,t,rfl,e⟩
 |.inr x,v,h=>by
  obtain ⟨t,e⟩:=Value.isStrOf_shape (x:=x) (v:=v) h
  exact .inr ⟨x,t,rfl,e⟩
theorem keyIs_int (i:Int) (t:Tok):keyIs (.inl i) (.int i t)=true:=by simp [keyIs,Value.isInt]
theorem keyIs_str (x:Str) (t:Tok):keyIs (.inr x) (.str x t)=true:=by simp [keyIs,Value.isStrOf]
theorem key_ll (a b:Int):decide ((Sum.inl a:Key)=Sum.inl b)=(a == b):=by
 by_cases e:a=b
 ·subst e;simp
 ·have h:¬ (Sum.inl a:Key)=Sum.inl b:=fun q=>e (Sum.inl.inj q)
  rw [decide_eq_false h]
  exact (beq_eq_false_iff_ne.mpr e).symm
theorem key_rr (a b:Str):decide ((Sum.inr a:Key)=Sum.inr b)=decide (a=b):=by
 by_cases e:a=b
 ·subst e;simp
 ·have h:¬ (Sum.inr a:Key)=Sum.inr b:=fun q=>e (Sum.inr.inj q)
  rw [decide_eq_false h,decide_eq_false e]
theorem key_lr (a:Int) (b:Str):decide ((Sum.inl a:Key)=Sum.inr b)=false:=decide_eq_false (fun q=>nomatch q)
theorem key_rl (a:Str) (b:Int):decide ((Sum.inr a:Key)=Sum.inl b)=false:=decide_eq_false (fun q=>nomatch q)
def mixKind (prog:Program) (w:World):PySem.KeyKind prog w Key where
 is:=keyIs
 hash:=keyH w
 inj:=fun v a b ha hb=>by
  rcases keyIs_shape ha with ⟨i,t,rfl,rfl⟩|⟨x,t,rfl,rfl⟩
  ·rcases keyIs_shape hb with ⟨j,u,rfl,e⟩|⟨y,u,rfl,e⟩
   ·injection e with e1 _;rw [e1]
   ·exact nomatch e
  ·rcases keyIs_shape hb with ⟨j,u,rfl,e⟩|⟨y,u,rfl,e⟩
   ·exact nomatch e
   ·injection e with e1 _;rw [e1]
 byValue:=fun k v h=>by
  rcases keyIs_shape h with ⟨i,t,rfl,rfl⟩|⟨x,t,rfl,rfl⟩<;>rfl
 pyHash:=fun hv h=>by
  rcases keyIs_shape hv with ⟨i,t,rfl,rfl⟩|⟨x,t,rfl,rfl⟩
  ·exact wpAny_pyHash_int h
  ·exact wpAny_pyHash_str h
 eqBool:=fun hu hv h=>by
  rcases keyIs_shape hu with ⟨i,t,rfl,rfl⟩|⟨x,t,rfl,rfl⟩
  ·rcases keyIs_shape hv with ⟨j,u,rfl,rfl⟩|⟨y,u,rfl,rfl⟩
   ·rw [key_ll] at h;exact wpAny_eqBool_int h
   ·rw [key_lr] at h;exact SeqAt.EqAt.int_str i t y u _ _ _ _ h
  ·rcases keyIs_shape hv with ⟨j,u,rfl,rfl⟩|⟨y,u,rfl,rfl⟩
   ·rw [key_rl] at h;exact SeqAt.EqAt.str_int x t j u _ _ _ _ h
   ·rw [key_rr] at h;exact wpAny_eqBool_str h
 «strs»:=fun k x t v h=>by
  rcases keyIs_shape h with ⟨i,u,rfl,e⟩|⟨y,u,rfl,e⟩
  ·exact nomatch e
  ·injection e with e1 _
   subst e1
   cases v<;>rfl
theorem mixKind_int (prog:Program) (w:World) (i:Int) (t:Tok):(mixKind prog w).is (.inl i) (.int i t)=true:=keyIs_int i t
theorem mixKind_str (prog:Program) (w:World) (x:Str) (t:Tok):(mixKind prog w).is (.inr x) (.str x t)=true:=keyIs_str x t
end
section
inductive V where
 |non|bl (b:Bool)|int (i:Int)|str (x:Str)|byt (b:Array UInt8)|flt (b:UInt64)|ref (a:Addr)|ty (n:String)
 deriving DecidableEq
def RelV:V→Value→Prop
 |.non,u=>u=Value.none
 |.bl b,u=>u=Value.bool b
 |.int i,u=>∃ t,u=Value.int i t
 |.str x,u=>∃ t,u=Value.str x t
 |.byt b,u=>∃ t,u=Value.bytes b t
 |.flt b,u=>∃ t,u=Value.float b t
 |.ref a,u=>u=Value.ref a
 |.ty n,u=>u=Value.type n
abbrev Vals:List V→List Value→Prop:=Paired RelV
theorem Vals.length {xs:List V} {us:List Value} (r:Vals xs us):xs.length=us.length:=Paired.length r
theorem Vals.get:∀ {xs:List V} {us:List Value} {i:Nat} {x:V},Vals xs us→xs[i]?=some x→∃ u,us[i]?=some u∧RelV x u
 |_,_,_,_,.nil,e=>by simp at e
 |_,_,0,_,.cons r _,e=>by simp at e;subst e;exact ⟨_,rfl,r⟩
 |_,_,i+1,x,.cons _ t,e=>by
  obtain ⟨u,h1,h2⟩:=Vals.get (i:=i) (x:=x) t (by simpa using e)
  exact ⟨u,by simpa using h1,h2⟩
theorem Vals.set {x:V} {u:Value} (r:RelV x u):∀ {xs:List V} {us:List Value} (i:Nat),Vals xs us→Vals (xs.set i x) (us.set i u)
 |_,_,_,.nil=>.nil
 |_,_,0,.cons _ t=>.cons r t
 |_,_,i+1,.cons q t=>.cons q (Vals.set r i t)
theorem Vals.append:∀ {xs ys:List V} {us ws:List Value},Vals xs us→Vals ys ws→Vals (xs++ys) (us++ws)
 |_,_,_,_,.nil,s=>s
 |_,_,_,_,.cons r t,s=>.cons r (Vals.append t s)
theorem Vals.take:∀ {xs:List V} {us:List Value} (n:Nat),Vals xs us→Vals (xs.take n) (us.take n)
 |_,_,0,_=>.nil
 |_,_,_+1,.nil=>.nil
 |_,_,n+1,.cons r t=>.cons r (Vals.take n t)
theorem Vals.drop:∀ {xs:List V} {us:List Value} (n:Nat),Vals xs us→Vals (xs.drop n) (us.drop n)
 |_,_,0,r=>r
 |_,_,_+1,.nil=>.nil
 |_,_,n+1,.cons _ t=>Vals.drop n t
def RelO:Option V→Option Value→Prop
 |some v,some u=>RelV v u
 |none,none=>True
 |_,_=>False
def KV {κ:Type}:List (κ×V)→List (κ×Value)→Prop:=Paired fun (p:κ×V) (q:κ×Value)=>p.1=q.1∧RelV p.2 q.2
def kV:Key→V
 |.inl i=>.int i
 |.inr x=>.str x
inductive HO where
  |lst (xs:List V)
  |tup (xs:List V)
  |dK (kvs:List (Key×V))|dT (kvs:List (List Key×V))
  |set (S:Int→Bool) (n:Nat)
  |ins (C dx:Addr) (fs:List (Str×V))
  |own (x:Addr)
  |xd (fs:List (Str×V))
  |met (f x:Addr)
  |rng (lo hi:Int)
  |frz (o:Obj) (u:HO)
  |tbl (q:Str×Int×Int)
  |ext (φ:Heap→Prop)
abbrev Hp:=Addr→Option HO
def upd (H:Hp) (a:Addr) (o:HO):Hp:=fun b=>if b=a then some o else H b
theorem upd_same {H:Hp} {a:Addr} {o:HO}:upd H a o a=some o:=by unfold upd;rw [if_pos rfl]
theorem upd_ne {H:Hp} {a b:Addr} {o:HO} (h:b≠a):upd H a o b=H b:=by unfold upd;rw [if_neg h]
theorem upd_upd {H:Hp} {a:Addr} {o u:HO}:upd (upd H a o) a u=upd H a u:=by
 funext b;unfold upd;split<;>rfl
theorem ne_of {H:Hp} {a b:Addr} {o u:HO} (h:H a=some o) (h':H b=some u) (d:o≠u):a≠b:=by
 intro e;subst e;rw [h] at h';exact d (Option.some.inj h')
theorem ne_of_none {H:Hp} {a b:Addr} {o:HO} (h:H a=some o) (h':H b=none):a≠b:=by
 intro e;subst e;rw [h] at h';cases h'
def IsTupD (h:Heap) (a:Addr) (items:Array Value):Prop:=∃ o,h.get? a=some o∧o.cls=.type "tuple" ∧ ∃ n,o.data=.seq items n∧o.dict=none
theorem IsTupD.tup {h:Heap} {a:Addr} {items:Array Value} (x:IsTupD h a items):IsTup h a items:=let ⟨o,e,c,n,d,_⟩:=x;⟨o,e,c,n,d⟩
theorem IsTupD.lt {h:Heap} {a:Addr} {items:Array Value} (x:IsTupD h a items):a<h.objs.size:=let ⟨_,e,_⟩:=x;Heap.lt_size e
theorem IsTupD.new (h:Heap) (items:Array Value):IsTupD (h.push { cls:=.type "tuple", data:=.seq items }) h.objs.size items:=⟨_,Heap.get?_push_size _ rfl,rfl,_,rfl,rfl⟩
section
variable (P:Program) (w:World)
def ObjOk (H:Hp) (h:Heap) (a:Addr):HO→Prop
 |.lst xs=>xs.length≤sizeLine∧∃ (its:List Value) (n:Nat),Vals xs its∧h.get? a=some { cls:=.type "list", data:=.seq its.toArray n }
 |.tup xs=>xs.length≤sizeLine∧∃ its:List Value,Vals xs its∧IsTupD h a its.toArray
 |.dK kvs=>kvs.length≤sizeLine∧(a == sysModules)=false∧∃ vs,KV kvs vs∧h.DictOf (mixKind P w) a vs
 |.dT kvs=>kvs.length≤sizeLine∧(a == sysModules)=false∧∃ xs:List (List Key×Addr×Value),
   Paired (fun (p:List Key×V) (q:List Key×Addr×Value)=>p.1=q.1∧H q.2.1=some (.tup (p.1.map kV))∧RelV p.2 q.2.2) kvs xs ∧
   ∃ o es ep,h.get? a=some o∧o.ExactDict∧o.data=.dict es ep∧es.toList=xs.map (entryOfKey (tupleKind (mixKind P w)))∧(xs.map (·.1)).Nodup
 |.set S n=>h.SetOf (intKind P w) a S n
 |.ins C dx fs=>H dx=some (.own a)∧fs.length≤1000∧dx≠a∧h.get? a=some (PySem.W.instObj C dx) ∧
   ∃ mA,h.Ns1 dx mA∧(∀ f,RelO (fs.lookup f) (mA f))∧PySem.Within mA (fs.map (·.1))
 |.own _=>∃ o,h.get? a=some o
 |.xd fs=>∃ mA,h.Ns1 a mA∧∀ f,RelO (fs.lookup f) (mA f)
 |.rng lo hi=>∃ t u v,h.get? a=some { cls:=.type "range", data:=.fields #[.int lo t,.int hi u,.int 1 v] }
 |.frz o u=>h.get? a=some o∧ObjOk H h a u
 |.tbl q=>h.get? a=some { cls:=.none,data:=.fields #[] }∨∃ c,h.get? a=some { cls:=.none,data:=.fields #[rawInt q.2.1,rawInt q.2.2,.ref c] }∧H c=some (.own a)∧h.CodeRec (.ref c) q.1
 |.met f x=>h.get? a=some (PySem.W.methodObj (.ref f) (.ref x))
 |.ext φ=>φ h∧(∃ o,h.get? a=some o)∧∀ h1 h2:Heap,φ h1→(∀ o,h1.get? a=some o→h2.get? a=some o)→φ h2
def HOk (H:Hp) (h:Heap):Prop:=∀ a o,H a=some o→ObjOk P w H h a o
end
section
variable {P:Program} {w:World} {H H':Hp} {h h':Heap} {a:Addr} {o:HO}
theorem ObjOk.lt (x:ObjOk P w H h a o):a<h.objs.size:=by
 cases o with
 |lst xs=>obtain ⟨_,_,_,_,e⟩:=x;exact Heap.lt_size e
 |tup xs=>obtain ⟨_,_,_,p⟩:=x;exact p.lt
 |dK kvs=>obtain ⟨_,_,_,_,o,_,_,e,_⟩:=x;exact Heap.lt_size e
 |dT kvs=>obtain ⟨_,_,_,_,o,_,_,e,_⟩:=x;exact Heap.lt_size e
 |set S n=>obtain ⟨o,_,_,_,e,_⟩:=x;exact Heap.lt_size e
 |ins C dx fs=>obtain ⟨_,_,_,e,_⟩:=x;exact Heap.lt_size e
 |own y=>obtain ⟨_,e⟩:=x;exact Heap.lt_size e
 |xd fs=>obtain ⟨_,⟨_,_,_,e,_⟩,_⟩:=x;exact Heap.lt_size e
 |rng lo hi=>obtain ⟨_,_,_,e⟩:=x;exact Heap.lt_size e
 |frz ob u=>obtain ⟨e,_⟩:=x;exact Heap.lt_size e
 |tbl q =>
  rcases (show h.get? a=some { cls:=.none,data:=.fields #[] }∨∃ c,h.get? a=some { cls:=.none,data:=.fields #[rawInt q.2.1,rawInt q.2.2,.ref c] }∧H c=some (.own a)∧h.CodeRec (.ref c) q.1 from x) with e|⟨_,e,_⟩
  ·exact Heap.lt_size e
  ·exact Heap.lt_size e
 |met f y=>exact Heap.lt_size (show h.get? a=some _ from x)
 |ext φ=>obtain ⟨_,⟨_,e⟩,_⟩:=x;exact Heap.lt_size e
theorem Paired.mapP {α β:Type} {F G:α→β→Prop}:∀ {l₁:List α} {l₂:List β},Paired F l₁ l₂→(∀ a b,F a b→G a b)→Paired G l₁ l₂
 |_,_,.nil,_=>.nil
 |_,_,.cons r t,f=>.cons (f _ _ r) (Paired.mapP t f)
theorem ObjOk.stay (x:ObjOk P w H h a o) (k:∀ b u,(b=a∨H b=some (.own a))→h.get? b=some u→h'.get? b=some u)
  (ho:∀ b,H b=some (.own a)→H' b=some (.own a)) (ht:∀ b xs,H b=some (.tup xs)→H' b=some (.tup xs)):ObjOk P w H' h' a o:=by
 induction o with
 |lst xs=>obtain ⟨z,its,n,r,e⟩:=x;exact ⟨z,its,n,r,k _ _ (.inl rfl) e⟩
 |tup xs=>obtain ⟨z,its,r,ob,e,c⟩:=x;exact ⟨z,its,r,ob,k _ _ (.inl rfl) e,c⟩
 |dK kvs=>obtain ⟨z,y,vs,r,ob,es,ep,e,c⟩:=x;exact ⟨z,y,vs,r,ob,es,ep,k _ _ (.inl rfl) e,c⟩
 |dT kvs =>
  obtain ⟨z,y,xs,r,ob,es,ep,e,c⟩:=x
  exact ⟨z,y,xs,Paired.mapP r fun p q z=>⟨z.1,ht _ _ z.2.1,z.2.2⟩,ob,es,ep,k _ _ (.inl rfl) e,c⟩
 |set S n=>obtain ⟨ob,es,ep,t,e,c⟩:=x;exact ⟨ob,es,ep,t,k _ _ (.inl rfl) e,c⟩
 |ins C dx fs =>
  obtain ⟨d,z,ne,e,mA,⟨od,es,ep,e2,c⟩,r⟩:=x
  exact ⟨ho _ d,z,ne,k _ _ (.inl rfl) e,mA,⟨od,es,ep,k _ _ (.inr d) e2,c⟩,r⟩
 |own y=>obtain ⟨ob,e⟩:=x;exact ⟨ob,k _ _ (.inl rfl) e⟩
 |xd fs=>obtain ⟨mA,⟨od,es,ep,e,c⟩,r⟩:=x;exact ⟨mA,⟨od,es,ep,k _ _ (.inl rfl) e,c⟩,r⟩
 |rng lo hi=>obtain ⟨t,u,v,e⟩:=x;exact ⟨t,u,v,k _ _ (.inl rfl) e⟩
 |frz ob u ih=>obtain ⟨e,q⟩:=x;exact ⟨k _ _ (.inl rfl) e,ih q⟩
 |tbl q =>
  rcases (show h.get? a=some { cls:=.none,data:=.fields #[] }∨∃ c,h.get? a=some { cls:=.none,data:=.fields #[rawInt q.2.1,rawInt q.2.2,.ref c] }∧H c=some (.own a)∧h.CodeRec (.ref c) q.1 from x) with e|⟨c,e,hc,c0,oc,vs,t,ec,hoc,rest⟩
  ·exact .inl (k a _ (.inl rfl) e)
  ·cases ec
   exact .inr ⟨c,k a _ (.inl rfl) e,ho c hc,c,oc,vs,t,rfl,k c _ (.inr hc) hoc,rest⟩
 |met f y =>
  have e:h.get? a=some (PySem.W.methodObj (.ref f) (.ref y)):=x
  show h'.get? a=some (PySem.W.methodObj (.ref f) (.ref y))
  exact k a _ (.inl rfl) e
 |ext φ=>obtain ⟨p,⟨o,e⟩,st⟩:=x;exact ⟨st _ _ p fun o q=>k _ _ (.inl rfl) q,⟨o,k _ _ (.inl rfl) e⟩,st⟩
theorem HOk.lt (x:HOk P w H h) (e:H a=some o):a<h.objs.size:=(x a o e).lt
theorem HOk.fresh (x:HOk P w H h) (e:h.objs.size≤a):H a=none:=by
 cases q:H a with
 |none=>rfl
 |some u=>exact absurd (Nat.lt_of_lt_of_le (x.lt q) e) (Nat.lt_irrefl _)
theorem HOk.kept (x:HOk P w H h) (k:∀ b u,h.get? b=some u→h'.get? b=some u):HOk P w H h':=fun a o e =>
 (x a o e).stay (fun b u _ q=>k b u q) (fun _ q=>q) fun _ _ q=>q
theorem HOk.laid (x:HOk P w H h) (k:∀ b u,h.get? b=some u→h'.get? b=some u) (hp:h.objs.size≤a) (new:ObjOk P w (upd H a o) h' a o):HOk P w (upd H a o) h':=fun b u e=>by
 have hn:=x.fresh hp
 by_cases hb:b=a
 ·subst hb;rw [upd_same] at e;cases e;exact new
 ·rw [upd_ne hb] at e
  exact (x b u e).stay (fun c v _ q=>k c v q) (fun c q=>by rw [upd_ne (ne_of_none q hn)];exact q) fun c xs q=>by rw [upd_ne (ne_of_none q hn)];exact q
end
def Rd (H:Hp) (a:Addr) (u:HO):Prop:=H a=some u∨∃ o,H a=some (.frz o u)
theorem Rd.ok {P:Program} {w:World} {H:Hp} {h:Heap} {a:Addr} {u:HO} (r:Rd H a u) (x:HOk P w H h):ObjOk P w H h a u:=by
 rcases r with r|⟨o,r⟩
 ·exact x a u r
 ·obtain ⟨_,q⟩:=x a _ r
  exact q
def Mut:Option HO→Prop
 |some (.lst _)=>True
 |some (.dK _)=>True
 |some (.dT _)=>True
 |some (.set _ _)=>True
 |some (.ins _ _ _)=>True
 |some (.ext _)=>True
 |_=>False
section
variable {P:Program} {w:World} {H:Hp} {h h':Heap} {x e:Addr} {o':HO}
theorem HOk.write (ok:HOk P w H h) (mu:Mut (H x)) (he:e=x∨H e=some (.own x)) (k:∀ b u,b≠e→h.get? b=some u→h'.get? b=some u) (heo:∃ u,h'.get? e=some u)
  (new:ObjOk P w (upd H x o') h' x o'):HOk P w (upd H x o') h':=fun b u q=>by
 have nown:∀ c y,H c=some (.own y)→c≠x:=fun c y r z=>by subst z;rw [r] at mu;exact mu
 have ntup:∀ c xs,H c=some (.tup xs)→c≠x:=fun c xs r z=>by subst z;rw [r] at mu;exact mu
 by_cases hb:b=x
 ·subst hb;rw [upd_same] at q;cases q;exact new
 ·rw [upd_ne hb] at q
  by_cases hbe:b=e
  ·have q':H b=some (.own x):=by
    rcases he with z|z
    ·exact absurd (hbe.trans z) hb
    ·rw [hbe];exact z
   rw [q] at q';cases q'
   obtain ⟨v,hv⟩:=heo
   exact ⟨v,by rw [hbe];exact hv⟩
  ·refine (ok b u q).stay (fun c v hc r=>k c v ?_ r) (fun c r=>by rw [upd_ne (nown c b r)];exact r) fun c xs r=>by rw [upd_ne (ntup c xs r)];exact r
   rcases hc with rfl|hc
   ·exact hbe
   ·rintro rfl
    rcases he with z|z
    ·exact nown c b hc z
    ·rw [hc] at z;cases z;exact hb rfl
end
structure Un (fs ex:List Addr) (H H':Hp) (h h':Heap):Prop where
 keep:∀ b o,h.get? b=some o→H b=none→b∉fs→b∉ex→h'.get? b=some o
 slot:∀ b o,h.get? b=some o→H b=none→b∈fs→b∉ex→∃ sl,h'.get? b=some { o with slots:=sl }
 free:∀ b o,h.get? b=some o→H b=none→b∉ex→H' b=none
 there:∀ b o,h.get? b=some o→b∉ex→∃ o',h'.get? b=some o'
 tups:∀ b xs,H b=some (.tup xs)→H' b=some (.tup xs)
 frzs:∀ b o u,H b=some (.frz o u)→H' b=some (.frz o u)
 tbls:∀ b ps,H b=some (.tbl ps)→H' b=some (.tbl ps)∧∀ c o,H c=some (.own b)→h.get? c=some o→H' c=some (.own b)∧h'.get? c=some o
section
variable {fs fs' ex ex':List Addr} {H H1 H2:Hp} {h h1 h2 h':Heap} {a x e:Addr} {o:HO}
theorem Un.any (u:Un fs ex H H1 h h1) {b:Addr} {ob:Obj} (q:h.get? b=some ob) (n:H b=none) (hx:b∉ex):∃ sl,h1.get? b=some { ob with slots:=sl }:=by
 by_cases hb:b∈fs
 ·exact u.slot b ob q n hb hx
 ·exact ⟨ob.slots,u.keep b ob q n hb hx⟩
theorem Un.trans (a:Un fs ex H H1 h h1) (b:Un fs ex H1 H2 h1 h2):Un fs ex H H2 h h2 where
 keep:=fun c ob q n hc hx=>b.keep c ob (a.keep c ob q n hc hx) (a.free c ob q n hx) hc hx
 slot:=fun c ob q n hc hx=>by
  obtain ⟨sl,e1⟩:=a.slot c ob q n hc hx
  obtain ⟨sl',e2⟩:=b.slot c _ e1 (a.free c ob q n hx) hc hx
  exact ⟨sl',e2⟩
 free:=fun c ob q n hx=>by
  obtain ⟨o',e1⟩:=a.there c ob q hx
  exact b.free c o' e1 (a.free c ob q n hx) hx
 there:=fun c ob q hx=>by
  obtain ⟨o',e1⟩:=a.there c ob q hx
  exact b.there c o' e1 hx
 tups:=fun c xs q=>b.tups c xs (a.tups c xs q)
 frzs:=fun c ob xs q=>b.frzs c ob xs (a.frzs c ob xs q)
 tbls:=fun c ps q=>⟨(b.tbls c ps (a.tbls c ps q).1).1,fun d o e x=>let z:=(a.tbls c ps q).2 d o e x;(b.tbls c ps (a.tbls c ps q).1).2 d o z.1 z.2⟩
theorem Un.kept (k:∀ b u,h.get? b=some u→h'.get? b=some u):Un fs ex H H h h' :=
 ⟨fun b ob q _ _ _=>k b ob q,fun b ob q _ _ _=>⟨ob.slots,k b ob q⟩,fun _ _ _ n _=>n,fun b ob q _=>⟨ob,k b ob q⟩,fun _ _ q=>q,fun _ _ _ q=>q,fun _ _ q=>⟨q,fun c o e x=>⟨e,k c o x⟩⟩⟩
theorem Un.refl:Un fs ex H H h h:=Un.kept fun _ _ q=>q
theorem Un.laid (k:∀ b u,h.get? b=some u→h'.get? b=some u) (hp:h.objs.size≤a) (hn:H a=none):Un fs ex H (upd H a o) h h' where
 keep:=fun b u q _ _ _=>k b u q
 slot:=fun b u q _ _ _=>⟨u.slots,k b u q⟩
 free:=fun b u q n _=>by rw [upd_ne (Nat.ne_of_lt (Nat.lt_of_lt_of_le (Heap.lt_size q) hp))];exact n
 there:=fun b u q _=>⟨u,k b u q⟩
 tups:=fun b xs q=>by rw [upd_ne (ne_of_none q hn)];exact q
 frzs:=fun b u xs q=>by rw [upd_ne (ne_of_none q hn)];exact q
 tbls:=fun b ps q=>⟨by rw [upd_ne (ne_of_none q hn)];exact q,fun c u e x=>⟨by rw [upd_ne (ne_of_none e hn)];exact e,k c u x⟩⟩
theorem Un.write (mu:Mut (H x)) (he:e=x∨H e=some (.own x)) (k:∀ b u,b≠e→h.get? b=some u→h'.get? b=some u) (heo:∃ u,h'.get? e=some u):Un fs ex H (upd H x o) h h':=by
 have hx:∀ b,H b=none→b≠x:=fun b n z=>by subst z;rw [n] at mu;exact mu
 have hb:∀ b,H b=none→b≠e:=fun b n z=>by
  subst z
  rcases he with r|r
  ·exact hx b n r
  ·rw [n] at r;cases r
 have hm:∀ b u,H b=some u→¬ Mut (some u)→b≠x:=fun b u q nm z=>by subst z;rw [q] at mu;exact nm mu
 refine ⟨fun b u q n _ _=>k b u (hb b n) q,fun b u q n _ _=>⟨u.slots,k b u (hb b n) q⟩,fun b u q n _=>by rw [upd_ne (hx b n)];exact n,fun b u q _=>?_,
  fun b xs q=>by rw [upd_ne (hm b _ q fun z=>z)];exact q,fun b u xs q=>by rw [upd_ne (hm b _ q fun z=>z)];exact q,fun b ps q=>⟨by rw [upd_ne (hm b _ q fun z=>z)];exact q,fun c u hc x=>⟨by rw [upd_ne (hm c _ hc fun z=>z)];exact hc,k c u (fun z=>he.elim (fun r=>hm c _ hc (fun z=>z) (z.trans r)) fun r=>by rw [←z,hc] at r;cases r;rw [q] at mu;exact mu) x⟩⟩⟩
 by_cases hbe:b=e
 ·subst hbe;exact heo
 ·exact ⟨u,k b u hbe q⟩
theorem Un.mono (u:Un fs ex H H1 h h1) (hs:∀ b∈fs,b∈fs') (hx:∀ b∈ex,b∈ex'):Un fs' ex' H H1 h h1 :=
 ⟨fun b ob q n hb he=>u.keep b ob q n (fun z=>hb (hs b z)) fun z=>he (hx b z),fun _ _ q n _ he=>u.any q n fun z=>he (hx _ z),fun b ob q n he=>u.free b ob q n fun z=>he (hx b z),fun b ob q he=>u.there b ob q fun z=>he (hx b z),u.tups,u.frzs,u.tbls⟩
end
def trk (h:Heap) (H:Hp):List Addr:=(List.range h.objs.size).filter fun a=>(H a).isSome
def hidT (h:Heap) (H:Hp):Heap:=PySem.W.hideAll h (trk h H)
theorem hidT_size (h:Heap) (H:Hp):(hidT h H).objs.size=h.objs.size:=PySem.W.hideAll_size _ _
theorem hidT_get {h:Heap} {H:Hp} {b:Addr} {o:Obj} (e:h.get? b=some o) (n:H b=none):(hidT h H).get? b=some o :=
 PySem.W.hideAll_get _ e fun hm=>by
  have q:(H b).isSome=true:=(List.mem_filter.mp hm).2
  rw [n] at q;simp at q
theorem of_hidT {h:Heap} {H:Hp} {b:Addr} {o:Obj} (e:(hidT h H).get? b=some o):h.get? b=some o∧H b=none:=by
 have e':h.get? b=some o:=PySem.W.of_hideAll (trk h H) e
 refine ⟨e',?_⟩
 cases q:H b with
 |none=>rfl
 |some x =>
  have hm:b∈trk h H:=List.mem_filter.mpr ⟨List.mem_range.mpr (Heap.lt_size e'),by simp [q]⟩
  have z:(hidT h H).get? b=none:=PySem.W.hideAll_none (trk h H) hm
  rw [z] at e;cases e
def allNews (g h:Heap) (L:Addr):List (Addr×Obj):=(List.range h.objs.size).filterMap fun a=>if a=L∨(g.get? a).isSome=true then none else (h.get? a).map fun o=>(a,o)
def rest (g h:Heap) (L d:Addr):List (Addr×Obj):=(allNews g h L).filter fun p=>decide (p.1≠d)
end
section
structure Mod (K:PySem.W.Frag) (mg:Str→Option Value) (base:Heap):Prop where
 kin:K.In base
 glob:base.Ns mainGlobals mg
 blt:∃ mb,base.Ns builtinsNs mb∧∀ x:Str,x ≠ "__name__" → mb x=bootBuiltins x
 nolimit:base.NoLimit
structure Cx where
 prog:Program
 w:World
 K:PySem.W.Frag
 mg:Str→Option Value
 base:Heap
 A:Around
 N:List Str
 s₀:Shared
 H₀:Hp
 env:Env
 outer:List Env
 stack:List Env
 ex:List Addr
 fn:Str→Bool
 calm:Bool
 pn:List (Addr×Obj)
 xe:Value→Shared→Prop
def frs (l:List Env):List Addr:=l.filterMap (·.frame)
abbrev Cx.fs (X:Cx):List Addr:=frs X.outer
def Vis (sc:Scope) (x:Str):Prop:=sc.names.lookup x=some .local∨sc.names.lookup x=some .cell∨sc.names.lookup x=some .free
def Loc (sc:Scope) (x:Str):Prop:=sc.names.lookup x=some .local∨sc.names.lookup x=some .cell
def Look (env:Env) (h:Heap) (m:Str→Option Value) (x:Str) (u:Value):Prop :=
 (env.kindOf x=some .local∧m x=some u)∨((env.kindOf x=some .cell∨env.kindOf x=some .free)∧∃ c,env.cells.lookup x=some c∧h.IsCell c (some u))
structure Cx.Ok (X:Cx):Prop where
 mod:Mod X.K X.mg X.base
 kind:X.env.scope.kind=.function
 glob:X.env.globals=mainGlobals
 blt:X.env.builtins=builtinsNs
 above:X.s₀.heap.objs.size≤X.env.locals
 inj:∀ x y c,X.env.cells.lookup x=some c→X.env.cells.lookup y=some c→x=y
 has:∀ x,(X.env.kindOf x=some .cell∨X.env.kindOf x=some .free)→∃ c,X.env.cells.lookup x=some c
 cab:∀ x c,X.fn x=true→X.env.cells.lookup x=some c→X.s₀.heap.objs.size≤c
 hd:X.calm=true→X.A.handled=none
 frames:X.A.frames=some X.stack
 stk:X.stack=X.outer∨(X.stack=X.env::X.outer∧X.env.frame=some X.env.locals)
 exf:∀ b∈X.ex,b≠X.env.locals∧∀ x c,X.env.cells.lookup x=some c→c≠b
 bs:∀ b o,X.base.get? b=some o→X.s₀.heap.get? b=some o∧X.H₀ b=none
 bsz:X.base.objs.size≤X.s₀.heap.objs.size
 noex:∀ b o,X.base.get? b=some o→b∉X.ex
 exfs:∀ b∈X.ex,b∉X.fs
 funs:X.s₀.heap.FunFrames X.base X.outer
 frf:∀ b∈X.fs,X.H₀ b=none
structure Inv (X:Cx) (pins:List (Addr×Obj)) (σ:List (Option V)) (H:Hp) (s:Shared):Prop where
 ok:X.Ok
 os:s.os=X.s₀.os
 bare:AllBare s.gens
 base:Un X.fs X.ex X.H₀ H X.s₀.heap s.heap
 loc:∃ m,s.heap.Ns X.env.locals m∧∀ (i:Nat) (x:Str) (v:V),X.N[i]?=some x→σ[i]?=some (some v)→Vis X.env.scope x→∃ u,RelV v u∧Look X.env s.heap m x u
 cell:∀ x c,X.env.cells.lookup x=some c→∃ v,s.heap.IsCell c v
 free:H X.env.locals=none
 freeC:∀ x c,X.env.cells.lookup x=some c→H c=none
 pin:∀ p∈X.pn++pins,s.heap.get? p.1=some p.2∧H p.1=none∧p.1≠X.env.locals∧p.1∉X.fs∧∀ v,p.2.data≠.cell v
 hok:HOk X.prog X.w H s.heap
 len:σ.length=X.N.length
section
variable {X:Cx} {pins:List (Addr×Obj)} {σ:List (Option V)} {H H':Hp} {s:Shared} {h':Heap}
theorem Cx.Ok.nofr (ok:X.Ok) {b:Addr} {o:Obj} (e:X.base.get? b=some o):b∉X.fs:=fun hb=>by
 have:=(ok.funs.mem hb).1
 rw [e] at this;cases this
theorem Inv.bs (I:Inv X pins σ H s):∀ b o,X.base.get? b=some o→s.heap.get? b=some o∧H b=none:=fun b o e =>
 ⟨I.base.keep b o (I.ok.bs b o e).1 (I.ok.bs b o e).2 (I.ok.nofr e) (I.ok.noex b o e),I.base.free b o (I.ok.bs b o e).1 (I.ok.bs b o e).2 (I.ok.noex b o e)⟩
theorem Inv.bk (I:Inv X pins σ H s):∀ b o,X.base.get? b=some o→s.heap.get? b=some o:=fun b o e=>(I.bs b o e).1
theorem Inv.mod (I:Inv X pins σ H s):Mod X.K X.mg X.base:=I.ok.mod
theorem Inv.kIn (I:Inv X pins σ H s):X.K.In s.heap:=I.ok.mod.kin.keeps I.bk
theorem Inv.fr (I:Inv X pins σ H s):∃ m,Fr X.base X.env.locals s.heap m :=
 let ⟨m,hn,_⟩:=I.loc
 ⟨m,hn,I.bk,Nat.le_trans I.ok.bsz I.ok.above⟩
theorem Inv.lt (I:Inv X pins σ H s):X.env.locals<s.heap.objs.size:=let ⟨_,hn,_⟩:=I.loc;hn.lt
theorem Inv.sz (I:Inv X pins σ H s):X.s₀.heap.objs.size≤s.heap.objs.size:=Nat.le_trans I.ok.above (Nat.le_of_lt I.lt)
theorem Inv.nofs (I:Inv X pins σ H s) {a:Addr} (h:s.heap.objs.size≤a):a∉X.fs:=fun hb=>by
 obtain ⟨_,o,ho,_⟩:=I.ok.funs.mem hb
 exact absurd (Nat.lt_of_lt_of_le (Heap.lt_size ho) (Nat.le_trans I.sz h)) (Nat.lt_irrefl _)
theorem Inv.cne (I:Inv X pins σ H s):∀ x c,X.env.cells.lookup x=some c→c≠X.env.locals:=fun x c e z=>by
 obtain ⟨v,o,ho,hd⟩:=I.cell x c e
 obtain ⟨m,⟨o',es,ep,ho',hd',_⟩,_⟩:=I.loc
 rw [z,ho'] at ho;cases ho;rw [hd'] at hd;cases hd
theorem Inv.funs (I:Inv X pins σ H s):s.heap.FunFrames X.base X.outer:=by
 have all:∀ (l:List Env),(∀ b∈frs l,b∈X.fs)→X.s₀.heap.FunFrames X.base l→s.heap.FunFrames X.base l:=by
  intro l
  induction l with
  |nil=>intro _ _;trivial
  |cons env r ih =>
   intro hs hl
   obtain ⟨hk,⟨L,o,hf,hn,ho,hd⟩,hr⟩:=hl
   have hL:L∈X.fs:=hs L (by unfold frs;rw [List.filterMap_cons,hf];exact List.mem_cons_self)
   obtain ⟨sl,e⟩:=I.base.slot L o ho (I.ok.frf L hL) hL fun z=>I.ok.exfs L z hL
   exact ⟨hk,⟨L,_,hf,hn,e,hd⟩,ih (fun b hb=>hs b (by unfold frs;rw [List.filterMap_cons,hf];exact List.mem_cons_of_mem _ hb)) hr⟩
 exact all X.outer (fun _ hb=>hb) I.ok.funs
theorem Inv.stack (I:Inv X pins σ H s):s.heap.FunFrames X.base X.stack:=by
 rcases I.ok.stk with e|⟨e,hf⟩
 ·rw [e];exact I.funs
 ·rw [e]
  obtain ⟨m,hn,_⟩:=I.loc
  refine .cons (by rw [I.ok.kind];decide) hf hn ?_ I.funs
  exact Heap.get?_none_of_le (Nat.le_trans I.ok.bsz I.ok.above)
theorem Inv.stkSub (I:Inv X pins σ H s):∀ b∈frs X.stack,b∈X.env.locals::X.fs:=fun b hb=>by
 rcases I.ok.stk with e|⟨e,hf⟩
 ·rw [e] at hb;exact List.mem_cons_of_mem _ hb
 ·rw [e] at hb
  unfold frs at hb
  rw [List.filterMap_cons,hf] at hb
  exact hb
theorem Inv.stkFree (I:Inv X pins σ H s):∀ b∈frs X.stack,H b=none:=fun b hb=>by
 rcases List.mem_cons.mp (I.stkSub b hb) with e|hb
 ·rw [e];exact I.free
 ·obtain ⟨_,o,ho,_⟩:=I.ok.funs.mem hb
  exact I.base.free b o ho (I.ok.frf b hb) fun z=>I.ok.exfs b z hb
theorem Inv.step {g':Array GenState} {t':Nat} {d':Drawn} {ch:List Addr} (I:Inv X pins σ H s)
  (hch:∀ b∈ch,(b∈X.ex∨X.s₀.heap.objs.size≤b)∧b≠X.env.locals∧(∀ x c,X.env.cells.lookup x=some c→c≠b)∧∀ p∈X.pn++pins,p.1≠b)
  (keep:∀ b o,b≠X.env.locals→b∉X.fs→b∉ch→s.heap.get? b=some o→H b=none→h'.get? b=some o)
  (slot:∀ b o,b≠X.env.locals→b∈X.fs→b∉ch→s.heap.get? b=some o→H b=none→∃ sl,h'.get? b=some { o with slots:=sl }) (free:∀ b o,b∉ch→s.heap.get? b=some o→H b=none→H' b=none)
  (there:∀ b o,b∉ch→s.heap.get? b=some o→∃ o',h'.get? b=some o')
  (tups:∀ b xs,H b=some (.tup xs)→H' b=some (.tup xs)) (frzs:∀ b o u,H b=some (.frz o u)→H' b=some (.frz o u)) (tbls:∀ b ps,H b=some (.tbl ps)→H' b=some (.tbl ps)∧∀ c o,H c=some (.own b)→s.heap.get? c=some o→H' c=some (.own b)∧h'.get? c=some o)
  (ns:∀ m,s.heap.Ns X.env.locals m→h'.Ns X.env.locals m) (hok:HOk X.prog X.w H' h') (hg:AllBare g') :
  Inv X pins σ H' { s with heap:=h',gens:=g',drawn:=d',toks:=t' }:=by
 have neL:∀ b o,X.s₀.heap.get? b=some o→b≠X.env.locals:=fun b o e=>Nat.ne_of_lt (Nat.lt_of_lt_of_le (Heap.lt_size e) I.ok.above)
 have neC:∀ b o,X.s₀.heap.get? b=some o→b∉X.ex→b∉ch:=fun b o e hx hb=>by
  rcases (hch b hb).1 with z|z
  ·exact hx z
  ·exact absurd (Nat.lt_of_lt_of_le (Heap.lt_size e) z) (Nat.lt_irrefl _)
 have cellK:∀ x c,X.env.cells.lookup x=some c→∀ v,s.heap.IsCell c v→h'.IsCell c v:=fun x c e v ⟨o,ho,hd⟩=>by
  have nch:c∉ch:=fun z=>(hch c z).2.2.1 x c e rfl
  by_cases hc:c∈X.fs
  ·obtain ⟨sl,q⟩:=slot c o (I.cne x c e) hc nch ho (I.freeC x c e)
   exact ⟨_,q,hd⟩
  ·exact ⟨o,keep c o (I.cne x c e) hc nch ho (I.freeC x c e),hd⟩
 refine ⟨I.ok,I.os,hg,⟨fun b o e n hb hx=>?_,fun b o e n hb hx=>?_,fun b o e n hx=>?_,fun b o e hx=>?_,fun b xs e=>tups b xs (I.base.tups b xs e),fun b o xs e=>frzs b o xs (I.base.frzs b o xs e),fun b ps e=>?_⟩,?_,fun x c e=>?_,?_,fun x c e=>?_,fun p hp=>?_,hok,I.len⟩
 ·exact keep b o (neL b o e) hb (neC b o e hx) (I.base.keep b o e n hb hx) (I.base.free b o e n hx)
 ·obtain ⟨sl,e1⟩:=I.base.slot b o e n hb hx
  obtain ⟨sl',e2⟩:=slot b _ (neL b o e) hb (neC b o e hx) e1 (I.base.free b o e n hx)
  exact ⟨sl',e2⟩
 ·obtain ⟨o',e1⟩:=I.base.there b o e hx
  exact free b o' (neC b o e hx) e1 (I.base.free b o e n hx)
 ·obtain ⟨o',e1⟩:=I.base.there b o e hx
  exact there b o' (neC b o e hx) e1
 ·exact ⟨(tbls b ps (I.base.tbls b ps e).1).1,fun c o e1 x=>let z:=(I.base.tbls b ps e).2 c o e1 x;(tbls b ps (I.base.tbls b ps e).1).2 c o z.1 z.2⟩
 ·obtain ⟨m,hn,hl⟩:=I.loc
  refine ⟨m,ns m hn,fun i x v e1 e2 e3=>?_⟩
  obtain ⟨u,r,l⟩:=hl i x v e1 e2 e3
  refine ⟨u,r,?_⟩
  rcases l with l|⟨k,c,e,z⟩
  ·exact .inl l
  ·exact .inr ⟨k,c,e,cellK x c e _ z⟩
 ·obtain ⟨v,z⟩:=I.cell x c e
  exact ⟨v,cellK x c e v z⟩
 ·obtain ⟨m,⟨o,_,_,ho,_⟩,_⟩:=I.loc
  exact free _ o (fun z=>(hch _ z).2.1 rfl) ho I.free
 ·obtain ⟨v,o,ho,hd⟩:=I.cell x c e
  exact free c o (fun z=>(hch c z).2.2.1 x c e rfl) ho (I.freeC x c e)
 ·obtain ⟨e,n,ne,nf,d⟩:=I.pin p hp
  have nch:p.1∉ch:=fun z=>(hch p.1 z).2.2.2 p hp rfl
  exact ⟨keep p.1 p.2 ne nf nch e n,free p.1 p.2 nch e n,ne,nf,d⟩
theorem Inv.un {t':Nat} (I:Inv X pins σ H s) (u:Un X.fs [] H H' s.heap h') (hok:HOk X.prog X.w H' h'):Inv X pins σ H' { s with heap:=h',toks:=t' }:=by
 obtain ⟨m,⟨o,es,ep,ho,r⟩,_⟩:=id I.loc
 obtain ⟨sl,hL⟩:=u.any ho I.free (by simp)
 exact I.step (g':=s.gens) (d':=s.drawn) (ch:=[]) (fun _ z=>nomatch z) (fun b o _ hb _ e n=>u.keep b o e n hb (by simp)) (fun b o _ hb _ e n=>u.slot b o e n hb (by simp)) (fun b o _ e n=>u.free b o e n (by simp)) (fun b o _ e=>u.there b o e (by simp)) u.tups u.frzs u.tbls (fun m' hm=>by
  obtain ⟨o',es',ep',ho',r'⟩:=hm
  rw [ho] at ho';cases ho'
  exact ⟨_,es',ep',hL,r'⟩) hok I.bare
theorem Inv.call {g':Array GenState} {t':Nat} {d':Drawn} {ch:List Addr} (I:Inv X pins σ H s) (u:Un (frs X.stack) ch H H' s.heap h') (hok:HOk X.prog X.w H' h') (hg:AllBare g')
  (hch:∀ b∈ch,(b∈X.ex∨X.s₀.heap.objs.size≤b)∧b≠X.env.locals∧(∀ x c,X.env.cells.lookup x=some c→c≠b)∧∀ p∈X.pn++pins,p.1≠b) :
  Inv X pins σ H' { s with heap:=h',gens:=g',drawn:=d',toks:=t' }:=by
 obtain ⟨m,⟨o,es,ep,ho,r⟩,_⟩:=id I.loc
 obtain ⟨sl,hL⟩:=u.any ho I.free fun z=>(hch _ z).2.1 rfl
 exact I.step (ch:=ch) hch (fun b o hL hb hc e n=>u.keep b o e n (fun z=>(List.mem_cons.mp (I.stkSub b z)).elim hL hb) hc) (fun b o _ _ hc e n=>u.any e n hc) (fun b o hc e n=>u.free b o e n hc) (fun b o hc e=>u.there b o e hc) u.tups u.frzs u.tbls (fun m' hm=>by
  obtain ⟨o',es',ep',ho',r'⟩:=hm
  rw [ho] at ho';cases ho'
  exact ⟨_,es',ep',hL,r'⟩) hok hg
theorem Inv.turned {t':Nat} {it:Addr} (I:Inv X pins σ H s) (k:∀ b o,b≠it→s.heap.get? b=some o→h'.get? b=some o) (hn:H it=none) (hL:it≠X.env.locals)
  (h1:it∈X.ex∨X.s₀.heap.objs.size≤it) (h2:∀ x c,X.env.cells.lookup x=some c→c≠it) (h3:∀ p∈X.pn++pins,p.1≠it):Inv X pins σ H { s with heap:=h',toks:=t' }:=by
 have nit:∀ b u,H b=some u→b≠it:=fun b u e z=>by rw [z,hn] at e;cases e
 refine I.step (g':=s.gens) (d':=s.drawn) (ch:=[it]) (fun b hb=>?_) (fun b o _ _ hc e _=>k b o (fun z=>hc (by simp [z])) e) (fun b o _ _ hc e _=>⟨o.slots,k b o (fun z=>hc (by simp [z])) e⟩) (fun _ _ _ _ n=>n)
  (fun b o hc e=>⟨o,k b o (fun z=>hc (by simp [z])) e⟩) (fun _ _ e=>e) (fun _ _ _ e=>e) (fun b ps e=>⟨e,fun c o ec x=>⟨ec,k c o (nit c _ ec) x⟩⟩) (fun m hm=>?_) (fun b u e=>?_) I.bare
 ·have e:b=it:=by simpa using hb
  subst e
  exact ⟨h1,hL,h2,h3⟩
 ·obtain ⟨o,es,ep,ho,r⟩:=hm
  exact ⟨o,es,ep,k _ o (Ne.symm hL) ho,r⟩
 ·refine (I.hok b u e).stay (fun c v hc q=>k c v ?_ q) (fun _ q=>q) fun _ _ q=>q
  rcases hc with z|z
  ·rw [z];exact nit b u e
  ·exact nit c _ z
theorem Inv.tok (I:Inv X pins σ H s) (t:Nat):Inv X pins σ H { s with toks:=t }:=I.un (h':=s.heap) (t':=t) Un.refl I.hok
theorem Inv.kept {t':Nat} (I:Inv X pins σ H s) (k:∀ b u,s.heap.get? b=some u→h'.get? b=some u):Inv X pins σ H { s with heap:=h',toks:=t' }:=I.un (Un.kept k) (I.hok.kept k)
theorem Inv.laid {a:Addr} {o:HO} {t':Nat} (I:Inv X pins σ H s) (k:∀ b u,s.heap.get? b=some u→h'.get? b=some u) (hp:s.heap.objs.size≤a) (new:ObjOk X.prog X.w (upd H a o) h' a o) :
  Inv X pins σ (upd H a o) { s with heap:=h',toks:=t' }:=I.un (Un.laid k hp (I.hok.fresh hp)) (I.hok.laid k hp new)
theorem Inv.write {x e:Addr} {o:HO} {t':Nat} (I:Inv X pins σ H s) (mu:Mut (H x)) (he:e=x∨H e=some (.own x)) (k:∀ b u,b≠e→s.heap.get? b=some u→h'.get? b=some u) (heo:∃ u,h'.get? e=some u)
  (new:ObjOk X.prog X.w (upd H x o) h' x o):Inv X pins σ (upd H x o) { s with heap:=h',toks:=t' }:=I.un (Un.write mu he k heo) (I.hok.write mu he k heo new)
theorem Inv.weak {σ':List (Option V)} (I:Inv X pins σ H s) (hl:σ'.length=σ.length) (w:∀ (i:Nat) v,σ'[i]?=some (some v)→σ[i]?=some (some v)):Inv X pins σ' H s :=
 ⟨I.ok,I.os,I.bare,I.base,let ⟨m,hn,hl'⟩:=I.loc;⟨m,hn,fun i x v e1 e2 e3=>hl' i x v e1 (w i v e2) e3⟩,I.cell,I.free,I.freeC,I.pin,I.hok,hl.trans I.len⟩
theorem Inv.pins_of {pins':List (Addr×Obj)} (I:Inv X pins σ H s) (h:∀ p∈pins',s.heap.get? p.1=some p.2∧H p.1=none∧p.1≠X.env.locals∧p.1∉X.fs∧∀ v,p.2.data≠.cell v):Inv X pins' σ H s :=
 ⟨I.ok,I.os,I.bare,I.base,I.loc,I.cell,I.free,I.freeC,fun p hp=>(List.mem_append.mp hp).elim (fun z=>I.pin p (List.mem_append_left _ z)) (h p),I.hok,I.len⟩
theorem nodup_ix {N:List Str} (hN:N.Nodup) {i j:Nat} {x:Str} (a:N[i]?=some x) (b:N[j]?=some x):i=j:=by
 obtain ⟨h1,e1⟩:=List.getElem?_eq_some_iff.mp a
 obtain ⟨h2,e2⟩:=List.getElem?_eq_some_iff.mp b
 exact (List.getElem_inj hN).mp (e1.trans e2.symm)
theorem store_ok2 {M:Model} {A:Around} {E:Value→Shared→Prop} {i:Nat} {x:Str} {v:V} {u:Value} {Q:Unit→Shared→Prop} (I:Inv X pins σ H s) (hN:X.N.Nodup) (hi:X.N[i]?=some x) (hx:Loc X.env.scope x) (r:RelV v u)
  (h:∀ s',Inv X pins (σ.set i (some v)) H s'→(∃ a,Heap.SameBut a s.heap s'.heap∧(a=X.env.locals∨X.env.cells.lookup x=some a))→Q () s') (hf:X.fn x=true∨X.env.scope.names.lookup x=some .local:=by first|exact .inl rfl|exact .inr rfl|assumption):wpAny M A (storeName X.env x u) Q E s:=by
 obtain ⟨m,hn,hl⟩:=id I.loc
 have hcls:(X.env.scope.kind == .class || (X.env.scope.kind == .module && X.env.locals != X.env.globals))=false:=by rw [I.ok.kind];rfl
 have hiσ:i<σ.length:=by rw [I.len];exact (List.getElem?_eq_some_iff.mp hi).1
 have cne:=I.cne
 have tracked:∀ {a:Addr} {h':Heap},(∃ o,s.heap.get? a=some o∧H a=none)→Heap.SameBut a s.heap h'→HOk X.prog X.w H h':=fun {a h'} ha hs b ob e=>by
  obtain ⟨_,_,hfree⟩:=ha
  refine (I.hok b ob e).stay (fun c w' hc q=>(hs.2 c ?_).trans q) (fun _ q=>q) fun _ _ q=>q
  rintro rfl
  rcases hc with rfl|hc
  ·rw [hfree] at e;cases e
  ·rw [hfree] at hc;cases hc
 rcases hx with hk|hk
 ·refine wpAny_storeName_local hk hn (fun h' hn' hs=>?_) hcls
  obtain ⟨oL,_,_,hoL,_⟩:=id hn
  refine h _ ⟨I.ok,I.os,I.bare,⟨fun b o e n hb hx=>?_,fun b o e n hb hx=>?_,I.base.free,fun b o e hx=>?_,I.base.tups,I.base.frzs,fun b ps e=>⟨(I.base.tbls b ps e).1,fun d o e1 x1=>let z:=(I.base.tbls b ps e).2 d o e1 x1;⟨z.1,(hs.2 d (ne_of_none z.1 I.free)).trans z.2⟩⟩⟩,⟨_,hn',fun j y v' e1 e2 e3=>?_⟩,fun y c e=>?_,I.free,I.freeC,fun p hp=>?_,tracked ⟨oL,hoL,I.free⟩ hs,by simpa using I.len⟩ ⟨_,hs,.inl rfl⟩
  ·exact (hs.2 b (Nat.ne_of_lt (Nat.lt_of_lt_of_le (Heap.lt_size e) I.ok.above))).trans (I.base.keep b o e n hb hx)
  ·obtain ⟨sl,e1⟩:=I.base.slot b o e n hb hx
   exact ⟨sl,(hs.2 b (Nat.ne_of_lt (Nat.lt_of_lt_of_le (Heap.lt_size e) I.ok.above))).trans e1⟩
  ·obtain ⟨o',e1⟩:=I.base.there b o e hx
   exact ⟨o',(hs.2 b (Nat.ne_of_lt (Nat.lt_of_lt_of_le (Heap.lt_size e) I.ok.above))).trans e1⟩
  ·by_cases hj:j=i
   ·subst hj
    rw [hi] at e1;cases e1
    rw [List.getElem?_set_self hiσ] at e2
    cases e2
    exact ⟨u,r,.inl ⟨hk,by simp⟩⟩
   ·rw [List.getElem?_set_ne (Ne.symm hj)] at e2
    obtain ⟨u',r',q⟩:=hl j y v' e1 e2 e3
    refine ⟨u',r',?_⟩
    rcases q with ⟨k,e⟩|⟨k,c,e,z⟩
    ·refine .inl ⟨k,?_⟩
     have:y≠x:=fun e=>hj (nodup_ix hN e1 (e ▸ hi))
     simp [this,e]
    ·exact .inr ⟨k,c,e,z.sameBut hs (cne y c e)⟩
  ·obtain ⟨w',z⟩:=I.cell y c e
   exact ⟨w',z.sameBut hs (cne y c e)⟩
  ·obtain ⟨e,n,ne,nf,d⟩:=I.pin p hp
   exact ⟨(hs.2 p.1 ne).trans e,n,ne,nf,d⟩
 ·have hfn:X.fn x=true:=by
   rcases hf with z|z
   ·exact z
   ·rw [z] at hk;cases hk
  obtain ⟨c,hc⟩:=I.ok.has x (.inl hk)
  obtain ⟨w',z⟩:=I.cell x c hc
  refine wpAny_storeName_cell I.ok.kind hk hc z (fun h' hc' hs=>?_)
  obtain ⟨oc,hoc,hocd⟩:=id z
  refine h { s with heap:=h' } ⟨I.ok,I.os,I.bare,⟨fun b o e n hb hx=>?_,fun b o e n hb hx=>?_,I.base.free,fun b o e hx=>?_,I.base.tups,I.base.frzs,fun b ps e=>⟨(I.base.tbls b ps e).1,fun d o e1 x1=>let z:=(I.base.tbls b ps e).2 d o e1 x1;⟨z.1,(hs.2 d (ne_of_none z.1 (I.freeC x c hc))).trans z.2⟩⟩⟩,⟨m,hn.sameBut hs (Ne.symm (cne x c hc)),fun j y v' e1 e2 e3=>?_⟩,fun y c' e=>?_,I.free,I.freeC,fun p hp=>?_,tracked ⟨oc,hoc,I.freeC x c hc⟩ hs,by simpa using I.len⟩ ⟨c,hs,.inr hc⟩
  ·exact (hs.2 b (Nat.ne_of_lt (Nat.lt_of_lt_of_le (Heap.lt_size e) (I.ok.cab x c hfn hc)))).trans (I.base.keep b o e n hb hx)
  ·obtain ⟨sl,e1⟩:=I.base.slot b o e n hb hx
   exact ⟨sl,(hs.2 b (Nat.ne_of_lt (Nat.lt_of_lt_of_le (Heap.lt_size e) (I.ok.cab x c hfn hc)))).trans e1⟩
  ·obtain ⟨o',e1⟩:=I.base.there b o e hx
   exact ⟨o',(hs.2 b (Nat.ne_of_lt (Nat.lt_of_lt_of_le (Heap.lt_size e) (I.ok.cab x c hfn hc)))).trans e1⟩
  ·by_cases hj:j=i
   ·subst hj
    rw [hi] at e1;cases e1
    rw [List.getElem?_set_self hiσ] at e2
    cases e2
    exact ⟨u,r,.inr ⟨.inl hk,c,hc,hc'⟩⟩
   ·rw [List.getElem?_set_ne (Ne.symm hj)] at e2
    obtain ⟨u',r',q⟩:=hl j y v' e1 e2 e3
    refine ⟨u',r',?_⟩
    rcases q with q|⟨k,c',e,z'⟩
    ·exact .inl q
    ·refine .inr ⟨k,c',e,z'.sameBut hs ?_⟩
     rintro rfl
     exact hj (nodup_ix hN e1 (I.ok.inj _ _ _ e hc ▸ hi))
  ·by_cases hcc:c'=c
   ·subst hcc;exact ⟨_,hc'⟩
   ·obtain ⟨w2,z2⟩:=I.cell y c' e
    exact ⟨w2,z2.sameBut hs hcc⟩
  ·obtain ⟨e,n,ne,nf,d⟩:=I.pin p hp
   refine ⟨(hs.2 p.1 ?_).trans e,n,ne,nf,d⟩
   intro q
   rw [q,hoc] at e
   have q':oc=p.2:=Option.some.inj e
   exact d w' (by rw [←q'];exact hocd)
theorem store_ok {M:Model} {A:Around} {E:Value→Shared→Prop} {i:Nat} {x:Str} {v:V} {u:Value} {Q:Unit→Shared→Prop} (I:Inv X pins σ H s) (hN:X.N.Nodup) (hi:X.N[i]?=some x) (hx:Loc X.env.scope x) (r:RelV v u)
  (h:∀ s',Inv X pins (σ.set i (some v)) H s'→Q () s') (hf:X.fn x=true∨X.env.scope.names.lookup x=some .local:=by first|exact .inl rfl|exact .inr rfl|assumption):wpAny M A (storeName X.env x u) Q E s :=
 store_ok2 I hN hi hx r (fun s' I' _=>h s' I') hf
theorem Inv.call' {s':Shared} {ch:List Addr} (I:Inv X pins σ H s) (ho:s'.os=s.os) (u:Un (frs X.stack) ch H H' s.heap s'.heap) (hok:HOk X.prog X.w H' s'.heap) (hg:AllBare s'.gens)
  (hch:∀ b∈ch,(b∈X.ex∨X.s₀.heap.objs.size≤b)∧b≠X.env.locals∧(∀ x c,X.env.cells.lookup x=some c→c≠b)∧∀ p∈X.pn++pins,p.1≠b):Inv X pins σ H' s':=by
 obtain ⟨h',g',d',t',o'⟩:=s'
 have e:o'=s.os:=ho
 subst e
 exact I.call (g':=g') (t':=t') (d':=d') u hok hg hch
end
abbrev XK:=Value→Option Addr→Hp→Prop
abbrev St:=List (Option V)
abbrev VK:=V→Hp→Prop
abbrev TE:=St→Hp→VK→Prop
abbrev TT:=St→Hp→(Bool→Hp→Prop)→Prop
abbrev TA:=St→Hp→(List V→Hp→Prop)→Prop
structure Ends where
 nx:St→Hp→Prop
 rt:VK
 bk:St→Hp→Prop:=fun _ _=>False
 ct:St→Hp→Prop:=fun _ _=>False
abbrev TS:=Ends→St→Hp→Prop
def EP (X:Cx) (pins:List (Addr×Obj)) (σ:St) (Q:VK) (u:Value) (s':Shared):Prop:=∃ v H',Inv X pins σ H' s'∧RelV v u∧Q v H'
def TP (X:Cx) (pins:List (Addr×Obj)) (σ:St) (Q:Bool→Hp→Prop) (b:Bool) (s':Shared):Prop:=∃ H',Inv X pins σ H' s'∧Q b H'
def AP (X:Cx) (pins:List (Addr×Obj)) (σ:St) (Q:List V→Hp→Prop) (us:List Value) (s':Shared):Prop:=∃ vs H',Inv X pins σ H' s'∧Vals vs us∧Q vs H'
def SP (X:Cx) (pins:List (Addr×Obj)) (D:Ends) (f:Flow) (s':Shared):Prop :=
 match f with
 |.next=>∃ σ' H',Inv X pins σ' H' s'∧D.nx σ' H'
 |.brk=>∃ σ' H',Inv X pins σ' H' s'∧D.bk σ' H'
 |.cont=>∃ σ' H',Inv X pins σ' H' s'∧D.ct σ' H'
 |.ret u=>∃ v σ' H',Inv X pins σ' H' s'∧RelV v u∧D.rt v H'
def PE (X:Cx) (e:Expr) (t:TE):Prop :=
 ∀ (pins:List (Addr×Obj)) (s:Shared) (σ:St) (H:Hp) (Q:VK),Inv X pins σ H s→t σ H Q→wpAny (model X.prog X.w) X.A (eval e X.env) (EP X pins σ Q) X.xe s
def PT (X:Cx) (e:Expr) (t:TT):Prop :=
 ∀ (pins:List (Addr×Obj)) (s:Shared) (σ:St) (H:Hp) (Q:Bool→Hp→Prop),Inv X pins σ H s→t σ H Q→wpAny (model X.prog X.w) X.A (isTrue e X.env (eval e X.env)) (TP X pins σ Q) X.xe s
def PW (X:Cx) (e:Expr) (t:TT):Prop :=
 ∀ (whole:Sem Value) (pins:List (Addr×Obj)) (s:Shared) (σ:St) (H:Hp) (Q:Bool→Hp→Prop),Inv X pins σ H s→t σ H Q→wpAny (model X.prog X.w) X.A (isTrue e X.env whole) (TP X pins σ Q) X.xe s
theorem PW.pt {X:Cx} {e:Expr} {t:TT} (h:PW X e t):PT X e t:=h _
def PA (X:Cx) (es:List Expr) (t:TA):Prop :=
 ∀ (pos:Pos) (pins:List (Addr×Obj)) (s:Shared) (σ:St) (H:Hp) (Q:List V→Hp→Prop),Inv X pins σ H s→t σ H Q→wpAny (model X.prog X.w) X.A (spliced (backTo pos (starEach es X.env))) (AP X pins σ Q) X.xe s
def PS (X:Cx) (st:Stmt) (t:TS):Prop :=
 ∀ (pins:List (Addr×Obj)) (s:Shared) (σ:St) (H:Hp) (D:Ends),Inv X pins σ H s→t D σ H→wpAny (model X.prog X.w) X.A (exec st X.env) (SP X pins D) X.xe s
def PSs (X:Cx) (st:List Stmt) (t:TS):Prop :=
 ∀ (pins:List (Addr×Obj)) (s:Shared) (σ:St) (H:Hp) (D:Ends),Inv X pins σ H s→t D σ H→wpAny (model X.prog X.w) X.A (execs st X.env) (SP X pins D) X.xe s
theorem thn {α:Type} {t:Sem α} {Q Q':α→Shared→Prop} {M:Model} {A:Around} {E:Value→Shared→Prop} {s:Shared} (h:wpAny M A t Q E s) (hQ:∀ a s,Q a s→Q' a s):wpAny M A t Q' E s:=wpAny_mono h hQ fun _ _ x=>x
end
section
section
variable {X:Cx}
theorem bin {a b:Expr} {ta tb:TE} (ha:PE X a ta) (hb:PE X b tb) {pins:List (Addr×Obj)} {s:Shared} {σ:St} {H:Hp} {R:V→V→Hp→Prop} (I:Inv X pins σ H s) (h:ta σ H fun x H1=>tb σ H1 fun y H2=>R x y H2)
  {α:Type} {Q:α→Shared→Prop} {f:Value→Value→Sem α}
  (hf:∀ v u s2 x y H2,Inv X pins σ H2 s2→RelV x v→RelV y u→R x y H2→wpAny (model X.prog X.w) X.A (f v u) Q X.xe s2) :
  wpAny (model X.prog X.w) X.A (eval a X.env) (fun v s₁=>wpAny (model X.prog X.w) X.A (eval b X.env) (fun u s₂=>wpAny (model X.prog X.w) X.A (f v u) Q X.xe s₂) X.xe s₁) X.xe s:=by
 refine thn (ha pins s σ H _ I h) fun v s1 ⟨x,H1,I1,r1,q1⟩=>?_
 refine thn (hb pins s1 σ H1 _ I1 q1) fun u s2 ⟨y,H2,I2,r2,q2⟩=>?_
 exact hf v u s2 x y H2 I2 r1 r2 q2
inductive TVar (i:Nat) (σ:St) (H:Hp) (Q:VK):Prop
 |mk (v:V) (e:σ[i]?=some (some v)) (q:Q v H):TVar i σ H Q
def tVar (i:Nat):TE:=TVar i
def tC (v:V):TE:=fun _ H Q=>Q v H
theorem pe_var {i:Nat} {x:Str} {pos:Pos} (hN:X.N[i]?=some x) (hv:Vis X.env.scope x) (hd:(x == ("__debug__" : Str))=false:=by decide) (hcd:(x == ("__classdict__" : Str))=false:=by decide):PE X (.Name x pos) (tVar i):=by
 intro pins s σ H Q I h
 obtain ⟨v,e,h⟩:=h
 obtain ⟨m,hn,hl⟩:=I.loc
 obtain ⟨u,r,l⟩:=hl i x v hN e hv
 have fin:EP X pins σ Q u s:=⟨v,H,I,r,h⟩
 rcases l with ⟨hk,hm⟩|⟨hk,c,hc,hcell⟩
 ·exact wpAny_Name (wpAny_loadName_local I.ok.kind hk hn hm fin) hd
 ·rcases hk with hk|hk
  ·exact wpAny_Name (wpAny_loadName_cell I.ok.kind hk hc hcell fin) hd
  ·exact wpAny_Name (wpAny_loadName_free I.ok.kind hk hc hcell fin hcd) hd
theorem pe_int {i j pos}:PE X (.Constant (.int i) j pos) (tC (.int i)):=fun _ _ _ H _ I h=>wpAny_Constant_int ⟨.int i,H,I.tok _,⟨_,rfl⟩,h⟩
theorem pe_bl {b j pos}:PE X (.Constant (.bool b) j pos) (tC (.bl b)):=fun _ _ _ H _ I h=>Constant_bool ⟨.bl b,H,I,rfl,h⟩
theorem pe_str {x j pos}:PE X (.Constant (.str x) j pos) (tC (.str x)):=fun _ _ _ H _ I h=>Calls.Constant_str ⟨.str x,H,I.tok _,⟨_,rfl⟩,h⟩
def Gl (X:Cx) (x:Str):Prop:=X.env.kindOf x=some .globalImplicit
theorem ld_glob {E:Value→Shared→Prop} {pins:List (Addr×Obj)} {s:Shared} {σ:St} {H:Hp} {x:Str} {u:Value} {pos:Pos} {Q:Value→Shared→Prop} (I:Inv X pins σ H s) (hg:Gl X x) (hm:X.mg x=some u) (h:Q u s)
  (hd:(x == ("__debug__" : Str))=false:=by decide):wpAny (model X.prog X.w) X.A (eval (.Name x pos) X.env) Q E s :=
 Calls.Name_function_global I.ok.kind hg (Calls.loadGlobal_global (by rw [I.ok.glob];exact I.mod.glob.keeps I.bk) hm h) hd
theorem ld_blt {E:Value→Shared→Prop} {pins:List (Addr×Obj)} {s:Shared} {σ:St} {H:Hp} {x:Str} {u:Value} {pos:Pos} {Q:Value→Shared→Prop} (I:Inv X pins σ H s) (hg:Gl X x) (hm:X.mg x=none) (hv:bootBuiltins x=some u) (h:Q u s)
  (hn:x ≠ "__name__" := by decide) (hd:(x == ("__debug__" : Str))=false:=by decide):wpAny (model X.prog X.w) X.A (eval (.Name x pos) X.env) Q E s:=by
 obtain ⟨mb,h1,h2⟩:=I.mod.blt
 exact Calls.Name_function_global I.ok.kind hg (Calls.loadGlobal_builtin (by rw [I.ok.glob];exact I.mod.glob.keeps I.bk) hm (by rw [I.ok.blt];exact h1.keeps I.bk) ((h2 x hn).trans hv) h) hd
theorem pe_glob {x:Str} {v:V} {u:Value} {pos:Pos} (hg:Gl X x) (hm:X.mg x=some u) (r:RelV v u) (hd:(x == ("__debug__" : Str))=false:=by decide):PE X (.Name x pos) (tC v) :=
 fun _ _ _ H _ I h=>ld_glob I hg hm ⟨v,H,I,r,h⟩ hd
theorem pe_bltn {x:Str} {v:V} {u:Value} {pos:Pos} (hg:Gl X x) (hm:X.mg x=none) (hv:bootBuiltins x=some u) (r:RelV v u) (hn:x ≠ "__name__" := by decide) (hd:(x == ("__debug__" : Str))=false:=by decide):PE X (.Name x pos) (tC v) :=
 fun _ _ _ H _ I h=>ld_blt I hg hm hv ⟨v,H,I,r,h⟩ hn hd
inductive OfBl (x:V) (H:Hp) (Q:Bool→Hp→Prop):Prop
 |mk (c:Bool) (e:x=.bl c) (q:Q c H):OfBl x H Q
inductive OfI (x:V) (H:Hp) (Q:Int→Hp→Prop):Prop
 |mk (i:Int) (e:x=.int i) (q:Q i H):OfI x H Q
inductive NewOb (n:Nat) (o:HO) (H:Hp) (Q:VK):Prop
 |mk (l:n≤sizeLine) (q:∀ p,H p=none→Q (.ref p) (upd H p o)):NewOb n o H Q
variable {a b:Expr} {ta tb:TE} {pos:Pos}
def PC (X:Cx) (op:CmpOp) (a b:Expr) (t:TE):Prop :=
 ∀ (pins:List (Addr×Obj)) (s:Shared) (σ:St) (H:Hp) (Q:VK),Inv X pins σ H s→t σ H Q →
  wpAny (model X.prog X.w) X.A (eval a X.env) (fun v s₁=>wpAny (model X.prog X.w) X.A (eval b X.env) (fun u s₂=>wpAny (model X.prog X.w) X.A (compareOp op v u) (EP X pins σ Q) X.xe s₂) X.xe s₁) X.xe s
theorem nobehind (b:Expr) {op:CmpOp} (h:op≠.In) (h2:op≠.NotIn):behindInMarks op b=false:=by
 have e1:(op == CmpOp.In)=false:=by cases op<;>first|rfl|exact absurd rfl h
 have e2:(op == CmpOp.NotIn)=false:=by cases op<;>first|rfl|exact absurd rfl h2
 cases b<;>simp [behindInMarks,e1,e2]
def tB (t:TE):TT:=fun σ H Q=>t σ H fun x H1=>OfBl x H1 Q
theorem pt_cmp {op:CmpOp} {t:TE} (h:PC X op a b t) (h1:behindInMarks op b=false:=by first|exact nobehind _ (by decide) (by decide)|rfl):PT X (.Compare a [op] [b] pos) (tB t):=by
 intro pins s σ H Q I hw
 refine wpAny_isTrue_Compare1 (thn (h pins s σ H _ I hw) fun v s1 h1=>thn h1 fun u s2 h2=>thn h2 fun c s3 ⟨x,H1,I1,r1,q1⟩=>?_) h1
 obtain ⟨d,rfl,q⟩:=q1
 cases r1
 exact wpAny_truthy_bool ⟨H1,I1,q⟩
theorem pt_val {e:Expr} {t:TE} (h:PE X e t) (he:∀ whole,isTrue e X.env whole=(do let v ←whole;standAt e.pos;holding [v] (truthy v)):=by intro _;rfl):PT X e (tB t):=by
 intro pins s σ H Q I hw
 refine isTrue_plain (thn (h pins s σ H _ I hw) fun v s1 ⟨x,H1,I1,r1,q1⟩=>?_) (he _)
 obtain ⟨d,rfl,q⟩:=q1
 cases r1
 exact wpAny_truthy_bool ⟨H1,I1,q⟩
variable {tA tB':TT} {rest:List Expr}
def tAnd (t u:TT):TT:=fun σ H Q=>t σ H fun c H1=>if c=true then u σ H1 Q else Q false H1
def tOr (t u:TT):TT:=fun σ H Q=>t σ H fun c H1=>if c=true then Q true H1 else u σ H1 Q
def tNot (t:TT):TT:=fun σ H Q=>t σ H fun c H1=>Q (!c) H1
theorem pw_and1 (ha:PT X a tA):PW X (.BoolOp .And [a] pos) tA:=by
 intro wh pins s σ H Q I h
 refine isTrue_and (thn (ha pins s σ H Q I h) fun c s1 e=>?_)
 cases c with
 |true=>exact isTrue_and_nil e
 |false=>exact e
theorem pw_or1 (ha:PT X a tA):PW X (.BoolOp .Or [a] pos) tA:=by
 intro wh pins s σ H Q I h
 refine isTrue_or (thn (ha pins s σ H Q I h) fun c s1 e=>?_)
 cases c with
 |false=>exact isTrue_or_nil e
 |true=>exact e
theorem pw_and (ha:PT X a tA) (hb:PW X (.BoolOp .And (b::rest) pos) tB'):PW X (.BoolOp .And (a::b::rest) pos) (tAnd tA tB'):=by
 intro wh pins s σ H Q I h
 refine isTrue_and (thn (ha pins s σ H _ I h) fun c s1 ⟨H1,I1,q1⟩=>?_)
 cases c with
 |true=>exact hb wh pins s1 σ H1 Q I1 q1
 |false=>exact ⟨H1,I1,q1⟩
theorem pw_or (ha:PT X a tA) (hb:PW X (.BoolOp .Or (b::rest) pos) tB'):PW X (.BoolOp .Or (a::b::rest) pos) (tOr tA tB'):=by
 intro wh pins s σ H Q I h
 refine isTrue_or (thn (ha pins s σ H _ I h) fun c s1 ⟨H1,I1,q1⟩=>?_)
 cases c with
 |true=>exact ⟨H1,I1,q1⟩
 |false=>exact hb wh pins s1 σ H1 Q I1 q1
theorem pt_not (ha:PT X a tA):PT X (.UnaryOp .Not a pos) (tNot tA):=by
 intro pins s σ H Q I h
 exact isTrue_not (ha pins s σ H (fun c H1=>Q (!c) H1) I h)
def tAndV (ta tb:TE):TE:=fun σ H Q=>ta σ H fun x H1=>OfBl x H1 fun c H1=>if c=true then tb σ H1 Q else Q (.bl false) H1
def tOrV (ta tb:TE):TE:=fun σ H Q=>ta σ H fun x H1=>OfBl x H1 fun c H1=>if c=true then Q (.bl true) H1 else tb σ H1 Q
def tNotV (ta:TE):TE:=fun σ H Q=>ta σ H fun x H1=>OfBl x H1 fun c H1=>Q (.bl (!c)) H1
theorem pe_one {op} {t:TE} (h:PE X a t):PE X (.BoolOp op [a] pos) t:=fun pins s σ H Q I hw=>BoolOp_one (h pins s σ H Q I hw)
theorem pe_and (ha:PE X a ta) (hb:PE X (.BoolOp .And (b::rest) pos) tb):PE X (.BoolOp .And (a::b::rest) pos) (tAndV ta tb):=by
 intro pins s σ H Q I h
 refine BoolOp_and (thn (ha pins s σ H _ I h) fun v s1 ⟨x,H1,I1,r1,q1⟩=>?_)
 obtain ⟨c,rfl,q1⟩:=q1
 cases r1
 refine wpAny_truthy_bool ?_
 cases c with
 |true=>exact hb pins s1 σ H1 Q I1 q1
 |false=>exact ⟨.bl false,H1,I1,rfl,q1⟩
theorem pe_or (ha:PE X a ta) (hb:PE X (.BoolOp .Or (b::rest) pos) tb):PE X (.BoolOp .Or (a::b::rest) pos) (tOrV ta tb):=by
 intro pins s σ H Q I h
 refine BoolOp_or (thn (ha pins s σ H _ I h) fun v s1 ⟨x,H1,I1,r1,q1⟩=>?_)
 obtain ⟨c,rfl,q1⟩:=q1
 cases r1
 refine wpAny_truthy_bool ?_
 cases c with
 |false=>exact hb pins s1 σ H1 Q I1 q1
 |true=>exact ⟨.bl true,H1,I1,rfl,q1⟩
theorem pe_not (ha:PE X a ta):PE X (.UnaryOp .Not a pos) (tNotV ta):=by
 intro pins s σ H Q I h
 refine UnaryOp_ (thn (ha pins s σ H _ I h) fun v s1 ⟨x,H1,I1,r1,q1⟩=>?_)
 obtain ⟨c,rfl,q1⟩:=q1
 cases r1
 exact not_of (wpAny_truthy_bool ⟨.bl (!c),H1,I1,rfl,q1⟩)
def tIf (t:TT) (ta tb:TE):TE:=fun σ H Q=>t σ H fun c H1=>if c=true then ta σ H1 Q else tb σ H1 Q
theorem pe_ifExp {c:Expr} (hc:PT X c tA) (ha:PE X a ta) (hb:PE X b tb):PE X (.IfExp c a b pos) (tIf tA ta tb):=by
 intro pins s σ H Q I h
 refine wpAny_IfExp (thn (hc pins s σ H _ I h) fun d s1 ⟨H1,I1,q1⟩=>?_)
 cases d with
 |true=>exact ha pins s1 σ H1 Q I1 q1
 |false=>exact hb pins s1 σ H1 Q I1 q1
end
end
section
def SqL (K:PySem.W.Frag) (H:Hp) (a:Addr) (xs:List V):Prop :=
 Rd H a (.lst xs) ∨
  ∃ (o:Obj) (its:Array Value) (n:Nat),K.lookup a=some o∧o.cls=.type "list" ∧ o.dict=none∧o.data=.seq its n∧its.size≤sizeLine∧Vals xs its.toList
def SqT (K:PySem.W.Frag) (H:Hp) (a:Addr) (xs:List V):Prop :=
 Rd H a (.tup xs) ∨
  ∃ (o:Obj) (its:Array Value) (n:Nat),K.lookup a=some o∧o.cls=.type "tuple" ∧ o.data=.seq its n∧its.size≤sizeLine∧Vals xs its.toList
def absV:Value→Option V
 |.none=>some .non
 |.bool b=>some (.bl b)
 |.int i _=>some (.int i)
 |.str x _=>some (.str x)
 |.bytes b _=>some (.byt b)
 |.float b _=>some (.flt b)
 |.ref a=>some (.ref a)
 |.type n=>some (.ty n)
 |_=>none
theorem RelV.abs {x:V} {u:Value} (r:RelV x u):absV u=some x:=by
 cases x with
 |non=>cases r;rfl
 |bl _=>cases r;rfl
 |int _=>obtain ⟨t,rfl⟩:=r;rfl
 |str _=>obtain ⟨t,rfl⟩:=r;rfl
 |byt _=>obtain ⟨t,rfl⟩:=r;rfl
 |flt _=>obtain ⟨t,rfl⟩:=r;rfl
 |ref _=>cases r;rfl
 |ty _=>cases r;rfl
theorem RelV.inj {x y:V} {u:Value} (r:RelV x u) (q:RelV y u):x=y:=Option.some.inj (r.abs.symm.trans q.abs)
theorem Vals.inj:∀ {xs ys:List V} {us:List Value},Vals xs us→Vals ys us→xs=ys
 |_,_,_,.nil,.nil=>rfl
 |_,_,_,.cons r t,.cons r' t'=>by rw [r.inj r',Vals.inj t t']
section
variable {X:Cx} {pins:List (Addr×Obj)} {σ:St} {H:Hp} {s:Shared} {a:Addr} {xs ys:List V}
theorem SqL.of {K:PySem.W.Frag} (h:H a=some (.lst xs)):SqL K H a xs:=.inl (.inl h)
theorem SqT.of {K:PySem.W.Frag} (h:H a=some (.tup xs)):SqT K H a xs:=.inl (.inl h)
theorem Inv.list (I:Inv X pins σ H s) (h:SqL X.K H a xs):∃ its:List Value,Vals xs its∧PlainL s.heap a its.toArray∧xs.length≤sizeLine:=by
 rcases h with h|⟨o,its,n,hk,hc,hd,hs,hz,r⟩
 ·obtain ⟨z,its,n,r,e⟩:=h.ok I.hok
  exact ⟨its,r,⟨_,n,e,rfl,rfl,rfl⟩,z⟩
 ·refine ⟨its.toList,r,⟨o,n,I.kIn a o hk,hc,hd,by simpa using hs⟩,?_⟩
  have e:=r.length
  simp only [Array.length_toList] at e
  walk_at"q"
theorem Inv.tuple (I:Inv X pins σ H s) (h:SqT X.K H a xs):∃ its:List Value,Vals xs its∧IsTup s.heap a its.toArray∧xs.length≤sizeLine:=by
 rcases h with h|⟨o,its,n,hk,hc,hs,hz,r⟩
 ·obtain ⟨z,its,r,p⟩:=h.ok I.hok
  exact ⟨its,r,p.tup,z⟩
 ·refine ⟨its.toList,r,⟨o,I.kIn a o hk,hc,n,by simpa using hs⟩,?_⟩
  have e:=r.length
  simp only [Array.length_toList] at e
  walk_at"q"
theorem Inv.list_inj (I:Inv X pins σ H s) (h:SqL X.K H a xs) (h':SqL X.K H a ys):xs=ys:=by
 obtain ⟨its,r,⟨o,n,e,_,_,d⟩,_⟩:=I.list h
 obtain ⟨its',r',⟨o',n',e',_,_,d'⟩,_⟩:=I.list h'
 rw [e] at e';cases e'
 rw [d] at d'
 injection d' with d1 _
 have:its=its':=by simpa using congrArg Array.toList d1
 subst this
 exact r.inj r'
theorem Inv.tuple_inj (I:Inv X pins σ H s) (h:SqT X.K H a xs) (h':SqT X.K H a ys):xs=ys:=by
 obtain ⟨its,r,⟨o,e,_,n,d⟩,_⟩:=I.tuple h
 obtain ⟨its',r',⟨o',e',_,n',d'⟩,_⟩:=I.tuple h'
 rw [e] at e';cases e'
 rw [d] at d'
 injection d' with d1 _
 have:its=its':=by simpa using congrArg Array.toList d1
 subst this
 exact r.inj r'
end
abbrev Cx.wish (X:Cx) (E:Value→Shared→Prop):Cx:={ X with xe:=E }
abbrev Cx.nox (X:Cx):Cx:=X.wish fun _ _=>False
theorem Cx.Ok.wish {X:Cx} (ok:X.Ok) (E:Value→Shared→Prop):(X.wish E).Ok :=
 ⟨ok.mod,ok.kind,ok.glob,ok.blt,ok.above,ok.inj,ok.has,ok.cab,ok.hd,ok.frames,ok.stk,ok.exf,ok.bs,ok.bsz,ok.noex,ok.exfs,ok.funs,ok.frf⟩
theorem Cx.Ok.unwish {X:Cx} {E:Value→Shared→Prop} (ok:(X.wish E).Ok):X.Ok :=
 ⟨ok.mod,ok.kind,ok.glob,ok.blt,ok.above,ok.inj,ok.has,ok.cab,ok.hd,ok.frames,ok.stk,ok.exf,ok.bs,ok.bsz,ok.noex,ok.exfs,ok.funs,ok.frf⟩
section
variable {X:Cx} {pins:List (Addr×Obj)} {σ:St} {H:Hp} {s:Shared} {E:Value→Shared→Prop}
theorem Inv.wish (I:Inv X pins σ H s) (E:Value→Shared→Prop):Inv (X.wish E) pins σ H s:=⟨I.ok.wish E,I.os,I.bare,I.base,I.loc,I.cell,I.free,I.freeC,I.pin,I.hok,I.len⟩
theorem Inv.unwish (I:Inv (X.wish E) pins σ H s):Inv X pins σ H s:=⟨I.ok.unwish,I.os,I.bare,I.base,I.loc,I.cell,I.free,I.freeC,I.pin,I.hok,I.len⟩
theorem SP.unwish {D:Ends} {f:Flow} {s':Shared} (h:SP (X.wish E) pins D f s'):SP X pins D f s':=by
 cases f with
 |next=>obtain ⟨σ',H',I,q⟩:=h;exact ⟨σ',H',I.unwish,q⟩
 |brk=>obtain ⟨σ',H',I,q⟩:=h;exact ⟨σ',H',I.unwish,q⟩
 |cont=>obtain ⟨σ',H',I,q⟩:=h;exact ⟨σ',H',I.unwish,q⟩
 |ret u=>obtain ⟨v,σ',H',I,r,q⟩:=h;exact ⟨v,σ',H',I.unwish,r,q⟩
theorem PSs.nox {st:List Stmt} {t:TS} (h:PSs X.nox st t):PSs X st t:=fun pins s σ H D I hw =>
 wpAny_mono (h pins s σ H D (I.wish _) hw) (fun _ _ q=>q.unwish) fun _ _ z=>False.elim z
end
section
variable {X:Cx} {st:Stmt} {rest:List Stmt} {t u:TS} {e:Expr} {te:TE} {pos:Pos}
def tNext:TS:=fun D σ H=>D.nx σ H
def tSeq (t u:TS):TS:=fun D σ H=>t { D with nx:=u D } σ H
theorem pss_nil:PSs X [] tNext:=fun _ _ σ H _ I h=>wpAny_execs_nil ⟨σ,H,I,h⟩
theorem pss_cons (h1:PS X st t) (h2:PSs X rest u):PSs X (st::rest) (tSeq t u):=by
 intro pins s σ H D I h
 refine wpAny_execs_cons (thn (h1 pins s σ H { D with nx:=u D } I h) fun f s1 q=>?_)
 cases f with
 |next =>
  obtain ⟨σ',H',I',q⟩:=q
  exact h2 pins s1 σ' H' D I' q
 |ret v=>exact q
 |brk=>exact q
 |cont=>exact q
theorem pss_one (h1:PS X st t):PSs X [st] t:=by
 intro pins s σ H D I h
 refine wpAny_execs_cons (thn (h1 pins s σ H D I h) fun f s1 q=>?_)
 cases f with
 |next=>exact wpAny_execs_nil q
 |ret v=>exact q
 |brk=>exact q
 |cont=>exact q
theorem Inv.quiet {pins:List (Addr×Obj)} {σ:St} {H:Hp} {s:Shared} (I:Inv X pins σ H s):interactive X.env=false:=by simp [interactive,I.ok.kind]
def tDrop (te:TE):TS:=fun D σ H=>te σ H fun _ H1=>D.nx σ H1
theorem ps_expr (he:PE X e te) (hs:swapsWith e none pos.line X.env=pure false:=by rfl):PS X (.Expr e pos) (tDrop te):=by
 intro pins s σ H D I h
 exact wpAny_Expr_any (thn (he pins s σ H _ I h) fun v s1 ⟨x,H1,I1,r1,q1⟩=>⟨σ,H1,I1,q1⟩) I.quiet hs
def tRet (te:TE):TS:=fun D σ H=>te σ H D.rt
theorem ps_ret (he:PE X e te):PS X (.Return (some e) pos) (tRet te):=by
 intro pins s σ H D I h
 exact wpAny_Return_some (thn (he pins s σ H _ I h) fun v s1 ⟨x,H1,I1,r1,q1⟩=>⟨x,σ,H1,I1,r1,q1⟩)
def tIfS (c:TT) (t u:TS):TS:=fun D σ H=>c σ H fun b H1=>if b=true then t D σ H1 else u D σ H1
theorem ps_if {c:Expr} {a b:List Stmt} {tc:TT} (hc:PT X c tc) (ha:PSs X a t) (hb:PSs X b u):PS X (.If c a b pos) (tIfS tc t u):=by
 intro pins s σ H D I h
 refine wpAny_If (thn (hc pins s σ H _ I h) fun d s1 ⟨H1,I1,q1⟩=>?_)
 cases d with
 |true=>exact ha pins s1 σ H1 D I1 q1
 |false=>exact hb pins s1 σ H1 D I1 q1
def tNever:TS:=fun _ _ _=>False
theorem ps_never:PS X st tNever:=fun _ _ _ _ _ _ h=>h.elim
end
abbrev TG:=V→St→Hp→(St→Hp→Prop)→Prop
abbrev TGs:=List V→St→Hp→(St→Hp→Prop)→Prop
def PG (X:Cx) (target:Expr) (t:TG):Prop :=
 ∀ (pins:List (Addr×Obj)) (s:Shared) (σ:St) (H:Hp) (v:V) (u:Value) (Q:St→Hp→Prop),Inv X pins σ H s→RelV v u→t v σ H Q →
  wpAny (model X.prog X.w) X.A (assign target X.env u) (fun _ s'=>∃ σ' H',Inv X pins σ' H' s'∧Q σ' H') X.xe s
def PGs (X:Cx) (ts:List Expr) (t:TGs):Prop :=
 ∀ (pins:List (Addr×Obj)) (s:Shared) (σ:St) (H:Hp) (vs:List V) (us:List Value) (Q:St→Hp→Prop),Inv X pins σ H s→Vals vs us→t vs σ H Q →
  wpAny (model X.prog X.w) X.A (assignInOrder ((assignEach ts X.env).map (·.2)) us) (fun _ s'=>∃ σ' H',Inv X pins σ' H' s'∧Q σ' H') X.xe s
abbrev TSet:=V→V→V→Hp→(Hp→Prop)→Prop
def PSet (X:Cx) (t:TSet):Prop :=
 ∀ (pins:List (Addr×Obj)) (s:Shared) (σ:St) (H:Hp) (o i v:V) (ov iv u:Value) (Q:Hp→Prop),Inv X pins σ H s→RelV o ov→RelV i iv→RelV v u→t o i v H Q →
  wpAny (model X.prog X.w) X.A (setItem ov iv u) (fun _ s'=>∃ H',Inv X pins σ H' s'∧Q H') X.xe s
abbrev TIp:=V→V→Hp→VK→Prop
def PIp (X:Cx) (op:Operator) (t:TIp):Prop :=
 ∀ (pins:List (Addr×Obj)) (s:Shared) (σ:St) (H:Hp) (x y:V) (v u:Value) (Q:VK),Inv X pins σ H s→RelV x v→RelV y u→t x y H Q →
  wpAny (model X.prog X.w) X.A (inplaceOp op v u) (EP X pins σ Q) X.xe s
section
variable {X:Cx} {pos:Pos}
def gName (i:Nat):TG:=fun v σ H Q=>Q (σ.set i (some v)) H
theorem pg_name {i:Nat} {x:Str} (hN:X.N.Nodup) (hi:X.N[i]?=some x) (hx:Loc X.env.scope x) (hf:X.fn x=true∨X.env.scope.names.lookup x=some .local:=by first|exact .inl rfl|exact .inr rfl|assumption):PG X (.Name x pos) (gName i):=by
 intro pins s σ H v u Q I r h
 exact wpAny_assign_Name (store_ok I hN hi hx r (fun s' I'=>⟨_,H,I',h⟩) hf)
def gNil:TGs:=fun vs σ H Q=>vs=[]∧Q σ H
def gCons (t:TG) (u:TGs):TGs:=fun vs σ H Q=>∃ v r,vs=v::r∧t v σ H fun σ' H'=>u r σ' H' Q
theorem pgs_nil:PGs X [] gNil:=by
 intro pins s σ H vs us Q I r h
 obtain ⟨e,h⟩:=h
 subst e
 cases r
 exact assignInOrder_nil ⟨σ,H,I,h⟩
theorem pgs_cons {e:Expr} {es:List Expr} {t:TG} {u:TGs} (h1:PG X e t) (h2:PGs X es u)
  (hs:(assignEach (e::es) X.env).map (·.2)=assign e X.env::(assignEach es X.env).map (·.2):=by rfl):PGs X (e::es) (gCons t u):=by
 intro pins s σ H vs us Q I r h
 obtain ⟨v,vr,e1,h⟩:=h
 subst e1
 cases r with
 |cons r rr =>
  rw [hs]
  refine assignInOrder_cons (thn (h1 pins s σ H _ _ _ I r h) fun _ s1 ⟨σ1,H1,I1,q1⟩=>?_)
  exact h2 pins s1 σ1 H1 _ _ Q I1 rr q1
def gTup (K:PySem.W.Frag) (n:Nat) (t:TGs):TG:=fun v σ H Q=>∃ a xs,v=.ref a∧SqT K H a xs∧xs.length=n∧t xs σ H Q
theorem pg_tup {es:List Expr} {k:Nat} {t:TGs} {n:Nat} (hc:X.calm=true) (h:PGs X es t)
  (hn:(assignEach es X.env).length=n:=by rfl) (hst:(assignEach es X.env).findIdx? (·.1)=none:=by rfl):PG X (.Tuple es k pos) (gTup X.K n t):=by
 intro pins s σ H v u Q I r hw
 obtain ⟨a,xs,e1,hq,hl,hw⟩:=hw
 subst e1
 cases r
 obtain ⟨its,rv,ht,hz⟩:=I.tuple hq
 refine assign_Tuple_tuple (I.ok.hd hc) ht (by simp [hn,←hl,rv.length]) hst fun h' hx=>?_
 have I1:Inv X pins σ H { s with heap:=h' }:=I.kept (t':=s.toks) fun b o e=>hx b o (Nat.ne_of_lt (Heap.lt_size e)) e
 exact h pins _ σ H xs _ Q I1 (by simpa using rv) hw
def gSub (to ti:TE) (t:TSet):TG:=fun v σ H Q=>to σ H fun o H1=>ti σ H1 fun i H2=>t o i v H2 fun H3=>Q σ H3
theorem pg_sub {o i:Expr} {to ti:TE} {t:TSet} (ho:PE X o to) (hi:PE X i ti) (hs:PSet X t)
  (ha:∀ v,assign (.Subscript o i pos) X.env v=(do
   let ov ←holding [v] (eval o X.env)
   let iv ←holding [v,ov] (eval i X.env)
   standAt pos
   holding [v,ov,iv] (setItem ov iv v)
   release [v,ov,iv] []):=by intro _;rfl):PG X (.Subscript o i pos) (gSub to ti t):=by
 intro pins s σ H v u Q I r h
 rw [ha]
 refine wpAny_bind (wpAny_holding (thn (ho pins s σ H _ I h) fun ov s1 ⟨x,H1,I1,r1,q1⟩=>?_))
 refine wpAny_bind (wpAny_holding (thn (hi pins s1 σ H1 _ I1 q1) fun iv s2 ⟨y,H2,I2,r2,q2⟩=>?_))
 refine wpAny_bind (wpAny_standAt (wpAny_bind (wpAny_holding (thn (hs pins s2 σ H2 x y v ov iv u _ I2 r1 r2 r q2) fun _ s3 ⟨H3,I3,q3⟩=>?_))))
 exact wpAny_release ⟨σ,H3,I3,q3⟩
def tAsg (te:TE) (g:TG):TS:=fun D σ H=>te σ H fun x H1=>g x σ H1 D.nx
theorem ps_asg {tg e:Expr} {te:TE} {g:TG} (he:PE X e te) (hg:PG X tg g) (hs:swapsWithSole [tg] e pos.line X.env=pure false:=by rfl) (hw:swappedStores [tg] e X.env=pure none:=by rfl)
  (h1:(assignEach [tg] X.env).map (·.2)=[assign tg X.env]:=by rfl):PS X (.Assign [tg] e pos) (tAsg te g):=by
 intro pins s σ H D I h
 refine wpAny_Assign_stores (thn (he pins s σ H _ I h) fun v s1 ⟨x,H1,I1,r1,q1⟩=>?_) hs hw
 rw [h1]
 exact thn (hg pins s1 σ H1 x v _ I1 r1 q1) fun _ s2 q=>q
theorem ps_set {i:Nat} {x:Str} {e:Expr} {te:TE} {pos':Pos} (hN:X.N.Nodup) (hi:X.N[i]?=some x) (hx:Loc X.env.scope x) (he:PE X e te) (hs:swapsWith e (some (.Name x pos')) pos.line X.env=pure false:=by rfl) (hf:X.fn x=true∨X.env.scope.names.lookup x=some .local:=by first|exact .inl rfl|exact .inr rfl|assumption) :
  PS X (.Assign [.Name x pos'] e pos) (tAsg te (gName i)):=by
 intro pins s σ H D I h
 refine wpAny_Assign_Name (thn (he pins s σ H _ I h) fun v s1 ⟨y,H1,I1,r1,q1⟩=>?_) hs
 exact store_ok I1 hN hi hx r1 (fun s2 I2=>⟨_,H1,I2,q1⟩) hf
def tAug (i:Nat) (te:TE) (ti:TIp):TS:=fun D σ H=>TVar i σ H fun x H=>te σ H fun y H1=>ti x y H1 fun z H2=>D.nx (σ.set i (some z)) H2
theorem ps_aug {i:Nat} {x:Str} {e:Expr} {te:TE} {op:Operator} {ti:TIp} {pos':Pos} (hN:X.N.Nodup) (hi:X.N[i]?=some x) (hx:Loc X.env.scope x) (he:PE X e te) (ho:PIp X op ti) (hf:X.fn x=true∨X.env.scope.names.lookup x=some .local:=by first|exact .inl rfl|exact .inr rfl|assumption) :
  PS X (.AugAssign (.Name x pos') op e pos) (tAug i te ti):=by
 intro pins s σ H D I h
 obtain ⟨v,e1,h⟩:=h
 obtain ⟨m,hn,hl⟩:=I.loc
 have vis:Vis X.env.scope x:=by rcases hx with k|k;exact .inl k;exact .inr (.inl k)
 obtain ⟨u,r,l⟩:=hl i x v hi e1 vis
 refine wpAny_AugAssign_Name ?_
 have go:wpAny (model X.prog X.w) X.A (eval e X.env) (fun w s₂=>wpAny (model X.prog X.w) X.A (inplaceOp op u w) (fun r s₃=>wpAny (model X.prog X.w) X.A (storeName X.env x r) (fun _=>SP X pins D .next) X.xe s₃) X.xe s₂) X.xe s:=by
  refine thn (he pins s σ H _ I h) fun w s1 ⟨y,H1,I1,r1,q1⟩=>?_
  refine thn (ho pins s1 σ H1 v y u w _ I1 r r1 q1) fun z s2 ⟨zv,H2,I2,r2,q2⟩=>?_
  exact store_ok I2 hN hi hx r2 (fun s3 I3=>⟨_,H2,I3,q2⟩) hf
 rcases l with ⟨hk,hm⟩|⟨hk,c,hc,hcell⟩
 ·exact wpAny_loadName_local I.ok.kind hk hn hm go
 ·rcases hk with hk|hk
  ·exact wpAny_loadName_cell I.ok.kind hk hc hcell go
  ·rcases hx with k|k
   ·have:X.env.scope.names.lookup x=some .free:=hk
    rw [k] at this;cases this
   ·have:X.env.scope.names.lookup x=some .free:=hk
    rw [k] at this;cases this
def tAugS (to ti te:TE) (tget:V→V→Hp→VK→Prop) (tip:TIp) (tset:TSet):TS:=fun D σ H=>to σ H fun o H1=>ti σ H1 fun i H2=>tget o i H2 fun x H3=>te σ H3 fun y H4=>tip x y H4 fun z H5=>tset o i z H5 fun H6=>D.nx σ H6
def PGet (X:Cx) (t:V→V→Hp→VK→Prop):Prop :=
 ∀ (pins:List (Addr×Obj)) (s:Shared) (σ:St) (H:Hp) (o i:V) (ov iv:Value) (Q:VK),Inv X pins σ H s→RelV o ov→RelV i iv→t o i H Q →
  wpAny (model X.prog X.w) X.A (getItem ov iv) (EP X pins σ Q) X.xe s
theorem ps_augS {o i e:Expr} {to ti te:TE} {tget:V→V→Hp→VK→Prop} {tip:TIp} {tset:TSet} {op:Operator} {tpos:Pos} (ho:PE X o to) (hi:PE X i ti) (hg:PGet X tget) (he:PE X e te) (hp:PIp X op tip) (hs:PSet X tset)
  (ha:∀ ov iv new,augStore i ov iv new=(do holding [new,ov,iv] (setItem ov iv new);release [new,ov,iv] [];pure .next):=by intros;rfl):PS X (.AugAssign (.Subscript o i tpos) op e pos) (tAugS to ti te tget tip tset):=by
 intro pins s σ H D I h
 refine wpAny_AugAssign_SubscriptAny (thn (ho pins s σ H _ I h) fun ov s1 ⟨x1,H1,I1,r1,q1⟩=>?_) ha
 refine thn (hi pins s1 σ H1 _ I1 q1) fun iv s2 ⟨x2,H2,I2,r2,q2⟩=>?_
 refine thn (hg pins s2 σ H2 x1 x2 ov iv _ I2 r1 r2 q2) fun old s3 ⟨x3,H3,I3,r3,q3⟩=>?_
 refine thn (he pins s3 σ H3 _ I3 q3) fun v s4 ⟨x4,H4,I4,r4,q4⟩=>?_
 refine thn (hp pins s4 σ H4 x3 x4 old v _ I4 r3 r4 q4) fun new s5 ⟨x5,H5,I5,r5,q5⟩=>?_
 exact thn (hs pins s5 σ H5 x1 x2 x5 ov iv new _ I5 r1 r2 r5 q5) fun _ s6 ⟨H6,I6,q6⟩=>⟨σ,H6,I6,q6⟩
def ipI (f:Int→Int→Int):TIp:=fun x y H Q=>∃ i j,x=.int i∧y=.int j∧Q (.int (f i j)) H
theorem ip_add:PIp X .Add (ipI fun i j=>i+j):=by
 intro pins s σ H x y v u Q I r1 r2 h
 obtain ⟨i,j,e1,e2,q⟩:=h
 subst e1;subst e2
 obtain ⟨t,rfl⟩:=r1
 obtain ⟨t',rfl⟩:=r2
 exact iadd_int ⟨.int _,H,I.tok _,⟨_,rfl⟩,q⟩
end
section
variable {X:Cx} {pos:Pos}
def tWhile (c:TT) (tb:TS):TS:=fun D σ H=>∃ W:Nat→St→Hp→Prop,(∃ m,W m σ H)∧∀ m σ H,W m σ H →
 c σ H fun b H1=>if b=true then ∃ N:St→Hp→Prop,(∀ σ' H',N σ' H'→∃ m',m'<m∧W m' σ' H')∧tb { D with nx:=N,ct:=N,bk:=D.nx } σ H1 else D.nx σ H1
theorem ps_while {c:Expr} {body:List Stmt} {tc:TT} {tb:TS} (hp:PassesOwn (model X.prog X.w) X.A X.env X.xe) (hc:PT X c tc) (hb:PSs X body tb):PS X (.While c body [] pos) (tWhile tc tb):=by
 intro pins s σ H D I h
 obtain ⟨W,⟨m0,w0⟩,turn⟩:=h
 refine wpAny_While (codeAny_whileLoop (fun n s'=>∃ σ' H',Inv X pins σ' H' s'∧W n σ' H') ?_ m0 ⟨σ,H,I,w0⟩)
 rintro n s1 ⟨σ1,H1,I1,w1⟩
 refine wpAny_passesOwn hp (thn (hc pins s1 σ1 H1 _ I1 (turn n σ1 H1 w1)) fun b s2 ⟨H2,I2,q2⟩=>?_)
 cases b with
 |true =>
  obtain ⟨N,hN,q2⟩:=q2
  rw [if_pos rfl]
  refine wpAny_passesOwn hp (thn (hb pins s2 σ1 H2 _ I2 q2) fun f s3 q3=>?_)
  cases f with
  |next =>
   obtain ⟨σ3,H3,I3,n3⟩:=q3
   obtain ⟨m',hm,w3⟩:=hN σ3 H3 n3
   exact ⟨m',hm,σ3,H3,I3,w3⟩
  |cont =>
   obtain ⟨σ3,H3,I3,n3⟩:=q3
   obtain ⟨m',hm,w3⟩:=hN σ3 H3 n3
   exact ⟨m',hm,σ3,H3,I3,w3⟩
  |brk=>exact q3
  |ret v=>exact q3
 |false =>
  rw [if_neg Bool.false_ne_true]
  exact wpAny_execs_nil ⟨σ1,H2,I2,q2⟩
end
structure It where
 go:Nat→Hp→Prop
 yld:Nat→Hp→V→Hp→Prop
 stop:Nat→Hp→Prop
def FpOk (X:Cx) (pins:List (Addr×Obj)) (H:Hp) (b:Addr):Prop :=
 H b=none∧b≠X.env.locals∧b∉X.fs∧(b∈X.ex∨X.s₀.heap.objs.size≤b)∧(∀ x c,X.env.cells.lookup x=some c→c≠b)∧∀ p∈X.pn++pins,p.1≠b
theorem Inv.fpOk {X:Cx} {pins:List (Addr×Obj)} {σ:St} {H H':Hp} {s:Shared} {b:Addr} (I:Inv X pins σ H s) (hb:s.heap.objs.size≤b) (hn:H' b=none):FpOk X pins H' b:=by
 refine ⟨hn,Nat.ne_of_gt (Nat.lt_of_lt_of_le I.lt hb),I.nofs hb,.inr (Nat.le_trans I.sz hb),fun x c e z=>?_,fun p hp z=>?_⟩
 ·obtain ⟨v,q⟩:=I.cell x c e
  exact absurd (Nat.lt_of_lt_of_le q.lt (by rw [z];exact hb)) (Nat.lt_irrefl _)
 ·exact absurd (Nat.lt_of_lt_of_le (Heap.lt_size (I.pin p hp).1) (by rw [z];exact hb)) (Nat.lt_irrefl _)
structure Turn (P:Program) (w:World) (K:PySem.W.Frag) (tg:Expr) (J:It) (fp:List Addr) (it:Addr) (tn:Nat→Heap→Prop):Prop where
 mem:it∈fp
 obj:∀ i h,tn i h→∀ b∈fp,∃ o,h.get? b=some o∧∀ v,o.data≠.cell v
 keep:∀ i h h',tn i h→(∀ b∈fp,∀ o,h.get? b=some o→h'.get? b=some o)→tn i h'
 item:∀ (X:Cx),X.prog=P→X.w=w→X.K=K→X.calm=true→∀ (i:Nat) (pins:List (Addr×Obj)) (s:Shared) (σ:St) (H:Hp) (E:Value→Shared→Prop),Inv X pins σ H s→(∀ b∈fp,FpOk X pins H b)→tn i s.heap→J.go i H →
  wpAny (model P w) X.A (pyNext (.ref it)) (fun r s1=>∃ u,r=some u ∧
   wpAny (model P w) X.A (letOwnedTupleGo tg (.ref it) u) (fun _ s2=>∃ x H',Inv X pins σ H' s2∧RelV x u∧J.yld i H x H'∧tn (i+1) s2.heap∧∀ b∈fp,H' b=none) E s1) E s
 done:∀ (X:Cx),X.prog=P→X.w=w→X.K=K→X.calm=true→∀ (i:Nat) (pins:List (Addr×Obj)) (s:Shared) (σ:St) (H:Hp) (E:Value→Shared→Prop),Inv X pins σ H s→(∀ b∈fp,FpOk X pins H b)→tn i s.heap→J.stop i H →
  wpAny (model P w) X.A (pyNext (.ref it)) (fun r s1=>r=none∧Inv X pins σ H s1) E s
 self:∀ (A:Around) (i:Nat) (s:Shared) (Q:Value→Shared→Prop) (E:Value→Shared→Prop),tn i s.heap→Q (.ref it) s→wpAny (model P w) A (pyIter (.ref it)) Q E s
abbrev TI:=St→Hp→(It→Hp→Prop)→Prop
def PIE (X:Cx) (pins:List (Addr×Obj)) (σ:St) (tg:Expr) (R:It→Hp→Prop) (itv:Value) (s2:Shared):Prop :=
 ∃ (it:Addr) (fp:List Addr) (tn:Nat→Heap→Prop) (J:It) (H':Hp),itv=.ref it∧Inv X pins σ H' s2∧Turn X.prog X.w X.K tg J fp it tn∧tn 0 s2.heap∧(∀ b∈fp,FpOk X pins H' b)∧R J H'
def PI (X:Cx) (tg iter:Expr) (wi:TI):Prop :=
 ∀ (pins:List (Addr×Obj)) (s:Shared) (σ:St) (H:Hp) (R:It→Hp→Prop),Inv X pins σ H s→wi σ H R →
  wpAny (model X.prog X.w) X.A (eval iter X.env) (fun v s1=>wpAny (model X.prog X.w) X.A (pyIter v) (PIE X pins σ tg R) X.xe s1) X.xe s
theorem go_of {M:Model} {A:Around} {E:Value→Shared→Prop} {s:Shared} {tg:Expr} {it:Addr} {u:Value} {o:Obj} {n:String} {vs:Array Value} {Q:Unit→Shared→Prop} (ho:s.heap.get? it=some o) (hc:o.cls=.type n) (hd:o.data=.fields vs)
  (hn:["enumerate", "zip", "dict_itemiterator", "dict_reverseitemiterator", "odict_iterator", "itertools.zip_longest", "itertools.pairwise"].contains n=false) (hQ:Q () s):wpAny M A (letOwnedTupleGo tg (.ref it) u) Q E s:=by
 unfold letOwnedTupleGo
 cases tg<;>first
  |exact wpAny_pure hQ
  |(cases u<;>first
    |exact wpAny_pure hQ
    |(refine wpAny_bind (wpAny_load ho ?_)
      rw [hc,hd]
      show wpAny M A (if (["enumerate", "zip", "dict_itemiterator", "dict_reverseitemiterator", "odict_iterator", "itertools.zip_longest", "itertools.pairwise"].contains n && vs[0]? == some (rawInt _))=true then _ else _) Q E s
      rw [if_neg (by intro h;rw [hn,Bool.false_and] at h;cases h)]
      exact wpAny_pure hQ))
def Itl (K:PySem.W.Frag) (a:Addr):It :=
 ⟨fun i H=>∃ xs x,SqL K H a xs∧xs[i]?=some x,fun i H x H'=>H'=H∧∀ xs,SqL K H a xs→xs[i]?=some x,fun i H=>∃ xs,SqL K H a xs∧xs.length≤i⟩
def Itt (K:PySem.W.Frag) (a:Addr):It :=
 ⟨fun i H=>∃ xs x,SqT K H a xs∧xs[i]?=some x,fun i H x H'=>H'=H∧∀ xs,SqT K H a xs→xs[i]?=some x,fun i H=>∃ xs,SqT K H a xs∧xs.length≤i⟩
def Itr (lo:Int) (n:Nat):It:=⟨fun i _=>i<n,fun i H x H'=>H'=H∧x=.int (lo+i),fun i _=>n≤i⟩
theorem turn_list {P:Program} {w:World} {K:PySem.W.Frag} {tg:Expr} (a it:Addr):Turn P w K tg (Itl K a) [it] it (fun i h=>h.IsListIter it a i) where
 mem:=by simp
 obj:=fun i h st b hb=>by
  have e:b=it:=by simpa using hb
  subst e
  obtain ⟨o,e,c,d⟩:=st
  exact ⟨o,e,fun v z=>by rw [d] at z;cases z⟩
 keep:=fun i h h' st k=>st.at fun o e=>k it (by simp) o e
 item:=by
  intro X hP hw hK hc i pins s σ H E I hf st hg
  subst hP hw hK
  obtain ⟨xs,x,hq,hx⟩:=hg
  obtain ⟨its,rv,p,hz⟩:=I.list hq
  obtain ⟨u,hu,ru⟩:=rv.get hx
  obtain ⟨f0,f1,f2,f3,f4,f5⟩:=hf it (by simp)
  refine wpAny_pyNext_list_item st p.isList (x:=u) (by simpa using hu) fun h' st' sb=>?_
  have I1:Inv X pins σ H { s with heap:=h' }:=I.turned (t':=s.toks) (fun b o hb e=>(sb.2 b hb).trans e) f0 f1 f3 f4 f5
  obtain ⟨o,e,c,d⟩:=id st'
  exact ⟨u,rfl,go_of (s:={ s with heap:=h' }) e c d (by decide) ⟨x,H,I1,ru,⟨rfl,fun ys hy=>by rw [I.list_inj hy hq];exact hx⟩,st',fun b hb=>(hf b hb).1⟩⟩
 done:=by
  intro X hP hw hK hc i pins s σ H E I hf st hg
  subst hP hw hK
  obtain ⟨xs,hq,hx⟩:=hg
  obtain ⟨its,rv,p,hz⟩:=I.list hq
  obtain ⟨f0,f1,f2,f3,f4,f5⟩:=hf it (by simp)
  have hl:=rv.length
  exact wpAny_pyNext_list_end (I.ok.hd hc) st p.isList (by simp;walk_at"q") fun h' eb=>⟨rfl,I.turned (t':=s.toks) (fun b o hb e=>eb b o hb e) f0 f1 f3 f4 f5⟩
 self:=fun _ _ _ _ _ st h=>wpAny_pyIter_listiter st h
theorem turn_tuple {P:Program} {w:World} {K:PySem.W.Frag} {tg:Expr} (a it:Addr):Turn P w K tg (Itt K a) [it] it (fun i h=>h.IsTupleIter it a i) where
 mem:=by simp
 obj:=fun i h st b hb=>by
  have e:b=it:=by simpa using hb
  subst e
  obtain ⟨o,e,c,d⟩:=st
  exact ⟨o,e,fun v z=>by rw [d] at z;cases z⟩
 keep:=fun i h h' st k=>st.at fun o e=>k it (by simp) o e
 item:=by
  intro X hP hw hK hc i pins s σ H E I hf st hg
  subst hP hw hK
  obtain ⟨xs,x,hq,hx⟩:=hg
  obtain ⟨its,rv,p,hz⟩:=I.tuple hq
  obtain ⟨u,hu,ru⟩:=rv.get hx
  obtain ⟨f0,f1,f2,f3,f4,f5⟩:=hf it (by simp)
  refine wpAny_pyNext_tuple_item st (show s.heap.IsTuple a its.toArray from p) (x:=u) (by simpa using hu) fun h' st' sb=>?_
  have I1:Inv X pins σ H { s with heap:=h' }:=I.turned (t':=s.toks) (fun b o hb e=>(sb.2 b hb).trans e) f0 f1 f3 f4 f5
  obtain ⟨o,e,c,d⟩:=id st'
  exact ⟨u,rfl,go_of (s:={ s with heap:=h' }) e c d (by decide) ⟨x,H,I1,ru,⟨rfl,fun ys hy=>by rw [I.tuple_inj hy hq];exact hx⟩,st',fun b hb=>(hf b hb).1⟩⟩
 done:=by
  intro X hP hw hK hc i pins s σ H E I hf st hg
  subst hP hw hK
  obtain ⟨xs,hq,hx⟩:=hg
  obtain ⟨its,rv,p,hz⟩:=I.tuple hq
  obtain ⟨f0,f1,f2,f3,f4,f5⟩:=hf it (by simp)
  have hl:=rv.length
  exact wpAny_pyNext_tuple_end (I.ok.hd hc) st (show s.heap.IsTuple a its.toArray from p) (by simp;walk_at"q") fun h' eb=>⟨rfl,I.turned (t':=s.toks) (fun b o hb e=>eb b o hb e) f0 f1 f3 f4 f5⟩
 self:=fun _ _ _ _ _ st h=>wpAny_pyIter_tupleiter st h
theorem turn_range {P:Program} {w:World} {K:PySem.W.Frag} {tg:Expr} (it:Addr) (lo:Int) (n:Nat):Turn P w K tg (Itr lo n) [it] it (fun i h=>IsRangeIter h it (lo+(i:Nat)*1) ((n:Int)-(i:Nat)) 1) where
 mem:=by simp
 obj:=fun i h st b hb=>by
  have e:b=it:=by simpa using hb
  subst e
  exact ⟨_,st,fun v z=>by
   have z':Data.fields _=Data.cell v:=z
   cases z'⟩
 keep:=fun i h h' st k=>k it (by simp) _ st
 item:=by
  intro X hP hw hK hc i pins s σ H E I hf st hg
  subst hP hw hK
  obtain ⟨f0,f1,f2,f3,f4,f5⟩:=hf it (by simp)
  have W:=Walks.range (prog:=X.prog) (w:=X.w) (I.ok.hd hc) it lo 1 n
  refine W.item i s _ _ hg st fun v h' tk hv st' kk=>?_
  obtain ⟨t,rfl⟩:=hv
  have I1:Inv X pins σ H { s with heap:=h',toks:=tk }:=I.turned (fun b o hb e=>kk b o (by simpa using hb) e) f0 f1 f3 f4 f5
  refine ⟨_,rfl,go_of (s:={ s with heap:=h',toks:=tk }) (n := "range_iterator") st' rfl rfl (by decide) ⟨.int (lo+i),H,I1,⟨t,?_⟩,⟨rfl,rfl⟩,st',fun b hb=>(hf b hb).1⟩⟩
  rw [Int.mul_one]
 done:=by
  intro X hP hw hK hc i pins s σ H E I hf st hg
  subst hP hw hK
  obtain ⟨f0,f1,f2,f3,f4,f5⟩:=hf it (by simp)
  exact wpAny_pyNext_range_end (I.ok.hd hc) st (by have:n≤i:=hg;walk_at"q") fun h' eb=>⟨rfl,I.turned (t':=s.toks) (fun b o hb e=>eb b o hb e) f0 f1 f3 f4 f5⟩
 self:=fun _ _ _ _ _ st h=>wpAny_pyIter_rangeiter st h
end
section
section
variable {X:Cx} {tg:Expr}
def iList (K:PySem.W.Frag) (tl:TE):TI:=fun σ H R=>tl σ H fun x H1=>∃ a,x=.ref a∧(∃ xs,SqL K H1 a xs)∧R (Itl K a) H1
def iTup (K:PySem.W.Frag) (tl:TE):TI:=fun σ H R=>tl σ H fun x H1=>∃ a,x=.ref a∧(∃ xs,SqT K H1 a xs)∧R (Itt K a) H1
theorem pi_list {l:Expr} {tl:TE} (hl:PE X l tl):PI X tg l (iList X.K tl):=by
 intro pins s σ H R I h
 refine thn (hl pins s σ H _ I h) fun v s1 ⟨x,H1,I1,r1,q1⟩=>?_
 obtain ⟨a,e,⟨xs,hq⟩,q⟩:=q1
 subst e
 cases r1
 obtain ⟨its,rv,p,hz⟩:=I1.list hq
 refine wpAny_pyIter_list p.isList ?_
 refine ⟨s1.heap.objs.size,[s1.heap.objs.size],_,_,H1,rfl,I1.kept (t':=s1.toks) fun b o e=>Heap.get?_push_of_some _ e,turn_list a _,⟨_,Heap.get?_push_size _ rfl,rfl,rfl⟩,fun b hb=>?_,q⟩
 have e:b=s1.heap.objs.size:=by simpa using hb
 subst e
 exact I1.fpOk (Nat.le_refl _) (I1.hok.fresh (Nat.le_refl _))
theorem pi_tup {l:Expr} {tl:TE} (hl:PE X l tl):PI X tg l (iTup X.K tl):=by
 intro pins s σ H R I h
 refine thn (hl pins s σ H _ I h) fun v s1 ⟨x,H1,I1,r1,q1⟩=>?_
 obtain ⟨a,e,⟨xs,hq⟩,q⟩:=q1
 subst e
 cases r1
 obtain ⟨its,rv,p,hz⟩:=I1.tuple hq
 refine wpAny_pyIter_tuple (show s1.heap.IsTuple a its.toArray from p) ?_
 refine ⟨s1.heap.objs.size,[s1.heap.objs.size],_,_,H1,rfl,I1.kept (t':=s1.toks) fun b o e=>Heap.get?_push_of_some _ e,turn_tuple a _,⟨_,Heap.get?_push_size _ rfl,rfl,rfl⟩,fun b hb=>?_,q⟩
 have e:b=s1.heap.objs.size:=by simpa using hb
 subst e
 exact I1.fpOk (Nat.le_refl _) (I1.hok.fresh (Nat.le_refl _))
theorem range_it {pins:List (Addr×Obj)} {σ:St} {H:Hp} {s:Shared} {R:It→Hp→Prop} {E:Value→Shared→Prop} {lo hi:Int} {t u v:Tok} {tk:Nat} (I:Inv X pins σ H s) (h1:-(2 ^ 62)≤lo) (h2:lo<2 ^ 62) (h3:-(2 ^ 62)≤hi) (h4:hi<2 ^ 62)
  (q:R (Itr lo (hi-lo).toNat) H):wpAny (model X.prog X.w) X.A (pyIter (.ref s.heap.objs.size)) (PIE X pins σ tg R) E { s with heap:=s.heap.push { cls:=.type "range", data:=.fields #[.int lo t,.int hi u,.int 1 v] },toks:=tk }:=by
 refine wpAny_pyIter_range (IsRange.new ..) (small_one h1 h2 h3 h4) ?_
 have I1:Inv X pins σ H { s with heap:=s.heap.push { cls:=.type "range", data:=.fields #[.int lo t,.int hi u,.int 1 v] },toks:=tk }:=I.kept fun b o e=>Heap.get?_push_of_some _ e
 refine ⟨(s.heap.push { cls:=.type "range", data:=.fields #[.int lo t,.int hi u,.int 1 v] }).objs.size,[(s.heap.push { cls:=.type "range", data:=.fields #[.int lo t,.int hi u,.int 1 v] }).objs.size],_,_,H,rfl,
  I1.kept (t':=tk) fun b o e=>Heap.get?_push_of_some _ e,turn_range _ lo (hi-lo).toNat,?_,fun b hb=>?_,q⟩
 ·have e1:lo+((0:Nat):Int)*1=lo:=by simp
  have e2:(((hi-lo).toNat:Nat):Int)-((0:Nat):Int)=Builtin.Range.rangeSize lo hi 1:=by rw [rangeSize_one];split<;>walk_at"q"
  show IsRangeIter _ _ (lo+((0:Nat):Int)*1) ((((hi-lo).toNat:Nat):Int)-((0:Nat):Int)) 1
  rw [e1,e2]
  exact Heap.get?_push_size _ rfl
 ·have e:b=(s.heap.push { cls:=.type "range", data:=.fields #[.int lo t,.int hi u,.int 1 v] }).objs.size:=by simpa using hb
  subst e
  exact I1.fpOk (Nat.le_refl _) (I1.hok.fresh (Nat.le_refl _))
def iRng1 (ta:TA):TI:=fun σ H R=>ta σ H fun vs H1=>∃ j:Int,vs=[.int j]∧-(2 ^ 62)≤j∧j<2 ^ 62∧R (Itr 0 j.toNat) H1
def iRng2 (ta:TA):TI:=fun σ H R=>ta σ H fun vs H1=>∃ i j:Int,vs=[.int i,.int j]∧(-(2 ^ 62)≤i∧i<2 ^ 62∧-(2 ^ 62)≤j∧j<2 ^ 62)∧R (Itr i (j-i).toNat) H1
theorem pi_range1 {a:Expr} {ta:TA} {p pos:Pos} (hg:Gl X "range") (hm:X.mg "range" = none) (ha:PA X [a] ta) (hs:starEach [a] X.env=[(false,eval a X.env)]:=by rfl):PI X tg (.Call (.Name "range" p) [a] [] pos) (iRng1 ta):=by
 intro pins s σ H R I h
 refine Call_ (ld_blt I hg hm boot_range (PyProof.Rows.callWith_type1 (thn (ha pos pins s σ H _ I h) fun us s1 ⟨vs,H1,I1,r1,q1⟩=>?_) hs rfl))
 obtain ⟨j,e,q1,q2,q⟩:=q1
 subst e
 cases r1 with
 |cons r rr =>
  cases rr
  obtain ⟨t,rfl⟩:=r
  exact call_range_1 (range_it I1 (by walk_at"q") (by walk_at"q") q1 q2 (by simpa using q))
theorem pi_range2 {a b:Expr} {ta:TA} {p pos:Pos} (hg:Gl X "range") (hm:X.mg "range" = none) (ha:PA X [a,b] ta) (hs:starEach [a,b] X.env=[(false,eval a X.env),(false,eval b X.env)]:=by rfl) (hs2:starEach [b] X.env=[(false,eval b X.env)]:=by rfl) :
  PI X tg (.Call (.Name "range" p) [a,b] [] pos) (iRng2 ta):=by
 intro pins s σ H R I h
 refine Call_ (ld_blt I hg hm boot_range (PyProof.Rows.callWith_type1 (thn (ha pos pins s σ H _ I h) fun us s1 ⟨vs,H1,I1,r1,q1⟩=>?_) (by rw [hs,hs2]) (by rw [hs2];rfl)))
 obtain ⟨i,j,e,⟨q1,q2,q3,q4⟩,q⟩:=q1
 subst e
 cases r1 with
 |cons r rr =>
  cases rr with
  |cons r' rr =>
   cases rr
   obtain ⟨t,rfl⟩:=r
   obtain ⟨t',rfl⟩:=r'
   exact call_range_2 (range_it I1 q1 q2 q3 q4 q)
def tFor (wi:TI) (g:TG) (tb:TS):TS:=fun D σ H=>wi σ H fun J H1=>∃ W:Nat→Nat→St→Hp→Prop,(∃ m,W 0 m σ H1)∧∀ i m σ H,W i m σ H →
 (J.stop i H∧D.nx σ H)∨(J.go i H∧∃ N:St→Hp→Prop,(∀ σ' H',N σ' H'→∃ m',m'<m∧W (i+1) m' σ' H')∧∀ x H',J.yld i H x H'→g x σ H' fun σ2 H2=>tb { D with nx:=N,ct:=N,bk:=D.nx } σ2 H2)
def pinsAt (fp:List Addr) (h:Heap):List (Addr×Obj):=fp.filterMap fun b=>(h.get? b).map fun o=>(b,o)
theorem mem_pinsAt {fp:List Addr} {h:Heap} {b:Addr} {o:Obj} (hb:b∈fp) (e:h.get? b=some o):(b,o)∈pinsAt fp h:=List.mem_filterMap.mpr ⟨b,hb,by rw [e];rfl⟩
theorem of_pinsAt {fp:List Addr} {h:Heap} {p:Addr×Obj} (hp:p∈pinsAt fp h):p.1∈fp∧h.get? p.1=some p.2:=by
 obtain ⟨b,hb,e⟩:=List.mem_filterMap.mp hp
 cases q:h.get? b with
 |none=>rw [q] at e;cases e
 |some o =>
  rw [q] at e
  have e':(b,o)=p:=Option.some.inj e
  subst e'
  exact ⟨hb,q⟩
theorem Inv.pinned {pins:List (Addr×Obj)} {σ:St} {H:Hp} {s:Shared} {fp:List Addr} (I:Inv X pins σ H s) (hf:∀ b∈fp,FpOk X pins H b) (ho:∀ b∈fp,∃ o,s.heap.get? b=some o∧∀ v,o.data≠.cell v):Inv X (pins++pinsAt fp s.heap) σ H s :=
 I.pins_of fun p hp=>(List.mem_append.mp hp).elim (fun z=>I.pin p (List.mem_append_right _ z)) fun z=>by
  obtain ⟨hb,e⟩:=of_pinsAt z
  obtain ⟨f0,f1,f2,_⟩:=hf p.1 hb
  obtain ⟨o,e',d⟩:=ho p.1 hb
  rw [e] at e';cases e'
  exact ⟨e,f0,f1,f2,d⟩
theorem Inv.unpinned {pins pl:List (Addr×Obj)} {σ:St} {H:Hp} {s:Shared} (I:Inv X (pins++pl) σ H s):Inv X pins σ H s:=I.pins_of fun p hp=>I.pin p (List.mem_append_right _ (List.mem_append_left _ hp))
theorem ps_for {iter:Expr} {body:List Stmt} {wi:TI} {g:TG} {tb:TS} {pos:Pos} (hp:PassesOwn (model X.prog X.w) X.A X.env X.xe) (hc:X.calm=true) (hi:PI X tg iter wi) (hg:PG X tg g) (hb:PSs X body tb)
  (hs:∀ x,foldedSetIterable iter X.env x=pure x:=by intro _;rfl):PS X (.For tg iter body [] pos) (tFor wi g tb):=by
 intro pins s σ H D I h
 refine wpAny_For (thn (hi pins s σ H _ I h) fun v s1 h1=>thn h1 fun itv s2 h2=>?_) hs
 obtain ⟨it,fp,tn,J,H2,e,I2,T,st2,f2,W,⟨m0,w0⟩,turn⟩:=h2
 subst e
 -- what stays true of the iterator's objects through the loop
 have stat:∀ {H':Hp},(∀ b∈fp,H' b=none)→∀ b∈fp,FpOk X pins H' b:=fun hn b hb=>⟨hn b hb,(f2 b hb).2⟩
 refine codeAny_forLoop_any (fun n s'=>∃ i σ' H',Inv X pins σ' H' s'∧tn i s'.heap∧(∀ b∈fp,H' b=none)∧W i n σ' H') ?_ m0 ⟨0,σ,H2,I2,st2,fun b hb=>(f2 b hb).1,w0⟩
 rintro n s3 ⟨i,σ3,H3,I3,st3,fr3,w3⟩
 rcases turn i n σ3 H3 w3 with ⟨stop,qn⟩|⟨go,N,hN,step⟩
 ·refine wpAny_passesOwn hp (thn (T.done X rfl rfl rfl hc i pins s3 σ3 H3 X.xe I3 (stat fr3) st3 stop) fun r s4 ⟨hr,I4⟩=>?_)
  subst hr
  exact wpAny_execs_nil ⟨σ3,H3,I4,qn⟩
 ·refine wpAny_passesOwn hp (thn (T.item X rfl rfl rfl hc i pins s3 σ3 H3 X.xe I3 (stat fr3) st3 go) fun r s4 ⟨u,hr,h4⟩=>?_)
  subst hr
  refine wpAny_passesOwn hp (thn h4 fun _ s5 ⟨x,H5,I5,r5,y5,st5,fr5⟩=>?_)
  have I5':=I5.pinned (stat fr5) (T.obj _ _ st5)
  refine wpAny_passesOwn hp (thn (hg _ s5 σ3 H5 x u _ I5' r5 (step x H5 y5)) fun _ s6 ⟨σ6,H6,I6,q6⟩=>?_)
  refine wpAny_passesOwn hp (thn (hb _ s6 σ6 H6 _ I6 q6) fun f s7 q7=>?_)
  have again:∀ {σ7:St} {H7:Hp},Inv X (pins++pinsAt fp s5.heap) σ7 H7 s7→N σ7 H7→∃ m,m<n∧∃ i σ' H',Inv X pins σ' H' s7∧tn i s7.heap∧(∀ b∈fp,H' b=none)∧W i m σ' H':=fun {σ7 H7} I7 n7=>by
   obtain ⟨m',hm,w7⟩:=hN σ7 H7 n7
   refine ⟨m',hm,i+1,σ7,H7,I7.unpinned,T.keep _ _ _ st5 fun b hb o e=>(I7.pin (b,o) (List.mem_append_right _ (List.mem_append_right _ (mem_pinsAt hb e)))).1,fun b hb=>?_,w7⟩
   obtain ⟨o,e,d⟩:=T.obj _ _ st5 b hb
   exact (I7.pin (b,o) (List.mem_append_right _ (List.mem_append_right _ (mem_pinsAt hb e)))).2.1
  cases f with
  |next=>obtain ⟨σ7,H7,I7,n7⟩:=q7;exact again I7 n7
  |cont=>obtain ⟨σ7,H7,I7,n7⟩:=q7;exact again I7 n7
  |brk=>obtain ⟨σ7,H7,I7,q7⟩:=q7;exact ⟨σ7,H7,I7.unpinned,q7⟩
  |ret v=>obtain ⟨x7,σ7,H7,I7,r7,q7⟩:=q7;exact ⟨x7,σ7,H7,I7.unpinned,r7,q7⟩
end
theorem for_list {K:PySem.W.Frag} {a:Addr} {xs:List V} {g:TG} {tb:TS} {D:Ends} {σ:St} {H:Hp} (Pv:Nat→St→Hp→Prop) (h0:Pv 0 σ H) (hl:∀ i σ H,i≤xs.length→Pv i σ H→SqL K H a xs)
  (hs:∀ i x σ H,xs[i]?=some x→Pv i σ H→g x σ H fun σ2 H2=>tb { D with nx:=Pv (i+1),ct:=Pv (i+1),bk:=D.nx } σ2 H2) (hd:∀ σ H,Pv xs.length σ H→D.nx σ H) :
  ∃ W:Nat→Nat→St→Hp→Prop,(∃ m,W 0 m σ H)∧∀ i m σ H,W i m σ H →
   ((Itl K a).stop i H∧D.nx σ H)∨((Itl K a).go i H∧∃ N:St→Hp→Prop,(∀ σ' H',N σ' H'→∃ m',m'<m∧W (i+1) m' σ' H')∧∀ x H',(Itl K a).yld i H x H'→g x σ H' fun σ2 H2=>tb { D with nx:=N,ct:=N,bk:=D.nx } σ2 H2):=by
 refine ⟨fun i m σ H=>m=xs.length-i∧i≤xs.length∧Pv i σ H,⟨xs.length,by simp,Nat.zero_le _,h0⟩,?_⟩
 rintro i m σ H ⟨rfl,hi,p⟩
 have q:=hl i σ H hi p
 by_cases hlt:i<xs.length
 ·refine .inr ⟨⟨xs,xs[i],q,by simp [hlt]⟩,Pv (i+1),fun σ' H' p'=>⟨xs.length-(i+1),by walk_at"q", rfl,hlt,p'⟩,fun x H' y=>?_⟩
  obtain ⟨e,y⟩:=y
  subst e
  exact hs i x σ _ (y xs q) p
 ·have e:i=xs.length:=by walk_at"q"
  subst e
  exact .inl ⟨⟨xs,q,Nat.le_refl _⟩,hd σ H p⟩
theorem for_range {lo:Int} {n:Nat} {g:TG} {tb:TS} {D:Ends} {σ:St} {H:Hp} (Pv:Nat→St→Hp→Prop) (h0:Pv 0 σ H)
  (hs:∀ i σ H,i<n→Pv i σ H→g (.int (lo+i)) σ H fun σ2 H2=>tb { D with nx:=Pv (i+1),ct:=Pv (i+1),bk:=D.nx } σ2 H2) (hd:∀ σ H,Pv n σ H→D.nx σ H) :
  ∃ W:Nat→Nat→St→Hp→Prop,(∃ m,W 0 m σ H)∧∀ i m σ H,W i m σ H →
   ((Itr lo n).stop i H∧D.nx σ H)∨((Itr lo n).go i H∧∃ N:St→Hp→Prop,(∀ σ' H',N σ' H'→∃ m',m'<m∧W (i+1) m' σ' H')∧∀ x H',(Itr lo n).yld i H x H'→g x σ H' fun σ2 H2=>tb { D with nx:=N,ct:=N,bk:=D.nx } σ2 H2):=by
 refine ⟨fun i m σ H=>m=n-i∧i≤n∧Pv i σ H,⟨n,by simp,Nat.zero_le _,h0⟩,?_⟩
 rintro i m σ H ⟨rfl,hi,p⟩
 by_cases hlt:i<n
 ·refine .inr ⟨hlt,Pv (i+1),fun σ' H' p'=>⟨n-(i+1),by walk_at"q", rfl,hlt,p'⟩,fun x H' y=>?_⟩
  obtain ⟨e,y⟩:=y
  subst e y
  exact hs i σ _ hlt p
 ·have e:i=n:=by walk_at"q"
  subst e
  exact .inl ⟨Nat.le_refl _,hd σ H p⟩
end
section
abbrev R2:=V→V→Hp→VK→Prop
def OpR (X:Cx) (f:Value→Value→Sem Value) (r:R2):Prop :=
 ∀ (pins:List (Addr×Obj)) (s:Shared) (σ:St) (H:Hp) (x y:V) (v u:Value) (Q:VK),Inv X pins σ H s→RelV x v→RelV y u→r x y H Q →
  wpAny (model X.prog X.w) X.A (f v u) (EP X pins σ Q) X.xe s
def UnR (X:Cx) (f:Value→Sem Value) (r:V→Hp→VK→Prop):Prop :=
 ∀ (pins:List (Addr×Obj)) (s:Shared) (σ:St) (H:Hp) (x:V) (v:Value) (Q:VK),Inv X pins σ H s→RelV x v→r x H Q →
  wpAny (model X.prog X.w) X.A (f v) (EP X pins σ Q) X.xe s
def CallR (X:Cx) (f:Value) (r:List V→Hp→VK→Prop):Prop :=
 ∀ (pins:List (Addr×Obj)) (s:Shared) (σ:St) (H:Hp) (xs:List V) (us:List Value) (Q:VK),Inv X pins σ H s→Vals xs us→r xs H Q →
  wpAny (model X.prog X.w) X.A (call f us) (EP X pins σ Q) X.xe s
def TruR (X:Cx) (r:V→Hp→(Bool→Hp→Prop)→Prop):Prop :=
 ∀ (pins:List (Addr×Obj)) (s:Shared) (σ:St) (H:Hp) (x:V) (v:Value) (Q:Bool→Hp→Prop),Inv X pins σ H s→RelV x v→r x H Q →
  wpAny (model X.prog X.w) X.A (truthy v) (TP X pins σ Q) X.xe s
def tOp (r:R2) (ta tb:TE):TE:=fun σ H Q=>ta σ H fun x H1=>tb σ H1 fun y H2=>r x y H2 Q
def tUn (r:V→Hp→VK→Prop) (ta:TE):TE:=fun σ H Q=>ta σ H fun x H1=>r x H1 Q
inductive RIP (C:Int→Int→Prop) (g:Int→Int→V) (x:V) (y:V) (H:Hp) (Q:VK):Prop
 |mk (i:_) (j:_) (h1:x=.int i) (h2:y=.int j) (h3:C i j) (h4:Q (g i j) H):RIP C g x y H Q
def rI (C:Int→Int→Prop) (g:Int→Int→V):R2:=fun x y H Q=>RIP C g x y H Q
inductive RI0P (g:Int→Int→V) (x:V) (y:V) (H:Hp) (Q:VK):Prop
 |mk (i:_) (j:_) (h1:x=.int i) (h2:y=.int j) (h3:Q (g i j) H):RI0P g x y H Q
def rI0 (g:Int→Int→V):R2:=fun x y H Q=>RI0P g x y H Q
inductive RUP (g:Int→V) (x:V) (H:Hp) (Q:VK):Prop
 |mk (i:_) (h1:x=.int i) (h2:Q (g i) H):RUP g x H Q
def rU (g:Int→V):V→Hp→VK→Prop:=fun x H Q=>RUP g x H Q
section
variable {X:Cx} {a b c:Expr} {ta tb tc:TE} {pos:Pos}
theorem binT (ha:PE X a ta) (hb:PE X b tb) {pins:List (Addr×Obj)} {s:Shared} {σ:St} {H:Hp} {R:V→V→Hp→Prop} (I:Inv X pins σ H s)
  (h:ta σ H fun x H1=>tb σ H1 fun y H2=>R x y H2) {Q:Value→Shared→Prop} {f:Value→Value→Sem Value}
  (hf:∀ v u s2 x y H2,Inv X pins σ H2 s2→RelV x v→RelV y u→R x y H2→wpAny (model X.prog X.w) X.A (f v u) Q X.xe s2) :
  wpAny (model X.prog X.w) X.A (eval a X.env) (fun v s₁=>wpAny (model X.prog X.w) X.A (eval b X.env) (fun u s₂=>wpAny (model X.prog X.w) X.A (f v u) Q X.xe s₂) X.xe s₁) X.xe s:=by
 refine thn (ha pins s σ H _ I h) fun v s1 ⟨x,H1,I1,r1,q1⟩=>?_
 refine thn (hb pins s1 σ H1 _ I1 q1) fun u s2 ⟨y,H2,I2,r2,q2⟩=>?_
 exact hf v u s2 x y H2 I2 r1 r2 q2
theorem pe_op {op:Operator} {r:R2} (ho:OpR X (binaryOp op) r) (ha:PE X a ta) (hb:PE X b tb):PE X (.BinOp a op b pos) (tOp r ta tb):=by
 intro pins s σ H Q I h
 exact wpAny_BinOp (binT ha hb I h fun v u s2 x y H2 I2 rx ry q=>ho pins s2 σ H2 x y v u Q I2 rx ry q)
theorem pe_un {op:UnaryOp} {r:V→Hp→VK→Prop} (ho:UnR X (unaryOp op) r) (ha:PE X a ta):PE X (.UnaryOp op a pos) (tUn r ta):=by
 intro pins s σ H Q I h
 exact UnaryOp_ (thn (ha pins s σ H _ I h) fun v s1 ⟨x,H1,I1,r1,q1⟩=>ho pins s1 σ H1 x v Q I1 r1 q1)
theorem opI {f:Value→Value→Sem Value} {C:Int→Int→Prop} {g:Int→Int→Int}
  (rule:∀ (i j:Int) (t u:Tok) (s:Shared) (Q:Value→Shared→Prop) (E:Value→Shared→Prop),C i j→Q (.int (g i j) s.toks) { s with toks:=s.toks+1 }→wpAny (model X.prog X.w) X.A (f (.int i t) (.int j u)) Q E s) :
  OpR X f (rI C fun i j=>.int (g i j)):=by
 intro pins s σ H x y v u Q I rx ry h
 obtain ⟨i,j,rfl,rfl,hc,q⟩:=h
 obtain ⟨t,rfl⟩:=rx
 obtain ⟨t',rfl⟩:=ry
 exact rule i j t t' s _ _ hc ⟨.int (g i j),H,I.tok _,⟨_,rfl⟩,q⟩
theorem opI0 {f:Value→Value→Sem Value} {g:Int→Int→Int}
  (rule:∀ (i j:Int) (t u:Tok) (s:Shared) (Q:Value→Shared→Prop) (E:Value→Shared→Prop),Q (.int (g i j) s.toks) { s with toks:=s.toks+1 }→wpAny (model X.prog X.w) X.A (f (.int i t) (.int j u)) Q E s) :
  OpR X f (rI0 fun i j=>.int (g i j)):=by
 intro pins s σ H x y v u Q I rx ry h
 obtain ⟨i,j,rfl,rfl,q⟩:=h
 obtain ⟨t,rfl⟩:=rx
 obtain ⟨t',rfl⟩:=ry
 exact rule i j t t' s _ _ ⟨.int (g i j),H,I.tok _,⟨_,rfl⟩,q⟩
theorem opB0 {f:Value→Value→Sem Value} {g:Int→Int→Bool}
  (rule:∀ (i j:Int) (t u:Tok) (s:Shared) (Q:Value→Shared→Prop) (E:Value→Shared→Prop),Q (.bool (g i j)) s→wpAny (model X.prog X.w) X.A (f (.int i t) (.int j u)) Q E s) :
  OpR X f (rI0 fun i j=>.bl (g i j)):=by
 intro pins s σ H x y v u Q I rx ry h
 obtain ⟨i,j,rfl,rfl,q⟩:=h
 obtain ⟨t,rfl⟩:=rx
 obtain ⟨t',rfl⟩:=ry
 exact rule i j t t' s _ _ ⟨.bl (g i j),H,I,rfl,q⟩
def CDiv (i j:Int):Prop:=0<j∧j<1073741824
def CPow (i j:Int):Prop:=0≤j∧j≤1000000∧i.natAbs<2 ^ 64
def CMul (i j:Int):Prop:=(-(2 ^ 64)<i∧i<2 ^ 64)∨(-(2 ^ 64)<j∧j<2 ^ 64)
theorem CMul.ok {i j:Int} (h:CMul i j):IntMulOk i j:=by
 rcases h with ⟨h1,h2⟩|⟨h1,h2⟩
 ·exact .of_left (intBits_le_64 h1 h2)
 ·exact .of_right (intBits_le_64 h1 h2)
theorem op_add:OpR X (binaryOp .Add) (rI0 fun i j=>.int (i+j)):=opI0 fun _ _ _ _ _ _ _ q=>add_int q
theorem op_sub:OpR X (binaryOp .Sub) (rI0 fun i j=>.int (i-j)):=opI0 fun _ _ _ _ _ _ _ q=>sub_int q
theorem op_mul:OpR X (binaryOp .Mult) (rI CMul fun i j=>.int (i*j)):=opI fun _ _ _ _ _ _ _ hc q=>mul_int q hc.ok
theorem op_fdiv:OpR X (binaryOp .FloorDiv) (rI CDiv fun i j=>.int (i / j)):=opI fun i j _ _ _ _ _ hc q=>by
 have h1:(0:Int)<j:=hc.1
 have h2:j<1073741824:=hc.2
 exact floordiv_int (by walk_at"q") (by rw [Int.fdiv_eq_ediv_of_nonneg i (by walk_at"q")];exact q) (.inl (PyProof.noPylong_small (by walk_at"q")))
theorem op_mod:OpR X (binaryOp .Mod) (rI (fun _ j=>0<j) fun i j=>.int (i % j)):=opI fun i j _ _ _ _ _ hc q=>by
 have h1:(0:Int)<j:=hc
 exact mod_int' (by walk_at"q") (by rw [Int.fmod_eq_emod_of_nonneg i (by walk_at"q")];exact q)
theorem op_pow:OpR X (binaryOp .Pow) (rI CPow fun i j=>.int (i ^ j.toNat)):=opI fun _ _ _ _ _ _ _ hc q=>pow_int_small hc.1 hc.2.1 hc.2.2 q
theorem iop_fdiv:OpR X (inplaceOp .FloorDiv) (rI CDiv fun i j=>.int (i / j)):=opI fun i j _ _ _ _ _ hc q=>by
 have h1:(0:Int)<j:=hc.1
 have h2:j<1073741824:=hc.2
 exact ifloordiv_int (by walk_at"q") (by rw [Int.fdiv_eq_ediv_of_nonneg i (by walk_at"q")];exact q) (.inl (PyProof.noPylong_small (by walk_at"q")))
theorem unI {f:Value→Sem Value} {g:Int→Int}
  (rule:∀ (i:Int) (t:Tok) (s:Shared) (Q:Value→Shared→Prop) (E:Value→Shared→Prop),Q (.int (g i) s.toks) { s with toks:=s.toks+1 }→wpAny (model X.prog X.w) X.A (f (.int i t)) Q E s) :
  UnR X f (rU fun i=>.int (g i)):=by
 intro pins s σ H x v Q I rx h
 obtain ⟨i,rfl,q⟩:=h
 obtain ⟨t,rfl⟩:=rx
 exact rule i t s _ _ ⟨.int (g i),H,I.tok _,⟨_,rfl⟩,q⟩
theorem un_neg:UnR X (unaryOp .USub) (rU fun i=>.int (-i)):=unI fun _ _ _ _ _ q=>neg_int q
end
def scal:V→V→Bool
 |.non,.non=>true|.non,.int _=>true|.int _,.non=>true|.non,.bl _=>true|.bl _,.non=>true|.non,.str _=>true|.str _,.non=>true
 |.int _,.int _=>true|.bl _,.bl _=>true|.str _,.str _=>true|.byt _,.byt _=>true
 |.int _,.str _=>true|.str _,.int _=>true|.bl _,.str _=>true|.str _,.bl _=>true
 |_,_=>false
inductive REqP (x:V) (y:V) (H:Hp) (Q:VK):Prop
 |mk  (h1:scal x y=true) (h2:Q (.bl (decide (x=y))) H):REqP x y H Q
def rEq:R2:=fun x y H Q=>REqP  x y H Q
inductive RNeP (x:V) (y:V) (H:Hp) (Q:VK):Prop
 |mk  (h1:scal x y=true) (h2:Q (.bl (!decide (x=y))) H):RNeP x y H Q
def rNe:R2:=fun x y H Q=>RNeP  x y H Q
theorem dec_int {i j:Int}:decide (V.int i=V.int j)=(i == j):=by
 rw [Bool.eq_iff_iff]
 simp
theorem dec_bl {i j:Bool}:decide (V.bl i=V.bl j)=(i == j):=by
 rw [Bool.eq_iff_iff]
 simp
theorem dec_str {i j:Str}:decide (V.str i=V.str j)=(i == j):=by
 rw [Bool.eq_iff_iff]
 simp
theorem dec_byt {i j:Array UInt8}:decide (V.byt i=V.byt j)=(i.toList == j.toList):=by
 rw [Bool.eq_iff_iff]
 cases i
 cases j
 simp
section
variable {X:Cx} {a b c:Expr} {ta tb tc:TE} {pos:Pos}
theorem fin_bl {pins:List (Addr×Obj)} {σ:St} {H:Hp} {s:Shared} {Q:VK} {k k':Bool} (I:Inv X pins σ H s) (q:Q (.bl k) H) (e:k=k'):EP X pins σ Q (.bool k') s:=by
 subst e
 exact ⟨.bl k,H,I,rfl,q⟩
theorem op_eq:OpR X (compareOp .Eq) rEq:=by
 intro pins s σ H x y v u Q I rx ry h
 obtain ⟨hs,q⟩:=h
 cases x with
 |non =>
  cases rx
  cases y with
  |non=>cases ry;exact PySem.EqNone.eq_none_none (fin_bl I q (by simp))
  |bl j=>cases ry;exact PySem.EqNone.eq_none_bool (fin_bl I q (by simp))
  |int j=>obtain ⟨t',rfl⟩:=ry;exact PySem.EqNone.eq_none_int (fin_bl I q (by simp))
  |str j=>obtain ⟨t',rfl⟩:=ry;exact PySem.EqNone.eq_none_str (fin_bl I q (by simp))
  |_=>exact absurd (show false=true from hs) Bool.false_ne_true
 |bl i =>
  cases rx
  cases y with
  |non=>cases ry;exact PySem.EqNone.eq_bool_none (fin_bl I q (by simp))
  |bl j=>cases ry;exact eq_bool (fin_bl I q dec_bl)
  |str j=>obtain ⟨t',rfl⟩:=ry;exact PySem.EqMixed.eq_bool_str (fin_bl I q (by simp))
  |_=>exact absurd (show false=true from hs) Bool.false_ne_true
 |int i =>
  obtain ⟨t,rfl⟩:=rx
  cases y with
  |non=>cases ry;exact PySem.EqNone.eq_int_none (fin_bl I q (by simp))
  |int j=>obtain ⟨t',rfl⟩:=ry;exact eq_int (fin_bl I q dec_int)
  |str j=>obtain ⟨t',rfl⟩:=ry;exact PySem.EqMixed.eq_int_str (fin_bl I q (by simp))
  |_=>exact absurd (show false=true from hs) Bool.false_ne_true
 |str i =>
  obtain ⟨t,rfl⟩:=rx
  cases y with
  |non=>cases ry;exact PySem.EqNone.eq_str_none (fin_bl I q (by simp))
  |bl j=>cases ry;exact PySem.EqMixed.eq_str_bool (fin_bl I q (by simp))
  |int j=>obtain ⟨t',rfl⟩:=ry;exact PySem.EqMixed.eq_str_int (fin_bl I q (by simp))
  |str j=>obtain ⟨t',rfl⟩:=ry;exact eq_str (fin_bl I q dec_str)
  |_=>exact absurd (show false=true from hs) Bool.false_ne_true
 |byt i =>
  obtain ⟨t,rfl⟩:=rx
  cases y with
  |byt j=>obtain ⟨t',rfl⟩:=ry;exact PySem.W.eq_bytes (fin_bl I q dec_byt)
  |_=>exact absurd (show false=true from hs) Bool.false_ne_true
 |_=>cases y<;>exact absurd (show false=true from hs) Bool.false_ne_true
theorem op_ne:OpR X (compareOp .NotEq) rNe:=by
 intro pins s σ H x y v u Q I rx ry h
 obtain ⟨hs,q⟩:=h
 cases x with
 |non =>
  cases rx
  cases y with
  |non=>cases ry;exact PySem.EqNone.ne_none_none (fin_bl I q (by simp))
  |bl j=>cases ry;exact PySem.EqNone.ne_none_bool (fin_bl I q (by simp))
  |int j=>obtain ⟨t',rfl⟩:=ry;exact PySem.EqNone.ne_none_int (fin_bl I q (by simp))
  |str j=>obtain ⟨t',rfl⟩:=ry;exact PySem.EqNone.ne_none_str (fin_bl I q (by simp))
  |_=>exact absurd (show false=true from hs) Bool.false_ne_true
 |bl i =>
  cases rx
  cases y with
  |non=>cases ry;exact PySem.EqNone.ne_bool_none (fin_bl I q (by simp))
  |bl j=>cases ry;exact ne_bool (fin_bl I q (congrArg not dec_bl))
  |str j=>obtain ⟨t',rfl⟩:=ry;exact PySem.EqMixed.ne_bool_str (fin_bl I q (by simp))
  |_=>exact absurd (show false=true from hs) Bool.false_ne_true
 |int i =>
  obtain ⟨t,rfl⟩:=rx
  cases y with
  |non=>cases ry;exact PySem.EqNone.ne_int_none (fin_bl I q (by simp))
  |int j=>obtain ⟨t',rfl⟩:=ry;exact ne_int (fin_bl I q (congrArg not dec_int))
  |str j=>obtain ⟨t',rfl⟩:=ry;exact PySem.EqMixed.ne_int_str (fin_bl I q (by simp))
  |_=>exact absurd (show false=true from hs) Bool.false_ne_true
 |str i =>
  obtain ⟨t,rfl⟩:=rx
  cases y with
  |non=>cases ry;exact PySem.EqNone.ne_str_none (fin_bl I q (by simp))
  |bl j=>cases ry;exact PySem.EqMixed.ne_str_bool (fin_bl I q (by simp))
  |int j=>obtain ⟨t',rfl⟩:=ry;exact PySem.EqMixed.ne_str_int (fin_bl I q (by simp))
  |str j=>obtain ⟨t',rfl⟩:=ry;exact ne_str (fin_bl I q (congrArg not dec_str))
  |_=>exact absurd (show false=true from hs) Bool.false_ne_true
 |byt i =>
  obtain ⟨t,rfl⟩:=rx
  cases y with
  |byt j=>obtain ⟨t',rfl⟩:=ry;exact PySem.W.ne_bytes (fin_bl I q (congrArg not dec_byt))
  |_=>exact absurd (show false=true from hs) Bool.false_ne_true
 |_=>cases y<;>exact absurd (show false=true from hs) Bool.false_ne_true
theorem op_lt:OpR X (compareOp .Lt) (rI0 fun i j=>.bl (decide (i<j))):=opB0 fun _ _ _ _ _ _ _ q=>lt_int q
theorem op_le:OpR X (compareOp .LtE) (rI0 fun i j=>.bl (decide (i≤j))):=opB0 fun _ _ _ _ _ _ _ q=>le_int q
theorem op_gt:OpR X (compareOp .Gt) (rI0 fun i j=>.bl (decide (j<i))):=opB0 fun _ _ _ _ _ _ _ q=>gt_int q
theorem op_ge:OpR X (compareOp .GtE) (rI0 fun i j=>.bl (decide (j≤i))):=opB0 fun _ _ _ _ _ _ _ q=>ge_int q
theorem nomark (b:Expr) {op:CmpOp} (h:op≠.In:=by decide) (h2:op≠.NotIn:=by decide):behindInMarks op b=false:=by
 have e1:(op == CmpOp.In)=false:=by cases op<;>first|rfl|exact absurd rfl h
 have e2:(op == CmpOp.NotIn)=false:=by cases op<;>first|rfl|exact absurd rfl h2
 cases b<;>simp [behindInMarks,e1,e2]
theorem pe_cmpR {op:CmpOp} {r:R2} (ho:OpR X (compareOp op) r) (ha:PE X a ta) (hb:PE X b tb) (hm:behindInMarks op b=false):PE X (.Compare a [op] [b] pos) (tOp r ta tb):=by
 intro pins s σ H Q I h
 exact wpAny_Compare1 (binT ha hb I h fun v u s2 x y H2 I2 rx ry q=>ho pins s2 σ H2 x y v u Q I2 rx ry q) hm
def tTest (t:TE):TT:=fun σ H Q=>t σ H fun x H'=>OfBl x H' Q
theorem pt_cmpR {op:CmpOp} {r:R2} (ho:OpR X (compareOp op) r) (ha:PE X a ta) (hb:PE X b tb) (hm:behindInMarks op b=false):PT X (.Compare a [op] [b] pos) (tTest (tOp r ta tb)):=by
 intro pins s σ H Q I h
 refine wpAny_isTrue_Compare1 (thn (ha pins s σ H _ I h) fun v s1 ⟨x,H1,I1,r1,q1⟩=>thn (hb pins s1 σ H1 _ I1 q1) fun u s2 ⟨y,H2,I2,r2,q2⟩ =>
  thn (ho pins s2 σ H2 x y v u _ I2 r1 r2 q2) fun c s3 ⟨z,H3,I3,r3,k,e,q3⟩=>?_) hm
 subst e
 cases r3
 exact wpAny_truthy_bool ⟨H3,I3,q3⟩
def tChain (r r':R2) (ta tb tc:TE):TE:=fun σ H Q=>ta σ H fun x H1=>tb σ H1 fun y H2=>r x y H2 fun z H3=>∃ k,z=.bl k ∧
 (if k=true then tc σ H3 fun w' H4=>r' y w' H4 Q else Q (.bl false) H3)
theorem pe_chain {op op':CmpOp} {r r':R2} (ho:OpR X (compareOp op) r) (ho':OpR X (compareOp op') r') (ha:PE X a ta) (hb:PE X b tb) (hc:PE X c tc)
  (hm:lastMarks [op,op'] [b,c]=false:=by with_unfolding_all rfl):PE X (.Compare a [op,op'] [b,c] pos) (tChain r r' ta tb tc):=by
 intro pins s σ H Q I h
 refine Compare_chain (thn (ha pins s σ H _ I h) fun v s1 ⟨x,H1,I1,r1,q1⟩=>chain_link (thn (hb pins s1 σ H1 _ I1 q1) fun u s2 ⟨y,H2,I2,r2,q2⟩ =>
  thn (ho pins s2 σ H2 x y v u _ I2 r1 r2 q2) fun d s3 ⟨z,H3,I3,r3,k,e,q3⟩=>?_)) hm
 subst e
 cases r3
 refine wpAny_truthy_bool ?_
 cases k with
 |false=>exact ite_ff ⟨.bl false,H3,I3,rfl,q3⟩
 |true=>exact ite_tt (chain_last (thn (hc pins s3 σ H3 _ I3 q3) fun w' s4 ⟨z',H4,I4,r4,q4⟩=>ho' pins s4 σ H4 y z' u w' Q I4 r2 r4 q4))
theorem pt_chain {op op':CmpOp} {r r':R2} (ho:OpR X (compareOp op) r) (ho':OpR X (compareOp op') r') (ha:PE X a ta) (hb:PE X b tb) (hc:PE X c tc)
  (hm:lastMarks [op,op'] [b,c]=false:=by with_unfolding_all rfl):PT X (.Compare a [op,op'] [b,c] pos) (tTest (tChain r r' ta tb tc)):=by
 intro pins s σ H Q I h
 refine isTrue_chain (thn (ha pins s σ H _ I h) fun v s1 ⟨x,H1,I1,r1,q1⟩=>test_link (thn (hb pins s1 σ H1 _ I1 q1) fun u s2 ⟨y,H2,I2,r2,q2⟩ =>
  thn (ho pins s2 σ H2 x y v u _ I2 r1 r2 q2) fun d s3 ⟨z,H3,I3,r3,k,e,q3⟩=>?_)) hm
 subst e
 cases r3
 refine wpAny_truthy_bool ?_
 cases k with
 |false =>
  obtain ⟨k',e',q'⟩:=q3
  cases e'
  exact ite_ff ⟨H3,I3,q'⟩
 |true =>
  refine ite_tt (test_last (thn (hc pins s3 σ H3 _ I3 q3) fun w' s4 ⟨z',H4,I4,r4,q4⟩=>thn (ho' pins s4 σ H4 y z' u w' _ I4 r2 r4 q4) fun d' s5 ⟨z2,H5,I5,r5,k2,e2,q5⟩=>?_))
  subst e2
  cases r5
  exact wpAny_truthy_bool ⟨H5,I5,q5⟩
def TruV (K:PySem.W.Frag) (x:V) (H:Hp) (k:Bool):Prop :=
 match x with
 |.non=>k=false
 |.bl b=>k=b
 |.int i=>k=(i != 0)
 |.str y=>y.length≤sizeLine∧k=((y.length:Int) != 0)
 |.byt y=>y.size≤sizeLine∧k=((y.size:Int) != 0)
 |.ref p=>(∃ xs,SqL K H p xs∧k=!xs.isEmpty)∨(∃ xs,SqT K H p xs∧k=!xs.isEmpty)∨∃ kvs,H p=some (.dK kvs)∧k=!kvs.isEmpty
 |_=>False
theorem isEmpty_kv {κ:Type} {kvs:List (κ×V)} {vs:List (κ×Value)} (r:KV kvs vs):(!vs.isEmpty)=!kvs.isEmpty:=by
 cases r<;>rfl
theorem isEmpty_of {xs:List V} {its:List Value} (r:Vals xs its):(!its.toArray.isEmpty)=!xs.isEmpty:=by
 cases r<;>simp
theorem line63:(sizeLine:Nat)<2 ^ 63:=by rw [sizeLine_eq];decide
theorem tru_ok:TruR X (fun x H Q=>∃ k,TruV X.K x H k∧Q k H):=by
 intro pins s σ H x v Q I rx h
 obtain ⟨k,e,q⟩:=h
 have hl:=line63
 have hs:sizeLine=16777216:=sizeLine_eq
 cases x with
 |non =>
  cases rx
  have e':k=false:=e
  subst e'
  exact truthy_none ⟨H,I,q⟩
 |bl b =>
  cases rx
  have e':k=b:=e
  subst e'
  exact wpAny_truthy_bool ⟨H,I,q⟩
 |int i =>
  obtain ⟨t,rfl⟩:=rx
  have e':k=(i != 0):=e
  subst e'
  exact PySem.P.truthy_int ⟨H,I,q⟩
 |str y =>
  obtain ⟨t,rfl⟩:=rx
  obtain ⟨hy,e'⟩:y.length≤sizeLine∧k=((y.length:Int) != 0):=e
  subst e'
  exact PySem.P.truthy_str (by walk_at"q") ⟨H,I.tok _,q⟩
 |byt y =>
  obtain ⟨t,rfl⟩:=rx
  obtain ⟨hy,e'⟩:y.size≤sizeLine∧k=((y.size:Int) != 0):=e
  subst e'
  exact PySem.W.truthy_bytes (by walk_at"q") ⟨H,I.tok _,q⟩
 |ref p =>
  cases rx
  have e':(∃ xs,SqL X.K H p xs∧k=!xs.isEmpty)∨(∃ xs,SqT X.K H p xs∧k=!xs.isEmpty)∨∃ kvs,H p=some (.dK kvs)∧k=!kvs.isEmpty:=e
  rcases e' with ⟨xs,hx,e'⟩|⟨xs,hx,e'⟩|⟨kvs,hx,e'⟩
  ·subst e'
   obtain ⟨its,r,pl,hz⟩:=I.list hx
   have hlen:=r.length
   exact wpAny_truthy_list pl.isList (by simp only [List.size_toArray];walk_at"q") ⟨H,I.tok _,by rw [isEmpty_of r];exact q⟩
  ·subst e'
   obtain ⟨its,r,pl,hz⟩:=I.tuple hx
   have hlen:=r.length
   exact truthy_tuple pl (by simp only [List.size_toArray];walk_at"q") ⟨H,I.tok _,by rw [isEmpty_of r];exact q⟩
  ·subst e'
   obtain ⟨hz,hS,vs,r,m⟩:kvs.length≤sizeLine∧(p == sysModules)=false∧∃ vs,KV kvs vs∧s.heap.DictOf (mixKind X.prog X.w) p vs:=I.hok p _ hx
   have hlen:kvs.length=vs.length:=Paired.length r
   exact wpAny_truthy_dict hS m (by walk_at"q") ⟨H,I.tok _,by rw [isEmpty_kv r];exact q⟩
 |_=>exact (show False from e).elim
theorem vals1 {x:V} {us:List Value} (r:Vals [x] us):∃ u,us=[u]∧RelV x u:=by
 cases r with
 |cons r1 r2=>cases r2;exact ⟨_,rfl,r1⟩
theorem vals2 {x y:V} {us:List Value} (r:Vals [x,y] us):∃ u w',us=[u,w']∧RelV x u∧RelV y w':=by
 cases r with
 |cons r1 r2 =>
  cases r2 with
  |cons r3 r4=>cases r4;exact ⟨_,_,rfl,r1,r3⟩
theorem call_int1:CallR X (.type "int") (fun xs H Q=>(∃ i,xs=[.int i]∧Q (.int i) H)∨∃ k,xs=[.bl k]∧Q (.int (if k then 1 else 0)) H):=by
 intro pins s σ H xs us Q I r h
 rcases h with ⟨i,rfl,q⟩|⟨k,rfl,q⟩
 ·obtain ⟨u,rfl,t,rfl⟩:=vals1 r
  exact call_int_int ⟨.int i,H,I,⟨_,rfl⟩,q⟩
 ·obtain ⟨u,rfl,r1⟩:=vals1 r
  cases r1
  exact call_int_bool ⟨.int (if k then 1 else 0),H,I.tok _,⟨_,rfl⟩,q⟩
end
end
section
structure ObjM (h:Heap) (x dx C:Addr) (mA:Str→Option Value):Prop where
 obj:h.get? x=some (PySem.W.instObj C dx)
 ns:h.Ns1 dx mA
 ne:dx≠x
theorem lookIn_ns {h:Heap} {dx:Addr} {mA:Str→Option Value} (n:h.Ns1 dx mA):∃ od,h.get? dx=some od∧∀ name,PySem.W.lookIn name od=some (mA name):=by
 obtain ⟨o,es,ep,ho,hd,hk,_,hm⟩:=n
 refine ⟨o,ho,fun name=>?_⟩
 have e:=hm name
 unfold nsFind findBy at e
 rw [←Array.find?_toList] at e
 unfold PySem.W.lookIn
 rw [hd]
 dsimp only
 split
 ·rename_i y q
  rw [q] at e
  exact congrArg some e
 ·rename_i q
  rw [q] at e
  have a:es.toList.any (·.refKey)=false:=by
   rw [List.any_eq_false]
   intro y hy
   obtain ⟨z,t,hkey⟩:=hk y (Array.mem_toList_iff.mp hy)
   simp [DictEntry.refKey,hkey]
  have a':¬ es.toList.any (·.refKey)=true:=by rw [a];exact Bool.false_ne_true
  rw [if_neg a']
  exact congrArg some e
theorem ObjM.look {h:Heap} {x dx C:Addr} {mA:Str→Option Value} (I:ObjM h x dx C mA):∃ od,PySem.W.InstAt h x (PySem.W.instObj C dx) C (some od)∧∀ name,PySem.W.lookIn name od=some (mA name) :=
 let ⟨od,ho,hl⟩:=lookIn_ns I.ns
 ⟨od,⟨I.obj,rfl,rfl,ho⟩,hl⟩
section
variable {prog:Program} {w:World} {A:Around} {E:Value→Shared→Prop} {s:Shared} {K:PySem.W.Frag} {x dx C f:Addr} {mA:Str→Option Value} {name:Str} {v:Value}
theorem get_map {expr:Bool} {Q:Value→Shared→Prop} (X:K.In s.heap) (I:ObjM s.heap x dx C mA) (hg:PySem.W.plainGet K C name=true) (hh:PySem.W.hasDictIn K C=true)
  (ha:PySem.W.findIn K (.ref C) name=some none) (hv:mA name=some v) (hv':PySem.W.handedIn v=true) (h:Q v { s with toks:=s.toks+1 }) :
  wpAny (model prog w) A (getAttr (.ref x) name expr) Q E s:=by
 obtain ⟨od,J,hl⟩:=I.look
 exact PySem.W.get_value X J (PySem.W.plainGet_of hg).1 (PySem.W.findObj_own hh ha rfl (by rw [hl,hv])) hv' h
theorem get_meth {pl:Sem Bool} {Q:Value×List Value→Shared→Prop} (X:K.In s.heap) (I:ObjM s.heap x dx C mA) (hg:PySem.W.plainGet K C name=true)
  (hf:PySem.W.findIn K (.ref C) name=some (some (.ref f))) (ht:PySem.W.isFn K (.ref f)=true) (hv:mA name=none) (h:Q (.ref f,[.ref x]) s) :
  wpAny (model prog w) A (getMethod (.ref x) name pl) Q E s:=by
 obtain ⟨od,J,hl⟩:=I.look
 exact PySem.W.method_fn X J (PySem.W.plainGet_of hg).1 (PySem.W.plainGet_of hg).2 hf (beq_iff_eq.mp ht) (by show (PySem.W.lookIn name od).map (·.isSome)=some false;rw [hl,hv];rfl) h
theorem set_map {ns:List Str} {Q:Unit→Shared→Prop} (X:K.In s.heap) (I:ObjM s.heap x dx C mA)
  (hs:PySem.W.findIn K (.ref C) "__setattr__" = some (some (.builtin "object.__setattr__"))) (hp:PySem.W.plainOver K C=true) (ht:PySem.W.takerIn K C name=some none) (hh:PySem.W.hasDictIn K C=true)
  (hw:PySem.Within mA ns) (hsz:ns.length≤sizeLine)
  (h:∀ h',ObjM h' x dx C (fun y=>if y=name then some v else mA y)→Heap.SameBut dx s.heap h'→Q () { s with heap:=h',toks:=s.toks+2 }) :
  wpAny (model prog w) A (setAttr (.ref x) name v) Q E s:=by
 obtain ⟨od,J,hl⟩:=I.look
 refine PySem.W.set_plain X J hs (PySem.W.osa_open (s:={ s with toks:=s.toks+1 }) (r:=none) X J hp ht fun b=>?_)
 obtain ⟨cd,hc,hd'⟩:=PySem.W.any_some hh
 have hx:s.heap.get? x=some ⟨.ref C,some dx,.plain,#[]⟩:=I.obj
 refine wpAny_bind (wpAny_pure (wpAny_bind (wpAny_bind (wpAny_loadPart hx (wpAny_bind (PySem.W.Looks.here (s:={ s with toks:=s.toks+1 }) (PySem.W.looks_clsIn X hc) ?_))))))
 rw [hd']
 refine wpAny_pure (a:=some dx) (wpAny_bind (wpAny_pure (wpAny_bind ?_)))
 refine wpAny_nsSet1 (s:={ s with toks:=s.toks+1 }) I.ns fun h' hn2 hs2=>?_
 obtain ⟨oD,esD,epD,hoD,hdD,hcD⟩:=hn2.count (PySem.Within.cons name v hw)
 refine wpAny_bind (wpAny_lookBehind hoD (by rw [hdD];exact pastItsLine_dict (Nat.le_trans hcD (by rw [List.length_cons];walk_at"q"))) ?_)
 exact wpAny_pure (h _ ⟨(hs2.2 _ (Ne.symm I.ne)).trans I.obj,hn2,I.ne⟩ hs2)
theorem make_map {R:Result→Shared→Prop} {vs:List Value} {kw:List (Str×Value)} (X:K.In s.heap) (hm:PySem.W.makesIn K C=true)
  (hi:PySem.W.findIn K (.ref C) "__init__" = some (some (.ref f))) (hf:PySem.W.typeIn K (.ref f)=some (.type "function"))
  (h:codeAny (model prog w) (A.under (.builtin "type.__call__" ⟨.ref C::vs,kw⟩)) (.call (.ref f) ⟨.ref (s.heap.objs.size+1)::vs,kw⟩) (PySem.W.InitBack (s.heap.objs.size+1) R)
   { s with heap:=(s.heap.push PySem.W.emptyDict).push (PySem.W.instObj C s.heap.objs.size) }) :
  codeAny (model prog w) A (.call (.ref C) ⟨vs,kw⟩) R s:=by
 obtain ⟨hh,g,d,t,os⟩:=s
 exact PySem.W.make_core (PySem.W.makes_of X hm) (PySem.W.looks_findIn X hi) (fun self=>PySem.W.bind_fn X self hf) (.inl rfl) h
end
def putF (f:Str) (v:V):List (Str×V)→List (Str×V)
 |[]=>[(f,v)]
 |(g,x)::r=>if g=f then (g,v)::r else (g,x)::putF f v r
theorem lookup_putF (f g:Str) (v:V):∀ fs:List (Str×V),(putF f v fs).lookup g=if g=f then some v else fs.lookup g
 |[]=>by
  show List.lookup g [(f,v)]=_
  by_cases h:g=f
  ·have hb:(g == f)=true:=beq_iff_eq.mpr h
   simp only [List.lookup,hb,if_pos h]
  ·have hb:(g == f)=false:=beq_eq_false_iff_ne.mpr h
   simp only [List.lookup,hb,if_neg h]
 |(k,x)::r=>by
  have ih:=lookup_putF f g v r
  rw [show putF f v ((k,x)::r)=(if k=f then (k,v)::r else (k,x)::putF f v r) from rfl]
  by_cases hk:k=f
  ·rw [if_pos hk]
   by_cases h:g=k
   ·have hb:(g == k)=true:=beq_iff_eq.mpr h
    simp only [List.lookup,hb,if_pos (h.trans hk)]
   ·have hb:(g == k)=false:=beq_eq_false_iff_ne.mpr h
    simp only [List.lookup,hb,if_neg (fun e:g=f=>h (e.trans hk.symm))]
  ·rw [if_neg hk]
   by_cases h:g=k
   ·have hb:(g == k)=true:=beq_iff_eq.mpr h
    simp only [List.lookup,hb,if_neg (fun e:g=f=>hk (h.symm.trans e))]
   ·have hb:(g == k)=false:=beq_eq_false_iff_ne.mpr h
    simp only [List.lookup,hb]
    exact ih
theorem keys_putF (f:Str) (v:V):∀ fs:List (Str×V),f∈(putF f v fs).map (·.1)∧∀ g,g∈fs.map (·.1)→g∈(putF f v fs).map (·.1)
 |[]=>⟨by simp [putF],fun g h=>by simp at h⟩
 |(k,x)::r=>by
  obtain ⟨i1,i2⟩:=keys_putF f v r
  rw [show putF f v ((k,x)::r)=(if k=f then (k,v)::r else (k,x)::putF f v r) from rfl]
  by_cases hk:k=f
  ·rw [if_pos hk]
   subst hk
   exact ⟨by simp,fun g h=>by simpa using h⟩
  ·rw [if_neg hk]
   refine ⟨?_,fun g h=>?_⟩
   ·rw [List.map_cons]
    exact List.mem_cons_of_mem _ i1
   ·rw [List.map_cons] at h ⊢
    rcases List.mem_cons.mp h with e|e
    ·exact List.mem_cons.mpr (.inl e)
    ·exact List.mem_cons_of_mem _ (i2 g e)
theorem length_putF (f:Str) (v:V):∀ fs:List (Str×V),(putF f v fs).length≤fs.length+1
 |[]=>by simp [putF]
 |(k,x)::r=>by
  have ih:=length_putF f v r
  rw [show putF f v ((k,x)::r)=(if k=f then (k,v)::r else (k,x)::putF f v r) from rfl]
  by_cases hk:k=f
  ·rw [if_pos hk,List.length_cons,List.length_cons];walk_at"q"
  ·rw [if_neg hk,List.length_cons,List.length_cons];walk_at"q"
theorem RelO.some_of {v:V} {o:Option Value} (r:RelO (some v) o):∃ u,o=some u∧RelV v u:=by
 cases o with
 |none=>exact (show False from r).elim
 |some u=>exact ⟨u,rfl,r⟩
theorem RelO.none_of {o:Option Value} (r:RelO none o):o=none:=by
 cases o with
 |none=>rfl
 |some u=>exact (show False from r).elim
theorem handed_of {v:V} {u:Value} (r:RelV v u):PySem.W.handedIn u=true:=by
 cases v with
 |non=>cases (show u=Value.none from r);rfl
 |bl b=>cases (show u=Value.bool b from r);rfl
 |int i=>obtain ⟨t,e⟩:=(show ∃ t,u=Value.int i t from r);cases e;rfl
 |str x=>obtain ⟨t,e⟩:=(show ∃ t,u=Value.str x t from r);cases e;rfl
 |byt b=>obtain ⟨t,e⟩:=(show ∃ t,u=Value.bytes b t from r);cases e;rfl
 |flt b=>obtain ⟨t,e⟩:=(show ∃ t,u=Value.float b t from r);cases e;rfl
 |ref a=>cases (show u=Value.ref a from r);rfl
 |ty n=>cases (show u=Value.type n from r);rfl
section
variable {P:Program} {w:World} {H H':Hp} {h h':Heap} {a C dx:Addr} {fs fs':List (Str×V)}
theorem ins_get (hok:HOk P w H h) (e:H a=some (.ins C dx fs)):∃ mA,ObjM h a dx C mA∧(∀ f,RelO (fs.lookup f) (mA f))∧PySem.Within mA (fs.map (·.1))∧fs.length≤1000∧H dx=some (.own a):=by
 obtain ⟨d,z,ne,ob,mA,n,r,q⟩:=(show ObjOk P w H h a (.ins C dx fs) from hok a _ e)
 exact ⟨mA,⟨ob,n,ne⟩,r,q,z,d⟩
end
structure Cls (K:PySem.W.Frag) (C:Addr):Prop where
 pg:PySem.W.plainGet K C Str.empty=true
 hd:PySem.W.hasDictIn K C=true
 po:PySem.W.plainOver K C=true
 sa:PySem.W.findIn K (.ref C) "__setattr__" = some (some (.builtin "object.__setattr__"))
theorem Cls.get {K:PySem.W.Frag} {C:Addr} (c:Cls K C) (f:Str):PySem.W.plainGet K C f=true:=c.pg
def NoAttr (K:PySem.W.Frag) (C:Addr) (f:Str):Prop:=PySem.W.findIn K (.ref C) f=some none
theorem NoAttr.taker {K:PySem.W.Frag} {C:Addr} {f:Str} (n:NoAttr K C f):PySem.W.takerIn K C f=some none:=by
 unfold PySem.W.takerIn
 rw [show PySem.W.findIn K (.ref C) f=some none from n]
 rfl
structure Meth (K:PySem.W.Frag) (C:Addr) (m:Str) (f:Addr):Prop where
 at_:PySem.W.findIn K (.ref C) m=some (some (.ref f))
 fn:PySem.W.isFn K (.ref f)=true
 kp:PySem.W.keepIn K (.ref f)=true
section
variable {X:Cx} {pins:List (Addr×Obj)} {σ:St} {H:Hp} {s:Shared} {a C dx:Addr} {fs:List (Str×V)} {f:Str} {v:V} {A:Around} {E:Value→Shared→Prop}
theorem getattr_ok {b:Bool} {Q:Value→Shared→Prop} (I:Inv X pins σ H s) (e:H a=some (.ins C dx fs)) (c:Cls X.K C) (n:NoAttr X.K C f) (l:fs.lookup f=some v)
  (h:∀ u s',Inv X pins σ H s'→RelV v u→Q u s'):wpAny (model X.prog X.w) A (getAttr (.ref a) f b) Q E s:=by
 obtain ⟨mA,O,r,_,_,_⟩:=ins_get I.hok e
 obtain ⟨u,hu,ru⟩:=RelO.some_of (v:=v) (o:=mA f) (by rw [←l];exact r f)
 exact get_map I.kIn O (c.get f) c.hd n hu (handed_of ru) (h u _ (I.tok _) ru)
theorem getmeth_ok {m:Str} {g:Addr} {pl:Sem Bool} {Q:Value×List Value→Shared→Prop} (I:Inv X pins σ H s) (e:H a=some (.ins C dx fs)) (c:Cls X.K C) (k:Meth X.K C m g) (l:fs.lookup m=none)
  (h:Q (.ref g,[.ref a]) s):wpAny (model X.prog X.w) A (getMethod (.ref a) m pl) Q E s:=by
 obtain ⟨mA,O,r,_,_,_⟩:=ins_get I.hok e
 have hn:mA m=none:=RelO.none_of (by rw [←l];exact r m)
 exact get_meth I.kIn O (c.get m) k.at_ k.fn hn h
theorem setattr_ok {y:V} {u:Value} {Q:Unit→Shared→Prop} (I:Inv X pins σ H s) (e:H a=some (.ins C dx fs)) (c:Cls X.K C) (n:NoAttr X.K C f) (hl:fs.length<1000) (ry:RelV y u)
  (h:∀ s',Inv X pins σ (upd H a (.ins C dx (putF f y fs))) s'→Q () s'):wpAny (model X.prog X.w) A (setAttr (.ref a) f u) Q E s:=by
 obtain ⟨mA,O,r,wi,_,ho⟩:=ins_get I.hok e
 have hz:(fs.map (·.1)).length≤sizeLine:=by rw [List.length_map,sizeLine_eq];walk_at"q"
 refine set_map I.kIn O c.sa c.po n.taker c.hd wi hz fun h' O' sb=>h _ ?_
 have hd:∃ o,h'.get? dx=some o:=let ⟨o,_,_,e',_⟩:=O'.ns;⟨o,e'⟩
 refine I.write (x:=a) (e:=dx) (by rw [e];exact True.intro) (.inr ho) (fun b q hb z=>(sb.2 b hb).trans z) hd ?_
 refine ⟨by rw [upd_ne O.ne];exact ho,?_,O.ne,O'.obj,_,O'.ns,fun g=>?_,fun g hg=>?_⟩
 ·have:=length_putF f y fs;walk_at"q"
 ·show RelO ((putF f y fs).lookup g) (if g=f then some u else mA g)
  rw [lookup_putF]
  by_cases q:g=f
  ·rw [if_pos q,if_pos q];exact ry
  ·rw [if_neg q,if_neg q];exact r g
 ·by_cases q:g=f
  ·rw [q];exact (keys_putF f y fs).1
  ·refine (keys_putF f y fs).2 g (wi g fun z=>hg ?_)
   show (if g=f then some u else mA g)=none
   rw [if_neg q];exact z
theorem Inv.made (I:Inv X pins σ H s):Inv X pins σ (upd (upd H s.heap.objs.size (.own (s.heap.objs.size+1))) (s.heap.objs.size+1) (.ins C s.heap.objs.size []))
  { s with heap:=(s.heap.push PySem.W.emptyDict).push (PySem.W.instObj C s.heap.objs.size) }:=by
 have e1:(s.heap.push PySem.W.emptyDict).get? s.heap.objs.size=some PySem.W.emptyDict:=Heap.get?_push_size s.heap rfl
 have e2:((s.heap.push PySem.W.emptyDict).push (PySem.W.instObj C s.heap.objs.size)).get? (s.heap.objs.size+1)=some (PySem.W.instObj C s.heap.objs.size):=by
  have:=Heap.get?_push_size (s.heap.push PySem.W.emptyDict) (o:=PySem.W.instObj C s.heap.objs.size) rfl
  rwa [Heap.size_push] at this
 have e3:(s.heap.push PySem.W.emptyDict).Ns s.heap.objs.size (fun _=>none):=⟨PySem.W.emptyDict,#[],_,e1,rfl,(fun e he=>absurd he (by simp)),fun _=>rfl⟩
 have I1:=I.laid (a:=s.heap.objs.size) (o:=.own (s.heap.objs.size+1)) (h':=s.heap.push PySem.W.emptyDict) (t':=s.toks) (fun b u q=>Heap.get?_push_of_some _ q) (Nat.le_refl _) ⟨_,e1⟩
 refine I1.laid (a:=s.heap.objs.size+1) (o:=.ins C s.heap.objs.size []) (t':=s.toks) (fun b u q=>Heap.get?_push_of_some _ q) (Nat.le_of_eq (Heap.size_push _ _)) ?_
 have ne:s.heap.objs.size≠s.heap.objs.size+1:=Nat.ne_of_lt (Nat.lt_succ_self _)
 refine ⟨by rw [upd_ne ne,upd_same],Nat.zero_le _,ne,e2,fun _=>none,(Heap.Ns1.of_empty e3).at fun o q=>Heap.get?_push_of_some _ q,fun _=>True.intro,fun y hy=>absurd rfl hy⟩
theorem attr_of {prog:Program} {w:World} {env:Env} {e:Expr} {f:Str} {pos:Pos} {s:Shared} {Q:Value→Shared→Prop} (hb:attributeBase e f env (eval e env)=eval e env)
  (h:wpAny (model prog w) A (eval e env) (fun o s₁=>wpAny (model prog w) A (getAttr o f true) Q E s₁) E s):wpAny (model prog w) A (eval (.Attribute e f pos) env) Q E s :=
 Attribute_any_ h (by rw [arm_eval_Attribute,hb])
end
inductive OfFld (K:PySem.W.Frag) (f:Str) (x:V) (H:Hp) (Q:VK):Prop
 |mk (a C dx:Addr) (fs:List (Str×V)) (v:V) (e:x=.ref a) (h:H a=some (.ins C dx fs)) (c:Cls K C) (n:NoAttr K C f) (l:fs.lookup f=some v) (q:Q v H):OfFld K f x H Q
def tFld (K:PySem.W.Frag) (ta:TE) (f:Str):TE:=fun σ H Q=>ta σ H fun x H1=>OfFld K f x H1 Q
def sFld (K:PySem.W.Frag) (ta tv:TE) (f:Str):TS:=fun D σ H=>tv σ H fun y H1=>ta σ H1 fun x H2=>∃ a C dx fs,x=.ref a∧H2 a=some (.ins C dx fs)∧Cls K C∧NoAttr K C f∧fs.length<1000 ∧
 D.nx σ (upd H2 a (.ins C dx (putF f y fs)))
section
variable {X:Cx} {o e value:Expr} {f:Str} {pos pos' tpos:Pos} {ta tv:TE}
theorem pe_fld (he:PE X e ta) (hb:attributeBase e f X.env (eval e X.env)=eval e X.env):PE X (.Attribute e f pos) (tFld X.K ta f):=by
 intro pins s σ H Q I h
 refine attr_of hb (thn (he pins s σ H _ I h) fun u s1 ⟨x,H1,I1,rx,a,C,dx,fs,v,ex,ea,c,n,l,q⟩=>?_)
 subst ex
 obtain rfl:u=Value.ref a:=rx
 exact getattr_ok I1 ea c n l fun u' s2 I2 ru=>⟨v,H1,I2,ru,q⟩
theorem ps_fld (ha:PE X o ta) (hv:PE X value tv) (hs:swapsWith value (some (.Attribute o f pos')) pos.line X.env=pure false):PS X (.Assign [.Attribute o f pos'] value pos) (sFld X.K ta tv f):=by
 intro pins s σ H D I h
 refine plainObj_wpAny_Assign_Attribute (thn (hv pins s σ H _ I h) fun u s1 ⟨y,H1,I1,ry,q⟩=>thn (ha pins s1 σ H1 _ I1 q) fun ov s2 ⟨x,H2,I2,rx,a,C,dx,fs,ex,ea,c,n,l,q2⟩=>?_) hs
 subst ex
 obtain rfl:ov=Value.ref a:=rx
 exact setattr_ok I2 ea c n l ry fun s3 I3=>⟨σ,_,I3,q2⟩
end
section
variable {X:Cx} {pins:List (Addr×Obj)} {σ:St} {H:Hp} {s:Shared} {A:Around} {E:Value→Shared→Prop} {Q:Value→Shared→Prop} {c:Value} {b:Bool}
inductive TyOf (K:PySem.W.Frag) (H:Hp):V→Value→Prop where
 |non:TyOf K H .non (.type "NoneType")
 |bl (x:Bool):TyOf K H (.bl x) (.type "bool")
 |int (i:Int):TyOf K H (.int i) (.type "int")
 |str (x:Str):TyOf K H (.str x) (.type "str")
 |flt (x:UInt64):TyOf K H (.flt x) (.type "float")
 |lst {a:Addr} {xs:List V} (e:H a=some (.lst xs)):TyOf K H (.ref a) (.type "list")
 |frz {a:Addr} {o:Obj} {xs:List V} (e:H a=some (.frz o (.lst xs))):TyOf K H (.ref a) (.type "list")
 |tup {a:Addr} {xs:List V} (e:H a=some (.tup xs)):TyOf K H (.ref a) (.type "tuple")
 |dK {a:Addr} {kvs:List (Key×V)} (e:H a=some (.dK kvs)):TyOf K H (.ref a) (.type "dict")
 |dT {a:Addr} {kvs:List (List Key×V)} (e:H a=some (.dT kvs)):TyOf K H (.ref a) (.type "dict")
 |ins {a C dx:Addr} {fs:List (Str×V)} (e:H a=some (.ins C dx fs)) (cl:Cls K C) (ha:PySem.W.findIn K (.ref C) "__class__" = some (some (.builtin "object.__class__")))
   (hn:PySem.W.specialIn K (.builtin "object.__class__") "__get__" = some (some (.builtin "getset_descriptor.__get__"))) (htk:PySem.W.takesIn K (.builtin "object.__class__")=some true)
   (hm:PySem.W.mroIn K C (.type "object")=some true):TyOf K H (.ref a) (.ref C)
theorem isinst_ok {x:V} {u t:Value} (I:Inv X pins σ H s) (rx:RelV x u) (ty:TyOf X.K H x t) (e:PySem.W.kitOne X.K t c=some b) (h:∀ tk,Q (.bool b) { s with toks:=tk }) :
  wpAny (model X.prog X.w) A (call (.builtin "isinstance") [u,c]) Q E s:=by
 cases ty with
 |non=>cases (show u=Value.none from rx);exact PySem.W.kia_one PySem.W.kitx_none I.kIn True.intro e (fun z=>nomatch z) h
 |bl y=>cases (show u=Value.bool y from rx);exact PySem.W.kia_one PySem.W.kitx_bool I.kIn True.intro e (fun z=>nomatch z) h
 |int i=>obtain ⟨t,q⟩:=(show ∃ t,u=Value.int i t from rx);cases q;exact PySem.W.kia_one PySem.W.kitx_int I.kIn True.intro e (fun z=>nomatch z) h
 |str y=>obtain ⟨t,q⟩:=(show ∃ t,u=Value.str y t from rx);cases q;exact PySem.W.kia_one PySem.W.kitx_str I.kIn True.intro e (fun z=>nomatch z) h
 |flt y=>obtain ⟨t,q⟩:=(show ∃ t,u=Value.float y t from rx);cases q;exact PySem.W.kia_one PySem.W.kitx_float I.kIn True.intro e (fun z=>nomatch z) h
 |@lst a xs ea =>
  cases (show u=Value.ref a from rx)
  obtain ⟨_,_,n,_,h1⟩:=(show ObjOk X.prog X.w H s.heap a (.lst xs) from I.hok a _ ea)
  exact PySem.W.kia_one PySem.W.kitx_list I.kIn ⟨_,h1,rfl⟩ e (fun z=>nomatch z) h
 |@frz a ob xs ea =>
  cases (show u=Value.ref a from rx)
  obtain ⟨_,_,_,n,_,h1⟩:=(show ObjOk X.prog X.w H s.heap a (.frz ob (.lst xs)) from I.hok a _ ea)
  exact PySem.W.kia_one PySem.W.kitx_list I.kIn ⟨_,h1,rfl⟩ e (fun z=>nomatch z) h
 |@tup a xs ea =>
  cases (show u=Value.ref a from rx)
  obtain ⟨_,_,_,p⟩:=(show ObjOk X.prog X.w H s.heap a (.tup xs) from I.hok a _ ea)
  obtain ⟨o,h1,h2,_⟩:=p
  exact PySem.W.kia_one PySem.W.kitx_tuple I.kIn ⟨o,h1,h2⟩ e (fun z=>nomatch z) h
 |@dK a kvs ea =>
  cases (show u=Value.ref a from rx)
  obtain ⟨_,_,vs,_,p⟩:=(show ObjOk X.prog X.w H s.heap a (.dK kvs) from I.hok a _ ea)
  obtain ⟨o,es,ep,h1,h2,_⟩:=p
  exact PySem.W.kia_one PySem.W.kitx_dict I.kIn ⟨o,h1,h2.1⟩ e (fun z=>nomatch z) h
 |@dT a kvs ea =>
  cases (show u=Value.ref a from rx)
  obtain ⟨_,_,xs,_,o,es,ep,h1,h2,_⟩:=(show ObjOk X.prog X.w H s.heap a (.dT kvs) from I.hok a _ ea)
  exact PySem.W.kia_one PySem.W.kitx_dict I.kIn ⟨o,h1,h2.1⟩ e (fun z=>nomatch z) h
 |@ins a C dx fs ea cl ha hn htk hm =>
  cases (show u=Value.ref a from rx)
  obtain ⟨mA,O,_⟩:=ins_get I.hok ea
  obtain ⟨od,J,_⟩:=O.look
  exact PySem.W.kia_one (PySem.W.kitx_own (cl.get _) cl.hd ha hn htk hm) I.kIn J e (fun z=>nomatch z) h
end
end
section
structure Room (k:Nat) (A:Around):Prop where
 hd:A.handled=none
 dp:A.depth+3*k+5<recursionLimit
 un:A.units+16*k+200<cLine
 gd:A.guards=some []
theorem Room.mono {j k:Nat} {A:Around} (r:Room k A) (h:j≤k):Room j A:=⟨r.hd,by have:=r.dp;walk_at"q", by have:=r.un;walk_at"q", r.gd⟩
theorem Room.deeper {k:Nat} {A:Around} (r:Room (k+1) A) (env:Env):Room k (A.deeper env) :=
 ⟨r.hd,by have:=r.dp;show A.depth+1+3*k+5<_;walk_at"q", by have:=r.un;show A.units+3+16*k+200<_;walk_at"q", r.gd⟩
theorem make_depth {A:Around} {C:Addr} {us:List Value} {kw:List (Str×Value)}:(A.under (.builtin "type.__call__" ⟨.ref C::us,kw⟩)).depth=A.depth+1:=by
 first|rfl|simp [Around.under,Code.weight,Code.isCreation,Code.isGuard,Code.isCaller,Code.frames,Code.isFrame,guardIds]
theorem make_units {A:Around} {C:Addr} {us:List Value} {kw:List (Str×Value)}:(A.under (.builtin "type.__call__" ⟨.ref C::us,kw⟩)).units=A.units+1:=by
 first|rfl|simp [Around.under,Code.cUnits,Code.frames,Code.isFrame]
theorem make_guards {A:Around} {C:Addr} {us:List Value} {kw:List (Str×Value)}:(A.under (.builtin "type.__call__" ⟨.ref C::us,kw⟩)).guards=A.guards:=by
 first|rfl|(simp [Around.under,Code.guards,Code.isGuard,guardIds,pushGuards])
theorem Room.make {k:Nat} {A:Around} (r:Room (k+1) A) (C:Addr) (us:List Value) (kw:List (Str×Value)):Room k (A.under (.builtin "type.__call__" ⟨.ref C::us,kw⟩)) :=
 ⟨r.hd,by have:=r.dp;rw [make_depth];walk_at"q", by have:=r.un;rw [make_units];walk_at"q", by rw [make_guards];exact r.gd⟩
theorem Room.depth {k:Nat} {A:Around} (r:Room k A):A.depth<recursionLimit:=by have:=r.dp;walk_at"q"
theorem Room.units {k:Nat} {A:Around} (r:Room k A):A.units+64<cLine:=by have:=r.un;walk_at"q"
def tNil:TA:=fun _ H Q=>Q [] H
def tCons (ta:TE) (tr:TA):TA:=fun σ H Q=>ta σ H fun x H1=>tr σ H1 fun xs H2=>Q (x::xs) H2
section
variable {X:Cx} {e:Expr} {es:List Expr} {te:TE} {t:TA} {pos:Pos}
theorem pa_nil:PA X [] tNil:=fun _ _ _ _ H Q I h=>Calls.spliced_nil ⟨[],H,I,.nil,h⟩
theorem pa_cons (ha:PE X e te) (hr:PA X es t) (hs:starEach (e::es) X.env=(false,eval e X.env)::starEach es X.env:=by rfl):PA X (e::es) (tCons te t):=by
 intro pos pins s σ H Q I h
 rw [hs]
 show wpAny _ _ (spliced ((false,eval e X.env)::backTo pos (starEach es X.env))) _ _ s
 refine Calls.spliced_cons (thn (ha pins s σ H _ I h) fun u s1 ⟨x,H1,I1,r1,q1⟩=>?_)
 exact thn (hr pos pins s1 σ H1 _ I1 q1) fun us s2 ⟨xs,H2,I2,r2,q2⟩=>⟨x::xs,H2,I2,.cons r1 r2,q2⟩
def tTup (t:TA):TE:=fun σ H Q=>t σ H fun xs H1=>NewOb xs.length (.tup xs) H1 Q
def tLst (t:TA):TE:=fun σ H Q=>t σ H fun xs H1=>NewOb xs.length (.lst xs) H1 Q
theorem pe_tup {x1} (h:PA X es t):PE X (.Tuple es x1 pos) (tTup t):=by
 intro pins s σ H Q I hq
 refine wpAny_Tuple_spliced (thn (h pos pins s σ H _ I hq) fun us s1 ⟨xs,H1,I1,r,z,q⟩=>⟨by rw [←r.length];exact z,?_⟩)
 have hf:H1 s1.heap.objs.size=none:=I1.hok.fresh (Nat.le_refl _)
 refine ⟨.ref s1.heap.objs.size,upd H1 s1.heap.objs.size (.tup xs),I1.laid (t':=s1.toks) (fun b u e=>Heap.get?_push_of_some _ e) (Nat.le_refl _) ?_,rfl,q _ hf⟩
 exact ⟨z,us,r,⟨_,Heap.get?_push_size _ rfl,rfl,_,rfl,rfl⟩⟩
theorem pe_lst (h:PA X es t):PE X (.List es pos) (tLst t):=by
 intro pins s σ H Q I hq
 refine wpAny_List_spliced (thn (h pos pins s σ H _ I hq) fun us s1 ⟨xs,H1,I1,r,z,q⟩=>⟨by rw [←r.length];exact z,?_⟩)
 have hf:H1 s1.heap.objs.size=none:=I1.hok.fresh (Nat.le_refl _)
 refine ⟨.ref s1.heap.objs.size,upd H1 s1.heap.objs.size (.lst xs),I1.laid (t':=s1.toks) (fun b u e=>Heap.get?_push_of_some _ e) (Nat.le_refl _) ?_,rfl,q _ hf⟩
 exact ⟨z,us,0,r,Heap.get?_push_size _ rfl⟩
end
abbrev Sp:=List V→Hp→VK→XK→Prop
abbrev CXT:=List Env→Hp→Shared→XK→Value→Shared→Prop
structure Env0 (P:Program) (w:World) (K:PySem.W.Frag) (mg:Str→Option Value) (base:Heap) (A:Around) (outer:List Env) (s:Shared) (H:Hp):Prop where
 frames:A.frames=some outer
 mod:Mod K mg base
 bs:∀ b o,base.get? b=some o→s.heap.get? b=some o∧H b=none
 bsz:base.objs.size≤s.heap.objs.size
 funs:s.heap.FunFrames base outer
 frf:∀ b∈frs outer,H b=none
 hok:HOk P w H s.heap
 bare:AllBare s.gens
def CE (outer:List Env) (P:Program) (w:World) (H:Hp) (s:Shared) (Q:VK) (u:Value) (s':Shared):Prop :=
 ∃ v H',s'.os=s.os∧AllBare s'.gens∧Un (frs outer) [] H H' s.heap s'.heap∧HOk P w H' s'.heap∧RelV v u∧Q v H'
def CR (CX:CXT) (outer:List Env) (P:Program) (w:World) (H:Hp) (s:Shared) (Q:VK) (E:XK) (r:Result) (s':Shared):Prop :=
 match r with
 |.ok (.ret u)=>CE outer P w H s Q u s'
 |.ok _=>False
 |.error e=>CX outer H s E e s'
structure FnOk (P:Program) (w:World) (K:PySem.W.Frag) (mg:Str→Option Value) (base:Heap) (CX:CXT) (k:Nat) (f:Addr) (fd:FuncData) (ps:List Str) (sp:Sp):Prop where
 len:∀ vs H Q E,sp vs H Q E→vs.length=ps.length
 run:∀ (A:Around) (outer:List Env) (s:Shared) (H:Hp) (args:Args) (us:List Value) (vs:List V) (Q:VK) (E:XK),Room k A→Env0 P w K mg base A outer s H→BindsTo s fd args (ps.zip us)→Vals vs us→sp vs H Q E →
  codeAny (model P w) A (.call (.ref f) args) (CR CX outer P w H s Q E) s
theorem FnOk.mono {P:Program} {w:World} {K:PySem.W.Frag} {mg:Str→Option Value} {base:Heap} {CX:CXT} {j k:Nat} {f:Addr} {fd:FuncData} {ps:List Str} {sp:Sp} (F:FnOk P w K mg base CX j f fd ps sp) (h:j≤k) :
  FnOk P w K mg base CX k f fd ps sp:=⟨F.len,fun A outer s H args us vs Q E hr=>F.run A outer s H args us vs Q E (hr.mono h)⟩
theorem FnOk.imp {P:Program} {w:World} {K:PySem.W.Frag} {mg:Str→Option Value} {base:Heap} {CX:CXT} {k:Nat} {f:Addr} {fd:FuncData} {ps:List Str} {sp sp':Sp} (F:FnOk P w K mg base CX k f fd ps sp)
  (h:∀ vs H Q E,sp' vs H Q E→sp vs H Q E):FnOk P w K mg base CX k f fd ps sp' :=
 ⟨fun vs H Q E q=>F.len vs H Q E (h _ _ _ _ q),fun A outer s H args us vs Q E hr he hb hv hs=>F.run A outer s H args us vs Q E hr he hb hv (h _ _ _ _ hs)⟩
theorem Env0.make {P:Program} {w:World} {K:PySem.W.Frag} {mg:Str→Option Value} {base:Heap} {A:Around} {outer:List Env} {s:Shared} {H:Hp} (e:Env0 P w K mg base A outer s H) (C:Addr) (us:List Value) (kw:List (Str×Value)) :
  Env0 P w K mg base (A.under (.builtin "type.__call__" ⟨.ref C::us,kw⟩)) outer s H:=⟨by first|exact e.frames|(simpa [Around.under,Code.envs,Code.isFrame,pushEnvs] using e.frames),e.mod,e.bs,e.bsz,e.funs,e.frf,e.hok,e.bare⟩
section
variable {X:Cx} {pins:List (Addr×Obj)} {σ:St} {H:Hp} {s s':Shared}
theorem Inv.env0 (I:Inv X pins σ H s):Env0 X.prog X.w X.K X.mg X.base X.A X.stack s H :=
 ⟨I.ok.frames,I.ok.mod,I.bs,Nat.le_trans I.ok.bsz I.sz,I.stack,I.stkFree,I.hok,I.bare⟩
theorem Inv.after {Q:VK} {u:Value} (I:Inv X pins σ H s) (h:CE X.stack X.prog X.w H s Q u s'):EP X pins σ Q u s':=by
 obtain ⟨v,H',os,bare,un,hok,r,q⟩:=h
 obtain ⟨hh,g,d,t,os'⟩:=s'
 obtain rfl:os'=s.os:=os
 exact ⟨v,H',I.call (h':=hh) (g':=g) (d':=d) (t':=t) (ch:=[]) un hok bare (fun b z=>absurd z (by simp)),r,q⟩
end
def tCall (sp:Sp) (dvs:List V) (E:XK) (t:TA):TE:=fun σ H Q=>t σ H fun vs H1=>sp (vs++dvs) H1 Q E
inductive OfIns (C:Addr) (m:Str) (x:V) (H:Hp) (Q:Prop):Prop
 |mk (a dx:Addr) (fs:List (Str×V)) (e:x=.ref a) (h:H a=some (.ins C dx fs)) (n:fs.lookup m=none) (q:Q):OfIns C m x H Q
def tMeth (C:Addr) (m:Str) (sp:Sp) (dvs:List V) (E:XK) (ta:TE) (t:TA):TE:=fun σ H Q=>ta σ H fun x H1=>OfIns C m x H1 (t σ H1 fun vs H2=>sp (x::(vs++dvs)) H2 Q E)
def tMake (C:Addr) (sp:Sp) (dvs:List V) (E:XK) (t:TA):TE:=fun σ H Q=>t σ H fun vs H1=>∀ x dx,H1 x=none→H1 dx=none→dx≠x →
 sp (.ref x::(vs++dvs)) (upd (upd H1 dx (.own x)) x (.ins C dx [])) (fun v H2=>v=.non∧Q (.ref x) H2) E
def Binds (K:PySem.W.Frag) (fd:FuncData) (ps:List Str) (ds:List Value):Prop :=
 ∀ (s:Shared) (us:List Value),K.In s.heap→(us++ds).length=ps.length→BindsTo s fd ⟨us,[]⟩ (ps.zip (us++ds))
theorem Binds.all {K:PySem.W.Frag} {fd:FuncData} {ps:List Str} (h:∀ us:List Value,us.length=ps.length→bindArgs fd ⟨us,[]⟩=pure (ps.zip us)):Binds K fd ps []:=fun s us _ hl=>by
 rw [List.append_nil] at hl ⊢
 exact .of_eq (h us hl)
def Passes (CX:CXT) (X:Cx) (E:XK):Prop:=∀ (pins:List (Addr×Obj)) (σ:St) (H:Hp) (s:Shared) (e:Value) (s':Shared),Inv X pins σ H s→CX X.stack H s E e s'→X.xe e s'
section
variable {X:Cx} {CX:CXT} {k:Nat} {f C:Addr} {fd:FuncData} {ps:List Str} {sp:Sp} {dvs:List V} {ds:List Value} {E:XK} {x m:Str} {p pos apos:Pos} {e o:Expr} {es:List Expr} {ta:TE} {t:TA}
theorem run_fn {pins:List (Addr×Obj)} {σ:St} {H:Hp} {s:Shared} {Q:VK} {us:List Value} {vs:List V} (F:FnOk X.prog X.w X.K X.mg X.base CX k f fd ps sp) (hr:Room k X.A) (hb:Binds X.K fd ps ds) (hd:Vals dvs ds) (hx:Passes CX X E)
  (I:Inv X pins σ H s) (r:Vals vs us) (h:sp (vs++dvs) H Q E):wpAny (model X.prog X.w) X.A (call (.ref f) us) (EP X pins σ Q) X.xe s:=by
 have r2:Vals (vs++dvs) (us++ds):=r.append hd
 have hl:(us++ds).length=ps.length:=by rw [←r2.length];exact F.len _ _ _ _ h
 refine wpAny_call (codeAny_mono (F.run X.A X.stack s H ⟨us,[]⟩ (us++ds) (vs++dvs) Q E hr I.env0 (hb s us I.kIn hl) r2 h) fun r s' hq=>?_)
 cases r with
 |error e=>exact hx pins σ H s e s' I hq
 |ok fl =>
  cases fl with
  |ret u=>exact I.after hq
  |next=>exact False.elim hq
  |brk=>exact False.elim hq
  |cont=>exact False.elim hq
theorem pe_call (F:FnOk X.prog X.w X.K X.mg X.base CX k f fd ps sp) (hr:Room k X.A) (hg:Gl X x) (hm:X.mg x=some (.ref f)) (hk:PySem.W.keepIn X.K (.ref f)=true) (hb:Binds X.K fd ps ds) (hd:Vals dvs ds) (hx:Passes CX X E)
  (ha:PA X (e::es) t) (hdb:(x == ("__debug__" : Str))=false:=by decide) (he:starEach (e::es) X.env=(false,eval e X.env)::starEach es X.env:=by rfl) (hpl:(backTo pos (starEach es X.env)).any (·.1)=false:=by rfl) :
  PE X (.Call (.Name x p) (e::es) [] pos) (tCall sp dvs E t):=by
 intro pins s σ H Q I h
 refine wpAny_Call_Name_kw (ld_glob I hg hm ?_ hdb)
 refine PySem.W.callWith_K (h₀:=X.base) I.ok.mod.kin hk (thn (ha pos pins s σ H _ I h) fun us s1 ⟨vs,H1,I1,r,q⟩=>⟨I1.kIn,?_⟩) he hpl
 exact run_fn F hr hb hd hx I1 r q
theorem pe_meth {pl:Sem Bool} (he:PE X o ta) (c:Cls X.K C) (hm:Meth X.K C m f) (F:FnOk X.prog X.w X.K X.mg X.base CX k f fd ps sp) (hr:Room k X.A) (hb:Binds X.K fd ps ds) (hd:Vals dvs ds) (hx:Passes CX X E) (ha:PA X (e::es) t)
  (hst:starEach (e::es) X.env=(false,eval e X.env)::starEach es X.env:=by rfl) (hpl:(backTo pos (starEach es X.env)).any (·.1)=false:=by rfl)
  (ht:eval (.Call (.Attribute o m apos) (e::es) [] pos) X.env=(do
   let ov ←eval o X.env
   standAt apos.atName
   let (f,first) ←holding [ov] (getMethod ov m pl)
   callWith pos f first (backTo pos (starEach (e::es) X.env)) (backToKw pos (keywordEach [] X.env))):=by rfl) :
  PE X (.Call (.Attribute o m apos) (e::es) [] pos) (tMeth C m sp dvs E ta t):=by
 intro pins s σ H Q I h
 refine PySem.W.methodCall_KW (pl:=pl) (thn (he pins s σ H _ I h) fun u s1 ⟨x,H1,I1,rx,a,dx,fs,ex,ea,l,q⟩=>?_) ht
 subst ex
 obtain rfl:u=Value.ref a:=rx
 refine getmeth_ok I1 ea c hm l ?_
 refine PySem.W.callWith_K (first:=[.ref a]) (h₀:=X.base) I.ok.mod.kin hm.kp (thn (ha pos pins s1 σ H1 _ I1 q) fun us s2 ⟨vs,H2,I2,r,q2⟩=>⟨I2.kIn,?_⟩) hst hpl
 exact run_fn (us:=.ref a::us) (vs:=.ref a::vs) F hr hb hd hx I2 (.cons rfl r) q2
theorem pe_meth0 {pl:Sem Bool} (he:PE X o ta) (c:Cls X.K C) (hm:Meth X.K C m f) (F:FnOk X.prog X.w X.K X.mg X.base CX k f fd ps sp) (hr:Room k X.A) (hb:Binds X.K fd ps ds) (hd:Vals dvs ds) (hx:Passes CX X E)
  (ht:eval (.Call (.Attribute o m apos) [] [] pos) X.env=(do
   let ov ←eval o X.env
   standAt apos.atName
   let (f,first) ←holding [ov] (getMethod ov m pl)
   callWith pos f first (backTo pos (starEach [] X.env)) (backToKw pos (keywordEach [] X.env))):=by rfl) :
  PE X (.Call (.Attribute o m apos) [] [] pos) (tMeth C m sp dvs E ta tNil):=by
 intro pins s σ H Q I h
 refine PySem.W.methodCall_KW (pl:=pl) (thn (he pins s σ H _ I h) fun u s1 ⟨x,H1,I1,rx,a,dx,fs,ex,ea,l,q⟩=>?_) ht
 subst ex
 obtain rfl:u=Value.ref a:=rx
 refine getmeth_ok I1 ea c hm l ?_
 exact PySem.W.callWith_K0 (first:=[.ref a]) I1.kIn hm.kp (run_fn (us:=[.ref a]) (vs:=[.ref a]) F hr hb hd hx I1 (.cons rfl .nil) q)
structure Mk (K:PySem.W.Frag) (C f:Addr):Prop where
 makes:PySem.W.makesIn K C=true
 init:PySem.W.findIn K (.ref C) "__init__" = some (some (.ref f))
 fn:PySem.W.isFn K (.ref f)=true
 kp:PySem.W.keepIn K (.ref C)=true
theorem run_make {pins:List (Addr×Obj)} {σ:St} {H:Hp} {s:Shared} {Q:VK} {us:List Value} {vs:List V} (M:Mk X.K C f) (F:FnOk X.prog X.w X.K X.mg X.base CX k f fd ps sp) (hr:Room (k+1) X.A) (hb:Binds X.K fd ps ds) (hd:Vals dvs ds)
  (hx:Passes CX X E) (I:Inv X pins σ H s) (r:Vals vs us)
  (h:∀ x dx,H x=none→H dx=none→dx≠x→sp (.ref x::(vs++dvs)) (upd (upd H dx (.own x)) x (.ins C dx [])) (fun v H2=>v=.non∧Q (.ref x) H2) E) :
  wpAny (model X.prog X.w) X.A (call (.ref C) us) (EP X pins σ Q) X.xe s:=by
 have hq:=h (s.heap.objs.size+1) s.heap.objs.size (I.hok.fresh (Nat.le_succ _)) (I.hok.fresh (Nat.le_refl _)) (Nat.ne_of_lt (Nat.lt_succ_self _))
 have I2:=Inv.made (C:=C) I
 have r2:Vals (V.ref (s.heap.objs.size+1)::(vs++dvs)) (Value.ref (s.heap.objs.size+1)::(us++ds)):=.cons rfl (r.append hd)
 have hl:(Value.ref (s.heap.objs.size+1)::us++ds).length=ps.length:=by
  have e:=r2.length
  rw [F.len _ _ _ _ hq] at e
  exact e.symm
 refine wpAny_call (make_map (f:=f) I.kIn M.makes M.init (beq_iff_eq.mp M.fn) (codeAny_mono (F.run _ X.stack _ _ ⟨Value.ref (s.heap.objs.size+1)::us,[]⟩ (Value.ref (s.heap.objs.size+1)::(us++ds)) _ _ E (hr.make C us [])
  (I2.env0.make C us []) (hb _ (Value.ref (s.heap.objs.size+1)::us) I2.kIn hl) r2 hq) fun r s' hq'=>?_))
 cases r with
 |error e=>exact hx pins σ _ _ e s' I2 hq'
 |ok fl =>
  cases fl with
  |ret u =>
   obtain ⟨v,H',I3,rv,ev,q3⟩:=I2.after hq'
   subst ev
   exact ⟨rv,⟨V.ref (s.heap.objs.size+1),H',I3,rfl,q3⟩⟩
  |next=>exact False.elim hq'
  |brk=>exact False.elim hq'
  |cont=>exact False.elim hq'
theorem pe_make (M:Mk X.K C f) (F:FnOk X.prog X.w X.K X.mg X.base CX k f fd ps sp) (hr:Room (k+1) X.A) (hg:Gl X x) (hm:X.mg x=some (.ref C)) (hb:Binds X.K fd ps ds) (hd:Vals dvs ds) (hx:Passes CX X E)
  (ha:PA X (e::es) t) (hdb:(x == ("__debug__" : Str))=false:=by decide) (he:starEach (e::es) X.env=(false,eval e X.env)::starEach es X.env:=by rfl) (hpl:(backTo pos (starEach es X.env)).any (·.1)=false:=by rfl) :
  PE X (.Call (.Name x p) (e::es) [] pos) (tMake C sp dvs E t):=by
 intro pins s σ H Q I h
 refine wpAny_Call_Name_kw (ld_glob I hg hm ?_ hdb)
 refine PySem.W.callWith_K (h₀:=X.base) I.ok.mod.kin M.kp (thn (ha pos pins s σ H _ I h) fun us s1 ⟨vs,H1,I1,r,q⟩=>⟨I1.kIn,?_⟩) he hpl
 exact run_make M F hr hb hd hx I1 r q
end
structure FnScope (N P:List Str) (sc:Scope):Prop where
 kind:sc.kind=.function
 co:sc.isCoroutine=false
 gen:sc.isGenerator=false
 nd:N.Nodup
 pre:N.take P.length=P
 par:∀ x∈P,sc.names.lookup x=some .local∨sc.names.lookup x=some .cell
 nofree:∀ y∈sc.names,y.2≠.free
theorem bindL_out {kindOf:Str→Option NameKind} {x:Str}:∀ {binds:List (Str×Value)} {m:Str→Option Value},(∀ v,(x,v)∉binds)→bindL kindOf binds m x=m x
 |[],_,_=>rfl
 |(n,v)::r,m,h=>by
  unfold bindL
  rw [bindL_out fun w hw=>h w (List.mem_cons_of_mem _ hw)]
  split
  ·have:x≠n:=by rintro rfl;exact h v List.mem_cons_self
   simp [this]
  ·rfl
theorem bindC_out {kindOf:Str→Option NameKind} {x:Str}:∀ {binds:List (Str×Value)} {m:Str→Option Value},(∀ v,(x,v)∉binds)→bindC kindOf binds m x=m x
 |[],_,_=>rfl
 |(n,v)::r,m,h=>by
  unfold bindC
  rw [bindC_out fun w hw=>h w (List.mem_cons_of_mem _ hw)]
  split
  ·rfl
  ·have:x≠n:=by rintro rfl;exact h v List.mem_cons_self
   simp [this]
theorem bindL_get {kindOf:Str→Option NameKind} {x:Str} {v:Value}:∀ {P:List Str} {vs:List Value} {i:Nat} {m:Str→Option Value},P.Nodup→P[i]?=some x→vs[i]?=some v→kindOf x=some .local →
  bindL kindOf (P.zip vs) m x=some v
 |[],_,_,_,_,h,_,_=>by simp at h
 |_::_,[],_,_,_,_,h,_=>by simp at h
 |p::P,w::vs,0,m,nd,h1,h2,hk=>by
  simp at h1 h2;subst h1;subst h2
  show bindL kindOf ((p,w)::P.zip vs) m p=_
  unfold bindL
  rw [bindL_out fun v hv=>(List.nodup_cons.mp nd).1 (List.of_mem_zip hv).1,if_pos hk]
  simp
 |p::P,w::vs,i+1,m,nd,h1,h2,hk=>by
  show bindL kindOf ((p,w)::P.zip vs) m x=_
  unfold bindL
  exact bindL_get (i:=i) (List.nodup_cons.mp nd).2 (by simpa using h1) (by simpa using h2) hk
theorem bindC_get {kindOf:Str→Option NameKind} {x:Str} {v:Value}:∀ {P:List Str} {vs:List Value} {i:Nat} {m:Str→Option Value},P.Nodup→P[i]?=some x→vs[i]?=some v→kindOf x≠some .local →
  bindC kindOf (P.zip vs) m x=some v
 |[],_,_,_,_,h,_,_=>by simp at h
 |_::_,[],_,_,_,_,h,_=>by simp at h
 |p::P,w::vs,0,m,nd,h1,h2,hk=>by
  simp at h1 h2;subst h1;subst h2
  show bindC kindOf ((p,w)::P.zip vs) m p=_
  unfold bindC
  rw [bindC_out fun v hv=>(List.nodup_cons.mp nd).1 (List.of_mem_zip hv).1,if_neg hk]
  simp
 |p::P,w::vs,i+1,m,nd,h1,h2,hk=>by
  show bindC kindOf ((p,w)::P.zip vs) m x=_
  unfold bindC
  exact bindC_get (i:=i) (List.nodup_cons.mp nd).2 (by simpa using h1) (by simpa using h2) hk
def start (N:List Str) (vs:List V):St:=vs.map some++List.replicate (N.length-vs.length) none
def cxOf (CX:CXT) (P:Program) (w:World) (K:PySem.W.Frag) (mg:Str→Option Value) (base:Heap) (N:List Str) (qual:Str) (scope:Scope) (f:Addr) (cd:Value) (A:Around) (outer:List Env) (s:Shared) (H:Hp) (E:XK):Cx where
 prog:=P
 w:=w
 K:=K
 mg:=mg
 base:=base
 A:=A.deeper (envOfC qual scope s.heap.objs.size f cd)
 N:=N
 s₀:=s
 H₀:=H
 env:=envOfC qual scope s.heap.objs.size f cd
 outer:=outer
 stack:=envOfC qual scope s.heap.objs.size f cd::outer
 ex:=[]
 calm:=true
 fn:=fun _=>true
 pn:=[]
 xe:=fun e s'=>wpAny (model P w) (A.deeper (envOfC qual scope s.heap.objs.size f cd)) (leaving (envOfC qual scope s.heap.objs.size f cd) e) (fun _ s''=>CX outer H s E e s'') (fun e' s''=>CX outer H s E e' s'') s'
theorem cell_has {sc:Scope} {n:Nat} {x:Str} (h:sc.names.lookup x=some .cell):∃ c,(cellsFrom n sc.names []).lookup x=some c:=by
 have q:=PySem.W.cellsFrom_some sc.names n [] (.inl h)
 exact Option.isSome_iff_exists.mp q
theorem inv_start {CX:CXT} {P:Program} {w:World} {K:PySem.W.Frag} {mg:Str→Option Value} {base:Heap} {N ps:List Str} {qual:Str} {scope:Scope} {f:Addr} {cd:Value} {A:Around} {outer:List Env} {s s1:Shared} {H:Hp} {E:XK} {us:List Value} {vs:List V}
  (S:FnScope N ps scope) (hd:A.handled=none) (e0:Env0 P w K mg base A outer s H) (hl:vs.length=ps.length) (r:Vals vs us)
  (x:InCallC s s.heap.objs.size (bindL (envOfC qual scope s.heap.objs.size f cd).kindOf (ps.zip us) fun _=>none) (cellsFrom (s.heap.objs.size+1) scope.names []) (bindC (envOfC qual scope s.heap.objs.size f cd).kindOf (ps.zip us) fun _=>none) s1) :
  Inv (cxOf CX P w K mg base N qual scope f cd A outer s H E) [] (start N vs) H s1:=by
 have hpl:ps.length≤N.length:=by have:=congrArg List.length S.pre;rw [List.length_take] at this;walk_at"q"
 obtain ⟨h1,tk,rfl,hk⟩:=x.done
 have noA:∀ b:Addr,b∉(cxOf CX P w K mg base N qual scope f cd A outer s H E).ex:=fun b z=>absurd (show b∈([]:List Addr) from z) (by simp)
 refine ⟨⟨e0.mod,S.kind,rfl,rfl,Nat.le_refl _,fun y z c h1 h2=>?_,fun y hy=>?_,fun y c _ h=>?_,fun _=>hd,Around.frames_deeper e0.frames,.inr ⟨rfl,rfl⟩,fun b z=>absurd z (noA b),e0.bs,e0.bsz,fun b _ _=>noA b,fun b z=>absurd z (noA b),e0.funs,e0.frf⟩,
  rfl,e0.bare,Un.kept hk,⟨_,x.toInCall.ns,fun i y v h1 h2 h3=>?_⟩,fun y c h=>⟨_,x.cell y c h⟩,e0.hok.fresh (Nat.le_refl _),fun y c h=>?_,fun p hp=>absurd (show p∈([]:List (Addr×Obj)) from hp) (by simp),e0.hok.kept hk,?_⟩
 ·exact name_of_addr x.apart (PySem.mem_of_lookup h1) (PySem.mem_of_lookup h2)
 ·have hy:scope.names.lookup y=some .cell∨scope.names.lookup y=some .free:=hy
  rcases hy with hy|hy
  ·exact cell_has hy
  ·exact absurd rfl (S.nofree _ (PySem.mem_of_lookup hy))
 ·exact Nat.le_of_lt (x.above y c (PySem.mem_of_lookup h))
 ·have hi:i<vs.length:=by
   unfold start at h2
   by_cases hi:i<vs.length
   ·exact hi
   ·rw [List.getElem?_append_right (by simpa using hi)] at h2
    rw [List.getElem?_replicate] at h2
    split at h2<;>cases h2
  have ha:vs[i]?=some v:=by
   unfold start at h2
   rw [List.getElem?_append_left (by simpa using hi),List.getElem?_map] at h2
   cases e:vs[i]? with
   |none=>rw [e] at h2;cases h2
   |some a=>rw [e] at h2;cases h2;rfl
  obtain ⟨u,hu,rv⟩:=r.get ha
  have hp:ps[i]?=some y:=by
   rw [←S.pre,List.getElem?_take_of_lt (by walk_at"q")];exact h1
  have ndP:ps.Nodup:=by rw [←S.pre];exact S.nd.sublist (List.take_sublist _ _)
  refine ⟨u,rv,?_⟩
  rcases S.par y (List.mem_of_getElem? hp) with k|k
  ·exact .inl ⟨k,bindL_get ndP hp hu k⟩
  ·obtain ⟨c,e⟩:=cell_has (n:=s.heap.objs.size+1) k
   refine .inr ⟨.inl k,c,e,?_⟩
   have q:=x.cell y c e
   rw [bindC_get ndP hp hu (by show scope.names.lookup y≠_;rw [k];decide)] at q
   exact q
 ·exact e0.hok.fresh (Nat.le_of_lt (x.above y c (PySem.mem_of_lookup h)))
 ·unfold start
  show _=N.length
  rw [List.length_append,List.length_map,List.length_replicate]
  walk_at"q"
theorem fn_of {CX:CXT} {P:Program} {w:World} {K:PySem.W.Frag} {mg:Str→Option Value} {base:Heap} {k:Nat} {f:Addr} {name qual:Str} {params:Arguments} {body:List Stmt} {scope:Scope} {dV kV doc pm cdv ct oc:Value} {an od:Option Addr}
  {osl:Array (Option Value)} {N ps:List Str} {sp:Sp} (lk:K.lookup f=some ⟨oc,od,.func (PySem.W.fnOf name qual params body scope dV kV doc pm an cdv ct),osl⟩) (hcd:PySem.W.codeIn K cdv qual=true) (S:FnScope N ps scope)
  (len:∀ vs H Q E,sp vs H Q E→vs.length=ps.length)
  (hbody:∀ (A:Around) (outer:List Env) (s:Shared) (H:Hp) (vs:List V) (Q:VK) (E:XK),Room k (A.deeper (envOfC qual scope s.heap.objs.size f cdv))→sp vs H Q E →
   ∃ t,PSs (cxOf CX P w K mg base N qual scope f cdv A outer s H E) body t∧t { nx:=fun _ H'=>Q .non H',rt:=Q } (start N vs) H) :
  FnOk P w K mg base CX (k+1) f (PySem.W.fnOf name qual params body scope dV kV doc pm an cdv ct) ps sp:=by
 refine ⟨len,fun A outer s H args us vs Q E hr e0 hb r hsp=>?_⟩
 have hl:=len _ _ _ _ hsp
 have KX:K.In s.heap:=e0.mod.kin.keeps fun b o e=>(e0.bs b o e).1
 have lim:s.heap.NoLimit:=e0.mod.nolimit.keeps fun b o e=>(e0.bs b o e).1
 have hkind:∀ y∈ps.zip us,scope.names.lookup y.1=some .local∨(scope.names.lookup y.1=some .cell∧((cellsFrom (s.heap.objs.size+1) scope.names []).lookup y.1).isSome=true):=fun ⟨n,v⟩ hy=>by
  rcases S.par n (List.of_mem_zip hy).1 with q|q
  ·exact .inl q
  ·exact .inr ⟨q,PySem.W.cellsFrom_some _ _ _ (.inl q)⟩
 refine codeAny_call_function hr.depth (KX _ _ lk) rfl S.co S.gen rfl (PySem.W.codeRec_of KX hcd) (hb _ _ _ _ ?_)
 refine wpAny_newFunctionEnv_cells S.kind hkind fun env he s1 x=>?_
 subst he
 refine ⟨lim.keeps x.toInCall.keep,codeAny_func ?_⟩
 obtain ⟨t,ht,hq⟩:=hbody A outer s H vs Q E (hr.deeper _) hsp
 have I:Inv (cxOf CX P w K mg base N qual scope f cdv A outer s H E) [] (start N vs) H s1:=inv_start S hr.hd e0 hl r x
 refine wpAny_mono (ht [] s1 (start N vs) H _ I hq) (fun fl s' hs=>?_) fun e s' hs=>hs
 have fin:∀ {σ':St} {H':Hp} {v:V} {u:Value},Inv (cxOf CX P w K mg base N qual scope f cdv A outer s H E) [] σ' H' s'→RelV v u→Q v H'→CE outer P w H s Q u s' :=
  fun {σ' H' v u} J rv q=>⟨v,H',J.os,J.bare,J.base,J.hok,rv,q⟩
 cases fl with
 |ret u =>
  obtain ⟨v,σ',H',J,rv,q⟩:=hs
  exact fin J rv q
 |next =>
  obtain ⟨σ',H',J,q⟩:=hs
  exact fin (v:=V.non) (u:=Value.none) J rfl q
 |brk =>
  obtain ⟨_,_,_,q⟩:=hs
  exact False.elim q
 |cont =>
  obtain ⟨_,_,_,q⟩:=hs
  exact False.elim q
end
section
section
variable {X:Cx} {x:Str} {p pos:Pos} {e:Expr} {es:List Expr} {t:TA} {id T:String} {r:List V→Hp→VK→Prop}
def tCB (r:List V→Hp→VK→Prop) (t:TA):TE:=fun σ H Q=>t σ H fun vs H1=>r vs H1 Q
theorem pe_callB (hc:CallR X (.builtin id) r) (hg:Gl X x) (hm:X.mg x=none) (hv:bootBuiltins x=some (.builtin id)) (ha:PA X (e::es) t) (hn:x ≠ "__name__" := by decide) (hdb:(x == ("__debug__" : Str))=false:=by decide)
  (he:starEach (e::es) X.env=(false,eval e X.env)::starEach es X.env:=by rfl) (hpl:(backTo pos (starEach es X.env)).any (·.1)=false:=by rfl):PE X (.Call (.Name x p) (e::es) [] pos) (tCB r t):=by
 intro pins s σ H Q I h
 refine wpAny_Call_Name_kw (ld_blt I hg hm hv ?_ hn hdb)
 exact PyProof.Rows.callWith_builtin1 (thn (ha pos pins s σ H _ I h) fun us s1 ⟨vs,H1,I1,r1,q1⟩=>hc pins s1 σ H1 vs us Q I1 r1 q1) he hpl
theorem pe_callTy (hc:CallR X (.type T) r) (hg:Gl X x) (hm:X.mg x=none) (hv:bootBuiltins x=some (.type T)) (ha:PA X (e::es) t) (hn:x ≠ "__name__" := by decide) (hdb:(x == ("__debug__" : Str))=false:=by decide)
  (he:starEach (e::es) X.env=(false,eval e X.env)::starEach es X.env:=by rfl) (hpl:(backTo pos (starEach es X.env)).any (·.1)=false:=by rfl):PE X (.Call (.Name x p) (e::es) [] pos) (tCB r t):=by
 intro pins s σ H Q I h
 refine wpAny_Call_Name_kw (ld_blt I hg hm hv ?_ hn hdb)
 exact PyProof.Rows.callWith_type1 (thn (ha pos pins s σ H _ I h) fun us s1 ⟨vs,H1,I1,r1,q1⟩=>hc pins s1 σ H1 vs us Q I1 r1 q1) he hpl
end
end
end L2
namespace HT
open PySem PyProof.Rows
section
section
open PySem.SeqAt
open PySem.AutoSeq1 (wpAny_loadPart')
open PySem.MeetsSeq PySem.MeetsSeq2 PySem.MeetsSeq3
end
section
variable {prog:Program} {w:World} {A:Around} {E:Value→Shared→Prop} {s:Shared}
theorem cat_tup {t b:Addr} {vs ws:List Value} {Q:Value→Shared→Prop} (ht:IsTup s.heap t vs.toArray) (hb:IsTup s.heap b ws.toArray) (hv:vs≠[])
  (h1:ws=[]→Q (.ref t) s) (h2:ws≠[]→Q (.ref s.heap.objs.size) { s with heap:=s.heap.push { cls:=.type "tuple", data:=.seq (vs++ws).toArray } })
  (hsz:vs.length+ws.length≤sizeLine):wpAny (model prog w) A (binaryOp .Add (.ref t) (.ref b)) Q E s:=by
 obtain ⟨⟨cls,dd,data,sl⟩,ho,hc,n,hd⟩:=id ht
 obtain ⟨⟨cls2,dd2,data2,sl2⟩,ho2,hc2,n2,hd2⟩:=id hb
 simp only at hc hd hc2 hd2
 subst hc hd hc2 hd2
 have e:vs.toArray++ws.toArray=(vs++ws).toArray:=by simp
 by_cases hw:ws=[]
 ·exact concat_meets ⟨_,ho,rfl⟩ ⟨_,ho2,rfl⟩ noFill_tuple_add seq_tuple_add PySem.F.slot_tuple_add PySem.F.entry_tuple_add (PySem.F.args_tuple_add_2 _ _)
   (tuple_addW1 t b vs.toArray ws.toArray n n2 dd dd2 sl sl2 (by simpa using hv) (by simp [hw])) ⟨ho,ho2,h1 hw⟩
 ·refine concat_meets ⟨_,ho,rfl⟩ ⟨_,ho2,rfl⟩ noFill_tuple_add seq_tuple_add PySem.F.slot_tuple_add PySem.F.entry_tuple_add (PySem.F.args_tuple_add_2 _ _)
   (tuple_addW2 t b vs.toArray ws.toArray n n2 dd dd2 sl sl2 (by simpa using hv) (by simpa using hw) (by rw [List.size_toArray,List.size_toArray];exact hsz)) ⟨ho,ho2,?_⟩
  rw [e]
  exact h2 hw
def sIx (n d:Nat):Option Int→Nat
 |none=>d
 |some v=>if v<0 then (v+(n:Int)).toNat else min v.toNat n
theorem sIx_none (n d:Nat):sIx n d none=d:=rfl
theorem sIx_nat (n d k:Nat):sIx n d (some (k:Int))=min k n:=by
 show (if (k:Int)<0 then ((k:Int)+(n:Int)).toNat else min (k:Int).toNat n)=min k n
 rw [if_neg (by walk_at"q"),Int.toNat_natCast]
end
end
end HT
namespace L2
open PySem PySem.Spec PyProof.Rows
section
abbrev TO:=St→Hp→(Option Int→Hp→Prop)→Prop
def PO (X:Cx) (e:Option Expr) (t:TO):Prop :=
 ∀ (pins:List (Addr×Obj)) (s:Shared) (σ:St) (H:Hp) (Q:Option Int→Hp→Prop),Inv X pins σ H s→t σ H Q →
  wpAny (model X.prog X.w) X.A (evalPart e X.env) (fun u s'=>∃ o H',Inv X pins σ H' s'∧IsPart u o∧Q o H') X.xe s
def tNoPart:TO:=fun _ H Q=>Q none H
def tPart (t:TE):TO:=fun σ H Q=>t σ H fun x H1=>OfI x H1 fun i H1=>Q (some i) H1
theorem intsAre_of {ns:List Int}:∀ {us:List Value},Vals (ns.map V.int) us→IntsAre us ns:=by
 induction ns with
 |nil=>intro us r;rw [List.map_nil] at r;cases r;exact .nil
 |cons n ns ih =>
  intro us r
  rw [List.map_cons] at r
  cases r with
  |cons r1 r2 =>
   obtain ⟨t,e⟩:=r1
   subst e
   exact .cons n t (ih r2)
section
variable {X:Cx} {e:Expr} {te:TE} {lo hi:Option Expr} {tl th:TO} {pos p2:Pos}
theorem po_none:PO X none tNoPart:=by
 intro pins s σ H Q I h
 rw [evalPart_none]
 exact wpAny_pure ⟨none,H,I,.none,h⟩
theorem po_some (h:PE X e te):PO X (some e) (tPart te):=by
 intro pins s σ H Q I hw
 rw [evalPart_some]
 refine thn (h pins s σ H _ I hw) fun u s1 ⟨x,H1,I1,r1,q1⟩=>?_
 obtain ⟨i,rfl,q⟩:=q1
 obtain ⟨t,rfl⟩:=r1
 exact ⟨some i,H1,I1,.int i t,q⟩
def SlR (X:Cx) (r:V→Option Int→Option Int→Hp→VK→Prop):Prop :=
 ∀ (pins:List (Addr×Obj)) (s:Shared) (σ:St) (H:Hp) (x:V) (v vl vu:Value) (lo hi:Option Int) (sl:Addr) (Q:VK),Inv X pins σ H s→RelV x v→s.heap.IsSliceOf sl vl vu .none→IsPart vl lo→IsPart vu hi→r x lo hi H Q →
  ∃ T id,typeLookup (.type T) "__getitem__" = pure (some (.builtin id))∧s.TypeIs v T∧wpAny (model X.prog X.w) X.A (getItem v (.ref sl)) (EP X pins σ Q) X.xe s
def tSl (r:V→Option Int→Option Int→Hp→VK→Prop) (te:TE) (tl th:TO):TE:=fun σ H Q=>te σ H fun x H1=>tl σ H1 fun l H2=>th σ H2 fun u H3=>r x l u H3 Q
theorem pe_slice {r:V→Option Int→Option Int→Hp→VK→Prop} (hr:SlR X r) (he:PE X e te) (hl:PO X lo tl) (hu:PO X hi th):PE X (.Subscript e (.Slice lo hi none p2) pos) (tSl r te tl th):=by
 intro pins s σ H Q I h
 refine Subscript_ (thn (he pins s σ H _ I h) fun v s1 ⟨x,H1,I1,r1,q1⟩=>?_)
 refine wpAny_Slice (thn (hl pins s1 σ H1 _ I1 q1) fun vl s2 ⟨l,H2,I2,pl,q2⟩=>thn (hu pins s2 σ H2 _ I2 q2) fun vu s3 ⟨u,H3,I3,pu,q3⟩=>?_)
 rw [evalPart_none]
 refine wpAny_pure ?_
 have I4:Inv X pins σ H3 { s3 with heap:=s3.heap.push { cls:=.type "slice", data:=.fields #[vl,vu,.none] } }:=I3.kept (t':=s3.toks) fun b ob q=>Heap.get?_push_of_some _ q
 obtain ⟨T,id,hT,ht,hg⟩:=hr pins { s3 with heap:=s3.heap.push { cls:=.type "slice", data:=.fields #[vl,vu,.none] } } σ H3 x v vl vu l u s3.heap.objs.size Q I4 r1 (Heap.IsSliceOf.new ..) pl pu q3
 show wpAny (model X.prog X.w) X.A (subscriptTail e (.Slice lo hi none p2) v (.ref s3.heap.objs.size)) (EP X pins σ Q) X.xe { s3 with heap:=s3.heap.push { cls:=.type "slice", data:=.fields #[vl,vu,.none] } }
 exact tail_any (ops:=[.ref s3.heap.objs.size,v]) ht hT hg (by with_unfolding_all rfl)
def cutV (xs:List V) (lo hi:Option Int):List V:=(xs.drop (HT.sIx xs.length 0 lo)).take (HT.sIx xs.length xs.length hi-HT.sIx xs.length 0 lo)
theorem cutV_length (xs:List V) (lo hi:Option Int):(cutV xs lo hi).length≤xs.length:=by
 unfold cutV
 rw [List.length_take,List.length_drop]
 walk_at"q"
def rCatT (K:PySem.W.Frag):R2:=fun x y H Q=>∃ a b xs ys,x=.ref a∧y=.ref b∧SqT K H a xs∧SqT K H b ys∧xs≠[]∧xs.length+ys.length≤sizeLine ∧
 (ys=[]→Q (.ref a) H)∧(ys≠[]→∀ p,H p=none→Q (.ref p) (upd H p (.tup (xs++ys))))
theorem Vals.nil_iff {xs:List V} {us:List Value} (r:Vals xs us):us=[]↔xs=[]:=by
 cases r with
 |nil=>simp
 |cons _ _=>simp
theorem op_catT:OpR X (binaryOp .Add) (rCatT X.K):=by
 intro pins s σ H x y v u Q I rx ry h
 obtain ⟨a,b,xs,ys,rfl,rfl,ha,hb,hx,hz,q1,q2⟩:=h
 cases rx
 cases ry
 obtain ⟨its,r1,p1,_⟩:=I.tuple ha
 obtain ⟨its2,r2,p2,_⟩:=I.tuple hb
 refine HT.cat_tup p1 p2 (fun z=>hx (r1.nil_iff.mp z)) (fun z=>⟨.ref a,H,I,rfl,q1 (r2.nil_iff.mp z)⟩) (fun z=>?_) (by rw [←r1.length,←r2.length];exact hz)
 refine ⟨.ref s.heap.objs.size,_,I.laid (t':=s.toks) (o:=.tup (xs++ys)) (fun b ob q=>Heap.get?_push_of_some _ q) (Nat.le_refl _) ?_,rfl,q2 (fun w=>z (r2.nil_iff.mpr w)) _ (I.hok.fresh (Nat.le_refl _))⟩
 exact ⟨by rw [List.length_append];exact hz,_,r1.append r2,IsTupD.new _ _⟩
end
end
section
def ixN (n:Nat) (i:Int):Option Nat:=if 0≤i then (if i<n then some i.toNat else none) else if -(n:Int)≤i then some (i+n).toNat else none
def atI {α:Type} (xs:List α) (i:Int):Option α:=(ixN xs.length i).bind fun j=>xs[j]?
theorem ixN_seq {n:Nat} {i:Int} {j:Nat} (h:ixN n i=some j):seqIndex? i n=some j∧j<n∧-(n:Int)≤i∧i<n:=by
 unfold ixN at h
 by_cases h0:0≤i
 ·rw [if_pos h0] at h
  by_cases h1:i<n
  ·rw [if_pos h1] at h
   have e:i.toNat=j:=Option.some.inj h
   exact ⟨by rw [seqIndex_of h0 h1,e],by walk_at"q", by walk_at"q", h1⟩
  ·rw [if_neg h1] at h;cases h
 ·rw [if_neg h0] at h
  by_cases h1:-(n:Int)≤i
  ·rw [if_pos h1] at h
   have e:(i+n).toNat=j:=Option.some.inj h
   exact ⟨by rw [seqIndex_neg (by walk_at"q") h1,e],by walk_at"q", h1,by walk_at"q"⟩
  ·rw [if_neg h1] at h;cases h
theorem atI_get {α:Type} {xs:List α} {i:Int} {v:α} (h:atI xs i=some v):∃ j,seqIndex? i xs.length=some j∧xs[j]?=some v∧j<xs.length∧-(xs.length:Int)≤i∧i<xs.length:=by
 unfold atI at h
 cases e:ixN xs.length i with
 |none=>rw [e] at h;cases h
 |some j =>
  rw [e] at h
  obtain ⟨h1,h2,h3,h4⟩:=ixN_seq e
  exact ⟨j,h1,h,h2,h3,h4⟩
theorem atI_nat {α:Type} {xs:List α} {j:Nat} {v:α} (h:xs[j]?=some v):atI xs (j:Int)=some v:=by
 have hj:j<xs.length:=(List.getElem?_eq_some_iff.mp h).1
 have e:ixN xs.length (j:Int)=some j:=by
  unfold ixN
  rw [if_pos (by walk_at"q"),if_pos (by walk_at"q")];simp
 unfold atI;rw [e];exact h
def PlainIx (b:Expr):Prop:=∀ o i,subscripted b false o i=operate [o,i] (getItem o i)
def IxR (X:Cx) (r:R2):Prop :=
 ∀ (value slice:Expr) (pins:List (Addr×Obj)) (s:Shared) (σ:St) (H:Hp) (x y:V) (v u:Value) (Q:VK),Inv X pins σ H s→RelV x v→RelV y u→r x y H Q →
  subscripted slice false v u=operate [v,u] (getItem v u)→wpAny (model X.prog X.w) X.A (subscriptTail value slice v u) (EP X pins σ Q) X.xe s
def MtR (X:Cx) (id:String) (r:V→List V→Hp→VK→Prop):Prop :=
 ∀ (pins:List (Addr×Obj)) (s:Shared) (σ:St) (H:Hp) (x:V) (xs:List V) (v:Value) (us:List Value) (Q:VK),Inv X pins σ H s→RelV x v→Vals xs us→r x xs H Q →
  wpAny (model X.prog X.w) X.A (call (.builtin id) (v::us)) (EP X pins σ Q) X.xe s
section
variable {X:Cx} {a b:Expr} {ta tb:TE} {pos:Pos}
theorem pe_ix {r:R2} (hr:IxR X r) (ha:PE X a ta) (hb:PE X b tb) (hs:PlainIx b):PE X (.Subscript a b pos) (tOp r ta tb):=by
 intro pins s σ H Q I h
 exact Subscript_ (binT ha hb I h fun v u s2 x y H2 I2 rx ry q=>hr a b pins s2 σ H2 x y v u Q I2 rx ry q (hs _ _))
inductive RIxLP (K:PySem.W.Frag) (x:V) (y:V) (H:Hp) (Q:VK):Prop
 |mk (p:_) (xs:_) (i:_) (v:_) (h1:x=.ref p) (h2:y=.int i) (h3:SqL K H p xs) (h4:atI xs i=some v) (h5:Q v H):RIxLP K x y H Q
def rIxL (K:PySem.W.Frag):R2:=fun x y H Q=>RIxLP K x y H Q
inductive RIxTP (K:PySem.W.Frag) (x:V) (y:V) (H:Hp) (Q:VK):Prop
 |mk (p:_) (xs:_) (i:_) (v:_) (h1:x=.ref p) (h2:y=.int i) (h3:SqT K H p xs) (h4:atI xs i=some v) (h5:Q v H):RIxTP K x y H Q
def rIxT (K:PySem.W.Frag):R2:=fun x y H Q=>RIxTP K x y H Q
theorem ix_list:IxR X (rIxL X.K):=by
 intro value slice pins s σ H x y v u Q I rx ry h hs
 obtain ⟨p,xs,i,z,rfl,rfl,hq,he,q⟩:=h
 cases rx
 obtain ⟨t,rfl⟩:=ry
 obtain ⟨its,r,pl,hz⟩:=I.list hq
 obtain ⟨j,h1,h2,h3,h4,h5⟩:=atI_get he
 obtain ⟨w,ew,rw'⟩:=r.get h2
 have hl:=r.length
 have hn:=line63
 have fin:EP X pins σ Q w s:=⟨z,H,I,rw',q⟩
 by_cases h0:0≤i
 ·have hj:i.toNat=j:=by
   rw [seqIndex_of h0 h5] at h1
   exact Option.some.inj h1
  exact item_listR pl.isList h0 (by walk_at"q") (by rw [hj];simpa using ew) fin hs
 ·have hj:(i+(its.toArray.size:Int)).toNat=j:=by
   rw [seqIndex_neg (by walk_at"q") h4] at h1
   rw [List.size_toArray,←hl]
   exact Option.some.inj h1
  exact subscriptTail_builtinR (x:=w) pl.isList.typeIs slot_list_getitem.lookup
   (wpAny_getItem_list_neg (Q:=fun r s'=>r=w∧EP X pins σ Q r s') pl.isList (by walk_at"q") (by rw [List.size_toArray]<;>walk_at"q") (by walk_at"q") (by rw [hj];simpa using ew) ⟨rfl,fin⟩) hs
theorem ix_tup:IxR X (rIxT X.K):=by
 intro value slice pins s σ H x y v u Q I rx ry h hs
 obtain ⟨p,xs,i,z,rfl,rfl,hq,he,q⟩:=h
 cases rx
 obtain ⟨t,rfl⟩:=ry
 obtain ⟨its,r,pl,hz⟩:=I.tuple hq
 obtain ⟨j,h1,h2,h3,h4,h5⟩:=atI_get he
 obtain ⟨w,ew,rw'⟩:=r.get h2
 have hl:=r.length
 have hn:=line63
 have fin:EP X pins σ Q w s:=⟨z,H,I,rw',q⟩
 exact subscriptTail_builtinR (x:=w) pl.typeIs slot_tuple_getitem.lookup
  (getItem_tuple (j:=j) (Q:=fun r s'=>r=w∧EP X pins σ Q r s') pl (by walk_at"q") (by walk_at"q") (by rw [List.size_toArray,←hl];exact h1) (by simpa using ew) ⟨rfl,fin⟩) hs
theorem mapSeq_set (its:List Value) (n j:Nat) (u:Value):Obj.mapSeq (·.setIfInBounds j u) { cls:=.type "list", data:=.seq its.toArray n }={ cls:=.type "list", data:=.seq (its.set j u).toArray n }:=by
 simp [Obj.mapSeq]
theorem Inv.lst {pins:List (Addr×Obj)} {σ:St} {H:Hp} {s:Shared} {p:Addr} {xs:List V} (I:Inv X pins σ H s) (h:H p=some (.lst xs)) :
  ∃ (its:List Value) (n:Nat),Vals xs its∧s.heap.get? p=some { cls:=.type "list", data:=.seq its.toArray n }∧xs.length≤sizeLine:=by
 obtain ⟨z,its,n,r,e⟩:=I.hok p _ h
 exact ⟨its,n,r,e,z⟩
theorem Inv.lstUpd {pins:List (Addr×Obj)} {σ:St} {H:Hp} {s:Shared} {p:Addr} {xs ys:List V} {its its':List Value} {n n':Nat} {f:Obj→Obj} (I:Inv X pins σ H s) (h:H p=some (.lst xs))
  (ho:s.heap.get? p=some { cls:=.type "list", data:=.seq its.toArray n }) (hf:f { cls:=.type "list", data:=.seq its.toArray n }={ cls:=.type "list", data:=.seq its'.toArray n' }) (r:Vals ys its') (hz:ys.length≤sizeLine) (t:Nat) :
  Inv X pins σ (upd H p (.lst ys)) { s with heap:=s.heap.update p f,toks:=t }:=by
 have e:(s.heap.update p f).get? p=some { cls:=.type "list", data:=.seq its'.toArray n' }:=by
  rw [Heap.get?_update_self f ho (by rw [hf]<;>rfl),hf]
 refine I.write (x:=p) (e:=p) (by rw [h];trivial) (.inl rfl) (fun b u hb q=>(Heap.get?_update_other _ _ (Ne.symm hb)).trans q) ⟨_,e⟩ ?_
 exact ⟨hz,its',n',r,e⟩
inductive RSetLP (o:V) (i:V) (v:V) (H:Hp) (Q:Hp→Prop):Prop
 |mk (p:_) (xs:_) (k:_) (j:_) (h1:o=.ref p) (h2:i=.int k) (h3:H p=some (.lst xs)) (h4:ixN xs.length k=some j) (h5:Q (upd H p (.lst (xs.set j v)))):RSetLP o i v H Q
def rSetL:V→V→V→Hp→(Hp→Prop)→Prop:=fun o i v H Q=>RSetLP  o i v H Q
theorem set_list:PSet X rSetL:=by
 intro pins s σ H o i v ov iv u Q I ro ri rv h
 obtain ⟨p,xs,k,j,rfl,rfl,hp,hj,q⟩:=h
 cases ro
 obtain ⟨t,rfl⟩:=ri
 obtain ⟨its,n,r,ho,hz⟩:=I.lst hp
 obtain ⟨h1,h2,h3,h4⟩:=ixN_seq hj
 have hl:=r.length
 have hn:=line63
 have I':Inv X pins σ (upd H p (.lst (xs.set j v))) { s with heap:=s.heap.update p (Obj.mapSeq (·.setIfInBounds j u)) } :=
  I.lstUpd hp ho (mapSeq_set its n j u) (r.set rv j) (by rw [List.length_set];exact hz) s.toks
 by_cases h0:0≤k
 ·have hk:k.toNat=j:=by
   rw [seqIndex_of h0 h4] at h1
   exact Option.some.inj h1
  exact PySem.W.ki_setAt ho h0 (by walk_at"q") (by rw [List.size_toArray,←hl];exact h4) (by rw [hk];exact ⟨_,I',q⟩)
 ·have hk:(k+(its.toArray.size:Int)).toNat=j:=by
   rw [seqIndex_neg (by walk_at"q") h3] at h1
   rw [List.size_toArray,←hl]
   exact Option.some.inj h1
  exact PySem.W.ki_setBack ho (by walk_at"q") (by rw [List.size_toArray,←hl];exact h3) (by walk_at"q") (by rw [hk];exact ⟨_,I',q⟩)
theorem slice_bounds (lo hi:Option Int) (n:Nat):(sliceBounds lo hi none n).1=((HT.sIx n 0 lo:Nat):Int)∧(sliceBounds lo hi none n).2.1=((HT.sIx n n hi:Nat):Int)∧(sliceBounds lo hi none n).2.2=1:=by
 refine ⟨?_,?_,rfl⟩
 ·cases lo with
  |none=>simp [sliceBounds,HT.sIx]
  |some i =>
   simp only [sliceBounds,HT.sIx,Option.getD_none,show (1:Int)>0 by decide,if_true]
   by_cases h:i<0
   ·simp only [h,if_true]<;>walk_at"q"
   ·simp only [h,if_false]<;>walk_at"q"
 ·cases hi with
  |none=>simp [sliceBounds,HT.sIx]
  |some i =>
   simp only [sliceBounds,HT.sIx,Option.getD_none,show (1:Int)>0 by decide,if_true]
   by_cases h:i<0
   ·simp only [h,if_true]<;>walk_at"q"
   ·simp only [h,if_false]<;>walk_at"q"
theorem slicePick_cut (its:List Value) (lo hi:Option Int):slicePick its.toArray lo hi none=((its.drop (HT.sIx its.length 0 lo)).take (HT.sIx its.length its.length hi-HT.sIx its.length 0 lo)).toArray:=by
 obtain ⟨h1,h2,h3⟩:=slice_bounds lo hi its.toArray.size
 unfold slicePick
 rw [h1,h2,h3]
 simp only [sliceRange_one,pick_run,List.size_toArray]<;>rfl
inductive RSlLP (K:PySem.W.Frag) (x:V) (lo:Option Int) (hi:Option Int) (H:Hp) (Q:VK):Prop
 |mk (a:_) (xs:_) (h1:x=.ref a) (h2:SqL K H a xs) (h3:∀ p,H p=none→Q (.ref p) (upd H p (.lst (cutV xs lo hi)))):RSlLP K x lo hi H Q
def rSlL (K:PySem.W.Frag):V→Option Int→Option Int→Hp→VK→Prop:=fun x lo hi H Q=>RSlLP K x lo hi H Q
theorem sl_list:SlR X (rSlL X.K):=by
 intro pins s σ H x v vl vu lo hi sl Q I rx hs pl pu h
 obtain ⟨a,xs,rfl,hx,q⟩:=h
 cases rx
 obtain ⟨its,r,ht,hz⟩:=I.list hx
 have hlen:=r.length
 refine ⟨"list", _,slot_list_getitem.lookup,ht.isList.typeIs,?_⟩
 refine wpAny_getItem_list_slice ht.isList hs pl pu .none (by simp) ?_ (by rw [List.size_toArray]<;>walk_at"q")
 rw [slicePick_cut,←hlen]
 refine ⟨.ref s.heap.objs.size,_,I.laid (t':=s.toks) (o:=.lst (cutV xs lo hi)) (fun b ob q=>Heap.get?_push_of_some _ q) (Nat.le_refl _) ?_,rfl,q _ (I.hok.fresh (Nat.le_refl _))⟩
 exact ⟨Nat.le_trans (cutV_length xs lo hi) hz,_,0,(r.drop (HT.sIx xs.length 0 lo)).take (HT.sIx xs.length xs.length hi-HT.sIx xs.length 0 lo),Heap.get?_push_size _ rfl⟩
def flatV:V→Bool
 |.non=>true
 |.bl _=>true
 |.int _=>true
 |.str _=>true
 |_=>false
def eqV:V→V→Bool
 |.non,.non=>true
 |.bl a,.bl b=>a == b
 |.bl a,.int b=>(if a then 1 else 0) == b
 |.int a,.bl b=>a == (if b then 1 else 0)
 |.int a,.int b=>a == b
 |.str a,.str b=>a == b
 |_,_=>false
theorem eqAt_V {A:Around} {s:Shared} {y x:V} {u v:Value} (ry:RelV y u) (rx:RelV x v) (fy:flatV y=true) (fx:flatV x=true):SeqAt.EqAt A s u v (eqV y x):=by
 cases y with
 |non =>
  cases ry
  cases x with
  |non=>cases rx;exact SeqAt.EqAt.same _
  |bl b=>cases rx;exact SeqAt.EqAt.none_bool b
  |int b=>obtain ⟨t,rfl⟩:=rx;exact SeqAt.EqAt.none_int b t
  |str b=>obtain ⟨t,rfl⟩:=rx;exact SeqAt.EqAt.none_str b t
  |_=>exact absurd (show false=true from fx) Bool.false_ne_true
 |bl a =>
  cases ry
  cases x with
  |non=>cases rx;exact SeqAt.EqAt.bool_none a
  |bl b=>cases rx;exact SeqAt.EqAt.bool_bool a b
  |int b=>obtain ⟨t,rfl⟩:=rx;exact SeqAt.EqAt.bool_int a b t
  |str b=>obtain ⟨t,rfl⟩:=rx;exact SeqAt.EqAt.bool_str a b t
  |_=>exact absurd (show false=true from fx) Bool.false_ne_true
 |int a =>
  obtain ⟨t',rfl⟩:=ry
  cases x with
  |non=>cases rx;exact SeqAt.EqAt.int_none a t'
  |bl b=>cases rx;exact SeqAt.EqAt.int_bool a t' b
  |int b=>obtain ⟨t,rfl⟩:=rx;exact SeqAt.EqAt.int_int a t' b t
  |str b=>obtain ⟨t,rfl⟩:=rx;exact SeqAt.EqAt.int_str a t' b t
  |_=>exact absurd (show false=true from fx) Bool.false_ne_true
 |str a =>
  obtain ⟨t',rfl⟩:=ry
  cases x with
  |non=>cases rx;exact SeqAt.EqAt.str_none a t'
  |bl b=>cases rx;exact SeqAt.EqAt.str_bool a t' b
  |int b=>obtain ⟨t,rfl⟩:=rx;exact SeqAt.EqAt.str_int a t' b t
  |str b=>obtain ⟨t,rfl⟩:=rx;exact SeqAt.EqAt.str_str a t' b t
  |_=>exact absurd (show false=true from fx) Bool.false_ne_true
 |_=>exact absurd (show false=true from fy) Bool.false_ne_true
def eqU (x:V) (u:Value):Bool:=match u with
 |.none=>eqV .non x
 |.bool b=>eqV (.bl b) x
 |.int i _=>eqV (.int i) x
 |.str z _=>eqV (.str z) x
 |_=>false
theorem eqU_of {x y:V} {u:Value} (r:RelV y u) (f:flatV y=true):eqU x u=eqV y x:=by
 cases y with
 |non=>cases r;rfl
 |bl b=>cases r;rfl
 |int i=>obtain ⟨t,rfl⟩:=r;rfl
 |str z=>obtain ⟨t,rfl⟩:=r;rfl
 |_=>exact absurd (show false=true from f) Bool.false_ne_true
theorem any_eqU {x:V}:∀ {xs:List V} {us:List Value},Vals xs us→xs.all flatV=true→us.any (eqU x)=xs.any fun y=>eqV y x
 |_,_,.nil,_=>rfl
 |y::xs,u::us,.cons r t,f=>by
  rw [List.all_cons,Bool.and_eq_true] at f
  rw [List.any_cons,List.any_cons,eqU_of r f.1,any_eqU t f.2]
theorem mem_eqAt {A:Around} {s:Shared} {x:V} {v:Value} (rx:RelV x v) (fx:flatV x=true):∀ {xs:List V} {us:List Value},Vals xs us→xs.all flatV=true→∀ u∈us,SeqAt.EqAt A s u v (eqU x u)
 |_,_,.nil,_=>fun u hu=>by cases hu
 |y::xs,u::us,.cons r t,f=>fun u' hu=>by
  rw [List.all_cons,Bool.and_eq_true] at f
  rcases List.mem_cons.mp hu with rfl|hu
  ·rw [eqU_of r f.1];exact eqAt_V r rx f.1 fx
  ·exact mem_eqAt rx fx t f.2 u' hu
def inV (x:V) (xs:List V):Bool:=xs.any fun y=>eqV y x
inductive RInP (K:PySem.W.Frag) (neg:Bool) (x:V) (y:V) (H:Hp) (Q:VK):Prop
 |mk (p:_) (xs:_) (h1:y=.ref p) (h2:(SqL K H p xs∨SqT K H p xs)) (h3:flatV x=true) (h4:xs.all flatV=true) (h5:Q (.bl (if neg then !inV x xs else inV x xs)) H):RInP K neg x y H Q
def rIn (K:PySem.W.Frag) (neg:Bool):R2:=fun x y H Q=>RInP K neg x y H Q
theorem op_in_seq:OpR X (compareOp .In) (rIn X.K false):=by
 intro pins s σ H x y v u Q I rx ry h
 obtain ⟨p,xs,rfl,hq,fx,fs,q⟩:=h
 cases ry
 rcases hq with hq|hq
 ·obtain ⟨its,r,pl,hz⟩:=I.list hq
  refine SeqAt.in_listAt (eqU x) pl.isList (fun w hw=>mem_eqAt rx fx r fs w (by simpa using hw)) ⟨.bl _,H,I,rfl,?_⟩
  rw [show its.toArray.any (eqU x)=its.any (eqU x) by simp,any_eqU r fs]
  exact q
 ·obtain ⟨its,r,pl,hz⟩:=I.tuple hq
  refine SeqAt.in_tupleAt (eqU x) pl (fun w hw=>mem_eqAt rx fx r fs w (by simpa using hw)) ⟨.bl _,H,I,rfl,?_⟩
  rw [show its.toArray.any (eqU x)=its.any (eqU x) by simp,any_eqU r fs]
  exact q
theorem op_notIn_seq:OpR X (compareOp .NotIn) (rIn X.K true):=by
 intro pins s σ H x y v u Q I rx ry h
 obtain ⟨p,xs,rfl,hq,fx,fs,q⟩:=h
 cases ry
 rcases hq with hq|hq
 ·obtain ⟨its,r,pl,hz⟩:=I.list hq
  refine SeqAt.notIn_listAt (eqU x) pl.isList (fun w hw=>mem_eqAt rx fx r fs w (by simpa using hw)) ⟨.bl _,H,I,rfl,?_⟩
  rw [show its.toArray.any (eqU x)=its.any (eqU x) by simp,any_eqU r fs]
  exact q
 ·obtain ⟨its,r,pl,hz⟩:=I.tuple hq
  refine SeqAt.notIn_tupleAt (eqU x) pl (fun w hw=>mem_eqAt rx fx r fs w (by simpa using hw)) ⟨.bl _,H,I,rfl,?_⟩
  rw [show its.toArray.any (eqU x)=its.any (eqU x) by simp,any_eqU r fs]
  exact q
inductive P_call_len_seq (K:PySem.W.Frag) (xs:List V) (H:Hp) (Q:VK):Prop
 |mk (p:_) (ys:_) (h1:xs=[.ref p]) (h2:(SqL K H p ys∨SqT K H p ys)) (h3:Q (.int ys.length) H):P_call_len_seq K xs H Q
theorem call_len_seq:CallR X (.builtin "len") (P_call_len_seq X.K):=by
 intro pins s σ H xs us Q I r h
 obtain ⟨p,ys,rfl,hq,q⟩:=h
 obtain ⟨u,rfl,rx⟩:=vals1 r
 cases rx
 have hn:=line63
 rcases hq with hq|hq
 ·obtain ⟨its,r',pl,hz⟩:=I.list hq
  have hlen:=r'.length
  exact Calls.call_len_list pl.isList (by simp only [List.size_toArray]<;>walk_at"q") ⟨.int ys.length,H,I.tok _,⟨s.toks+1,by rw [List.size_toArray,hlen]⟩,q⟩
 ·obtain ⟨its,r',pl,hz⟩:=I.tuple hq
  have hlen:=r'.length
  exact len_tuple pl (by simp only [List.size_toArray]<;>walk_at"q") ⟨.int ys.length,H,I.tok _,⟨s.toks+1,by rw [List.size_toArray,hlen]⟩,q⟩
inductive P_call_list_of (K:PySem.W.Frag) (xs:List V) (H:Hp) (Q:VK):Prop
 |mk (p:_) (ys:_) (h1:xs=[.ref p]) (h2:(SqL K H p ys∨SqT K H p ys)) (h3:∀ l,H l=none→Q (.ref l) (upd H l (.lst ys))):P_call_list_of K xs H Q
theorem call_list_of:CallR X (.type "list") (P_call_list_of X.K):=by
 intro pins s σ H xs us Q I r h
 obtain ⟨p,ys,rfl,hq,q⟩:=h
 obtain ⟨u,rfl,rx⟩:=vals1 r
 cases rx
 have fin:∀ (its:List Value),Vals ys its→ys.length≤sizeLine→∀ (h':Heap) (c':Nat),(∀ b o',s.heap.get? b=some o'→h'.get? b=some o') →
   h'.get? s.heap.objs.size=some { cls:=.type "list", dict:=none,data:=.seq its.toArray c',slots:=#[] }→EP X pins σ Q (.ref s.heap.objs.size) { s with heap:=h' }:=fun its r' hz h' c' kp e =>
  ⟨.ref s.heap.objs.size,_,I.laid (t':=s.toks) kp (Nat.le_refl _) (show ObjOk X.prog X.w _ h' _ (.lst ys) from ⟨hz,its,c',r',e⟩),rfl,q _ (I.hok.fresh (Nat.le_refl _))⟩
 rcases hq with hq|hq
 ·obtain ⟨its,r',pl,hz⟩:=I.list hq
  have hlen:=r'.length
  obtain ⟨o,ho,hc,n,hd⟩:=pl.isList
  exact call_list_seq p (.inl rfl) ho hc hd (fun h' c' kp e=>fin its r' hz h' c' kp e) (by simp only [List.size_toArray]<;>walk_at"q")
 ·obtain ⟨its,r',pl,hz⟩:=I.tuple hq
  have hlen:=r'.length
  obtain ⟨o,ho,hc,n,hd⟩:=pl
  exact call_list_seq p (.inr rfl) ho hc hd (fun h' c' kp e=>fin its r' hz h' c' kp e) (by simp only [List.size_toArray]<;>walk_at"q")
inductive P_call_tuple_of (K:PySem.W.Frag) (xs:List V) (H:Hp) (Q:VK):Prop
 |mk (p:_) (ys:_) (h1:xs=[.ref p]) (h2:((SqL K H p ys∧∀ l,H l=none→Q (.ref l) (upd H l (.tup ys)))∨(SqT K H p ys∧Q (.ref p) H))):P_call_tuple_of K xs H Q
theorem call_tuple_of:CallR X (.type "tuple") (P_call_tuple_of X.K):=by
 intro pins s σ H xs us Q I r h
 obtain ⟨p,ys,rfl,h⟩:=h
 obtain ⟨u,rfl,rx⟩:=vals1 r
 cases rx
 rcases h with ⟨hq,q⟩|⟨hq,q⟩
 ·obtain ⟨its,r',pl,hz⟩:=I.list hq
  have hlen:=r'.length
  refine call_tuple_list pl.isList (fun h' kp=>?_) (by simp only [List.size_toArray]<;>walk_at"q")
  have I1:Inv X pins σ H { s with heap:=h' }:=I.kept (t':=s.toks) kp
  have I2:Inv X pins σ (upd H h'.objs.size (.tup ys)) { s with heap:=h'.push { cls:=.type "tuple", data:=.seq its.toArray } } :=
   I1.laid (t':=s.toks) (fun b o e=>Heap.get?_push_of_some _ e) (Nat.le_refl _) (show ObjOk X.prog X.w _ _ _ (.tup ys) from ⟨hz,its,r',IsTupD.new _ _⟩)
  exact ⟨.ref h'.objs.size,_,I2,rfl,q _ (I1.hok.fresh (Nat.le_refl _))⟩
 ·obtain ⟨its,r',pl,hz⟩:=I.tuple hq
  exact call_tuple_same pl ⟨.ref p,H,I,rfl,q⟩
def tyV (K:PySem.W.Frag) (T:String) (x:V) (H:Hp):Prop:=match x with
 |.str _=>T = "str"
 |.int _=>T = "int"
 |.ref p=>(T = "list" ∧ ∃ xs,SqL K H p xs)∨(T = "tuple" ∧ ((∃ o,K.lookup p=some o∧o.cls=.type "tuple" ∧ o.dict=none)∨∃ xs,H p=some (.tup xs))) ∨
   (T = "dict" ∧ ((∃ kvs,H p=some (.dK kvs))∨∃ kvs,H p=some (.dT kvs)))∨(T = "set" ∧ ∃ S n,H p=some (.set S n))
 |_=>False
theorem tyV_is {pins:List (Addr×Obj)} {σ:St} {H:Hp} {s:Shared} {T:String} {x:V} {v:Value} (I:Inv X pins σ H s) (r:RelV x v) (ty:tyV X.K T x H) :
  s.TypeIs v T∧∀ a,v=.ref a→∃ ob,s.heap.get? a=some ob∧ob.dict=none:=by
 cases x with
 |str z =>
  obtain ⟨t,rfl⟩:=r
  cases (show T = "str" from ty)
  exact ⟨typeIs_str s z t,fun _ e=>nomatch e⟩
 |int i =>
  obtain ⟨t,rfl⟩:=r
  cases (show T = "int" from ty)
  exact ⟨typeIs_int s i t,fun _ e=>nomatch e⟩
 |ref p =>
  cases r
  rcases ty with ⟨rfl,xs,hq⟩|⟨rfl,⟨o,hk,hc,hd⟩|⟨xs,hk⟩⟩|⟨rfl,hk⟩|⟨rfl,S,n,hk⟩
  ·obtain ⟨its,_,pl,_⟩:=I.list hq
   refine ⟨pl.isList.typeIs,fun a e=>?_⟩
   cases e
   obtain ⟨o,n,e,c,hd,_⟩:=pl
   exact ⟨o,e,hd⟩
  ·refine ⟨⟨o,I.kIn p o hk,hc⟩,fun a e=>?_⟩
   cases e
   exact ⟨o,I.kIn _ o hk,hd⟩
  ·obtain ⟨_,_,_,o,e1,c1,n,d1,dn⟩:=(show ObjOk X.prog X.w H s.heap p (.tup xs) from I.hok p _ hk)
   refine ⟨⟨o,e1,c1⟩,fun a e=>?_⟩
   cases e
   exact ⟨o,e1,dn⟩
  ·have z:∃ o,s.heap.get? p=some o∧o.ExactDict:=by
    rcases hk with ⟨kvs,hk⟩|⟨kvs,hk⟩
    ·obtain ⟨_,_,_,_,o,_,_,e,ex,_⟩:=I.hok p _ hk
     exact ⟨o,e,ex⟩
    ·obtain ⟨_,_,_,_,o,_,_,e,ex,_⟩:=I.hok p _ hk
     exact ⟨o,e,ex⟩
   obtain ⟨o,e,ex⟩:=z
   refine ⟨⟨o,e,ex.1⟩,fun a e2=>?_⟩
   cases e2
   exact ⟨o,e,ex.2.1⟩
  ·obtain ⟨o,_,_,_,e,ex,_⟩:=I.hok p _ hk
   refine ⟨⟨o,e,ex.1⟩,fun a e2=>?_⟩
   cases e2
   exact ⟨o,e,ex.2.1⟩
 |_=>exact False.elim ty
def tBM (K:PySem.W.Frag) (T:String) (r:V→List V→Hp→VK→Prop) (to:TE) (t:TA):TE:=fun σ H Q=>to σ H fun x H1=>tyV K T x H1∧t σ H1 fun xs H2=>r x xs H2 Q
variable {o e:Expr} {es:List Expr} {to:TE} {t:TA} {name:Str} {apos cpos:Pos} {T id:String} {r:V→List V→Hp→VK→Prop}
theorem pe_bm (pa:PlainAttrs T) (slot:Slot T name id) (hty:typeOf (.builtin id)=pure (.type "method_descriptor")) (hm:MtR X id r) (ho:PE X o to) (ha:PA X (e::es) t)
  (hbase:attributeBase o name X.env (eval o X.env)=eval o X.env:=by rfl)
  (hfew:((backTo cpos (starEach (e::es) X.env)).all (fun x=>!x.1) && (backToKw cpos (keywordEach [] X.env)).all (fun x=>x.1.isSome)
   && decide ((e::es).length+([]:List Keyword).length+(if ([]:List Keyword).isEmpty then 0 else 1)<30))=true:=by rfl)
  (hline:(apos.endLine == cpos.line)=true:=by rfl) (hs:starEach (e::es) X.env=(false,eval e X.env)::starEach es X.env:=by rfl) (hplain:(backTo cpos (starEach es X.env)).any (·.1)=false:=by rfl) :
  PE X (.Call (.Attribute o name apos) (e::es) [] cpos) (tBM X.K T r to t):=by
 intro pins s σ H Q I h
 refine wpAny_Call_method_late hbase hfew hline rfl (thn (ho pins s σ H _ I h) fun v s1 ⟨x,H1,I1,r1,ty,q1⟩=>?_)
 obtain ⟨h1,h2⟩:=tyV_is I1 r1 ty
 refine ⟨T,id,pa,slot,hty,h1,h2,?_⟩
 have hA:=ha cpos pins s1 σ H1 _ I1 q1
 rw [hs] at hA ⊢
 refine Calls.callWith_builtin (by show (false || (backTo cpos (starEach es X.env)).any (·.1))=false;rw [hplain]<;>rfl) (Calls.evalArgs_plain ?_)
 exact thn hA fun us s2 ⟨vs,H2,I2,r2,q2⟩=>hm pins s2 σ H2 x vs v us Q I2 r1 r2 q2
/- xs.append(e),list.index on a module's tuple .. are MtR facts of 06m -/
end
end
section
def MtM (X:Cx) (id:String) (r:V→List V→Hp→VK→Prop):Prop :=
 ∀ (pins:List (Addr×Obj)) (s:Shared) (σ:St) (H:Hp) (x:V) (xs:List V) (v:Value) (us:List Value) (Q:VK),Inv X pins σ H s→RelV x v→Vals xs us→r x xs H Q →
  wpAny (model X.prog X.w) X.A (call (.builtin id) (v::us)) (EP X pins σ Q) X.xe s
theorem Vals.one:∀ {x:V} {us:List Value},Vals [x] us→∃ u,us=[u]∧RelV x u
 |_,_,.cons r .nil=>⟨_,rfl,r⟩
theorem Vals.two:∀ {x y:V} {us:List Value},Vals [x,y] us→∃ u v,us=[u,v]∧RelV x u∧RelV y v
 |_,_,_,.cons r (.cons q .nil)=>⟨_,_,rfl,r,q⟩
theorem Vals.rep {xs:List V} {us:List Value} (h:Vals xs us):∀ k:Nat,Vals (List.replicate k xs).flatten (List.replicate k us).flatten
 |0=>.nil
 |k+1=>by
  rw [List.replicate_succ,List.replicate_succ,List.flatten_cons,List.flatten_cons]
  exact Vals.append h (Vals.rep h k)
theorem foldl_rep (its:List Value):∀ (k:Nat) (acc:List Value),
  List.foldl (fun x1 x2=>x1++x2) acc.toArray (List.replicate k its.toArray)=(acc++(List.replicate k its).flatten).toArray
 |0,acc=>by simp
 |k+1,acc=>by
  have e:acc.toArray++its.toArray=(acc++its).toArray:=by simp
  have e2:(acc++its)++(List.replicate k its).flatten=acc++(List.replicate (k+1) its).flatten:=by
   rw [List.replicate_succ,List.flatten_cons,List.append_assoc]
  rw [←e2,←foldl_rep its k (acc++its),←e,List.replicate_succ,List.foldl_cons]
section
variable {X:Cx} {pins:List (Addr×Obj)} {σ:St} {H:Hp} {s:Shared} {l b:Addr} {xs ys zs:List V}
theorem Inv.lset {its its':List Value} {n:Nat} {f:Array Value→Array Value} {t':Nat} (I:Inv X pins σ H s) (hH:H l=some (.lst xs))
  (e:s.heap.get? l=some { cls:=.type "list", data:=.seq its.toArray n }) (hf:f its.toArray=its'.toArray) (hv:Vals ys its') (hz:ys.length≤sizeLine) :
  Inv X pins σ (upd H l (.lst ys)) { s with heap:=s.heap.update l (Obj.mapSeq f),toks:=t' }:=by
 have q:=PySem.IsL.update e f
 rw [hf] at q
 refine I.write (x:=l) (e:=l) (by rw [hH];exact trivial) (.inl rfl) (fun b' u hb hu=>(Heap.get?_update_other s.heap (Obj.mapSeq f) (Ne.symm hb)).trans hu) ⟨_,q⟩ ?_
 exact ⟨hz,its',_,hv,q⟩
theorem Inv.lnew {its:List Value} {t':Nat} (I:Inv X pins σ H s) (hv:Vals ys its) (hz:ys.length≤sizeLine) :
  Inv X pins σ (upd H s.heap.objs.size (.lst ys)) { s with heap:=s.heap.push { cls:=.type "list", data:=.seq its.toArray },toks:=t' } :=
 I.laid (fun _ _ q=>Heap.get?_push_of_some _ q) (Nat.le_refl _) ⟨hz,its,0,hv,Heap.get?_push_size _ rfl⟩
theorem Inv.fresh (I:Inv X pins σ H s):H s.heap.objs.size=none:=I.hok.fresh (Nat.le_refl _)
theorem Inv.lstM (I:Inv X pins σ H s) (hH:H l=some (.lst xs)):xs.length≤sizeLine∧∃ (its:List Value) (n:Nat),Vals xs its∧xs.length=its.length∧s.heap.get? l=some { cls:=.type "list", data:=.seq its.toArray n }:=by
 obtain ⟨z,its,n,r,e⟩:=I.hok l _ hH
 exact ⟨z,its,n,r,r.length,e⟩
theorem notLongL {n:Nat} (h:n≤sizeLine):Builtin.List.listTooLong n=false:=by
 unfold Builtin.List.listTooLong
 exact decide_eq_false (by walk_at"q")
end
section
variable {X:Cx}
inductive RAppendP (x:V) (vs:List V) (H:Hp) (Q:VK):Prop
 |mk (l:_) (xs:_) (y:_) (h1:x=.ref l) (h2:vs=[y]) (h3:H l=some (.lst xs)) (h4:xs.length<sizeLine) (h5:Q .non (upd H l (.lst (xs++[y])))):RAppendP x vs H Q
def rAppend:V→List V→Hp→VK→Prop:=fun x vs H Q=>RAppendP  x vs H Q
theorem mt_append:MtM X "list.append" rAppend:=by
 intro pins s σ H x vs v us Q I rx rv h
 obtain ⟨l,xs,y,rfl,rfl,hH,hz,q⟩:=h
 cases rx
 obtain ⟨u,rfl,ru⟩:=rv.one
 obtain ⟨z,its,n,r,hl,e⟩:=I.lstM hH
 refine call_meets F.slot_list_append ⟨_,e,rfl⟩ F.entry_list_append (F.args_list_append_2 _ _) (PySem.list_append l its.toArray n u (by rw [List.size_toArray];walk_at"q")) ⟨e,?_⟩
 refine ⟨.non,_,I.lset (its':=its++[u]) hH e (by simp) (r.append (.cons ru .nil)) ?_,rfl,q⟩
 rw [List.length_append,List.length_singleton]
 walk_at"q"
inductive RExtendP (x:V) (vs:List V) (H:Hp) (Q:VK):Prop
 |mk (l:_) (b:_) (xs:_) (zs:_) (h1:x=.ref l) (h2:vs=[.ref b]) (h3:H l=some (.lst xs)) (h4:H b=some (.lst zs)) (h5:xs.length+zs.length≤sizeLine) (h6:Q .non (upd H l (.lst (xs++zs)))):RExtendP x vs H Q
def rExtend:V→List V→Hp→VK→Prop:=fun x vs H Q=>RExtendP  x vs H Q
theorem mt_extend:MtM X "list.extend" rExtend:=by
 intro pins s σ H x vs v us Q I rx rv h
 obtain ⟨l,b,xs,zs,rfl,rfl,hH,hB,hz,q⟩:=h
 cases rx
 obtain ⟨u,rfl,ru⟩:=rv.one
 cases ru
 obtain ⟨z,its,n,r,hl,e⟩:=I.lstM hH
 obtain ⟨z2,its2,n2,r2,hl2,e2⟩:=I.lstM hB
 have hsz:its.toArray.size+its2.toArray.size≤sizeLine:=by rw [List.size_toArray,List.size_toArray];walk_at"q"
 have hlong:¬ (!its.toArray.isEmpty && Builtin.List.listTooLong (its.toArray.size+its2.toArray.size))=true:=by
  rw [notLongL hsz,Bool.and_false]
  exact Bool.false_ne_true
 refine call_meets F.slot_list_extend ⟨_,e,rfl⟩ F.entry_list_extend (F.args_list_extend_2 _ _)
  (AutoSeq1.list_extend_list_list_0 l its.toArray n b its2.toArray n2 hlong (by rw [List.size_toArray];walk_at"q") (by walk_at"q")) ⟨e,e2,?_⟩
 refine ⟨.non,_,I.lset (its':=its++its2) hH e (by simp) (r.append r2) ?_,rfl,q⟩
 rw [List.length_append]
 walk_at"q"
inductive RCatP (x:V) (y:V) (H:Hp) (Q:VK):Prop
 |mk (l:_) (b:_) (xs:_) (zs:_) (h1:x=.ref l) (h2:y=.ref b) (h3:H l=some (.lst xs)) (h4:H b=some (.lst zs)) (h5:xs.length+zs.length≤sizeLine) (h6:∀ p,H p=none→Q (.ref p) (upd H p (.lst (xs++zs)))):RCatP x y H Q
def rCat:R2:=fun x y H Q=>RCatP  x y H Q
theorem op_cat:OpR X (binaryOp .Add) rCat:=by
 intro pins s σ H x y v u Q I rx ry h
 obtain ⟨l,b,xs,zs,rfl,rfl,hH,hB,hz,q⟩:=h
 cases rx
 cases ry
 obtain ⟨z,its,n,r,hl,e⟩:=I.lstM hH
 obtain ⟨z2,its2,n2,r2,hl2,e2⟩:=I.lstM hB
 refine PySem.P.add_list e e2 ?_ (by rw [List.size_toArray,List.size_toArray];walk_at"q")
 have ea:its.toArray++its2.toArray=(its++its2).toArray:=by simp
 rw [ea]
 exact ⟨.ref _,_,I.lnew (t':=s.toks) (r.append r2) (by rw [List.length_append];walk_at"q"),rfl,q _ I.fresh⟩
inductive RRepP (x:V) (y:V) (H:Hp) (Q:VK):Prop
 |mk (l:_) (k:_) (xs:_) (h1:x=.ref l) (h2:y=.int k) (h3:H l=some (.lst xs)) (h4:-(2 ^ 63)≤k) (h5:k<2 ^ 63) (h6:xs.length*k.toNat≤sizeLine) (h7:∀ p,H p=none→Q (.ref p) (upd H p (.lst (List.replicate k.toNat xs).flatten))):RRepP x y H Q
def rRep:R2:=fun x y H Q=>RRepP  x y H Q
theorem len_rep {α:Type} (xs:List α) (k:Nat):(List.replicate k xs).flatten.length=k*xs.length:=by
 induction k with
 |zero=>simp
 |succ k ih=>rw [List.replicate_succ,List.flatten_cons,List.length_append,ih,Nat.succ_mul,Nat.add_comm]
theorem op_rep:OpR X (binaryOp .Mult) rRep:=by
 intro pins s σ H x y v u Q I rx ry h
 obtain ⟨l,k,xs,rfl,rfl,hH,h1,h2,hz,q⟩:=h
 cases rx
 obtain ⟨t,rfl⟩:=ry
 obtain ⟨z,its,n,r,hl,e⟩:=I.lstM hH
 have hlen:its.toArray.size*k.toNat≤sizeLine:=by rw [List.size_toArray,←hl];exact hz
 have hcap:¬ its.toArray.size*k.toNat>(2 ^ 63-1) / 8:=by
  have:(sizeLine:Nat)≤(2 ^ 63-1) / 8:=by decide
  walk_at"q"
 have hfit:¬ (!Builtin.List.listFitsIndex k)=true:=by
  rw [fitsIndex_both h1 h2]
  exact Bool.false_ne_true
 have hlong:¬ Builtin.List.listTooLong (its.toArray.size*k.toNat)=true:=by
  rw [notLongL hlen]
  exact Bool.false_ne_true
 have hnew:List.foldl (fun x1 x2=>x1++x2) #[] (List.replicate (if its.toArray.isEmpty=true then 0 else k.toNat) its.toArray)=(List.replicate k.toNat its).flatten.toArray:=by
  have f0:∀ m:Nat,List.foldl (fun x1 x2=>x1++x2) #[] (List.replicate m its.toArray)=(List.replicate m its).flatten.toArray:=fun m=>by
   have:=foldl_rep its m []
   rw [List.nil_append] at this
   exact this
  rw [f0]
  cases its with
  |nil=>simp
  |cons a r'=>rw [if_neg (by simp)]
 refine wpAny_binaryOp_repeat_ref (T := "list") (U := "int") (by decide) ⟨_,e,rfl⟩ (fun s'=>typeIs_int s' k t) noFill_list_mul F.fills_int_mul F.slot_int_rmul repeat_list F.slot_int_index.lookup
  (call_meets F.slot_int_rmul (typeIs_int s k t) F.entry_int_rmul (F.args_int_rmul_2 _ _) (int___rmul___int_list k t l its.toArray n)
   ⟨e,rfl,⟨_,e,rfl⟩,call_meets F.slot_list_mul ⟨_,e,rfl⟩ F.entry_list_mul (F.args_list_mul_2 _ _) (AutoListH.list___mul___list_int_3 l its.toArray n k t hfit hcap hlong) ⟨e,?_⟩⟩)
 rw [hnew]
 exact ⟨.ref _,_,I.lnew (t':=s.toks) (r.rep k.toNat) (by rw [len_rep,Nat.mul_comm];exact hz),rfl,q _ I.fresh⟩
end
end
end L2
namespace Att
open PySem PySem.W PySem.Calls PyProof.Rows
section
theorem ints_of_wellAll {P:Params} {h:Heap}:∀ (ns:List Int) (vs:List Value),WellAll P h vs (ns.map WData.int)→IntsAre vs ns:=by
 intro ns
 induction ns with
 |nil =>
  intro vs w
  rw [List.map_nil] at w
  cases w
  exact .nil
 |cons n ns ih =>
  intro vs w
  rw [List.map_cons] at w
  cases w with
  |cons a b =>
   cases a
   exact .cons _ _ (ih _ b)
theorem script_of {l:OpenLaw} {n:Nat} (hn:l.most=some n) {P:Params} {h:Heap} {args:List WData} {vals:List Value}
  (hpre:l.row.toRowW.claim.pre args=true) (hwl:WellAll P h vals args) :
  ∃ a vs ns,vals=[Value.ref a]∧args=[WData.list (ns.map WData.int)]∧h.get? a=some { cls:=.type "list", data:=.seq vs.toArray }∧IntsAre vs ns∧ns.length≤n:=by
 have hsh:WShape.hasAll [] args [.list .int]=true:=(pre_splitW hpre).1
 have hc:l.pre.holds [] { args:=args }=true:=(pre_splitW hpre).2
 obtain ⟨d,r,rfl,h1,h2⟩:=hasAllW_cons hsh
 obtain rfl:=hasAllW_nil h2
 obtain ⟨xs,rfl,h3⟩:=hasW_list h1
 obtain ⟨ns,rfl⟩:=items_int h3
 have hlen:ns.length≤n:=by
  unfold OpenLaw.pre at hc
  have h4:(WTm.not (.lt (.lit (.int (n:Int))) (.len (.arg 0)))).holds [] { args:=[.list (ns.map .int)] }=true:=by
   have h4:=(holds_andW hc).1
   rw [hn] at h4
   exact h4
  have h5:=condW_of h4 (w_not (w_lt w_lit (w_len_list (w_arg rfl))))
  rw [List.length_map] at h5
  refine Nat.le_of_not_lt fun q=>?_
  have q':(n:Int)<((ns.length:Nat):Int):=by walk_at"q"
  first
   |(rw [decide_eq_true q'] at h5;exact absurd h5 (by decide))
   |(simp at h5;walk_at"q")
 cases hwl with
 |cons w1 w2 =>
  cases w2
  cases w1 with
  |list ho hall=>exact ⟨_,_,ns,rfl,rfl,ho,ints_of_wellAll ns _ hall,hlen⟩
theorem post_true (l:OpenLaw) (args:List WData):l.row.toRowW.claim.post args (.bool true) args=true :=
 postW_of (r:=l.row.toRowW) (X:=(true == true))
  (show WShape.has [] (.bool true) .bool=true by first|rfl|decide|simp [WShape.has,WShape.arms,WShape.armsAll])
  (show (WTm.eq .res (.lit (.bool true))).value [] { args:=args,res:=some (.bool true),after:=args }=some (.bool (true == true)) from w_eq_bool (w_res rfl) w_lit) rfl
theorem attach_call {l:OpenLaw} {n:Nat} {q:Program} {loose:List Str} {XP:(Str→Option Value)→Heap→Prop} {YP:World→Heap→Prop} {d:DefRec}
  (hn:l.most=some n) (hdf:d.params.defaults=[])
  (call:∀ (w:World) (s₀ s₁:Shared) (mg mb:Str→Option Value) (fa:Addr) (o:Obj) (pm cd doc:Value) (a:Addr) (vs:List Value) (ns:List Int),
   Ground q loose [] XP w s₀ mg mb s₁.heap→YP w s₁.heap →
   s₁.heap.get? fa=some o→o.data=.func (docDef d.name d.params d.body d.scope pm cd doc)→s₁.heap.CodeRec cd d.name→mg d.name=some (.ref fa) →
   s₁.heap.get? a=some { cls:=.type "list", data:=.seq vs.toArray }→IntsAre vs ns→ns.length≤n→s₁.gens=#[] →
   codeAny (model l.prog w) callerA (.call (.ref fa) ⟨[.ref a],[]⟩) (fun r s'=>r=.ok (.ret (.bool true))∧OldK s₁.heap s'.heap∧s'.os=s₁.os∧AllBare s'.gens) s₁) :
  WalkO q loose XP YP l.row.toRowW d [] (fun f vs=>PySem.call f vs):=by
 intro w s₀ s₁ mg mb G Y fa o pm cd doc dV kV ho hd hcd hD hmg hg args vals as hpre hlay hrd hwl hlo
 obtain rfl:dV=.none:=Dflts.none hD hdf
 obtain rfl:kV=.none:=Dflts.noKw hD
 obtain ⟨a,vs,ns,rfl,rfl,hobj,hints,hlen⟩:=script_of hn hpre hwl
 refine enter_call (codeAny_mono (call w s₀ s₁ mg mb fa o pm cd doc a vs ns G Y ho (fd_plain hd) hcd hmg hobj hints hlen hg) fun r s' hq=>?_)
 obtain ⟨rfl,h2,h3,h4⟩:=hq
 exact ⟨.inl ⟨.bool true,.bool true,[],rfl,fun _=>rfl,.bool true,post_true l _,fun _=>⟨List.Pairwise.nil,fun _ hm=>(nomatch hm)⟩⟩,h2,h3,h4⟩
section
variable {prog:Program} {w:World} {A:Around} {E:Value→Shared→Prop} {s:Shared} {K:Frag}
def ledger (h:Heap) (L d:Addr):List (Addr×Obj):=(List.range h.objs.size).filterMap fun a=>if a=L∨a=d then none else (h.get? a).map fun o=>(a,o)
end
end
end Att
namespace L2
open PySem PySem.Spec PyProof.Rows
section
theorem vals_ints:∀ {vs:List Value} {ns:List Int},IntsAre vs ns→Vals (ns.map V.int) vs
 |_,_,.nil=>.nil
 |_,_,.cons n t h=>.cons ⟨t,rfl⟩ (vals_ints h)
def Only (H:Hp):Prop:=∀ b,H b=none∨∃ o xs,H b=some (.frz o (.lst xs))
theorem law_call {P:Program} {w:World} {K:PySem.W.Frag} {mg mb:Str→Option Value} {CX:CXT} {k:Nat} {fa a:Addr} {fd:FuncData} {x:Str} {sp:Sp} {s₁:Shared} {vs:List Value} {ns:List Int}
  (KX:K.In s₁.heap) (hns:s₁.heap.Ns mainGlobals mg) (hb:s₁.heap.Ns builtinsNs mb) (hbb:∀ x:Str,x ≠ "__name__" → mb x=bootBuiltins x) (hlim:s₁.heap.NoLimit) (hg:s₁.gens=#[])
  (ha:s₁.heap.get? a=some { cls:=.type "list", data:=.seq vs.toArray }) (hi:IntsAre vs ns) (hl:ns.length≤sizeLine) (hr:Room k callerA)
  (F:∀ base:Heap,K.In base→base.Ns mainGlobals mg→FnOk P w K mg base CX k fa fd [x] sp) (hbind:∀ (s:Shared) (u:Value),BindsTo s fd ⟨[u],[]⟩ [(x,u)])
  (hsp:∀ H:Hp,Only H→SqL K H a (ns.map V.int)→sp [.ref a] H (fun v _=>v=.bl true) fun _ _ _=>False)
  (hCX:∀ H e s',CX [] H s₁ (fun _ _ _=>False) e s'→False) :
  codeAny (model P w) callerA (.call (.ref fa) ⟨[.ref a],[]⟩) (fun r s'=>r=.ok (.ret (.bool true))∧OldK s₁.heap s'.heap∧s'.os=s₁.os∧AllBare s'.gens) s₁:=by
 have rv:=vals_ints hi
 have lenV:=hi.length
 -- from an abstract heap in which nothing but the script may be tracked
 have core:∀ H:Hp,Only H→SqL K H a (ns.map V.int)→HOk P w H s₁.heap→(∀ b,H b≠none→b=a)→(H a≠none→K.lookup a=none) →
   codeAny (model P w) callerA (.call (.ref fa) ⟨[.ref a],[]⟩) (fun r s'=>r=.ok (.ret (.bool true))∧OldK s₁.heap s'.heap∧s'.os=s₁.os∧AllBare s'.gens) s₁:=by
  intro H hO hS hok hA hK
  have base_of:∀ {b:Addr} {o:Obj},s₁.heap.get? b=some o→H b=none→(hidT s₁.heap H).get? b=some o:=fun e n=>hidT_get e n
  have noA:∀ {b:Addr} {o:Obj} {es:Array DictEntry} {ep:Nat},s₁.heap.get? b=some o→o.data=.dict es ep→H b=none:=fun {b o es ep} e d=>by
   cases q:H b with
   |none=>rfl
   |some u =>
    have e':b=a:=hA b (by rw [q];simp)
    subst e'
    rw [ha] at e;cases e
    have d':Data.seq vs.toArray _=Data.dict es ep:=d
    cases d'
  have nsK:∀ {b:Addr} {m:Str→Option Value},s₁.heap.Ns b m→(hidT s₁.heap H).Ns b m:=fun {b m} ⟨o,es,ep,e,d,r⟩=>⟨o,es,ep,base_of e (noA e d),d,r⟩
  have hKb:K.In (hidT s₁.heap H):=fun b o e=>base_of (KX b o e) (by
   cases q:H b with
   |none=>rfl
   |some u =>
    have e':b=a:=hA b (by rw [q];simp)
    subst e'
    rw [hK (by rw [q];simp)] at e;cases e)
  have hM:Mod K mg (hidT s₁.heap H):=⟨hKb,nsK hns,⟨mb,nsK hb,hbb⟩,let ⟨mc,h1,h2⟩:=hlim;⟨mc,nsK h1,h2⟩⟩
  have e0:Env0 P w K mg (hidT s₁.heap H) callerA [] s₁ H:=⟨rfl,hM,fun b o e=>of_hidT e,Nat.le_of_eq (hidT_size _ _),trivial,fun b hb=>absurd (show b∈([]:List Addr) from hb) (by simp),hok,.of_eq hg⟩
  refine codeAny_mono ((F _ hKb (nsK hns)).run callerA [] s₁ H ⟨[.ref a],[]⟩ [.ref a] [.ref a] _ _ hr e0 (hbind s₁ (.ref a)) (.cons rfl .nil) (hsp H hO hS)) fun r s' h=>?_
  cases r with
  |error e=>exact (hCX H e s' h).elim
  |ok fl =>
   cases fl with
   |next=>exact False.elim h
   |brk=>exact False.elim h
   |cont=>exact False.elim h
   |ret u =>
    obtain ⟨v,H',os,bare,un,hok',r',q⟩:=h
    have q':v=.bl true:=q
    subst q'
    obtain rfl:u=Value.bool true:=r'
    refine ⟨rfl,OldK.of_keep fun b o e=>?_,os,bare⟩
    cases q:H b with
    |none=>exact un.keep b o e q (by intro z;exact absurd (show b∈([]:List Addr) from z) (by simp)) (by simp)
    |some u =>
     rcases hO b with z|⟨ob,xs,z⟩
     ·rw [q] at z;cases z
     ·have z2:=un.frzs b ob _ z
      obtain ⟨e1,_⟩:=hok b _ z
      obtain ⟨e2,_⟩:=hok' b _ z2
      rw [e] at e1;cases e1
      exact e2
 cases hk:K.lookup a with
 |some o =>
  -- the script is one of the module's own objects
  have e:=KX a o hk
  rw [ha] at e
  cases e
  refine core (fun _=>none) (fun _=>.inl rfl) (.inr ⟨_,vs.toArray,_,hk,rfl,rfl,rfl,by rw [List.size_toArray,lenV];exact hl,by simpa using rv⟩) (fun b u z=>by have z':(none:Option HO)=some u:=z;cases z') (fun b z=>absurd rfl z) fun z=>absurd rfl z
 |none =>
  refine core (fun b=>if b=a then some (.frz { cls:=.type "list", data:=.seq vs.toArray } (.lst (ns.map V.int))) else none) (fun b=>?_) (.inl (.inr ⟨{ cls:=.type "list", data:=.seq vs.toArray },if_pos rfl⟩)) (fun b u z=>?_) (fun b z=>?_) fun _=>hk
  ·by_cases hb:b=a
   ·exact .inr ⟨_,_,if_pos hb⟩
   ·exact .inl (if_neg hb)
  ·by_cases hb:b=a
   ·have z':=(if_pos hb).symm.trans z
    cases z'
    subst hb
    exact ⟨ha,by rw [List.length_map];exact hl,vs,_,rv,ha⟩
   ·have z':=(if_neg hb).symm.trans z
    cases z'
  ·by_cases hb:b=a
   ·exact hb
   ·exact absurd (if_neg hb) z
end
section
theorem walk_of {l:PySem.W.OpenLaw} {n k:Nat} {q:Program} {loose:List Str} {XP:(Str→Option Value)→Heap→Prop} {YP:World→Heap→Prop} {d:DefRec} {K:Params→PySem.W.Frag} {CX:World→CXT} {sp:World→Sp} {x:Str}
  (hn:l.most=some n) (hn2:n≤sizeLine) (hdf:d.params.defaults=[]) (hr:Room k callerA)
  (hY:∀ (w:World) (h:Heap),YP w h→(K w.params).In h)
  (F:∀ (w:World) (mg:Str→Option Value) (fa:Addr) (h:Heap),(K w.params).In h→h.Ns mainGlobals mg→mg d.name=some (.ref fa) →
   ∃ fd:FuncData,(∀ (s:Shared) (u:Value),BindsTo s fd ⟨[u],[]⟩ [(x,u)]) ∧
    ∀ base:Heap,(K w.params).In base→base.Ns mainGlobals mg→FnOk l.prog w (K w.params) mg base (CX w) k fa fd [x] (sp w))
  (hsp:∀ (w:World) (H:Hp) (a:Addr) (ns:List Int),ns.length≤n→Only H→SqL (K w.params) H a (ns.map V.int)→sp w [.ref a] H (fun v _=>v=.bl true) fun _ _ _=>False)
  (hCX:∀ (w:World) (H:Hp) (s:Shared) (e:Value) (s':Shared),CX w [] H s (fun _ _ _=>False) e s'→False) :
  PySem.W.WalkO q loose XP YP l.row.toRowW d [] (fun f vs=>PySem.call f vs):=by
 refine Att.attach_call hn hdf fun w s₀ s₁ mg mb fa o pm cd doc a vs ns G Y ho hd hcd hmg hobj hints hlen hg=>?_
 have KX:=hY w _ Y
 obtain ⟨fd,hb,hF⟩:=F w mg fa _ KX G.T.g hmg
 exact law_call KX G.T.g G.T.b G.T.builtins G.T.nolimit hg hobj hints (Nat.le_trans hlen hn2) hr hF hb (fun H hO hS=>hsp w H a ns hlen hO hS) fun H e s'=>hCX w H s₁ e s'
end
section
def inClass (s:Stmt) (j:Nat):Stmt:=match s with
 |.ClassDef _ _ _ body _ _ _ _ _ _ _=>body.getD j (.Pass ⟨0,0,0,0⟩)
 |_=>.Pass ⟨0,0,0,0⟩
def defArgs (s:Stmt):Arguments:=match s with
 |.FunctionDef _ a _ _ _ _ _ _ _ _=>a
 |_=>{ posonlyargs:=[],args:=[],vararg:=none,kwonlyargs:=[],kw_defaults:=[],kwarg:=none,defaults:=[] }
def defBody (s:Stmt):List Stmt:=match s with
 |.FunctionDef _ _ b _ _ _ _ _ _ _=>b
 |_=>[]
def defScope (s:Stmt):Scope:=match s with
 |.FunctionDef _ _ _ _ _ _ sc _ _ _=>sc
 |_=>{ kind:=.function,names:=[],isGenerator:=false,isCoroutine:=false }
abbrev CX0:CXT:=fun _ _ _ _ _ _=>False
abbrev E0:XK:=fun _ _ _=>False
theorem pass0 {X:Cx}:Passes CX0 X E0:=fun _ _ _ _ _ _ _ h=>h.elim
structure Fun (K:PySem.W.Frag) (x qual:Str) (st:Stmt) (f:Addr) (fd:FuncData):Prop where
 ex:∃ (oc:Value) (od:Option Addr) (kV doc pm:Value) (an:Option Addr) (cdv ct:Value) (osl:Array (Option Value)),
  fd=PySem.W.fnOf x qual (defArgs st) (defBody st) (defScope st) .none kV doc pm an cdv ct∧K.lookup f=some ⟨oc,od,.func fd,osl⟩∧PySem.W.codeIn K cdv qual=true
 kp:PySem.W.keepIn K (.ref f)=true
section
variable {P:Program} {w:World} {K:PySem.W.Frag} {mg:Str→Option Value} {base:Heap}
theorem Fun.ok {x qual:Str} {st:Stmt} {f:Addr} {fd:FuncData} {N ps:List Str} {k:Nat} {sp:Sp} (F:Fun K x qual st f fd) (S:FnScope N ps (defScope st)) (len:∀ vs H Q E,sp vs H Q E→vs.length=ps.length)
  (hbody:∀ (cdv:Value) (A:Around) (outer:List Env) (s:Shared) (H:Hp) (vs:List V) (Q:VK) (E:XK),Room k (A.deeper (envOfC qual (defScope st) s.heap.objs.size f cdv))→sp vs H Q E →
   ∃ t,PSs (cxOf CX0 P w K mg base N qual (defScope st) f cdv A outer s H E).nox (defBody st) t∧t { nx:=fun _ H'=>Q .non H',rt:=Q } (start N vs) H):FnOk P w K mg base CX0 (k+1) f fd ps sp:=by
 obtain ⟨oc,od,kV,doc,pm,an,cdv,ct,osl,rfl,lk,hcd⟩:=F.ex
 refine fn_of lk hcd S len fun A outer s H vs Q E hr hsp=>?_
 obtain ⟨t,h,q⟩:=hbody cdv A outer s H vs Q E hr hsp
 exact ⟨t,h.nox,q⟩
theorem Fun.binds {x qual:Str} {st:Stmt} {f:Addr} {fd:FuncData} {ps:List Str} (F:Fun K x qual st f fd)
  (h:∀ (kV doc pm:Value) (an:Option Addr) (cdv ct:Value) (us:List Value),us.length=ps.length→bindArgs (PySem.W.fnOf x qual (defArgs st) (defBody st) (defScope st) .none kV doc pm an cdv ct) ⟨us,[]⟩=pure (ps.zip us)):Binds K fd ps []:=by
 obtain ⟨oc,od,kV,doc,pm,an,cdv,ct,osl,rfl,lk,hcd⟩:=F.ex
 exact .all (h kV doc pm an cdv ct)
theorem fun_mk {x qual:Str} {st:Stmt} {f:Addr} {oc:Value} {od an:Option Addr} {osl:Array (Option Value)} {kV doc pm cdv ct:Value} (l:K.lookup f=some ⟨oc,od,.func (PySem.W.fnOf x qual (defArgs st) (defBody st) (defScope st) .none kV doc pm an cdv ct),osl⟩)
  (c:PySem.W.codeIn K cdv qual=true) (k:PySem.W.keepIn K (.ref f)=true):Fun K x qual st f (PySem.W.fnOf x qual (defArgs st) (defBody st) (defScope st) .none kV doc pm an cdv ct):=⟨⟨oc,od,kV,doc,pm,an,cdv,ct,osl,rfl,l,c⟩,k⟩
end
theorem hu_of {A:Around} {k:Nat} (hr:Room k A):A.units+1<cLine:=Nat.lt_of_le_of_lt (Nat.add_le_add_left (by decide:1≤64) _) hr.units
theorem small1000 {n:Nat} (h:n≤1000):n<sizeLine:=Nat.lt_of_le_of_lt h (by decide)
section
variable {X:Cx}
theorem pv (i:Nat) {x:Str} {pos:Pos} (hN:X.N[i]?=some x:=by rfl) (hv:Vis X.env.scope x:=by first|exact Or.inl rfl|exact Or.inr (Or.inl rfl)|exact Or.inr (Or.inr rfl)) (hd:(x == ("__debug__" : Str))=false:=by decide)
  (hcd:(x == ("__classdict__" : Str))=false:=by decide):PE X (.Name x pos) (tVar i):=pe_var hN hv hd hcd
end
theorem ite2 {c A B:Prop} [Decidable c] (h1:c→A) (h2:¬ c→B):if c then A else B:=by
 by_cases h:c
 ·rw [if_pos h]
  exact h1 h
 ·rw [if_neg h]
  exact h2 h
def Same (H H':Hp):Prop:=∀ b o,H b=some o→H' b=some o
theorem Same.refl (H:Hp):Same H H:=fun _ _ h=>h
theorem Same.trans {H H1 H2:Hp} (a:Same H H1) (b:Same H1 H2):Same H H2:=fun c o h=>b c o (a c o h)
theorem Same.free {H H':Hp} (e:Same H H') {l:Addr} (h:H' l=Option.none):H l=Option.none:=by
 cases q:H l with
 |none=>rfl
 |some o =>
  rw [e l o q] at h
  cases h
theorem Same.seq {K:PySem.W.Frag} {H H':Hp} {a:Addr} {xs:List V} (e:Same H H') (h:SqL K H a xs):SqL K H' a xs:=by
 rcases h with (h|⟨o,h⟩)|h
 ·exact .inl (.inl (e _ _ h))
 ·exact .inl (.inr ⟨o,e _ _ h⟩)
 ·exact .inr h
end
section
def clo (env:Env):List (Str×NameKind)→List (Str×Addr)→List (Str×Addr)
 |[],acc=>acc
 |(n,k)::r,acc=>if k == .free then clo env r ((n,(env.cells.lookup n).getD 0)::acc) else clo env r acc
theorem clo_run {env:Env} {f:Str×NameKind→List (Str×Addr)→Sem (ForInStep (List (Str×Addr)))}
  (hf:∀ n k acc,f (n,k) acc=if k == .free then (do let a ←cellOf env n;pure (ForInStep.yield ((n,a)::acc))) else pure (ForInStep.yield acc)) :
  ∀ (names:List (Str×NameKind)) (acc:List (Str×Addr)),(∀ p∈names,p.2=.free→∃ a,env.cells.lookup p.1=some a) →
  (forIn names acc f:Sem (List (Str×Addr)))=pure (clo env names acc)
 |[],acc,_=>rfl
 |(n,k)::r,acc,h=>by
  rw [List.forIn_cons,hf]
  unfold clo
  by_cases hk:(k == NameKind.free)=true
  ·rw [if_pos hk,if_pos hk]
   obtain ⟨a,ha⟩:=h (n,k) List.mem_cons_self (by simpa using hk)
   have e:cellOf env n=pure a:=by
    unfold cellOf
    rw [show env.cells.lookup n=some a from ha]
   rw [e,show env.cells.lookup n=some a from ha]
   simp only [pure_bind]
   exact clo_run hf r _ fun p hp=>h p (List.mem_cons_of_mem _ hp)
  ·rw [if_neg hk,if_neg hk,pure_bind]
   exact clo_run hf r _ fun p hp=>h p (List.mem_cons_of_mem _ hp)
theorem closureFor_clo {env:Env} {scope:Scope} (h:∀ p∈scope.names,p.2=.free→∃ a,env.cells.lookup p.1=some a):closureFor scope env=pure (clo env scope.names []):=by
 simp only [closureFor]
 rw [clo_run (env:=env) (fun n k acc=>?_) scope.names [] h]
 ·rfl
 ·by_cases hk:(k == NameKind.free)=true
  ·simp only [hk,if_true]
  ·simp only [hk,if_false]
theorem clo_mem {env:Env}:∀ {names:List (Str×NameKind)} {acc:List (Str×Addr)},(∀ p∈names,p.2=.free→∃ a,env.cells.lookup p.1=some a)→∀ p∈clo env names acc,p∈acc∨(env.cells.lookup p.1=some p.2)
 |[],acc,_,p,hp=>.inl hp
 |(n,k)::r,acc,h,p,hp=>by
  unfold clo at hp
  have hr:∀ p∈r,p.2=.free→∃ a,env.cells.lookup p.1=some a:=fun p hp=>h p (List.mem_cons_of_mem _ hp)
  by_cases hk:(k == NameKind.free)=true
  ·rw [if_pos hk] at hp
   obtain ⟨a,ha⟩:=h (n,k) List.mem_cons_self (by simpa using hk)
   rcases clo_mem hr p hp with q|q
   ·rcases List.mem_cons.mp q with q|q
    ·subst q
     right
     show env.cells.lookup n=some ((env.cells.lookup n).getD 0)
     rw [show env.cells.lookup n=some a from ha];rfl
    ·exact .inl q
   ·exact .inr q
  ·rw [if_neg hk] at hp
   exact clo_mem hr p hp
theorem clo_acc {env:Env}:∀ {names:List (Str×NameKind)} {acc:List (Str×Addr)},∀ p∈acc,p∈clo env names acc
 |[],acc,p,hp=>hp
 |(n,k)::r,acc,p,hp=>by
  unfold clo
  by_cases hk:(k == NameKind.free)=true
  ·rw [if_pos hk];exact clo_acc p (List.mem_cons_of_mem _ hp)
  ·rw [if_neg hk];exact clo_acc p hp
theorem clo_has {env:Env}:∀ {names:List (Str×NameKind)} {acc:List (Str×Addr)} {x:Str},(x,NameKind.free)∈names→∃ a,(x,a)∈clo env names acc
 |[],_,_,h=>by cases h
 |(n,k)::r,acc,x,h=>by
  unfold clo
  rcases List.mem_cons.mp h with q|q
  ·cases q
   rw [if_pos (show (NameKind.free == NameKind.free)=true from rfl)]
   exact ⟨_,clo_acc _ List.mem_cons_self⟩
  ·by_cases hk:(k == NameKind.free)=true
   ·rw [if_pos hk];exact clo_has q
   ·rw [if_neg hk];exact clo_has q
theorem look_of_mem {β:Type}:∀ {l:List (Str×β)} {x:Str} {b:β},(x,b)∈l→∃ b',l.lookup x=some b'
 |[],_,_,h=>by cases h
 |(n,k)::r,x,b,h=>by
  rw [List.lookup_cons]
  cases hx:x == n with
  |true=>exact ⟨k,rfl⟩
  |false =>
   rcases List.mem_cons.mp h with q|q
   ·cases q;simp at hx
   ·exact look_of_mem q
theorem mem_of_look {β:Type}:∀ {l:List (Str×β)} {x:Str} {b:β},l.lookup x=some b→(x,b)∈l
 |[],_,_,h=>by simp at h
 |(n,k)::r,x,b,h=>by
  rw [List.lookup_cons] at h
  cases hx:x == n with
  |true =>
   rw [hx] at h
   have:x=n:=by simpa using hx
   subst this
   cases h
   exact List.mem_cons_self
  |false =>
   rw [hx] at h
   exact List.mem_cons_of_mem _ (mem_of_look h)
theorem relabel_lookup {env:Env} {x:Str}:∀ (names:List (Str×NameKind)),
  (names.map fun (p:Str×NameKind)=>match p with|(n,k)=>if (k == .free && env.scope.kind == .function && env.kindOf n == some .cell) then (n,NameKind.cell) else (n,k)).lookup x =
   (names.lookup x).map fun k=>if (k == .free && env.scope.kind == .function && env.kindOf x == some .cell) then NameKind.cell else k
 |[]=>rfl
 |(n,k)::r=>by
  have ih:=@relabel_lookup env x r
  rw [List.map_cons]
  show List.lookup x ((if (k == NameKind.free && env.scope.kind == .function && env.kindOf n == some .cell)=true then (n,NameKind.cell) else (n,k))::_)=_
  cases hx:x == n with
  |true =>
   have e:x=n:=by simpa using hx
   subst e
   by_cases hc:(k == NameKind.free && env.scope.kind == .function && env.kindOf x == some .cell)=true
   ·rw [if_pos hc];simp only [List.lookup_cons,hx,Option.map_some,if_pos hc]
   ·rw [if_neg hc];simp only [List.lookup_cons,hx,Option.map_some,if_neg hc]
  |false =>
   by_cases hc:(k == NameKind.free && env.scope.kind == .function && env.kindOf n == some .cell)=true
   ·rw [if_pos hc];simp only [List.lookup_cons,hx];exact ih
   ·rw [if_neg hc];simp only [List.lookup_cons,hx];exact ih
theorem relabel_names {env:Env} {scope:Scope} {x:Str}:(relabel scope env).names.lookup x=(scope.names.lookup x).map fun k=>if (k == .free && env.scope.kind == .function && env.kindOf x == some .cell) then NameKind.cell else k :=
 relabel_lookup scope.names
def cxComp (X:Cx) (N':List Str) (scope:Scope) (cl:List (Str×Addr)) (C:Addr) (s:Shared) (H:Hp) (fp:List Addr) (pn:List (Addr×Obj)):Cx :=
 { X with N:=N',s₀:=s,H₀:=H,env:=compEnvC scope cl C X.env,outer:=X.stack,stack:=X.stack,ex:=fp,fn:=fun _=>false,pn:=pn,xe:=fun _ _=>False }
def Wk:St→St→Prop
 |[],[]=>True
 |a::r,b::q=>(a=none∨a=b)∧Wk r q
 |_,_=>False
theorem Wk.len:∀ {a b:St},Wk a b→a.length=b.length
 |[],[],_=>rfl
 |_::_,_::_,h=>by simp [Wk.len h.2]
 |[],_::_,h=>False.elim h
 |_::_,[],h=>False.elim h
theorem Wk.get:∀ {a b:St},Wk a b→∀ (i:Nat) v,a[i]?=some (some v)→b[i]?=some (some v)
 |[],[],_,i,v,h=>by simp at h
 |x::r,y::q,h,0,v,e=>by
  simp at e
  rcases h.1 with z|z
  ·rw [z] at e;cases e
  ·simp [←z,e]
 |x::r,y::q,h,i+1,v,e=>by
  simp at e ⊢
  exact Wk.get h.2 i v e
 |[],_::_,h,_,_,_=>False.elim h
 |_::_,[],h,_,_,_=>False.elim h
def stC (own:Nat) (caps:List Nat) (σ:St):St:=List.replicate own none++caps.map fun j=>(σ[j]?).join
def PTs (X:Cx) (ifs:List Expr) (t:TT):Prop :=
 ∀ (pins:List (Addr×Obj)) (s:Shared) (σ:St) (H:Hp) (Q:Bool→Hp→Prop),Inv X pins σ H s→t σ H Q →
  wpAny (model X.prog X.w) X.A (forIn ifs true fun c r=>if r=true then do let ok ←isTrue c X.env (eval c X.env);pure (ForInStep.yield ok) else pure (ForInStep.yield r)) (TP X pins σ Q) X.xe s
def tTru:TT:=fun _ H Q=>Q true H
theorem tru_if {σ:St} {H:Hp} {A B:Hp→Prop} (h:A H):tTru σ H (fun b H3=>if b=true then A H3 else B H3):=by
 show if true=true then A H else B H
 rw [if_pos rfl]
 exact h
theorem pts_nil {X:Cx}:PTs X [] tTru:=fun _ _ _ H _ I h=>wpAny_tests_nil ⟨H,I,h⟩
theorem pts_one {X:Cx} {c:Expr} {t:TT} (h:PT X c t):PTs X [c] t:=fun pins s σ H Q I q=>wpAny_tests_one (h pins s σ H Q I q)
theorem compLoop_go {prog:Program} {w:World} {A:Around} {R:Result→Shared→Prop} {s:Shared} {elt target iter:Expr} {ifs:List Expr} {scope:Scope} {pos:Pos} {it acc:Value} {env:Env} (I:Nat→Shared→Prop)
  (turn:∀ n s,I n s→wpAny (model prog w) A (pyNext it) (fun r s₁=>match r with
   |none=>R (.ok .next) s₁
   |some v=>wpAny (model prog w) A (letOwnedTupleGo target it v) (fun _ s₁'=>wpAny (model prog w) A (assign target env v) (fun _ s₂ =>
     wpAny (model prog w) A (forIn ifs true fun c r=>if r=true then do let ok ←isTrue c env (eval c env);pure (ForInStep.yield ok) else pure (ForInStep.yield r)) (fun ok s₃ =>
      if ok=true then wpAny (model prog w) A (eval elt env) (fun x s₄ =>
       wpAny (model prog w) A (call (.builtin "list.append") [acc,x]) (fun _ s₅=>∃ m,m<n∧I m s₅) (fun _ _=>False) s₄) (fun _ _=>False) s₃
      else ∃ m,m<n∧I m s₃) (fun _ _=>False) s₂) (fun _ _=>False) s₁') (fun _ _=>False) s₁) (fun _ _=>False) s)
  (n:Nat) (h:I n s) :
  codeAny (model prog w) A (.compLoop (.ListComp elt [⟨target,iter,ifs,0⟩] scope pos) 0 it acc env) R s:=by
 refine codeAny_loop rfl I (fun n s hI=>?_) n h
 show wpAny _ A ((compTurn (.ListComp elt [⟨target,iter,ifs,0⟩] scope pos) 0 it acc env).onRaise (fun x=>do noteFrame x env;theTreesLotGoes x)) _ _ s
 refine wpAny_noted ?_
 rw [compTurn_list]
 refine wpAny_bind (wpAny_standAt (wpAny_bind (wpAny_mono (turn n s hI) (fun r s₁ h₁=>?_) fun _ _ h'=>False.elim h')))
 cases r with
 |none=>exact wpAny_pure h₁
 |some v =>
  refine wpAny_bind (wpAny_mono h₁ (fun _ s₁' h₁'=>?_) fun _ _ h'=>False.elim h')
  refine wpAny_bind (wpAny_mono h₁' (fun _ s₂ h₂=>wpAny_bind (wpAny_mono h₂ (fun ok s₃ h₃=>?_) fun _ _ h'=>False.elim h')) fun _ _ h'=>False.elim h')
  cases ok with
  |false=>exact wpAny_pure ⟨rfl,h₃⟩
  |true =>
   exact wpAny_bind (wpAny_bind (wpAny_mono h₃ (fun x s₄ h₄=>wpAny_bind (wpAny_mono h₄ (fun _ s₅ h₅=>wpAny_pure (wpAny_pure ⟨rfl,h₅⟩)) fun _ _ h'=>False.elim h')) fun _ _ h'=>False.elim h'))
def tComp (wi:TI) (own:Nat) (caps:List Nat) (g:TG) (tt:TT) (te:TE):TE:=fun σ H Q=>wi σ H fun J H1=>∀ l,H1 l=none→∃ W:Nat→Nat→List V→Hp→Prop,(∃ m,W 0 m [] (upd H1 l (.lst []))) ∧
 ∀ i m ys H,W i m ys H→H l=some (.lst ys)∧((J.stop i H∧Q (.ref l) H)∨(J.go i H∧ys.length<sizeLine∧∃ N:List V→Hp→Prop,(∀ ys' H',N ys' H'→∃ m',m'<m∧W (i+1) m' ys' H') ∧
  ∀ x H',J.yld i H x H'→g x (stC own caps σ) H' fun σ2 H2=>Wk (stC own caps σ) σ2 ∧
  tt σ2 H2 fun b H3=>if b=true then te σ2 H3 fun y H4=>H4 l=some (.lst ys)∧N (ys++[y]) (upd H4 l (.lst (ys++[y]))) else N ys H3))
section
variable {X:Cx} {tg elt iter:Expr} {ifs:List Expr} {scope:Scope} {pos:Pos} {wi:TI} {g:TG} {tt:TT} {te:TE} {ownN:List Str} {caps:List (Str×Nat)}
theorem inv_comp {pins:List (Addr×Obj)} {σ:St} {H:Hp} {s:Shared} {fp:List Addr} {h₁:Heap}
  (I:Inv X pins σ H s) (hf:∀ b∈fp,FpOk X pins H b) (hfl:∀ b∈fp,b<s.heap.objs.size)
  (hkind:scope.kind=.function) (hcell:∀ y∈scope.names,y.2≠.cell)
  (hfree:∀ p∈scope.names,p.2=.free→X.env.scope.names.lookup p.1=some .cell)
  (hcaps:∀ c∈caps,X.N[c.2]?=some c.1∧X.env.scope.names.lookup c.1=some .cell∧scope.names.lookup c.1=some .free)
  (hn:h₁.Ns s.heap.objs.size (fun _=>none)) (hk:∀ b o,s.heap.get? b=some o→h₁.get? b=some o) {tk:Nat} :
  Inv (cxComp X (ownN++caps.map (·.1)) scope (clo X.env scope.names []) s.heap.objs.size s H fp (X.pn++pins)) [] (stC ownN.length (caps.map (·.2)) σ) H { s with heap:=h₁,toks:=tk }:=by
 have has:∀ p∈scope.names,p.2=.free→∃ a,X.env.cells.lookup p.1=some a:=fun p hp hfr=>I.ok.has p.1 (.inl (hfree p hp hfr))
 have cmem:∀ {x:Str} {c:Addr},(clo X.env scope.names []).lookup x=some c→X.env.cells.lookup x=some c:=fun {x c} e=>by
  rcases clo_mem has _ (mem_of_look e) with q|q
  ·cases q
  ·exact q
 have clt:∀ {x:Str} {c:Addr},X.env.cells.lookup x=some c→c<s.heap.objs.size:=fun {x c} e=>by
  obtain ⟨v,q⟩:=I.cell x c e
  exact q.lt
 refine ⟨⟨I.ok.mod,?_,I.ok.glob,I.ok.blt,Nat.le_refl _,fun x y c h1 h2=>I.ok.inj x y c (cmem h1) (cmem h2),fun x hx=>?_,fun x c h=>(by cases h),I.ok.hd,I.ok.frames,.inl rfl,fun b hb=>⟨Nat.ne_of_lt (hfl b hb),fun x c e=>(hf b hb).2.2.2.2.1 x c (cmem e)⟩,
  fun b o e=>I.bs b o e,Nat.le_trans I.ok.bsz I.sz,fun b o e z=>?_,fun b hb z=>?_,I.stack,I.stkFree⟩,rfl,I.bare,Un.kept hk,⟨_,hn,fun i x v h1 h2 h3=>?_⟩,fun x c e=>?_,I.hok.fresh (Nat.le_refl _),fun x c e=>I.freeC x c (cmem e),fun p hp=>?_,I.hok.kept hk,?_⟩
 ·show (relabel scope X.env).kind=.function
  exact hkind
 ·-- a cell for each free name
  have e0:(relabel scope X.env).names.lookup x=some .cell∨(relabel scope X.env).names.lookup x=some .free:=hx
  rw [relabel_names] at e0
  have e1:scope.names.lookup x=some .free:=by
   cases q:scope.names.lookup x with
   |none=>rw [q] at e0;simp at e0
   |some k =>
    have hk':=hcell _ (mem_of_look q)
    rw [q] at e0
    cases k with
    |free=>rfl
    |cell=>exact absurd rfl hk'
    |_=>simp at e0
  obtain ⟨a,ha⟩:=clo_has (env:=X.env) (acc:=[]) (mem_of_look e1)
  exact look_of_mem ha
 ·-- the base has no iterator of ours
  rcases (hf b z).2.2.2.1 with q|q
  ·exact I.ok.noex b o e q
  ·exact absurd (Nat.lt_of_lt_of_le (Heap.lt_size e) (Nat.le_trans I.ok.bsz q)) (Nat.lt_irrefl _)
 ·rcases List.mem_cons.mp (I.stkSub b z) with q|q
  ·exact (hf b hb).2.1 q
  ·exact (hf b hb).2.2.1 q
 ·-- captured names
  have hi:ownN.length≤i:=by
   unfold stC at h2
   by_cases hi:ownN.length≤i
   ·exact hi
   ·rw [List.getElem?_append_left (by simp;walk_at"q"),List.getElem?_replicate] at h2
    split at h2<;>cases h2
  have h1':(ownN++caps.map (·.1))[i]?=some x:=h1
  unfold stC at h2
  rw [List.getElem?_append_right (by simp;walk_at"q"),List.length_replicate,List.getElem?_map,List.getElem?_map] at h2
  rw [List.getElem?_append_right hi,List.getElem?_map] at h1'
  cases hc:caps[i-ownN.length]? with
  |none=>rw [hc] at h1';cases h1'
  |some c =>
   rw [hc] at h1' h2
   have ex:c.1=x:=Option.some.inj h1'
   have ev:(σ[c.2]?).join=some v:=Option.some.inj h2
   have ev':σ[c.2]?=some (some v):=by
    cases q:σ[c.2]? with
    |none=>rw [q] at ev;cases ev
    |some z=>rw [q] at ev;simp at ev;rw [ev]
   obtain ⟨k1,k2,k3⟩:=hcaps c (List.mem_of_getElem? hc)
   rw [ex] at k1 k2 k3
   obtain ⟨m,hm,hl⟩:=I.loc
   obtain ⟨u,ru,lk⟩:=hl c.2 x v k1 ev' (.inr (.inl k2))
   refine ⟨u,ru,.inr ⟨.inl ?_,?_⟩⟩
   ·show (relabel scope X.env).names.lookup x=some .cell
    rw [relabel_names,k3]
    have e1:X.env.scope.kind=.function:=I.ok.kind
    have e2:X.env.kindOf x=some .cell:=k2
    simp [e1,e2]
   ·rcases lk with ⟨z,_⟩|⟨_,cc,e1,e2⟩
    ·have z':X.env.scope.names.lookup x=some .local:=z
     rw [k2] at z';cases z'
    ·obtain ⟨a,ha⟩:=clo_has (env:=X.env) (acc:=[]) (mem_of_look k3)
     obtain ⟨a',ha'⟩:=look_of_mem ha
     have e3:a'=cc:=Option.some.inj ((cmem ha').symm.trans e1)
     rw [e3] at ha'
     obtain ⟨o,ho,hd⟩:=e2
     exact ⟨cc,ha',o,hk _ _ ho,hd⟩
 ·obtain ⟨v,o,ho,hd⟩:=I.cell x c (cmem e)
  exact ⟨v,o,hk _ _ ho,hd⟩
 ·have hp':p∈X.pn++pins:=by
   have:p∈(X.pn++pins)++[]:=hp
   simpa using this
  obtain ⟨e,n,ne,nf,d⟩:=I.pin p hp'
  refine ⟨hk _ _ e,n,Nat.ne_of_lt (Heap.lt_size e),fun z=>?_,d⟩
  rcases List.mem_cons.mp (I.stkSub p.1 z) with q|q
  ·exact ne q
  ·exact nf q
 ·show (stC ownN.length (caps.map (·.2)) σ).length=(ownN++caps.map (·.1)).length
  unfold stC
  simp
theorem pe_comp (ownN:List Str) (caps:List (Str×Nat)) (hc:X.calm=true) (hi:PI X tg iter wi)
  (hg:∀ cl C s H fp pn,PG (cxComp X (ownN++caps.map (·.1)) scope cl C s H fp pn) tg g)
  (ht:∀ cl C s H fp pn,PTs (cxComp X (ownN++caps.map (·.1)) scope cl C s H fp pn) ifs tt)
  (he:∀ cl C s H fp pn,PE (cxComp X (ownN++caps.map (·.1)) scope cl C s H fp pn) elt te)
  (hkind:scope.kind=.function:=by rfl) (hcell:∀ y∈scope.names,y.2≠.cell:=by decide)
  (hfr:(scope.names.all fun p=>p.2 != .free || X.env.scope.names.lookup p.1 == some .cell)=true:=by rfl)
  (hcp:(caps.all fun c=>X.N[c.2]? == some c.1 && (X.env.scope.names.lookup c.1 == some .cell && scope.names.lookup c.1 == some .free))=true:=by rfl)
  (hnames:∀ x∈scope.names,x.2=.local→scope.names.lookup x.1=some .local:=by decide)
  (hs:∀ x,foldedSetIterable iter X.env x=pure x:=by intro _;rfl) :
  PE X (.ListComp elt [⟨tg,iter,ifs,0⟩] scope pos) (tComp wi ownN.length (caps.map (·.2)) g tt te):=by
 intro pins s σ H Q I h
 have hfree:∀ p∈scope.names,p.2=.free→X.env.scope.names.lookup p.1=some .cell:=fun p hp e=>by
  have z:=List.all_eq_true.mp hfr p hp
  rw [e] at z
  simpa using z
 have hcaps:∀ c∈caps,X.N[c.2]?=some c.1∧X.env.scope.names.lookup c.1=some .cell∧scope.names.lookup c.1=some .free:=fun c hc=>by
  have z:=List.all_eq_true.mp hcp c hc
  simpa using z
 have has:∀ p∈scope.names,p.2=.free→∃ a,X.env.cells.lookup p.1=some a:=fun p hp hfr=>I.ok.has p.1 (.inl (hfree p hp hfr))
 rw [eval_ListComp]
 refine wpAny_comprehension_free (use:=none) rfl hs (closureFor_clo has) hkind hnames (thn (hi pins s σ H _ I h) fun v s1 h1=>thn h1 fun itv s2 h2=>?_)
 obtain ⟨it,fp,tn,J,H2,rfl,I2,T,st2,f2,red⟩:=h2
 have hf2:H2 s2.heap.objs.size=none:=I2.hok.fresh (Nat.le_refl _)
 obtain ⟨W,⟨m0,w0⟩,turn⟩:=red s2.heap.objs.size hf2
 refine wpAny_newObj_type ?_
 generalize hac:s2.heap.objs.size=ac at hf2 turn w0 ⊢
 have I3:Inv X pins σ (upd H2 ac (.lst [])) { s2 with heap:=s2.heap.push { cls:=.type "list", dict:=none,data:=.seq ([]:List Value).toArray } }:=by
  subst hac
  exact I2.laid (t':=s2.toks) (o:=.lst []) (fun b u e=>Heap.get?_push_of_some _ e) (Nat.le_refl _) ⟨Nat.zero_le _,[],0,.nil,Heap.get?_push_size _ rfl⟩
 generalize hs3:({ s2 with heap:=s2.heap.push { cls:=.type "list", dict:=none,data:=.seq ([]:List Value).toArray } }:Shared)=s3 at I3 ⊢
 have obj2:=T.obj 0 s2.heap st2
 have fne:∀ b∈fp,b≠ac:=fun b hb z=>by
  obtain ⟨o,e,_⟩:=obj2 b hb
  exact absurd (Heap.lt_size e) (by rw [z,hac];exact Nat.lt_irrefl _)
 have f3:∀ b∈fp,FpOk X pins (upd H2 ac (.lst [])) b:=fun b hb=>⟨by rw [upd_ne (fne b hb)];exact (f2 b hb).1,(f2 b hb).2⟩
 have st3:tn 0 s3.heap:=T.keep 0 _ _ st2 fun b hb o e=>by subst hs3;exact Heap.get?_push_of_some _ e
 have fl3:∀ b∈fp,b<s3.heap.objs.size:=fun b hb=>by
  obtain ⟨o,e,_⟩:=T.obj 0 s3.heap st3 b hb
  exact Heap.lt_size e
 have acl:ac<s3.heap.objs.size:=by subst hs3;subst hac;simp [Heap.size_push]
 refine wpAny_newFunctionEnv hcell (by intro y hy;simp at hy) (fun h₁ hns₁ hsb₁=>?_) hkind
 have old:∀ b o,s3.heap.get? b=some o→h₁.get? b=some o:=fun b o e=>hsb₁.extBut b o (Nat.ne_of_lt (Heap.lt_size e)) (Heap.get?_push_of_some _ e)
 have I4:=inv_comp (ownN:=ownN) (caps:=caps) (tk:=s3.toks+([]:List (Str×Value)).length) I3 f3 fl3 hkind hcell hfree hcaps hns₁ old
 have st4:tn 0 h₁:=T.keep 0 _ _ st3 fun b hb o e=>old b o e
 -- behind the block
 have after:∀ (s5:Shared) (σ5:St) (H5:Hp),Inv (cxComp X (ownN++caps.map (·.1)) scope (clo X.env scope.names []) s3.heap.objs.size s3 (upd H2 ac (.lst [])) fp (X.pn++pins)) [] σ5 H5 s5→Q (.ref ac) H5 →
   compPost (model X.prog X.w) X.A X.xe none (EP X pins σ Q) (.ref ac) s3.heap.objs.size (.ok .next) s5:=by
  intro s5 σ5 H5 J5 q
  obtain ⟨m,hm,_⟩:=J5.loc
  refine ⟨m,hm,fun h' hs'=>?_⟩
  have nC:H5 s3.heap.objs.size=none:=J5.free
  refine ⟨.ref ac,H5,?_,rfl,q⟩
  have ub:=J5.base
  have u:Un (frs X.stack) fp (upd H2 ac (.lst [])) H5 s3.heap h' :=
   ⟨fun b o e n hb hx=>hs'.extBut b o (Nat.ne_of_lt (Heap.lt_size e)) (ub.keep b o e n hb hx),fun b o e n hb hx=>by
    obtain ⟨sl,z⟩:=ub.slot b o e n hb hx
    exact ⟨sl,hs'.extBut b _ (Nat.ne_of_lt (Heap.lt_size e)) z⟩,ub.free,fun b o e hx=>by
    obtain ⟨o',z⟩:=ub.there b o e hx
    exact ⟨o',hs'.extBut b _ (Nat.ne_of_lt (Heap.lt_size e)) z⟩,ub.tups,ub.frzs,fun b ps q=>⟨(ub.tbls b ps q).1,fun c o ec x=>let z:=(ub.tbls b ps q).2 c o ec x;⟨z.1,hs'.extBut c o (ne_of_none z.1 nC) z.2⟩⟩⟩
  refine I3.call' (s':={ s5 with heap:=h' }) (ch:=fp) J5.os u (fun b u e=>?_) J5.bare (fun b hb=>⟨(f3 b hb).2.2.2.1,(f3 b hb).2.1,(f3 b hb).2.2.2.2.1,(f3 b hb).2.2.2.2.2⟩)
  refine (J5.hok b u e).stay (fun c v hc z=>hs'.extBut c v ?_ z) (fun _ z=>z) fun _ _ z=>z
  rintro rfl
  rcases hc with z'|z'
  ·rw [z',e] at nC;cases nC
  ·rw [nC] at z';cases z'
 have loop:∀ s4:Shared,s4={ s3 with heap:=h₁,toks:=s3.toks+([]:List (Str×Value)).length }→codeAny (model X.prog X.w) X.A (.compLoop (.ListComp elt [⟨tg,iter,ifs,0⟩] scope pos) 0 (.ref it) (.ref ac) (compEnvC scope (clo X.env scope.names []) s3.heap.objs.size X.env))
   (compPost (model X.prog X.w) X.A X.xe none (EP X pins σ Q) (.ref ac) s3.heap.objs.size) s4:=by
  rintro s4 rfl
  refine compLoop_go (fun n s'=>∃ i ys H',Inv (cxComp X (ownN++caps.map (·.1)) scope (clo X.env scope.names []) s3.heap.objs.size s3 (upd H2 ac (.lst [])) fp (X.pn++pins)) [] (stC ownN.length (caps.map (·.2)) σ) H' s'∧tn i s'.heap∧(∀ b∈fp,H' b=none)∧W i n ys H') ?_ m0
   ⟨0,[],_,I4,st4,fun b hb=>(f3 b hb).1,w0⟩
  rintro n s6 ⟨i,ys,H6,I6,st6,fr6,w6⟩
  obtain ⟨hl6,alt⟩:=turn i n ys H6 w6
  have fpok:∀ {H':Hp},(∀ b∈fp,H' b=none)→∀ b∈fp,FpOk (cxComp X (ownN++caps.map (·.1)) scope (clo X.env scope.names []) s3.heap.objs.size s3 (upd H2 ac (.lst [])) fp (X.pn++pins)) [] H' b:=fun {H'} hn b hb =>
   ⟨hn b hb,Nat.ne_of_lt (fl3 b hb),I6.ok.exfs b hb,.inl hb,(I6.ok.exf b hb).2,fun p hp z=>(f3 b hb).2.2.2.2.2 p (by
    have hp':p∈(X.pn++pins)++[]:=hp
    simpa using hp') z⟩
  rcases alt with ⟨stop,qn⟩|⟨go,hsz,N,hN,step⟩
  ·refine thn (T.done (cxComp X (ownN++caps.map (·.1)) scope (clo X.env scope.names []) s3.heap.objs.size s3 (upd H2 ac (.lst [])) fp (X.pn++pins)) rfl rfl rfl hc i [] s6 _ H6 _ I6 (fpok fr6) st6 stop) fun r s7 ⟨hr,I7⟩=>?_
   subst hr
   exact after s7 _ H6 I7 qn
  ·refine thn (T.item (cxComp X (ownN++caps.map (·.1)) scope (clo X.env scope.names []) s3.heap.objs.size s3 (upd H2 ac (.lst [])) fp (X.pn++pins)) rfl rfl rfl hc i [] s6 _ H6 _ I6 (fpok fr6) st6 go) fun r s7 ⟨u,hr,h7⟩=>?_
   subst hr
   refine thn h7 fun _ s8 ⟨x,H8,I8,r8,y8,st8,fr8⟩=>?_
   have I8':=I8.pinned (fpok fr8) (T.obj _ _ st8)
   have fin:∀ {σ':St} {H':Hp} {s':Shared},Inv (cxComp X (ownN++caps.map (·.1)) scope (clo X.env scope.names []) s3.heap.objs.size s3 (upd H2 ac (.lst [])) fp (X.pn++pins)) ([]++pinsAt fp s8.heap) σ' H' s'→tn (i+1) s'.heap∧∀ b∈fp,H' b=none:=fun {σ' H' s'} J =>
    ⟨T.keep _ _ _ st8 fun b hb o e=>(J.pin (b,o) (List.mem_append_right _ (List.mem_append_right _ (mem_pinsAt hb e)))).1,fun b hb=>by
     obtain ⟨o,e,_⟩:=T.obj _ _ st8 b hb
     exact (J.pin (b,o) (List.mem_append_right _ (List.mem_append_right _ (mem_pinsAt hb e)))).2.1⟩
   refine thn (hg _ _ _ _ _ _ _ s8 _ H8 x u _ I8' r8 (step x H8 y8)) fun _ s9 ⟨σ9,H9,I9,wk,q9⟩=>?_
   refine thn (ht _ _ _ _ _ _ _ s9 σ9 H9 _ I9 q9) fun b s10 ⟨H10,I10,q10⟩=>?_
   cases b with
   |false =>
    rw [if_neg Bool.false_ne_true] at q10 ⊢
    obtain ⟨m',hm',w'⟩:=hN _ _ q10
    obtain ⟨e1,e2⟩:=fin I10
    exact ⟨m',hm',i+1,ys,H10,(I10.weak wk.len wk.get).unpinned,e1,e2,w'⟩
   |true =>
    rw [if_pos rfl] at q10 ⊢
    refine thn (he _ _ _ _ _ _ _ s10 σ9 H10 _ I10 q10) fun y s11 ⟨yv,H11,I11,r11,hl11,q11⟩=>?_
    obtain ⟨m',hm',w'⟩:=hN _ _ q11
    refine thn (mt_append (X:=cxComp X (ownN++caps.map (·.1)) scope (clo X.env scope.names []) s3.heap.objs.size s3 (upd H2 ac (.lst [])) fp (X.pn++pins)) (pinsAt fp s8.heap) s11 σ9 H11 (.ref ac) [yv] (.ref ac) [y] (fun v H'=>H'=upd H11 ac (.lst (ys++[yv]))) I11 rfl (.cons r11 .nil) ⟨ac,ys,yv,rfl,rfl,hl11,hsz,rfl⟩) fun _ s12 ⟨v12,H12,I12,_,e12⟩=>?_
    subst e12
    obtain ⟨e1,e2⟩:=fin I12
    exact ⟨m',hm',i+1,_,_,(I12.weak wk.len wk.get).unpinned,e1,e2,w'⟩
 exact codeAny_compStart_list (loop _ rfl) (T.self _ 0 _ _ _ st4 (loop _ rfl))
theorem ps_setComp {i:Nat} {x:Str} {pos' spos:Pos} (hN:X.N.Nodup) (hix:X.N[i]?=some x) (hxl:Loc X.env.scope x) (ownN:List Str) (caps:List (Str×Nat)) (hc:X.calm=true) (hi:PI X tg iter wi)
  (hg:∀ cl C s H fp pn,PG (cxComp X (ownN++caps.map (·.1)) scope cl C s H fp pn) tg g)
  (ht:∀ cl C s H fp pn,PTs (cxComp X (ownN++caps.map (·.1)) scope cl C s H fp pn) ifs tt)
  (he:∀ cl C s H fp pn,PE (cxComp X (ownN++caps.map (·.1)) scope cl C s H fp pn) elt te)
  (hkind:scope.kind=.function:=by rfl) (hcell:∀ y∈scope.names,y.2≠.cell:=by decide)
  (hfr:(scope.names.all fun p=>p.2 != .free || X.env.scope.names.lookup p.1 == some .cell)=true:=by rfl)
  (hcp:(caps.all fun c=>X.N[c.2]? == some c.1 && (X.env.scope.names.lookup c.1 == some .cell && scope.names.lookup c.1 == some .free))=true:=by rfl)
  (hnames:∀ x∈scope.names,x.2=.local→scope.names.lookup x.1=some .local:=by decide)
  (hs:∀ x,foldedSetIterable iter X.env x=pure x:=by intro _;rfl)
  (hsw:swapsWith (.ListComp elt [⟨tg,iter,ifs,0⟩] scope pos) (some (.Name x pos')) spos.line X.env=pure true:=by rfl)
  (hf:X.fn x=true∨X.env.scope.names.lookup x=some .local:=by first|exact .inl rfl|exact .inr rfl|assumption) :
  PS X (.Assign [.Name x pos'] (.ListComp elt [⟨tg,iter,ifs,0⟩] scope pos) spos) (tAsg (tComp wi ownN.length (caps.map (·.2)) g tt te) (gName i)):=by
 intro pins s σ H D I h
 let Q:VK:=fun v H'=>D.nx (σ.set i (some v)) H'
 have hfree:∀ p∈scope.names,p.2=.free→X.env.scope.names.lookup p.1=some .cell:=fun p hp e=>by
  have z:=List.all_eq_true.mp hfr p hp
  rw [e] at z
  simpa using z
 have hcaps:∀ c∈caps,X.N[c.2]?=some c.1∧X.env.scope.names.lookup c.1=some .cell∧scope.names.lookup c.1=some .free:=fun c hc=>by
  have z:=List.all_eq_true.mp hcp c hc
  simpa using z
 have has:∀ p∈scope.names,p.2=.free→∃ a,X.env.cells.lookup p.1=some a:=fun p hp hfr=>I.ok.has p.1 (.inl (hfree p hp hfr))
 rw [exec_Assign_Name_used _ _ _ _ hsw]
 refine wpAny_bind (wpAny_standAt (wpAny_bind ?_))
 show wpAny _ X.A (do let _ ←comprehension (.ListComp elt [⟨tg,iter,ifs,0⟩] scope pos) scope X.env _ (newList []) false (eval iter X.env) (some (assign (.Name x pos') X.env))) _ _ s
 refine wpAny_bind (thn (Q:=fun _ s'=>∃ σ' H',Inv X pins σ' H' s'∧D.nx σ' H') (wpAny_comprehension_free (use:=some (assign (.Name x pos') X.env)) rfl hs (closureFor_clo has) hkind hnames (thn (hi pins s σ H _ I h) fun v s1 h1=>thn h1 fun itv s2 h2=>?_)) fun _ s' hq=>wpAny_pure (wpAny_pure hq))
 obtain ⟨it,fp,tn,J,H2,rfl,I2,T,st2,f2,red⟩:=h2
 have hf2:H2 s2.heap.objs.size=none:=I2.hok.fresh (Nat.le_refl _)
 obtain ⟨W,⟨m0,w0⟩,turn⟩:=red s2.heap.objs.size hf2
 refine wpAny_newObj_type ?_
 generalize hac:s2.heap.objs.size=ac at hf2 turn w0 ⊢
 have I3:Inv X pins σ (upd H2 ac (.lst [])) { s2 with heap:=s2.heap.push { cls:=.type "list", dict:=none,data:=.seq ([]:List Value).toArray } }:=by
  subst hac
  exact I2.laid (t':=s2.toks) (o:=.lst []) (fun b u e=>Heap.get?_push_of_some _ e) (Nat.le_refl _) ⟨Nat.zero_le _,[],0,.nil,Heap.get?_push_size _ rfl⟩
 generalize hs3:({ s2 with heap:=s2.heap.push { cls:=.type "list", dict:=none,data:=.seq ([]:List Value).toArray } }:Shared)=s3 at I3 ⊢
 have obj2:=T.obj 0 s2.heap st2
 have fne:∀ b∈fp,b≠ac:=fun b hb z=>by
  obtain ⟨o,e,_⟩:=obj2 b hb
  exact absurd (Heap.lt_size e) (by rw [z,hac];exact Nat.lt_irrefl _)
 have f3:∀ b∈fp,FpOk X pins (upd H2 ac (.lst [])) b:=fun b hb=>⟨by rw [upd_ne (fne b hb)];exact (f2 b hb).1,(f2 b hb).2⟩
 have st3:tn 0 s3.heap:=T.keep 0 _ _ st2 fun b hb o e=>by subst hs3;exact Heap.get?_push_of_some _ e
 have fl3:∀ b∈fp,b<s3.heap.objs.size:=fun b hb=>by
  obtain ⟨o,e,_⟩:=T.obj 0 s3.heap st3 b hb
  exact Heap.lt_size e
 have acl:ac<s3.heap.objs.size:=by subst hs3;subst hac;simp [Heap.size_push]
 refine wpAny_newFunctionEnv hcell (by intro y hy;simp at hy) (fun h₁ hns₁ hsb₁=>?_) hkind
 have old:∀ b o,s3.heap.get? b=some o→h₁.get? b=some o:=fun b o e=>hsb₁.extBut b o (Nat.ne_of_lt (Heap.lt_size e)) (Heap.get?_push_of_some _ e)
 have I4:=inv_comp (ownN:=ownN) (caps:=caps) (tk:=s3.toks+([]:List (Str×Value)).length) I3 f3 fl3 hkind hcell hfree hcaps hns₁ old
 have st4:tn 0 h₁:=T.keep 0 _ _ st3 fun b hb o e=>old b o e
 -- behind the block
 have after:∀ (s5:Shared) (σ5:St) (H5:Hp),Inv (cxComp X (ownN++caps.map (·.1)) scope (clo X.env scope.names []) s3.heap.objs.size s3 (upd H2 ac (.lst [])) fp (X.pn++pins)) [] σ5 H5 s5→Q (.ref ac) H5 →
   compPost (model X.prog X.w) X.A X.xe (some (assign (.Name x pos') X.env)) (fun _ s'=>∃ σ' H',Inv X pins σ' H' s'∧D.nx σ' H') (.ref ac) s3.heap.objs.size (.ok .next) s5:=by
  intro s5 σ5 H5 J5 q
  obtain ⟨m,hm,_⟩:=J5.loc
  have nC:H5 s3.heap.objs.size=none:=J5.free
  have I5:Inv X pins σ H5 s5:=I3.call' (s':=s5) (ch:=fp) J5.os J5.base J5.hok J5.bare (fun b hb=>⟨(f3 b hb).2.2.2.1,(f3 b hb).2.1,(f3 b hb).2.2.2.2.1,(f3 b hb).2.2.2.2.2⟩)
  have fC:=I3.fpOk (Nat.le_refl _) nC
  show wpAny _ X.A (assign (.Name x pos') X.env (.ref ac)) _ _ s5
  refine wpAny_assign_Name (store_ok2 I5 hN hix hxl (v:=.ref ac) rfl (fun s6 I6 ⟨a,sb,ha⟩=>?_) hf)
  have aC:s3.heap.objs.size≠a:=by
   rcases ha with z|z
   ·rw [z];exact fC.2.1
   ·exact Ne.symm (fC.2.2.2.2.1 x a z)
  refine ⟨m,hm.sameBut sb aC,fun h' hs'=>?_⟩
  exact ⟨_,H5,I6.turned (it:=s3.heap.objs.size) (t':=s6.toks) (fun b o hb e=>hs'.extBut b o hb e) nC fC.2.1 fC.2.2.2.1 fC.2.2.2.2.1 fC.2.2.2.2.2,q⟩
 have loop:∀ s4:Shared,s4={ s3 with heap:=h₁,toks:=s3.toks+([]:List (Str×Value)).length }→codeAny (model X.prog X.w) X.A (.compLoop (.ListComp elt [⟨tg,iter,ifs,0⟩] scope pos) 0 (.ref it) (.ref ac) (compEnvC scope (clo X.env scope.names []) s3.heap.objs.size X.env))
   (compPost (model X.prog X.w) X.A X.xe (some (assign (.Name x pos') X.env)) (fun _ s'=>∃ σ' H',Inv X pins σ' H' s'∧D.nx σ' H') (.ref ac) s3.heap.objs.size) s4:=by
  rintro s4 rfl
  refine compLoop_go (fun n s'=>∃ i ys H',Inv (cxComp X (ownN++caps.map (·.1)) scope (clo X.env scope.names []) s3.heap.objs.size s3 (upd H2 ac (.lst [])) fp (X.pn++pins)) [] (stC ownN.length (caps.map (·.2)) σ) H' s'∧tn i s'.heap∧(∀ b∈fp,H' b=none)∧W i n ys H') ?_ m0
   ⟨0,[],_,I4,st4,fun b hb=>(f3 b hb).1,w0⟩
  rintro n s6 ⟨i,ys,H6,I6,st6,fr6,w6⟩
  obtain ⟨hl6,alt⟩:=turn i n ys H6 w6
  have fpok:∀ {H':Hp},(∀ b∈fp,H' b=none)→∀ b∈fp,FpOk (cxComp X (ownN++caps.map (·.1)) scope (clo X.env scope.names []) s3.heap.objs.size s3 (upd H2 ac (.lst [])) fp (X.pn++pins)) [] H' b:=fun {H'} hn b hb =>
   ⟨hn b hb,Nat.ne_of_lt (fl3 b hb),I6.ok.exfs b hb,.inl hb,(I6.ok.exf b hb).2,fun p hp z=>(f3 b hb).2.2.2.2.2 p (by
    have hp':p∈(X.pn++pins)++[]:=hp
    simpa using hp') z⟩
  rcases alt with ⟨stop,qn⟩|⟨go,hsz,N,hN,step⟩
  ·refine thn (T.done (cxComp X (ownN++caps.map (·.1)) scope (clo X.env scope.names []) s3.heap.objs.size s3 (upd H2 ac (.lst [])) fp (X.pn++pins)) rfl rfl rfl hc i [] s6 _ H6 _ I6 (fpok fr6) st6 stop) fun r s7 ⟨hr,I7⟩=>?_
   subst hr
   exact after s7 _ H6 I7 qn
  ·refine thn (T.item (cxComp X (ownN++caps.map (·.1)) scope (clo X.env scope.names []) s3.heap.objs.size s3 (upd H2 ac (.lst [])) fp (X.pn++pins)) rfl rfl rfl hc i [] s6 _ H6 _ I6 (fpok fr6) st6 go) fun r s7 ⟨u,hr,h7⟩=>?_
   subst hr
   refine thn h7 fun _ s8 ⟨xv,H8,I8,r8,y8,st8,fr8⟩=>?_
   have I8':=I8.pinned (fpok fr8) (T.obj _ _ st8)
   have fin:∀ {σ':St} {H':Hp} {s':Shared},Inv (cxComp X (ownN++caps.map (·.1)) scope (clo X.env scope.names []) s3.heap.objs.size s3 (upd H2 ac (.lst [])) fp (X.pn++pins)) ([]++pinsAt fp s8.heap) σ' H' s'→tn (i+1) s'.heap∧∀ b∈fp,H' b=none:=fun {σ' H' s'} J =>
    ⟨T.keep _ _ _ st8 fun b hb o e=>(J.pin (b,o) (List.mem_append_right _ (List.mem_append_right _ (mem_pinsAt hb e)))).1,fun b hb=>by
     obtain ⟨o,e,_⟩:=T.obj _ _ st8 b hb
     exact (J.pin (b,o) (List.mem_append_right _ (List.mem_append_right _ (mem_pinsAt hb e)))).2.1⟩
   refine thn (hg _ _ _ _ _ _ _ s8 _ H8 xv u _ I8' r8 (step xv H8 y8)) fun _ s9 ⟨σ9,H9,I9,wk,q9⟩=>?_
   refine thn (ht _ _ _ _ _ _ _ s9 σ9 H9 _ I9 q9) fun b s10 ⟨H10,I10,q10⟩=>?_
   cases b with
   |false =>
    rw [if_neg Bool.false_ne_true] at q10 ⊢
    obtain ⟨m',hm',w'⟩:=hN _ _ q10
    obtain ⟨e1,e2⟩:=fin I10
    exact ⟨m',hm',i+1,ys,H10,(I10.weak wk.len wk.get).unpinned,e1,e2,w'⟩
   |true =>
    rw [if_pos rfl] at q10 ⊢
    refine thn (he _ _ _ _ _ _ _ s10 σ9 H10 _ I10 q10) fun y s11 ⟨yv,H11,I11,r11,hl11,q11⟩=>?_
    obtain ⟨m',hm',w'⟩:=hN _ _ q11
    refine thn (mt_append (X:=cxComp X (ownN++caps.map (·.1)) scope (clo X.env scope.names []) s3.heap.objs.size s3 (upd H2 ac (.lst [])) fp (X.pn++pins)) (pinsAt fp s8.heap) s11 σ9 H11 (.ref ac) [yv] (.ref ac) [y] (fun v H'=>H'=upd H11 ac (.lst (ys++[yv]))) I11 rfl (.cons r11 .nil) ⟨ac,ys,yv,rfl,rfl,hl11,hsz,rfl⟩) fun _ s12 ⟨v12,H12,I12,_,e12⟩=>?_
    subst e12
    obtain ⟨e1,e2⟩:=fin I12
    exact ⟨m',hm',i+1,_,_,(I12.weak wk.len wk.get).unpinned,e1,e2,w'⟩
 exact codeAny_compStart_list (loop _ rfl) (T.self _ 0 _ _ _ st4 (loop _ rfl))
theorem comp_range {lo:Int} {n own:Nat} {caps:List Nat} {g:TG} {tt:TT} {te:TE} {σ:St} {R:Hp→Prop} {l:Addr} {H1:Hp} (Pv:Nat→List V→Hp→Prop) (h0:Pv 0 [] (upd H1 l (.lst []))) (hz:n≤sizeLine)
  (hl:∀ i ys H,Pv i ys H→H l=some (.lst ys)∧ys.length≤i)
  (hs:∀ i ys H,i<n→Pv i ys H→g (.int (lo+i)) (stC own caps σ) H fun σ2 H2=>Wk (stC own caps σ) σ2 ∧
   tt σ2 H2 fun b H3=>if b=true then te σ2 H3 fun y H4=>H4 l=some (.lst ys)∧Pv (i+1) (ys++[y]) (upd H4 l (.lst (ys++[y]))) else Pv (i+1) ys H3)
  (hd:∀ ys H,Pv n ys H→R H) :
  ∃ W:Nat→Nat→List V→Hp→Prop,(∃ m,W 0 m [] (upd H1 l (.lst []))) ∧
   ∀ i m ys H,W i m ys H→H l=some (.lst ys)∧(((Itr lo n).stop i H∧R H)∨((Itr lo n).go i H∧ys.length<sizeLine∧∃ N:List V→Hp→Prop,(∀ ys' H',N ys' H'→∃ m',m'<m∧W (i+1) m' ys' H') ∧
    ∀ x H',(Itr lo n).yld i H x H'→g x (stC own caps σ) H' fun σ2 H2=>Wk (stC own caps σ) σ2 ∧
    tt σ2 H2 fun b H3=>if b=true then te σ2 H3 fun y H4=>H4 l=some (.lst ys)∧N (ys++[y]) (upd H4 l (.lst (ys++[y]))) else N ys H3)):=by
 refine ⟨fun i m ys H=>m=n-i∧i≤n∧Pv i ys H,⟨n,by simp,Nat.zero_le _,h0⟩,?_⟩
 rintro i m ys H ⟨rfl,hi,p⟩
 obtain ⟨e1,e2⟩:=hl i ys H p
 refine ⟨e1,?_⟩
 by_cases hlt:i<n
 ·refine .inr ⟨hlt,by walk_at"q", Pv (i+1),fun ys' H' p'=>⟨n-(i+1),by walk_at"q", rfl,hlt,p'⟩,fun x H' y=>?_⟩
  obtain ⟨e,y⟩:=y
  subst e y
  exact hs i ys _ hlt p
 ·have e:i=n:=by walk_at"q"
  subst e
  exact .inl ⟨Nat.le_refl _,hd ys H p⟩
theorem comp_list {K:PySem.W.Frag} {a:Addr} {xs:List V} {own:Nat} {caps:List Nat} {g:TG} {tt:TT} {te:TE} {σ:St} {R:Hp→Prop} {l:Addr} {H1:Hp} (Pv:Nat→List V→Hp→Prop) (h0:Pv 0 [] (upd H1 l (.lst []))) (hz:xs.length≤sizeLine)
  (hl:∀ i ys H,i≤xs.length→Pv i ys H→SqL K H a xs∧H l=some (.lst ys)∧ys.length≤i)
  (hs:∀ i x ys H,xs[i]?=some x→Pv i ys H→g x (stC own caps σ) H fun σ2 H2=>Wk (stC own caps σ) σ2 ∧
   tt σ2 H2 fun b H3=>if b=true then te σ2 H3 fun y H4=>H4 l=some (.lst ys)∧Pv (i+1) (ys++[y]) (upd H4 l (.lst (ys++[y]))) else Pv (i+1) ys H3)
  (hd:∀ ys H,Pv xs.length ys H→R H) :
  ∃ W:Nat→Nat→List V→Hp→Prop,(∃ m,W 0 m [] (upd H1 l (.lst []))) ∧
   ∀ i m ys H,W i m ys H→H l=some (.lst ys)∧(((Itl K a).stop i H∧R H)∨((Itl K a).go i H∧ys.length<sizeLine∧∃ N:List V→Hp→Prop,(∀ ys' H',N ys' H'→∃ m',m'<m∧W (i+1) m' ys' H') ∧
    ∀ x H',(Itl K a).yld i H x H'→g x (stC own caps σ) H' fun σ2 H2=>Wk (stC own caps σ) σ2 ∧
    tt σ2 H2 fun b H3=>if b=true then te σ2 H3 fun y H4=>H4 l=some (.lst ys)∧N (ys++[y]) (upd H4 l (.lst (ys++[y]))) else N ys H3)):=by
 refine ⟨fun i m ys H=>m=xs.length-i∧i≤xs.length∧Pv i ys H,⟨xs.length,by simp,Nat.zero_le _,h0⟩,?_⟩
 rintro i m ys H ⟨rfl,hi,p⟩
 obtain ⟨q,e1,e2⟩:=hl i ys H hi p
 refine ⟨e1,?_⟩
 by_cases hlt:i<xs.length
 ·refine .inr ⟨⟨xs,xs[i],q,by simp [hlt]⟩,by walk_at"q", Pv (i+1),fun ys' H' p'=>⟨xs.length-(i+1),by walk_at"q", rfl,hlt,p'⟩,fun x H' y=>?_⟩
  obtain ⟨e,y⟩:=y
  subst e
  exact hs i x ys _ (y xs q) p
 ·have e:i=xs.length:=by walk_at"q"
  subst e
  exact .inl ⟨⟨xs,q,Nat.le_refl _⟩,hd ys H p⟩
theorem comp_tup {K:PySem.W.Frag} {a:Addr} {xs:List V} {own:Nat} {caps:List Nat} {g:TG} {tt:TT} {te:TE} {σ:St} {R:Hp→Prop} {l:Addr} {H1:Hp} (Pv:Nat→List V→Hp→Prop) (h0:Pv 0 [] (upd H1 l (.lst []))) (hz:xs.length≤sizeLine)
  (hl:∀ i ys H,i≤xs.length→Pv i ys H→SqT K H a xs∧H l=some (.lst ys)∧ys.length≤i)
  (hs:∀ i x ys H,xs[i]?=some x→Pv i ys H→g x (stC own caps σ) H fun σ2 H2=>Wk (stC own caps σ) σ2 ∧
   tt σ2 H2 fun b H3=>if b=true then te σ2 H3 fun y H4=>H4 l=some (.lst ys)∧Pv (i+1) (ys++[y]) (upd H4 l (.lst (ys++[y]))) else Pv (i+1) ys H3)
  (hd:∀ ys H,Pv xs.length ys H→R H) :
  ∃ W:Nat→Nat→List V→Hp→Prop,(∃ m,W 0 m [] (upd H1 l (.lst []))) ∧
   ∀ i m ys H,W i m ys H→H l=some (.lst ys)∧(((Itt K a).stop i H∧R H)∨((Itt K a).go i H∧ys.length<sizeLine∧∃ N:List V→Hp→Prop,(∀ ys' H',N ys' H'→∃ m',m'<m∧W (i+1) m' ys' H') ∧
    ∀ x H',(Itt K a).yld i H x H'→g x (stC own caps σ) H' fun σ2 H2=>Wk (stC own caps σ) σ2 ∧
    tt σ2 H2 fun b H3=>if b=true then te σ2 H3 fun y H4=>H4 l=some (.lst ys)∧N (ys++[y]) (upd H4 l (.lst (ys++[y]))) else N ys H3)):=by
 refine ⟨fun i m ys H=>m=xs.length-i∧i≤xs.length∧Pv i ys H,⟨xs.length,by simp,Nat.zero_le _,h0⟩,?_⟩
 rintro i m ys H ⟨rfl,hi,p⟩
 obtain ⟨q,e1,e2⟩:=hl i ys H hi p
 refine ⟨e1,?_⟩
 by_cases hlt:i<xs.length
 ·refine .inr ⟨⟨xs,xs[i],q,by simp [hlt]⟩,by walk_at"q", Pv (i+1),fun ys' H' p'=>⟨xs.length-(i+1),by walk_at"q", rfl,hlt,p'⟩,fun x H' y=>?_⟩
  obtain ⟨e,y⟩:=y
  subst e
  exact hs i x ys _ (y xs q) p
 ·have e:i=xs.length:=by walk_at"q"
  subst e
  exact .inl ⟨⟨xs,q,Nat.le_refl _⟩,hd ys H p⟩
end
end
section
section
variable {X:Cx}
def rEqL (K:PySem.W.Frag) (neg:Bool):R2:=fun x y H Q=>∃ (a b:Addr) (ns ms:List Int),x=.ref a∧y=.ref b∧SqL K H a (ns.map V.int)∧SqL K H b (ms.map V.int)∧Q (.bl (if neg then !decide (ns=ms) else decide (ns=ms))) H
theorem op_eqL (hu:X.A.units+64<cLine):OpR X (compareOp .Eq) (rEqL X.K false):=by
 intro pins s σ H x y v u Q I rx ry h
 obtain ⟨a,b,ns,ms,rfl,rfl,ha,hb,q⟩:=h
 cases rx
 cases ry
 obtain ⟨its,r1,p1,_⟩:=I.list ha
 obtain ⟨its2,r2,p2,_⟩:=I.list hb
 exact PySem.W.eq_intsK p1.isList (intsAre_of r1) p2.isList (intsAre_of r2) hu ⟨.bl _,H,I,rfl,q⟩
theorem op_neL (hu:X.A.units+64<cLine):OpR X (compareOp .NotEq) (rEqL X.K true):=by
 intro pins s σ H x y v u Q I rx ry h
 obtain ⟨a,b,ns,ms,rfl,rfl,ha,hb,q⟩:=h
 cases rx
 cases ry
 obtain ⟨its,r1,p1,_⟩:=I.list ha
 obtain ⟨its2,r2,p2,_⟩:=I.list hb
 exact PySem.W.ne_intsK p1.isList (intsAre_of r1) p2.isList (intsAre_of r2) hu ⟨.bl _,H,I,rfl,q⟩
inductive P_call_isinst (K:PySem.W.Frag) (xs:List V) (H:Hp) (Q:VK):Prop
 |mk (x:_) (T:_) (t:_) (b:_) (h1:xs=[x,.ty T]) (h2:TyOf K H x t) (h3:PySem.W.kitOne K t (.type T)=some b) (h4:Q (.bl b) H):P_call_isinst K xs H Q
theorem call_isinst:CallR X (.builtin "isinstance") (P_call_isinst X.K):=by
 intro pins s σ H xs us Q I r h
 obtain ⟨x,T,t,b,rfl,ty,e,q⟩:=h
 obtain ⟨u,v,rfl,ru,rv⟩:=r.two
 cases rv
 exact isinst_ok I ru ty e fun tk=>⟨.bl b,H,I.tok tk,rfl,q⟩
inductive P_call_allB (K:PySem.W.Frag) (xs:List V) (H:Hp) (Q:VK):Prop
 |mk (p:Addr) (bs:List Bool) (h1:xs=[.ref p]) (h2:SqL K H p (bs.map V.bl)) (h3:Q (.bl (bs.all id)) H):P_call_allB K xs H Q
theorem call_allB (hc:X.calm=true):CallR X (.builtin "all") (P_call_allB X.K):=by
 intro pins s σ H xs us Q I r h
 obtain ⟨p,bs,rfl,hp,q⟩:=h
 obtain ⟨u,rfl,ru⟩:=r.one
 cases ru
 obtain ⟨its,rv,pl,hz⟩:=I.list hp
 have lts:p<s.heap.objs.size:=by
  obtain ⟨o,n,e,_⟩:=pl
  exact Heap.lt_size e
 refine call_all_walk (wpAny_pyIter_list pl.isList ?_)
 refine ⟨_,_,_,_,_,_,fun i=>bs.getD i true,rfl,Walks.list (A:=X.A.in1) (I.ok.hd hc) s.heap.objs.size p (Nat.ne_of_lt lts) its.toArray,⟨⟨_,Heap.get?_push_size _ rfl,rfl,rfl⟩,?_⟩,?_,fun h' tk hk=>?_⟩
 ·obtain ⟨o,n,e,c,d,e2⟩:=pl
  exact ⟨o,Heap.get?_push_of_some _ e,c,n,e2⟩
 ·intro i v s' Q' E' hP hQ
  have hi:its[i]?=some v:=by simpa using hP
  have hl:=rv.length
  cases e:bs[i]? with
  |none =>
   have h1:its.length≤i:=by
    have:=List.getElem?_eq_none_iff.mp e
    rw [←hl,List.length_map];exact this
   rw [List.getElem?_eq_none_iff.mpr h1] at hi;cases hi
  |some b =>
   have e':(bs.map V.bl)[i]?=some (.bl b):=by rw [List.getElem?_map,e];rfl
   obtain ⟨u,hu,ru⟩:=rv.get e'
   rw [hi] at hu;cases hu
   cases ru
   have eg:bs.getD i true=b:=by simp [List.getD,e]
   have hQ2:Q' (bs.getD i true) s':=hQ
   rw [eg] at hQ2
   exact wpAny_truthy_bool hQ2
 ·have hl:its.toArray.size=bs.length:=by
   have:=rv.length
   rw [List.length_map] at this
   simp [this]
  have e:(List.range its.toArray.size).all (fun i=>bs.getD i true)=bs.all id:=by
   rw [hl]
   clear q hl rv hp hk
   rw [Bool.eq_iff_iff,List.all_eq_true,List.all_eq_true]
   constructor
   ·intro h b hb
    obtain ⟨i,hi,rfl⟩:=List.mem_iff_getElem.mp hb
    have:=h i (by simpa using hi)
    simpa [List.getD,hi] using this
   ·intro h i hi
    have hi':i<bs.length:=by simpa using hi
    have:=h bs[i] (List.getElem_mem hi')
    simpa [List.getD,hi'] using this
  refine ⟨.bl (bs.all id),H,?_,congrArg Value.bool e,q⟩
  ·exact I.kept (t':=tk) fun b o e=>hk b o (by
    intro z
    have:b=s.heap.objs.size:=by simpa using z
    exact absurd (Heap.lt_size e) (by rw [this];exact Nat.lt_irrefl _)) (Heap.get?_push_of_some _ e)
def IsMax (ns:List Int) (m:Int):Prop:=m∈ns∧∀ a∈ns,a≤m
theorem mx_turns {P:Program} {w:World} {A:Around} {R:Result→Shared→Prop} {it l B:Addr} {vals:List Value} {ns:List Int} {kw:List (Str×Value)} (hh:A.handled=none) (hi:IntsAre vals ns) (h1:l≠it) (h2:B≠it) (h3:B≠l) :
  ∀ (k j:Nat) (s:Shared) (m:Int) (t:Tok) (c:Nat),ns.length-j=k→j≤ns.length→s.heap.IsListIter it l j→s.heap.IsList l vals.toArray→IsMax (ns.take j) m →
   s.heap.get? B=some { cls:=.type "list", dict:=none,data:=.seq #[.int m t,.int m t] c,slots:=#[] } →
   (∀ (m':Int) (t':Tok) h' tk,IsMax ns m'→(∀ b o,b≠it→b≠B→s.heap.get? b=some o→h'.get? b=some o)→R (.ok (.ret (.int m' t'))) { s with heap:=h',toks:=tk }) →
   codeAny (model P w) A (.builtin "max.loop" ⟨[.ref it,.none,.ref B],kw⟩) R s:=by
 have nm:(toString "max" ++ toString ".loop" : String) = "max.loop" := by decide
 have hlen:=hi.length
 intro k
 induction k with
 |zero =>
  intro j s m t c hk hj st sl im hB done
  have ej:j=ns.length:=by walk_at"q"
  subst ej
  refine codeAny_builtin F.entry_max_loop ?_
  rw [Around.under_plainId F.plain_max_loop _]
  show wpAny (model P w) A.in1 (seqItems? (.ref B) >>= _) _ _ s
  refine wpAny_bind (wpAny_seqItems hB rfl ?_)
  show wpAny (model P w) A.in1 (tryCatch (pyNext (.ref it)) _ >>= _) _ _ s
  refine wpAny_bind (wpAny_tryCatch (wpAny_pyNext_list_end hh st sl (by simp;walk_at"q") fun h' ek=>?_))
  have hB':=ek B _ h2 hB
  show wpAny (model P w) A.in1 (updateSeq B (fun _=>#[]) >>= _) _ _ _
  refine wpAny_bind (wpAny_updateSeq hB' rfl (wpAny_bind (wpAny_letGo (wpAny_pure ?_))))
  rw [List.take_length] at im
  exact done m t _ s.toks im fun b o n1 n2 e=>(Heap.get?_update_other _ _ (Ne.symm n2)).trans (ek b o n1 e)
 |succ k ih =>
  intro j s m t c hk hj st sl im hB done
  have lt:j<ns.length:=by walk_at"q"
  obtain ⟨t2,e2⟩:∃ t2,vals[j]?=some (.int ns[j] t2):=by
   have e1:(ns.map V.int)[j]?=some (.int ns[j]):=by rw [List.getElem?_map];simp [lt]
   obtain ⟨u,hu,t2,rfl⟩:=(vals_ints hi).get e1
   exact ⟨t2,hu⟩
  refine codeAny_builtin F.entry_max_loop ?_
  rw [Around.under_plainId F.plain_max_loop _]
  show wpAny (model P w) A.in1 (seqItems? (.ref B) >>= _) _ _ s
  refine wpAny_bind (wpAny_seqItems hB rfl ?_)
  show wpAny (model P w) A.in1 (tryCatch (pyNext (.ref it)) _ >>= _) _ _ s
  refine wpAny_bind (wpAny_tryCatch (wpAny_pyNext_list_item st sl (x:=.int ns[j] t2) (by simpa using e2) fun h' st' sb=>?_))
  have keep:∀ b o,b≠it→s.heap.get? b=some o→h'.get? b=some o:=fun b o n e=>(sb.2 b n).trans e
  have hB':=keep B _ h2 hB
  have sl':h'.IsList l vals.toArray:=sl.at fun o e=>keep l o h1 e
  show wpAny (model P w) A.in1 (tryCatch (holding [Value.int ns[j] t2,Value.int ns[j] t2] (richCompare .Gt (Value.int ns[j] t2) (Value.int m t) >>= _)) _ >>= _) _ _ _
  refine wpAny_bind (wpAny_tryCatch (wpAny_holding (wpAny_bind (gt_int (show _ from ?_)))))
  refine wpAny_bind (wpAny_holding (wpAny_truthy_bool ?_))
  refine wpAny_bind (wpAny_letGo (wpAny_pure ?_))
  have tk1:ns.take (j+1)=ns.take j++[ns[j]]:=by rw [List.take_add_one];simp [lt]
  by_cases hb:m<ns[j]
  ·rw [decide_eq_true hb]
   simp only [if_true]
   refine wpAny_bind (wpAny_updateSeq hB' rfl (wpAny_bind (wpAny_letGo ?_)))
   rw [nm]
   refine wpAny_pure ⟨plainId_quiet F.plain_max_loop _,ih (j+1) _ ns[j] t2 _ (by walk_at"q") lt ?_ ?_ ?_ (Heap.get?_update_self _ hB' rfl) fun m' t' h'' tk im' kk=>?_⟩
   ·exact st'.at fun o e=>(Heap.get?_update_other _ _ h2).trans e
   ·exact sl'.at fun o e=>(Heap.get?_update_other _ _ h3).trans e
   ·rw [tk1]
    exact ⟨List.mem_append_right _ (List.mem_singleton.mpr rfl),fun a ha=>by
     rcases List.mem_append.mp ha with q|q
     ·have:=im.2 a q;walk_at"q"
     ·have:a=ns[j]:=by simpa using q
      walk_at"q"⟩
   ·exact done m' t' h'' tk im' fun b o n1 n2 e=>kk b o n1 n2 ((Heap.get?_update_other _ _ (Ne.symm n2)).trans (keep b o n1 e))
  ·rw [decide_eq_false hb]
   simp only [Bool.false_eq_true,if_false]
   refine wpAny_bind (wpAny_letGo ?_)
   rw [nm]
   refine wpAny_pure ⟨plainId_quiet F.plain_max_loop _,ih (j+1) _ m t c (by walk_at"q") lt st' sl' ?_ hB' fun m' t' h'' tk im' kk=>?_⟩
   ·rw [tk1]
    exact ⟨List.mem_append_left _ im.1,fun a ha=>by
     rcases List.mem_append.mp ha with q|q
     ·exact im.2 a q
     ·have:a=ns[j]:=by simpa using q
      walk_at"q"⟩
   ·exact done m' t' h'' tk im' fun b o n1 n2 e=>kk b o n1 n2 (keep b o n1 e)
theorem mx_first {P:Program} {w:World} {A:Around} {R:Result→Shared→Prop} {it l B:Addr} {vals:List Value} {ns:List Int} {d:Value} {s:Shared} {c:Nat} (hh:A.handled=none) (hi:IntsAre vals ns) (h1:l≠it) (h2:B≠it) (h3:B≠l)
  (st:s.heap.IsListIter it l 0) (sl:s.heap.IsList l vals.toArray) (hB:s.heap.get? B=some { cls:=.type "list", dict:=none,data:=.seq #[] c,slots:=#[] })
  (nil:ns=[]→∀ h',(∀ b o,b≠it→b≠B→s.heap.get? b=some o→h'.get? b=some o)→R (.ok (.ret d)) { s with heap:=h' })
  (done:ns≠[]→∀ (m':Int) (t':Tok) h' tk,IsMax ns m'→(∀ b o,b≠it→b≠B→s.heap.get? b=some o→h'.get? b=some o)→R (.ok (.ret (.int m' t'))) { s with heap:=h',toks:=tk }) :
  codeAny (model P w) A (.builtin "max.loop" ⟨[.ref it,.none,.ref B],[("default", d)]⟩) R s:=by
 have nm:(toString "max" ++ toString ".loop" : String) = "max.loop" := by decide
 have hlen:=hi.length
 refine codeAny_builtin F.entry_max_loop ?_
 rw [Around.under_plainId F.plain_max_loop _]
 show wpAny (model P w) A.in1 (seqItems? (.ref B) >>= _) _ _ s
 refine wpAny_bind (wpAny_seqItems hB rfl ?_)
 show wpAny (model P w) A.in1 (tryCatch (pyNext (.ref it)) _ >>= _) _ _ s
 cases ns with
 |nil =>
  refine wpAny_bind (wpAny_tryCatch (wpAny_pyNext_list_end hh st sl (by simpa using hlen) fun h' ek=>?_))
  refine wpAny_bind (wpAny_rule (wpAny_pure ?_))
  exact nil rfl h' fun b o n1 n2 e=>ek b o n1 e
 |cons n0 rest =>
  obtain ⟨t2,e2⟩:∃ t2,vals[0]?=some (.int n0 t2):=by
   have e1:((n0::rest).map V.int)[0]?=some (.int n0):=rfl
   obtain ⟨u,hu,t2,rfl⟩:=(vals_ints hi).get e1
   exact ⟨t2,hu⟩
  refine wpAny_bind (wpAny_tryCatch (wpAny_pyNext_list_item st sl (x:=.int n0 t2) (by simpa using e2) fun h' st' sb=>?_))
  have keep:∀ b o,b≠it→s.heap.get? b=some o→h'.get? b=some o:=fun b o n e=>(sb.2 b n).trans e
  have hB':=keep B _ h2 hB
  show wpAny (model P w) A.in1 (updateSeq B (fun _=>#[Value.int n0 t2,Value.int n0 t2]) >>= _) _ _ _
  refine wpAny_bind (wpAny_updateSeq hB' rfl ?_)
  rw [nm]
  refine wpAny_pure ⟨plainId_quiet F.plain_max_loop _,mx_turns hh hi h1 h2 h3 _ 1 _ n0 t2 _ rfl (by simp) ?_ ?_ ?_ (Heap.get?_update_self _ hB' rfl) fun m' t' h'' tk im' kk=>?_⟩
  ·exact st'.at fun o e=>(Heap.get?_update_other _ _ h2).trans e
  ·exact (sl.at fun o e=>keep l o h1 e).at fun o e=>(Heap.get?_update_other _ _ h3).trans e
  ·exact ⟨by simp,fun a ha=>by
    have:a=n0:=by simpa using ha
    walk_at"q"⟩
  ·exact done (by simp) m' t' h'' tk im' fun b o n1 n2 e=>kk b o n1 n2 ((Heap.get?_update_other _ _ (Ne.symm n2)).trans (keep b o n1 e))
theorem args_maxd (a v:Value):argsOk "max" ⟨[a],[(Str.ofString "default", v)]⟩:=by unfold argsOk;kernel_rfl
theorem call_maxD {P:Program} {w:World} {A:Around} {E Q:Value→Shared→Prop} {l:Addr} {vals:List Value} {ns:List Int} {d:Value} {s:Shared} (hh:A.handled=none) (hi:IntsAre vals ns) (sl:s.heap.IsList l vals.toArray)
  (nil:ns=[]→∀ h',(∀ b o,s.heap.get? b=some o→h'.get? b=some o)→Q d { s with heap:=h' })
  (done:ns≠[]→∀ (m':Int) (t':Tok) h' tk,IsMax ns m'→(∀ b o,s.heap.get? b=some o→h'.get? b=some o)→Q (.int m' t') { s with heap:=h',toks:=tk }) :
  wpAny (model P w) A (call (.builtin "max") [.ref l] [(Str.ofString "default", d)]) Q E s:=by
 have nm:(toString "max" ++ toString ".loop" : String) = "max.loop" := by decide
 have ll:l<s.heap.objs.size:=by
  obtain ⟨o,e,_⟩:=sl
  exact Heap.lt_size e
 refine kmk_tree F.kind_max F.plain_max F.entry_max (args_maxd _ _) ?_
 show wpAny (model P w) A.in1 (Builtin.Builtins.bindParams "max" ["key", "default"] 0 ⟨[],[(Str.ofString "default", d)]⟩ >>= _) _ _ s
 refine wpAny_bind (wpAny_of_eq (show Builtin.Builtins.bindParams "max" ["key", "default"] 0 ⟨[],[(Str.ofString "default", d)]⟩=pure [none,some d] from rfl) ?_)
 refine wpAny_bind (wpAny_pure ?_)
 refine wpAny_bind (wpAny_pyIter_list sl ?_)
 refine wpAny_bind (wpAny_newObj_type ?_)
 rw [nm]
 have grow:∀ b o,s.heap.get? b=some o→((s.heap.push { cls:=.type "list_iterator", data:=.fields #[.ref l,.int 0 0] }).push { cls:=.type "list", dict:=none,data:=.seq ([]:List Value).toArray }).get? b=some o:=fun b o e =>
  Heap.get?_push_of_some _ (Heap.get?_push_of_some _ e)
 have z:(s.heap.push { cls:=.type "list_iterator", data:=.fields #[.ref l,.int 0 0] }).objs.size=s.heap.objs.size+1:=Heap.size_push ..
 refine wpAny_pure ⟨plainId_quiet F.plain_max_loop _,mx_first (l:=l) (B:=(s.heap.push { cls:=.type "list_iterator", data:=.fields #[.ref l,.int 0 0] }).objs.size) hh hi (Nat.ne_of_lt ll) (by rw [z];exact Nat.succ_ne_self _) (by rw [z];exact Nat.ne_of_gt (Nat.lt_succ_of_lt ll)) ?_ (sl.at fun o e=>grow l o e) (Heap.get?_push_size _ rfl) (fun e h' kk=>?_) fun e m' t' h' tk im kk=>?_⟩
 ·exact ⟨_,Heap.get?_push_of_some _ (Heap.get?_push_size _ rfl),rfl,rfl⟩
 ·exact nil e h' fun b o q=>kk b o (Nat.ne_of_lt (Heap.lt_size q)) (by rw [z];exact Nat.ne_of_lt (Nat.lt_succ_of_lt (Heap.lt_size q))) (grow b o q)
 ·exact done e m' t' h' tk im fun b o q=>kk b o (Nat.ne_of_lt (Heap.lt_size q)) (by rw [z];exact Nat.ne_of_lt (Nat.lt_succ_of_lt (Heap.lt_size q))) (grow b o q)
def tMaxD (K:PySem.W.Frag) (te td:TE):TE:=fun σ H Q=>te σ H fun x H1=>td σ H1 fun d H2=>∃ (l:Addr) (ns:List Int),x=.ref l∧SqL K H2 l (ns.map V.int)∧(ns=[]→Q d H2)∧∀ m,IsMax ns m→Q (.int m) H2
theorem pe_maxD {e d:Expr} {te td:TE} {p pos kp:Pos} (hc:X.calm=true) (hg:Gl X "max") (hm:X.mg "max" = none) (he:PE X e te) (hd:PE X d td)
  (hst:starEach [e] X.env=[(false,eval e X.env)]:=by rfl):PE X (.Call (.Name "max" p) [e] [⟨some "default", d,kp⟩] pos) (tMaxD X.K te td):=by
 intro pins s σ H Q I h
 refine wpAny_Call_Name_kw (ld_blt I hg hm PyProof.Rows.boot_max ?_)
 rw [hst]
 refine PyProof.Rows.callWith_builtin_kwB rfl rfl (PyProof.Rows.evalArgs_kwB rfl ?_)
 refine Calls.spliced_cons (thn (he pins s σ H _ I h) fun u s1 ⟨x,H1,I1,r1,q1⟩=>Calls.spliced_nil ?_)
 refine PyProof.Rows.kws_cons (thn (hd pins s1 σ H1 _ I1 q1) fun dv s2 ⟨dx,H2,I2,r2,q2⟩=>PyProof.Rows.kws_nil ?_)
 obtain ⟨l,ns,rfl,hl,qn,qm⟩:=q2
 cases r1
 obtain ⟨its,rv,pl,hz⟩:=I2.list hl
 exact call_maxD (I2.ok.hd hc) (intsAre_of rv) pl.isList (fun e h' kk=>⟨dx,H2,I2.kept (t':=s2.toks) kk,r2,qn e⟩) fun e m' t' h' tk im kk=>⟨.int m',H2,I2.kept (t':=tk) kk,⟨_,rfl⟩,qm m' im⟩
end
end
section
structure Callee (P:Program) (w:World) (K:PySem.W.Frag) (mg:Str→Option Value) (base:Heap) (x:Str) (k:Nat) (ps:List Str) (sp:Sp):Prop where
 ex:∃ (f:Addr) (fd:FuncData),FnOk P w K mg base CX0 k f fd ps sp∧Binds K fd ps []∧PySem.W.keepIn K (.ref f)=true∧mg x=some (.ref f)
theorem Callee.mono {P:Program} {w:World} {K:PySem.W.Frag} {mg:Str→Option Value} {base:Heap} {x:Str} {k j:Nat} {ps:List Str} {sp:Sp} (C:Callee P w K mg base x k ps sp) (h:k≤j):Callee P w K mg base x j ps sp :=
 let ⟨f,fd,a,b,c,d⟩:=C.ex
 ⟨f,fd,a.mono h,b,c,d⟩
theorem Callee.imp {P:Program} {w:World} {K:PySem.W.Frag} {mg:Str→Option Value} {base:Heap} {x:Str} {k:Nat} {ps:List Str} {sp sp':Sp} (C:Callee P w K mg base x k ps sp) (h:∀ vs H Q E,sp' vs H Q E→sp vs H Q E):Callee P w K mg base x k ps sp' :=
 let ⟨f,fd,a,b,c,d⟩:=C.ex
 ⟨f,fd,a.imp h,b,c,d⟩
theorem pe_callC {X:Cx} {x:Str} {k:Nat} {ps:List Str} {sp:Sp} {e:Expr} {es:List Expr} {t:TA} {p pos:Pos} (C:Callee X.prog X.w X.K X.mg X.base x k ps sp) (hr:Room k X.A) (hg:Gl X x) (ha:PA X (e::es) t)
  (hdb:(x == ("__debug__" : Str))=false:=by decide) (he:starEach (e::es) X.env=(false,eval e X.env)::starEach es X.env:=by rfl) (hpl:(backTo pos (starEach es X.env)).any (·.1)=false:=by rfl) :
  PE X (.Call (.Name x p) (e::es) [] pos) (tCall sp [] E0 t):=by
 obtain ⟨f,fd,F,hb,hk,hm⟩:=C.ex
 exact pe_call F hr hg hm hk hb .nil pass0 ha hdb he hpl
structure Here (K:PySem.W.Frag) (mg:Str→Option Value) (x:Str) (st:Stmt) (f:Addr) (fd:FuncData):Prop where
 fn:Fun K x x st f fd
 at_:mg x=some (.ref f)
theorem Here.callee {P:Program} {w:World} {K:PySem.W.Frag} {mg:Str→Option Value} {base:Heap} {x:Str} {st:Stmt} {f:Addr} {fd:FuncData} {k:Nat} {ps:List Str} {sp:Sp} (h:Here K mg x st f fd) (F:FnOk P w K mg base CX0 k f fd ps sp)
  (hb:∀ (kV doc pm:Value) (an:Option Addr) (cdv ct:Value) (us:List Value),us.length=ps.length→bindArgs (PySem.W.fnOf x x (defArgs st) (defBody st) (defScope st) .none kV doc pm an cdv ct) ⟨us,[]⟩=pure (ps.zip us)):Callee P w K mg base x k ps sp :=
 ⟨f,fd,F,h.fn.binds hb,h.fn.kp,h.at_⟩
theorem boot_intT:bootBuiltins "int" = some (.type "int"):=by decide +kernel
theorem boot_listT:bootBuiltins "list" = some (.type "list"):=by decide +kernel
theorem boot_tupleT:bootBuiltins "tuple" = some (.type "tuple"):=by decide +kernel
theorem boot_isinstance:bootBuiltins "isinstance" = some (.builtin "isinstance"):=by decide +kernel
theorem boot_all:bootBuiltins "all" = some (.builtin "all"):=by decide +kernel
section
variable {X:Cx} (K:PySem.W.Frag) (hK:X.K=K)
include hK
theorem ix_listK:IxR X (rIxL K):=by subst hK;exact ix_list
theorem ix_tupK:IxR X (rIxT K):=by subst hK;exact ix_tup
theorem pg_tupK {es:List Expr} {k:Nat} {t:TGs} {n:Nat} {pos:Pos} (hc:X.calm=true) (h:PGs X es t)
  (hn:(assignEach es X.env).length=n:=by rfl) (hst:(assignEach es X.env).findIdx? (·.1)=none:=by rfl):PG X (.Tuple es k pos) (gTup K n t):=by subst hK;exact pg_tup hc h hn hst
end
theorem same_new {H:Hp} {p:Addr} (h:H p=none) (o:HO):Same H (upd H p o):=fun b u q=>by rw [upd_ne (ne_of_none q h)];exact q
def Kp (m:Addr) (H H':Hp):Prop:=∀ b o,H b=some o→b≠m→H' b=some o
theorem Kp.refl (m:Addr) (H:Hp):Kp m H H:=fun _ _ h _=>h
theorem Kp.trans {m:Addr} {H H1 H2:Hp} (a:Kp m H H1) (b:Kp m H1 H2):Kp m H H2:=fun c o h n=>b c o (a c o h n) n
theorem Kp.same {m:Addr} {H H':Hp} (h:Same H H'):Kp m H H':=fun b o e _=>h b o e
theorem Kp.upd {m:Addr} {H:Hp} {o:HO}:Kp m H (upd H m o):=fun b u e n=>by rw [upd_ne n];exact e
theorem Kp.tup {m:Addr} {H H':Hp} {xs ys:List V} (k:Kp m H H') (hm:H m=some (.lst xs)) {b:Addr} (h:H b=some (.tup ys)):H' b=some (.tup ys) :=
 k b _ h (ne_of h hm (by intro z;cases z))
def Pen (H:Hp) (p:Addr):Prop:=∃ a b c:Int,H p=some (.lst [.int a,.int b,.int c])
def Refs (H:Hp):List V→List (Int×Int)→Prop:=Paired fun r w=>∃ t,r=.ref t∧H t=some (.tup [.int w.1,.int w.2])
theorem Refs.mono {H H':Hp} (k:∀ b xs,H b=some (.tup xs)→H' b=some (.tup xs)):∀ {rs:List V} {ws:List (Int×Int)},Refs H rs ws→Refs H' rs ws
 |_,_,.nil=>.nil
 |_,_,.cons ⟨t,e,h⟩ r=>.cons ⟨t,e,k t _ h⟩ (Refs.mono k r)
theorem Refs.same {H H':Hp} (k:Same H H') {rs:List V} {ws:List (Int×Int)} (h:Refs H rs ws):Refs H' rs ws:=h.mono fun b xs e=>k b _ e
theorem Refs.kp {m:Addr} {H H':Hp} {xs:List V} (k:Kp m H H') (hm:H m=some (.lst xs)) {rs:List V} {ws:List (Int×Int)} (h:Refs H rs ws):Refs H' rs ws:=h.mono fun b xs e=>k.tup hm e
theorem Refs.len {H:Hp} {rs:List V} {ws:List (Int×Int)} (h:Refs H rs ws):rs.length=ws.length:=Paired.length h
theorem Refs.app {H:Hp}:∀ {rs qs:List V} {ws us:List (Int×Int)},Refs H rs ws→Refs H qs us→Refs H (rs++qs) (ws++us)
 |_,_,_,_,.nil,s=>s
 |_,_,_,_,.cons r t,s=>.cons r (Refs.app t s)
theorem Refs.get {H:Hp}:∀ {rs:List V} {ws:List (Int×Int)} {i:Nat} {r:V},Refs H rs ws→rs[i]?=some r→∃ w t,ws[i]?=some w∧r=.ref t∧H t=some (.tup [.int w.1,.int w.2])
 |_,_,_,_,.nil,e=>by simp at e
 |_,_,0,_,.cons ⟨t,e1,h⟩ _,e=>by simp at e;subst e;exact ⟨_,t,rfl,e1,h⟩
 |_,_,i+1,r,.cons _ q,e=>by
  obtain ⟨w,t,a,b⟩:=Refs.get (i:=i) (r:=r) q (by simpa using e)
  exact ⟨w,t,by simpa using a,b⟩
def WsL (H:Hp) (l:Addr) (ws:List (Int×Int)):Prop:=∃ rs,H l=some (.lst rs)∧Refs H rs ws
def WOk (wide:Int) (ws:List (Int×Int)):Prop:=∀ w∈ws,0≤w.1∧w.1<wide∧0≤w.2∧w.2<wide∧w.1≠w.2
theorem WOk.nil {wide:Int}:WOk wide []:=fun _ h=>nomatch h
theorem WOk.app {wide:Int} {a b:List (Int×Int)} (x:WOk wide a) (y:WOk wide b):WOk wide (a++b):=fun w h=>(List.mem_append.mp h).elim (x w) (y w)
theorem WOk.one {wide a b:Int} (h:0≤a∧a<wide∧0≤b∧b<wide∧a≠b):WOk wide [(a,b)]:=fun w hw=>by
 have:w=(a,b):=by simpa using hw
 subst this
 exact h
def Net (H:Hp) (v:V) (wide:Int) (ws:List (Int×Int)):Prop:=∃ n t rs,v=.ref n∧H n=some (.tup [.int wide,.ref t])∧H t=some (.tup rs)∧Refs H rs ws
theorem Net.mono {H H':Hp} (k:∀ b xs,H b=some (.tup xs)→H' b=some (.tup xs)) {v:V} {wide:Int} {ws:List (Int×Int)} (h:Net H v wide ws):Net H' v wide ws :=
 let ⟨n,t,rs,a,b,c,d⟩:=h
 ⟨n,t,rs,a,k _ _ b,k _ _ c,d.mono k⟩
theorem lenLine {n:Nat} (h:n≤100000):n≤sizeLine:=Nat.le_trans h (by rw [sizeLine_eq];decide)
theorem lenLt {n:Nat} (h:n<100000):n<sizeLine:=Nat.lt_of_lt_of_le h (by rw [sizeLine_eq];decide)
theorem not_dec {c:Prop} [Decidable c] (h:¬ decide c=true):¬ c:=fun z=>h (decide_eq_true z)
end
end L2
namespace Ep
open PySem L2
section
structure Bn (mg:Str→Option Value):Prop where
 n_len:mg "len" = none
 n_max:mg "max" = none
 n_min:mg "min" = none
 n_int:mg "int" = none
 n_bool:mg "bool" = none
 n_list:mg "list" = none
 n_tuple:mg "tuple" = none
 n_str:mg "str" = none
 n_dict:mg "dict" = none
 n_range:mg "range" = none
 n_isinstance:mg "isinstance" = none
 n_all:mg "all" = none
 n_any:mg "any" = none
 n_enumerate:mg "enumerate" = none
 n_sum:mg "sum" = none
 n_abs:mg "abs" = none
 n_sorted:mg "sorted" = none
 n_reversed:mg "reversed" = none
 n_zip:mg "zip" = none
 n_ord:mg "ord" = none
 n_repr:mg "repr" = none
 n_set:mg "set" = none
 n_divmod:mg "divmod" = none
 n_ValueError:mg "ValueError" = none
 n_KeyError:mg "KeyError" = none
def CDivB (i j:Int):Prop:=0<j∧j<2 ^ 250
theorem op_fdivB {X:Cx}:OpR X (binaryOp .FloorDiv) (rI CDivB fun i j=>.int (i / j)):=opI fun i j _ _ _ _ _ hc q=>by
 have h1:(0:Int)<j:=hc.1
 have h2:j.natAbs<2 ^ 250:=by have:=hc.2;walk_at"q"
 refine PyProof.Rows.floordiv_int (by walk_at"q") (by rw [Int.fdiv_eq_ediv_of_nonneg i (by walk_at"q")];exact q) (.inl (PyProof.noPylong_of_log2 ?_))
 have h3:j.natAbs.log2<250:=(Nat.log2_lt (by walk_at"q")).mpr h2
 walk_at"q"
theorem _root_.L2.Kp.put {m l:Addr} {H H1:Hp} {o:HO} (hl:H l=none) (k:Kp m H H1):Kp m H (upd H1 l o):=fun b u e n=>by rw [upd_ne (ne_of_none e hl)];exact k b u e n
theorem _root_.L2.Same.put {l:Addr} {H H1:Hp} {o:HO} (hl:H l=none) (k:Same H H1):Same H (upd H1 l o):=fun b u e=>by rw [upd_ne (ne_of_none e hl)];exact k b u e
theorem atI_int {ns:List Int} {i:Int} (h0:0≤i) (h1:i<ns.length):atI (ns.map V.int) i=some (.int (ns.getD i.toNat 0)):=by
 obtain ⟨j,rfl⟩:∃ j:Nat,i=(j:Int):=⟨i.toNat,by walk_at"q"⟩
 have h2:j<ns.length:=by walk_at"q"
 refine atI_nat ?_
 rw [List.getElem?_map,Int.toNat_natCast]
 simp [List.getD,h2]
theorem iteFd {c A B:Prop} [Decidable c] (h:¬ c) (b:B):if c then A else B:=by rw [if_neg h];exact b
theorem iteTd {c A B:Prop} [Decidable c] (h:c) (a:A):if c then A else B:=by rw [if_pos h];exact a
theorem neNo {α:Type} {x y:α} [inst:Decidable (x=y)] (h:x=y):¬ (!decide (x=y))=true:=by simp [h]
theorem veq {a b:Int} (g:decide (V.int a=V.int b)=true):a=b:=V.int.inj (of_decide_eq_true g)
theorem vne {a b:Int} (g:¬ decide (V.int a=V.int b)=true):a≠b:=fun z=>g (decide_eq_true (by rw [z]))
theorem fresh_step {p u:Addr} {H:Hp} {xs:List V} (hp:H p=some (.lst xs)) (fu:H u=none) (o:HO):Kp p H (upd H u o)∧(upd H u o) p=some (.lst xs)∧(upd H u o) u=some o∧u≠p :=
 ⟨Kp.same (same_new fu o),(same_new fu o) _ _ hp,upd_same,Ne.symm (ne_of_none hp fu)⟩
theorem atI_ref {H:Hp} {rs:List V} {ws:List (Int×Int)} (h:Refs H rs ws) {i:Int} (h0:0≤i) (h1:i<rs.length):∃ t w,atI rs i=some (.ref t)∧w∈ws∧ws[i.toNat]?=some w∧H t=some (.tup [.int w.1,.int w.2]):=by
 obtain ⟨j,rfl⟩:∃ j:Nat,i=(j:Int):=⟨i.toNat,by walk_at"q"⟩
 have hj:j<rs.length:=by walk_at"q"
 have e:rs[j]?=some rs[j]:=by simp [hj]
 obtain ⟨w,t,hw,et,ht⟩:=h.get e
 rw [et] at e
 exact ⟨t,w,atI_nat e,List.mem_of_getElem? hw,by simpa using hw,ht⟩
inductive SpTakeP (vs:List V) (H:Hp) (Q:VK):Prop
 |mk (p:Addr) (a b c n:Int) (h1:vs=[.ref p,.int n]) (h2:H p=some (.lst [.int a,.int b,.int c])) (h3:0<n) (h4:n<2 ^ 250) (h5:∀ (v a' b' c':Int),0≤v→v<n→Q (.int v) (upd H p (.lst [.int a',.int b',.int c']))):SpTakeP vs H Q
def spTake:Sp:=fun vs H Q _=>SpTakeP  vs H Q
inductive SpWicketsP (vs:List V) (H:Hp) (Q:VK):Prop
 |mk (p:Addr) (wide many:Int) (h1:vs=[.ref p,.int wide,.int many]) (h2:Pen H p) (h3:1≤wide) (h4:wide≤8) (h5:0≤many) (h6:many≤41) (h7:∀ (l:Addr) (ws:List (Int×Int)) (H':Hp),H l=none→Kp p H H'→Pen H' p→WsL H' l ws→WOk wide ws→(ws.length:Int)≤many→Q (.ref l) H'):SpWicketsP vs H Q
def spWickets:Sp:=fun vs H Q _=>SpWicketsP  vs H Q
def lift (by_:Int) (w:Int×Int):Int×Int:=(w.1+by_,w.2+by_)
theorem ne1 {H:Hp} {a b:Addr} {o:HO} (n:H b=none) (h:H a=some o):a≠b:=ne_of_none h n
theorem ne2 {H:Hp} {a b:Addr} {o:HO} (n:H a=none) (h:H b=some o):a≠b:=Ne.symm (ne_of_none h n)
theorem ne3 {H:Hp} {a b:Addr} {xs ys:List V} (h1:H a=some (.tup xs)) (h2:H b=some (.lst ys)):a≠b:=ne_of h1 h2 (by intro z;cases z)
theorem ne4 {H:Hp} {a b:Addr} {xs ys:List V} (h1:H a=some (.lst xs)) (h2:H b=some (.tup ys)):a≠b:=ne_of h1 h2 (by intro z;cases z)
theorem free2 {H H':Hp} {l:Addr} (n:H' l=none) (s:Same H H'):H l=none:=s.free n
theorem trans2 {H H1 H2:Hp} (b:Same H1 H2) (a:Same H H1):Same H H2:=Same.trans a b
def KT (H H':Hp):Prop:=∀ b xs,H b=some (.tup xs)→H' b=some (.tup xs)
theorem KT.refl (H:Hp):KT H H:=fun _ _ h=>h
theorem KT.trans {H H1 H2:Hp} (a:KT H H1) (b:KT H1 H2):KT H H2:=fun c xs h=>b c xs (a c xs h)
theorem KT.same {G H H':Hp} (s:Same H H') (k:KT G H):KT G H':=fun b xs h=>s b _ (k b xs h)
theorem KT.lst {G H:Hp} {l:Addr} {o:HO} {ys:List V} (n:H l=some (.lst ys)) (k:KT G H):KT G (upd H l o):=fun b xs h=>by rw [upd_ne (ne3 (k b xs h) n)];exact k b xs h
theorem KT.kp {G H H':Hp} {m:Addr} {ys:List V} (q:Kp m H H') (hm:H m=some (.lst ys)) (k:KT G H):KT G H':=fun b xs h=>q b _ (k b xs h) (ne3 (k b xs h) hm)
theorem _root_.L2.Net.kt {H H':Hp} {v:V} {wide:Int} {ws:List (Int×Int)} (n:Net H v wide ws) (k:KT H H'):Net H' v wide ws:=n.mono k
theorem _root_.L2.Refs.kt {H H':Hp} {rs:List V} {ws:List (Int×Int)} (n:Refs H rs ws) (k:KT H H'):Refs H' rs ws:=n.mono k
end
section
theorem in_pair (a b c:Int):inV (.int a) [.int b,.int c]=(decide (a=b) || decide (a=c)):=by
 show (eqV (.int b) (.int a) || (eqV (.int c) (.int a) || false))=_
 have e:∀ u v:Int,eqV (.int u) (.int v)=decide (v=u):=fun u v=>by
  show _=_
  simp [eqV]
  by_cases h:u=v
  ·subst h;simp
  ·have h':¬ v=u:=fun z=>h z.symm
   simp [h,h']
 rw [e,e,Bool.or_false]
def maxI (a b:Int):Int:=if b≤a then a else b
def layT (st:List Int×List Int) (w:Int×Int):List Int×List Int :=
 let layer:=1+maxI (st.1.getD w.1.toNat 0) (st.1.getD w.2.toNat 0)
 ((st.1.set w.1.toNat layer).set w.2.toNat layer,st.2++[layer])
def layS (wide:Int) (ws:List (Int×Int)):List Int×List Int:=ws.foldl layT (List.replicate wide.toNat 0,[])
theorem ixN_of {n:Nat} {i:Int} (h0:0≤i) (h1:i<n):ixN n i=some i.toNat:=by
 unfold ixN
 rw [if_pos h0,if_pos h1]
def wAt (ws:List (Int×Int)) (j:Nat):Int×Int:=ws.getD j (0,0)
theorem getD_app {d:List Int} {z:Int} {j:Nat} (h:j<d.length):(d++[z]).getD j 0=d.getD j 0:=by simp [List.getD,List.getElem?_append_left h]
theorem getD_last {d:List Int} {z:Int}:(d++[z]).getD d.length 0=z:=by simp [List.getD]
theorem getD_set {l:List Int} {i j:Nat} {z:Int} (hi:i<l.length):(l.set i z).getD j 0=if j=i then z else l.getD j 0:=by
 by_cases h:j=i
 ·subst h
  simp [List.getD,hi]
 ·have h':¬ i=j:=fun q=>h q.symm
  simp [List.getD,h,h']
inductive SpLawP (K:PySem.W.Frag) (vs:List V) (H:Hp) (Q:VK):Prop
 |mk (a:Addr) (ns:List Int) (h1:vs=[.ref a]) (h2:SqL K H a (ns.map V.int)) (h3:ns.length≤63) (h4:∀ H',Q (.bl true) H'):SpLawP K vs H Q
def spLaw (K:PySem.W.Frag):Sp:=fun vs H Q _=>SpLawP K vs H Q
end
end Ep
namespace L2
open PySem PySem.Spec PyProof.Rows
section
section
variable {P:Program} {w:World} {A:Around} {s:Shared}
theorem next_tup {E:Value→Shared→Prop} {it t:Addr} {i:Nat} {ys:Array Value} {x:Value} {Q:Value→Shared→Prop} (gi:s.heap.IsTupleIter it t i) (gt:s.heap.IsTuple t ys) (gx:ys[i]?=some x)
  (q:∀ h',h'.IsTupleIter it t (i+1)→Heap.SameBut it s.heap h'→Q x { s with heap:=h' }):wpAny (model P w) A (Builtin.SmallTypes.nextOf (.ref it)) Q E s:=by
 obtain ⟨oi,g1,g2,g3⟩:=id gi
 obtain ⟨ot,g4,_,nt,g5⟩:=gt
 have no:¬ ((Value.ref t == Value.none)=true):=Bool.false_ne_true
 unfold Builtin.SmallTypes.nextOf
 refine wpAny_bind (wpAny_callSpecial?_slot (name:=Str.ofString "__next__") gi.typeIs F.slot_tuple_iterator_next (wpAny_call_entry F.slot_tuple_iterator_next gi.typeIs F.entry_tuple_iterator_next ?_ (F.args_tuple_iterator_next_1 _)))
 show wpAny _ A.in1 (field (.ref it) 0 >>= _) _ _ s
 refine wpAny_bind (wpAny_field g1 g3 (x:=.ref t) rfl ?_)
 show wpAny _ _ (if (Value.ref t == Value.none)=true then _ else (field (.ref it) 1 >>= _)) _ _ s
 rw [if_neg no]
 refine wpAny_bind (wpAny_field g1 g3 (x:=.int i 0) rfl (show wpAny _ _ (seqItems? (.ref t) >>= _) _ _ s from wpAny_bind (wpAny_seqItems g4 g5 ?_)))
 simp only [gx,Int.toNat_natCast]
 refine wpAny_bind (wpAny_setField g1 g3 (by simp) (wpAny_pure ⟨x,rfl,wpAny_pure (q _ ⟨_,Heap.get?_update_self _ g1 (Obj.isFreed_of_fields (Obj.data_mapFields g3 _)),(Obj.cls_mapFields ..).trans g2,?_⟩ (Heap.SameBut.update ..))⟩))
 rw [Obj.data_mapFields g3]
 simp [rawInt]
theorem next_tup_end {E:Value→Shared→Prop} {it t:Addr} {i:Nat} {ys:Array Value} {Q:Value→Shared→Prop} (hh:A.handled=none) (gi:s.heap.IsTupleIter it t i) (gt:s.heap.IsTuple t ys) (gx:ys[i]?=none)
  (q:∀ h' e,Heap.ExtBut it s.heap h'→(∃ o,h'.get? e=some o∧o.cls=.type "StopIteration")→E (.ref e) { s with heap:=h' }):wpAny (model P w) A (Builtin.SmallTypes.nextOf (.ref it)) Q E s:=by
 obtain ⟨oi,g1,g2,g3⟩:=id gi
 obtain ⟨ot,g4,_,nt,g5⟩:=gt
 have no:¬ ((Value.ref t == Value.none)=true):=Bool.false_ne_true
 unfold Builtin.SmallTypes.nextOf
 refine wpAny_bind (wpAny_callSpecial?_slot (name:=Str.ofString "__next__") gi.typeIs F.slot_tuple_iterator_next (wpAny_call_entry F.slot_tuple_iterator_next gi.typeIs F.entry_tuple_iterator_next ?_ (F.args_tuple_iterator_next_1 _)))
 show wpAny _ A.in1 (field (.ref it) 0 >>= _) _ _ s
 refine wpAny_bind (wpAny_field g1 g3 (x:=.ref t) rfl ?_)
 show wpAny _ _ (if (Value.ref t == Value.none)=true then _ else (field (.ref it) 1 >>= _)) _ _ s
 rw [if_neg no]
 refine wpAny_bind (wpAny_field g1 g3 (x:=.int i 0) rfl (show wpAny _ _ (seqItems? (.ref t) >>= _) _ _ s from wpAny_bind (wpAny_seqItems g4 g5 ?_)))
 simp only [gx,Int.toNat_natCast]
 refine wpAny_bind (wpAny_rule (wpAny_bind (wpAny_setField g1 g3 (by simp) (show wpAny _ _ (newExc (.type "StopIteration") [] >>= _) _ _ _ from wpAny_bind ?_))))
 simp only [newTuple,newExc]
 refine wpAny_bind (wpAny_newObj_type (wpAny_bind (m:=firstArgMember _ _) (wpAny_of_eq (a:=Value.none) (by first|rfl|(simp only [firstArgMember];rfl)) (wpAny_newObj_type ?_ (by size_fits)))) (by size_fits))
 simp only [raiseNew]
 refine wpAny_bind (wpAny_handled ?_)
 first|rw [show A.in1.handled=none from hh]|rw [hh]
 exact wpAny_bind (wpAny_pure (wpAny_throw (q _ _ (((Heap.SameBut.update ..).extBut.push _).push _) ⟨_,Heap.get?_push_size _ rfl,rfl⟩)))
theorem draws_tup (hh:A.handled=none) (it t:Addr) (hne:t≠it) (ys:Array Value):Draws P w A it [it,t] ys.size (fun i v=>ys[i]?=some v) (fun i h=>h.IsTupleIter it t i∧h.IsTuple t ys) where
 live:=fun _ _ g=>let ⟨o,go,_⟩:=g.1;⟨o,go⟩
 frame:=fun _ _ _ g k=>⟨g.1.at fun o e=>k it (by simp) o e,let ⟨o,e,r⟩:=g.2;⟨o,k t (by simp) o e,r⟩⟩
 item:=fun i s Q E hi g q=>next_tup g.1 g.2 (x:=ys[i]) (by simp [hi]) fun h' gi sb=>q _ h' s.toks (by simp [hi]) ⟨gi,let ⟨o,e,r⟩:=g.2;⟨o,sb.extBut t o hne e,r⟩⟩ sb
 done:=fun s Q E g q=>next_tup_end hh g.1 g.2 (by simp) q
theorem new_enum_tup (t:Addr) (ys:Array Value) (n:Nat) (dc:Option Addr) (sl:Array (Option Value)) :
  Meets (Builtin.«enumerate.__new__» ⟨[.type "enumerate", .ref t],[]⟩) (fun _ R s=>s.heap.get? t=some { cls:=.type "tuple", dict:=dc,data:=.seq ys n,slots:=sl } ∧
   R (.ok (.ret (.ref (s.heap.push { cls:=.type "tuple_iterator", data:=.fields #[.ref t,.int 0 0] }).objs.size)))
    { s with heap:=(s.heap.push { cls:=.type "tuple_iterator", data:=.fields #[.ref t,.int 0 0] }).push { cls:=.type "enumerate", data:=.fields #[.none,.bool false,.ref s.heap.objs.size,rawInt 0,.none,.none] } }) :=
 .of_wp fun prog w A R s h=>by
  obtain ⟨hp,g,d,tk,os⟩:=s
  obtain ⟨gt,q⟩:=h
  have hsub:=sub_enumerate
  have gT:Heap.IsTuple (Shared.heap ⟨hp,g,d,tk,os⟩) t ys:=⟨_,gt,rfl,n,rfl⟩
  wp_walk using AutoSeq1.wpAny_loadPart' gt
  refine wpAny_stack_any fun st=>wpAny_pure ?_
  split
  ·rename_i c _ _ _ _ _
   cases (c == Value.type "enumerate")<;>(wp_walk using AutoSeq1.wpAny_loadPart' gt,wpAny_pyIter_tuple gT)<;>exact ⟨_,rfl,q⟩
  ·wp_walk using AutoSeq1.wpAny_loadPart' gt,wpAny_pyIter_tuple gT
   exact ⟨_,rfl,q⟩
theorem call_enum_tup {E:Value→Shared→Prop} {t:Addr} {ys:Array Value} {Q:Value→Shared→Prop} (gT:s.heap.IsTuple t ys)
  (q:∀ h',IsEnum h' (s.heap.objs.size+1) s.heap.objs.size 0 .none→h'.IsTupleIter s.heap.objs.size t 0→h'.objs.size=s.heap.objs.size+2→(∀ b o,s.heap.get? b=some o→h'.get? b=some o)→Q (.ref (s.heap.objs.size+1)) { s with heap:=h' }) :
  wpAny (model P w) A (call (.type "enumerate") [.ref t]) Q E s:=by
 obtain ⟨⟨c,dc,dt,sl⟩,gt,e1,n,e2⟩:=gT
 obtain rfl:c=.type "tuple" := e1
 obtain rfl:dt=.seq ys n:=e2
 refine callType_new F.called_enumerate (by decide) (F.typeCall_enumerate_1 _) (F.newCall_enumerate_1 _) (fun o=>F.args_object_init_2 o _) F.entry_enumerate_new (new_enum_tup t ys n dc sl) ⟨gt,?_⟩
 have z:(s.heap.push { cls:=.type "tuple_iterator", data:=.fields #[.ref t,.int 0 0] }).objs.size=s.heap.objs.size+1:=Heap.size_push ..
 have ge:IsEnum ((s.heap.push { cls:=.type "tuple_iterator", data:=.fields #[.ref t,.int 0 0] }).push { cls:=.type "enumerate", data:=.fields #[.none,.bool false,.ref s.heap.objs.size,rawInt 0,.none,.none] }) (s.heap.objs.size+1) s.heap.objs.size 0 .none:=by
  have u:=Heap.get?_push_size (s.heap.push { cls:=.type "tuple_iterator", data:=.fields #[.ref t,.int 0 0] }) (o:={ cls:=.type "enumerate", data:=.fields #[.none,.bool false,.ref s.heap.objs.size,rawInt 0,.none,.none] }) rfl
  rw [z] at u
  exact u
 show _∧_
 rw [z]
 exact ⟨⟨_,ge,rfl⟩,q _ ge ⟨_,Heap.get?_push_of_some _ (Heap.get?_push_size _ rfl),rfl,rfl⟩ (by rw [Heap.size_push,z]) fun b o e=>Heap.get?_push_of_some _ (Heap.get?_push_of_some _ e)⟩
end
def Ite (sq:Hp→List V→Prop):It :=
 ⟨fun i H=>∃ xs x,sq H xs∧xs[i]?=some x,fun i H x H'=>∃ T v,H T=none∧x=.ref T∧H'=upd H T (.tup [.int i,v])∧∀ xs,sq H xs→xs[i]?=some v,fun i H=>∃ xs,sq H xs∧xs.length=i⟩
theorem Inv.turned2 {X:Cx} {pins:List (Addr×Obj)} {σ:St} {H:Hp} {s:Shared} {h':Heap} {t':Nat} {e it:Addr} {ys:List V} (I:Inv X pins σ H s) (k:∀ b o,b≠e→b≠it→s.heap.get? b=some o→h'.get? b=some o)
  (fe:FpOk X pins H e) (fi:FpOk X pins H it) (new:ObjOk X.prog X.w (upd H s.heap.objs.size (.tup ys)) h' s.heap.objs.size (.tup ys)):Inv X pins σ (upd H s.heap.objs.size (.tup ys)) { s with heap:=h',toks:=t' }:=by
 have hT:H s.heap.objs.size=none:=I.hok.fresh (Nat.le_refl _)
 have nT:∀ b o,s.heap.get? b=some o→b≠s.heap.objs.size:=fun b o q=>Nat.ne_of_lt (Heap.lt_size q)
 have nc:∀ b,b∉[e,it]→b≠e∧b≠it:=fun b hb=>⟨fun z=>hb (by simp [z]),fun z=>hb (by simp [z])⟩
 have ntr:∀ b u,H b=some u→b≠e∧b≠it:=fun b u q=>⟨(fun z=>by rw [z,fe.1] at q;cases q),(fun z=>by rw [z,fi.1] at q;cases q)⟩
 have up:∀ b u,H b=some u→upd H s.heap.objs.size (.tup ys) b=some u:=fun b u q=>by rw [upd_ne (ne_of_none q hT)];exact q
 refine I.step (g':=s.gens) (d':=s.drawn) (ch:=[e,it]) (fun b hb=>?_) (fun b o _ _ hc q _=>k b o (nc b hc).1 (nc b hc).2 q) (fun b o _ _ hc q _=>⟨o.slots,k b o (nc b hc).1 (nc b hc).2 q⟩) (fun b o _ q n=>by rw [upd_ne (nT b o q)];exact n)
  (fun b o hc q=>⟨o,k b o (nc b hc).1 (nc b hc).2 q⟩) (fun b xs q=>up b _ q) (fun b o u q=>up b _ q) (fun b ps q=>⟨up b _ q,fun c o ec x=>⟨up c _ ec,k c o (ntr c _ ec).1 (ntr c _ ec).2 x⟩⟩) (fun m hm=>?_) (fun b u q=>?_) I.bare
 ·have z:b=e∨b=it:=by simpa using hb
  rcases z with rfl|rfl
  ·exact ⟨fe.2.2.2.1,fe.2.1,fe.2.2.2.2.1,fe.2.2.2.2.2⟩
  ·exact ⟨fi.2.2.2.1,fi.2.1,fi.2.2.2.2.1,fi.2.2.2.2.2⟩
 ·obtain ⟨o,es,ep,ho,r⟩:=hm
  exact ⟨o,es,ep,k _ o (Ne.symm fe.2.1) (Ne.symm fi.2.1) ho,r⟩
 ·by_cases hb:b=s.heap.objs.size
  ·subst hb
   rw [upd_same] at q
   cases q
   exact new
  ·rw [upd_ne hb] at q
   refine (I.hok b u q).stay (fun c v hc z=>?_) (fun c z=>up c _ z) fun c xs z=>up c _ z
   have hc':c≠e∧c≠it:=by
    rcases hc with z|z
    ·rw [z];exact ntr b u q
    ·exact ntr c _ z
   exact k c v hc'.1 hc'.2 z
section
variable {X:Cx} {elts:List Expr} {kk:Nat} {ps:Pos}
theorem turn_enumT {P:Program} {w:World} {K:PySem.W.Frag} (a e it:Addr) (hei:e≠it):Turn P w K (.Tuple elts kk ps) (Ite (fun H xs=>SqT K H a xs)) [e,it] e (fun i h=>(∃ old,IsEnum h e it i old)∧h.IsTupleIter it a i) where
 mem:=by simp
 obj:=fun i h st b hb=>by
  obtain ⟨⟨old,he⟩,o,e1,c,d⟩:=st
  have z:b=e∨b=it:=by simpa using hb
  rcases z with rfl|rfl
  ·exact ⟨_,he,fun v z=>by have z':Data.fields _=Data.cell v:=z;cases z'⟩
  ·exact ⟨o,e1,fun v z=>by rw [d] at z;cases z⟩
 keep:=fun i h h' st k=>by
  obtain ⟨⟨old,he⟩,o,e1,r⟩:=st
  exact ⟨⟨old,k e (by simp) _ he⟩,o,k it (by simp) o e1,r⟩
 item:=by
  intro X hP hw hK hc i pins s σ H E I hf st hg
  subst hP hw hK
  obtain ⟨⟨old,he⟩,hit⟩:=st
  obtain ⟨xs,x,hq,hx⟩:=hg
  obtain ⟨its,rv,p,hz⟩:=I.tuple hq
  obtain ⟨u,hu,ru⟩:=rv.get hx
  have pT:s.heap.IsTuple a its.toArray:=p
  have nai:a≠it:=fun z=>by
   obtain ⟨o1,q1,c1,_⟩:=pT
   obtain ⟨o2,q2,c2,_⟩:=hit
   rw [z,q2] at q1;cases q1;rw [c2] at c1;exact absurd (Value.type.inj c1) (by decide)
  have nae:e≠a:=fun z=>by
   obtain ⟨o1,q1,c1,_⟩:=pT
   rw [←z,he] at q1;cases q1;exact absurd (Value.type.inj c1) (by decide)
  have il:i<its.toArray.size:=by
   have:=(List.getElem?_eq_some_iff.mp hu).1
   simpa using this
  refine wpAny_pyNext_enum_itemD (draws_tup (A:=X.A.in1) (I.ok.hd hc) it a nai its.toArray) he ⟨hit,pT⟩ il hei (by simp [hei,nae]) fun x' h1 tk hP ho hs hT hsz hk=>?_
  have ex:x'=u:=by
   have:its[i]?=some x':=by simpa using hP
   rw [hu] at this;cases this;rfl
  subst ex
  refine ⟨_,rfl,wpAny_letOwnedTupleGo_enum ho fun h2 he2 sb=>?_⟩
  have eT:e<s.heap.objs.size:=Heap.lt_size he
  have k2:∀ b o,b≠e→b≠it→s.heap.get? b=some o→h2.get? b=some o:=fun b o n1 n2 q=>sb.extBut b o n1 (hk b o n1 n2 q)
  have new:ObjOk X.prog X.w (upd H s.heap.objs.size (.tup [.int i,x])) h2 s.heap.objs.size (.tup [.int i,x]):=⟨by show 2≤sizeLine;rw [sizeLine_eq];decide,[.int i tk,x'],.cons ⟨tk,rfl⟩ (.cons ru .nil),_,sb.extBut _ _ (Nat.ne_of_gt eT) hT,rfl,_,rfl,rfl⟩
  have I2:Inv X pins σ (upd H s.heap.objs.size (.tup [.int i,x])) { s with heap:=h2,toks:=tk+1 }:=Inv.turned2 I k2 (hf e (by simp)) (hf it (by simp)) new
  refine ⟨.ref s.heap.objs.size,_,I2,rfl,⟨s.heap.objs.size,x,I.hok.fresh (Nat.le_refl _),rfl,rfl,fun zs hzs=>by rw [I.tuple_inj hzs hq];exact hx⟩,⟨⟨x',by simpa using he2⟩,?_⟩,fun b hb=>?_⟩
  ·obtain ⟨⟨o2,q2,r2⟩,_⟩:=hs
   exact ⟨o2,sb.extBut it o2 (Ne.symm hei) q2,r2⟩
  ·have bl:b<s.heap.objs.size:=by
    have z:b=e∨b=it:=by simpa using hb
    rcases z with rfl|rfl
    ·exact eT
    ·obtain ⟨o2,q2,_⟩:=hit
     exact Heap.lt_size q2
   rw [upd_ne (Nat.ne_of_lt bl)]
   exact (hf b hb).1
 done:=by
  intro X hP hw hK hc i pins s σ H E I hf st hg
  subst hP hw hK
  obtain ⟨⟨old,he⟩,hit⟩:=st
  obtain ⟨xs,hq,hx⟩:=hg
  obtain ⟨its,rv,p,hz⟩:=I.tuple hq
  obtain ⟨f0,f1,f2,f3,f4,f5⟩:=hf it (by simp)
  have pT:s.heap.IsTuple a its.toArray:=p
  have hl:=rv.length
  have nai:a≠it:=fun z=>by
   obtain ⟨o1,q1,c1,_⟩:=pT
   obtain ⟨o2,q2,c2,_⟩:=hit
   rw [z,q2] at q1;cases q1;rw [c2] at c1;exact absurd (Value.type.inj c1) (by decide)
  have ei:its.toArray.size=i:=by simp;walk_at"q"
  exact wpAny_pyNext_enum_endD (draws_tup (A:=X.A.in1) (I.ok.hd hc) it a nai its.toArray) he (by rw [ei];exact ⟨hit,pT⟩) fun h' eb=>⟨rfl,I.turned (t':=s.toks) (fun b o hb q=>eb b o hb q) f0 f1 f3 f4 f5⟩
 self:=fun _ _ _ _ _ st h=>wpAny_pyIter_enum st.1.choose_spec h
theorem turn_enumL {P:Program} {w:World} {K:PySem.W.Frag} (a e it:Addr) (hei:e≠it):Turn P w K (.Tuple elts kk ps) (Ite (fun H xs=>SqL K H a xs)) [e,it] e (fun i h=>(∃ old,IsEnum h e it i old)∧h.IsListIter it a i) where
 mem:=by simp
 obj:=fun i h st b hb=>by
  obtain ⟨⟨old,he⟩,o,e1,c,d⟩:=st
  have z:b=e∨b=it:=by simpa using hb
  rcases z with rfl|rfl
  ·exact ⟨_,he,fun v z=>by have z':Data.fields _=Data.cell v:=z;cases z'⟩
  ·exact ⟨o,e1,fun v z=>by rw [d] at z;cases z⟩
 keep:=fun i h h' st k=>by
  obtain ⟨⟨old,he⟩,o,e1,r⟩:=st
  exact ⟨⟨old,k e (by simp) _ he⟩,o,k it (by simp) o e1,r⟩
 item:=by
  intro X hP hw hK hc i pins s σ H E I hf st hg
  subst hP hw hK
  obtain ⟨⟨old,he⟩,hit⟩:=st
  obtain ⟨xs,x,hq,hx⟩:=hg
  obtain ⟨its,rv,p,hz⟩:=I.list hq
  obtain ⟨u,hu,ru⟩:=rv.get hx
  have pT:=p.isList
  have nai:a≠it:=fun z=>by
   obtain ⟨o1,q1,c1,_⟩:=pT
   obtain ⟨o2,q2,c2,_⟩:=hit
   rw [z,q2] at q1;cases q1;rw [c2] at c1;exact absurd (Value.type.inj c1) (by decide)
  have nae:e≠a:=fun z=>by
   obtain ⟨o1,q1,c1,_⟩:=pT
   rw [←z,he] at q1;cases q1;exact absurd (Value.type.inj c1) (by decide)
  have il:i<its.toArray.size:=by
   have:=(List.getElem?_eq_some_iff.mp hu).1
   simpa using this
  refine wpAny_pyNext_enum_itemD (Draws.list (A:=X.A.in1) (I.ok.hd hc) it a nai its.toArray) he ⟨hit,pT⟩ il hei (by simp [hei,nae]) fun x' h1 tk hP ho hs hT hsz hk=>?_
  have ex:x'=u:=by
   have:its[i]?=some x':=by simpa using hP
   rw [hu] at this;cases this;rfl
  subst ex
  refine ⟨_,rfl,wpAny_letOwnedTupleGo_enum ho fun h2 he2 sb=>?_⟩
  have eT:e<s.heap.objs.size:=Heap.lt_size he
  have k2:∀ b o,b≠e→b≠it→s.heap.get? b=some o→h2.get? b=some o:=fun b o n1 n2 q=>sb.extBut b o n1 (hk b o n1 n2 q)
  have new:ObjOk X.prog X.w (upd H s.heap.objs.size (.tup [.int i,x])) h2 s.heap.objs.size (.tup [.int i,x]):=⟨by show 2≤sizeLine;rw [sizeLine_eq];decide,[.int i tk,x'],.cons ⟨tk,rfl⟩ (.cons ru .nil),_,sb.extBut _ _ (Nat.ne_of_gt eT) hT,rfl,_,rfl,rfl⟩
  have I2:Inv X pins σ (upd H s.heap.objs.size (.tup [.int i,x])) { s with heap:=h2,toks:=tk+1 }:=Inv.turned2 I k2 (hf e (by simp)) (hf it (by simp)) new
  refine ⟨.ref s.heap.objs.size,_,I2,rfl,⟨s.heap.objs.size,x,I.hok.fresh (Nat.le_refl _),rfl,rfl,fun zs hzs=>by rw [I.list_inj hzs hq];exact hx⟩,⟨⟨x',by simpa using he2⟩,?_⟩,fun b hb=>?_⟩
  ·obtain ⟨⟨o2,q2,r2⟩,_⟩:=hs
   exact ⟨o2,sb.extBut it o2 (Ne.symm hei) q2,r2⟩
  ·have bl:b<s.heap.objs.size:=by
    have z:b=e∨b=it:=by simpa using hb
    rcases z with rfl|rfl
    ·exact eT
    ·obtain ⟨o2,q2,_⟩:=hit
     exact Heap.lt_size q2
   rw [upd_ne (Nat.ne_of_lt bl)]
   exact (hf b hb).1
 done:=by
  intro X hP hw hK hc i pins s σ H E I hf st hg
  subst hP hw hK
  obtain ⟨⟨old,he⟩,hit⟩:=st
  obtain ⟨xs,hq,hx⟩:=hg
  obtain ⟨its,rv,p,hz⟩:=I.list hq
  obtain ⟨f0,f1,f2,f3,f4,f5⟩:=hf it (by simp)
  have pT:=p.isList
  have hl:=rv.length
  have nai:a≠it:=fun z=>by
   obtain ⟨o1,q1,c1,_⟩:=pT
   obtain ⟨o2,q2,c2,_⟩:=hit
   rw [z,q2] at q1;cases q1;rw [c2] at c1;exact absurd (Value.type.inj c1) (by decide)
  have ei:its.toArray.size=i:=by simp;walk_at"q"
  exact wpAny_pyNext_enum_endD (Draws.list (A:=X.A.in1) (I.ok.hd hc) it a nai its.toArray) he (by rw [ei];exact ⟨hit,pT⟩) fun h' eb=>⟨rfl,I.turned (t':=s.toks) (fun b o hb q=>eb b o hb q) f0 f1 f3 f4 f5⟩
 self:=fun _ _ _ _ _ st h=>wpAny_pyIter_enum st.1.choose_spec h
def iEnumT (K:PySem.W.Frag) (ta:TA):TI:=fun σ H R=>ta σ H fun vs H1=>∃ a,vs=[.ref a]∧(∃ xs,SqT K H1 a xs)∧R (Ite (fun H xs=>SqT K H a xs)) H1
def iEnumL (K:PySem.W.Frag) (ta:TA):TI:=fun σ H R=>ta σ H fun vs H1=>∃ a,vs=[.ref a]∧(∃ xs,SqL K H1 a xs)∧R (Ite (fun H xs=>SqL K H a xs)) H1
theorem pi_enumT {l:Expr} {ta:TA} {p pos:Pos} (hg:Gl X "enumerate") (hm:X.mg "enumerate" = none) (ha:PA X [l] ta) (hs:starEach [l] X.env=[(false,eval l X.env)]:=by rfl):PI X (.Tuple elts kk ps) (.Call (.Name "enumerate" p) [l] [] pos) (iEnumT X.K ta):=by
 intro pins s σ H R I h
 refine Call_ (ld_blt I hg hm boot_enumerate (PyProof.Rows.callWith_type1 (thn (ha pos pins s σ H _ I h) fun us s1 ⟨vs,H1,I1,r1,q1⟩=>?_) hs rfl))
 obtain ⟨a,e,⟨xs,hq⟩,q⟩:=q1
 subst e
 obtain ⟨u,rfl,ru⟩:=Vals.one r1
 cases ru
 obtain ⟨its,rv,pp,hz⟩:=I1.tuple hq
 refine call_enum_tup (show s1.heap.IsTuple a its.toArray from pp) fun h' ge gi sz kk=>?_
 refine wpAny_pyIter_enum (by simpa using ge) ?_
 refine ⟨s1.heap.objs.size+1,[s1.heap.objs.size+1,s1.heap.objs.size],_,_,H1,rfl,I1.kept (t':=s1.toks) kk,turn_enumT a _ _ (Nat.succ_ne_self _),⟨⟨_,by simpa using ge⟩,gi⟩,fun b hb=>?_,q⟩
 have z:b=s1.heap.objs.size+1∨b=s1.heap.objs.size:=by simpa using hb
 rcases z with rfl|rfl
 ·exact I1.fpOk (Nat.le_succ _) (I1.hok.fresh (Nat.le_succ _))
 ·exact I1.fpOk (Nat.le_refl _) (I1.hok.fresh (Nat.le_refl _))
theorem pi_enumL {l:Expr} {ta:TA} {p pos:Pos} (hg:Gl X "enumerate") (hm:X.mg "enumerate" = none) (ha:PA X [l] ta) (hs:starEach [l] X.env=[(false,eval l X.env)]:=by rfl):PI X (.Tuple elts kk ps) (.Call (.Name "enumerate" p) [l] [] pos) (iEnumL X.K ta):=by
 intro pins s σ H R I h
 refine Call_ (ld_blt I hg hm boot_enumerate (PyProof.Rows.callWith_type1 (thn (ha pos pins s σ H _ I h) fun us s1 ⟨vs,H1,I1,r1,q1⟩=>?_) hs rfl))
 obtain ⟨a,e,⟨xs,hq⟩,q⟩:=q1
 subst e
 obtain ⟨u,rfl,ru⟩:=Vals.one r1
 cases ru
 obtain ⟨its,rv,pp,hz⟩:=I1.list hq
 refine call_enumerate_list pp.isList fun h' ge gi sz kk=>?_
 refine wpAny_pyIter_enum (by simpa using ge) ?_
 refine ⟨s1.heap.objs.size+1,[s1.heap.objs.size+1,s1.heap.objs.size],_,_,H1,rfl,I1.kept (t':=s1.toks) kk,turn_enumL a _ _ (Nat.succ_ne_self _),⟨⟨_,by simpa using ge⟩,gi⟩,fun b hb=>?_,q⟩
 have z:b=s1.heap.objs.size+1∨b=s1.heap.objs.size:=by simpa using hb
 rcases z with rfl|rfl
 ·exact I1.fpOk (Nat.le_succ _) (I1.hok.fresh (Nat.le_succ _))
 ·exact I1.fpOk (Nat.le_refl _) (I1.hok.fresh (Nat.le_refl _))
theorem for_enum {sq:Hp→List V→Prop} {xs:List V} {g:TG} {tb:TS} {D:Ends} {σ:St} {H:Hp} (Pv:Nat→St→Hp→Prop) (h0:Pv 0 σ H) (hl:∀ i σ H,i≤xs.length→Pv i σ H→sq H xs)
  (hs:∀ i x T σ H,xs[i]?=some x→H T=none→Pv i σ H→g (.ref T) σ (upd H T (.tup [.int i,x])) fun σ2 H2=>tb { D with nx:=Pv (i+1),ct:=Pv (i+1),bk:=D.nx } σ2 H2) (hd:∀ σ H,Pv xs.length σ H→D.nx σ H) :
  ∃ W:Nat→Nat→St→Hp→Prop,(∃ m,W 0 m σ H)∧∀ i m σ H,W i m σ H →
   ((Ite sq).stop i H∧D.nx σ H)∨((Ite sq).go i H∧∃ N:St→Hp→Prop,(∀ σ' H',N σ' H'→∃ m',m'<m∧W (i+1) m' σ' H')∧∀ x H',(Ite sq).yld i H x H'→g x σ H' fun σ2 H2=>tb { D with nx:=N,ct:=N,bk:=D.nx } σ2 H2):=by
 refine ⟨fun i m σ H=>m=xs.length-i∧i≤xs.length∧Pv i σ H,⟨xs.length,by simp,Nat.zero_le _,h0⟩,?_⟩
 rintro i m σ H ⟨rfl,hi,p⟩
 have q:=hl i σ H hi p
 by_cases hlt:i<xs.length
 ·refine .inr ⟨⟨xs,xs[i],q,by simp [hlt]⟩,Pv (i+1),fun σ' H' p'=>⟨xs.length-(i+1),by walk_at"q", rfl,hlt,p'⟩,fun x H' y=>?_⟩
  obtain ⟨T,v,fT,e1,e2,y⟩:=y
  subst e1 e2
  exact hs i v T σ H (y xs q) fT p
 ·have e:i=xs.length:=by walk_at"q"
  subst e
  exact .inl ⟨⟨xs,q,rfl⟩,hd σ H p⟩
end
end
end L2
namespace L2
open PySem PySem.Spec PyProof.Rows HT
section
section
variable {X:Cx}
def whole (n:Nat) (lo hi:Option Int):Prop:=sIx n 0 lo=0∧sIx n n hi=n
end
end
end L2
namespace Ep
open PySem L2
section
def both (cs:List Int) (w:Int×Int):Int:=cs.getD w.1.toNat 0+cs.getD w.2.toNat 0
def letM (cs:List Int) (w:Int×Int):List Int:=(cs.set w.1.toNat ((both cs w+1) / 2)).set w.2.toNat (both cs w / 2)
def thruM (cs:List Int) (ws:List (Int×Int)):List Int:=ws.foldl letM cs
def oddsM:Nat→List Int→List (Int×Int)→List Int
 |_,_,[]=>[]
 |k,cs,w::r=>(if both cs w % 2=1 then [(k:Int)] else [])++oddsM (k+1) (letM cs w) r
theorem letM_len (cs:List Int) (w:Int×Int):(letM cs w).length=cs.length:=by unfold letM;rw [List.length_set,List.length_set]
theorem thruM_len (ws:List (Int×Int)):∀ cs:List Int,(thruM cs ws).length=cs.length:=by
 unfold thruM
 induction ws with
 |nil=>intro cs;rfl
 |cons w r ih=>intro cs;rw [List.foldl_cons,ih,letM_len]
theorem thruM_nil (cs:List Int):thruM cs []=cs:=rfl
theorem thruM_snoc (cs:List Int) (ws:List (Int×Int)) (w:Int×Int):thruM cs (ws++[w])=letM (thruM cs ws) w:=by
 unfold thruM
 rw [List.foldl_append]
 rfl
theorem oddsM_snoc (ws:List (Int×Int)) (w:Int×Int):∀ (k:Nat) (cs:List Int),oddsM k cs (ws++[w])=oddsM k cs ws++(if both (thruM cs ws) w % 2=1 then [((k+ws.length:Nat):Int)] else []):=by
 induction ws with
 |nil=>intro k cs;simp [oddsM,thruM];rfl
 |cons v r ih =>
  intro k cs
  show _++oddsM (k+1) (letM cs v) (r++[w])=(_++oddsM (k+1) (letM cs v) r)++_
  rw [ih,List.append_assoc]
  have e:k+1+r.length=k+(v::r).length:=by simp;walk_at"q"
  rw [e]
  rfl
theorem oddsM_len (ws:List (Int×Int)):∀ (k:Nat) (cs:List Int),(oddsM k cs ws).length≤ws.length:=by
 induction ws with
 |nil=>intro k cs;simp [oddsM]
 |cons v r ih =>
  intro k cs
  show (_++oddsM (k+1) (letM cs v) r).length≤_
  rw [List.length_append,List.length_cons]
  have:=ih (k+1) (letM cs v)
  split<;>simp<;>walk_at"q"
theorem take_snoc {α:Type} {ws:List α} {i:Nat} {w:α} (h:ws[i]?=some w):ws.take (i+1)=ws.take i++[w]:=by rw [List.take_add_one,h];rfl
theorem set_map (cs:List Int) (i:Nat) (z:Int):(cs.map V.int).set i (V.int z)=(cs.set i z).map V.int:=by rw [List.map_set]
inductive SpThruP (vs:List V) (H:Hp) (Q:VK):Prop
 |mk (v:V) (wide:Int) (ws:List (Int×Int)) (c:Addr) (cs:List Int) (h1:vs=[v,.ref c]) (h2:Net H v wide ws) (h3:WOk wide ws) (h4:ws.length≤100) (h5:H c=some (.lst (cs.map V.int))) (h6:cs.length=wide.toNat) (h7:∀ (t a b:Addr) (H':Hp),H t=none→H a=none→H b=none→a≠b→Same H H'→H' t=some (.tup [.ref a,.ref b])→H' a=some (.lst ((thruM cs ws).map V.int))→H' b=some (.lst ((oddsM 0 cs ws).map V.int))→Q (.ref t) H'):SpThruP vs H Q
def spThru:Sp:=fun vs H Q _=>SpThruP  vs H Q
inductive SpExitsP (vs:List V) (H:Hp) (Q:VK):Prop
 |mk (v:V) (wide:Int) (ws:List (Int×Int)) (c:Addr) (cs:List Int) (h1:vs=[v,.ref c]) (h2:Net H v wide ws) (h3:WOk wide ws) (h4:ws.length≤100) (h5:H c=some (.lst (cs.map V.int))) (h6:cs.length=wide.toNat) (h7:∀ (a:Addr) (H':Hp),H a=none→Same H H'→H' a=some (.lst ((thruM cs ws).map V.int))→Q (.ref a) H'):SpExitsP vs H Q
def spExits:Sp:=fun vs H Q _=>SpExitsP  vs H Q
theorem WOk.mem {wide:Int} {ws:List (Int×Int)} (h:WOk wide ws) {i:Nat} {x:Int×Int} (e:ws[i]?=some x):0≤x.1∧x.1<wide∧0≤x.2∧x.2<wide∧x.1≠x.2:=h x (List.mem_of_getElem? e)
theorem getD_lt {cs:List Int} {i:Nat} (h:i<cs.length):cs[i]?=some (cs.getD i 0):=by simp [List.getD,h]
theorem letM_first {wide:Int} {cs:List Int} {w:Int×Int} (hl:cs.length=wide.toNat) (h:0≤w.1∧w.1<wide∧0≤w.2∧w.2<wide∧w.1≠w.2):(letM cs w).getD w.1.toNat 0=(both cs w+1) / 2:=by
 unfold letM
 rw [getD_set (by rw [List.length_set];walk_at"q"),if_neg (by walk_at"q"),getD_set (by walk_at"q"),if_pos rfl]
theorem letM_second {wide:Int} {cs:List Int} {w:Int×Int} (hl:cs.length=wide.toNat) (h:0≤w.1∧w.1<wide∧0≤w.2∧w.2<wide∧w.1≠w.2):(letM cs w).getD w.2.toNat 0=both cs w / 2:=by
 unfold letM
 rw [getD_set (by rw [List.length_set];walk_at"q"),if_pos rfl]
theorem letM_other {wide:Int} {cs:List Int} {w:Int×Int} (hl:cs.length=wide.toNat) (h:0≤w.1∧w.1<wide∧0≤w.2∧w.2<wide∧w.1≠w.2) {j:Nat} (h1:j≠w.1.toNat) (h2:j≠w.2.toNat):(letM cs w).getD j 0=cs.getD j 0:=by
 unfold letM
 rw [getD_set (by rw [List.length_set];walk_at"q"),if_neg h2,getD_set (by walk_at"q"),if_neg h1]
theorem all_true (n:Nat):(List.replicate n true).all id=true:=by simp
end
end Ep
namespace L2
open PySem PySem.Spec PyProof.Rows
section
def Itz (sq1 sq2:Hp→List V→Prop):It :=
 ⟨fun i H=>∃ xs x ys y,sq1 H xs∧sq2 H ys∧xs[i]?=some x∧ys[i]?=some y,fun i H x H'=>∃ T v u,H T=none∧x=.ref T∧H'=upd H T (.tup [v,u])∧(∀ xs,sq1 H xs→xs[i]?=some v)∧∀ ys,sq2 H ys→ys[i]?=some u,
  fun i H=>∃ xs ys,sq1 H xs∧sq2 H ys∧(xs[i]?=none∨ys[i]?=none)⟩
theorem Inv.turnedN {X:Cx} {pins:List (Addr×Obj)} {σ:St} {H:Hp} {s:Shared} {h':Heap} {t':Nat} {ch:List Addr} (I:Inv X pins σ H s) (k:∀ b o,b∉ch→s.heap.get? b=some o→h'.get? b=some o)
  (fe:∀ b∈ch,FpOk X pins H b):Inv X pins σ H { s with heap:=h',toks:=t' }:=by
 have ntr:∀ b u,H b=some u→b∉ch:=fun b u q z=>by rw [(fe b z).1] at q;cases q
 refine I.step (g':=s.gens) (d':=s.drawn) (ch:=ch) (fun b hb=>?_) (fun b o _ _ hc q _=>k b o hc q) (fun b o _ _ hc q _=>⟨o.slots,k b o hc q⟩) (fun _ _ _ _ n=>n)
  (fun b o hc q=>⟨o,k b o hc q⟩) (fun b xs q=>q) (fun b o u q=>q) (fun b ps q=>⟨q,fun c o ec x=>⟨ec,k c o (ntr c _ ec) x⟩⟩) (fun m hm=>?_) (fun b u q=>?_) I.bare
 ·exact ⟨(fe b hb).2.2.2.1,(fe b hb).2.1,(fe b hb).2.2.2.2.1,(fe b hb).2.2.2.2.2⟩
 ·obtain ⟨o,es,ep,ho,r⟩:=hm
  exact ⟨o,es,ep,k _ o (fun z=>(fe _ z).2.1 rfl) ho,r⟩
 ·refine (I.hok b u q).stay (fun c v hc z=>k c v ?_ z) (fun _ z=>z) fun _ _ z=>z
  rcases hc with z|z
  ·rw [z];exact ntr b u q
  ·exact ntr c _ z
theorem Inv.turnedT {X:Cx} {pins:List (Addr×Obj)} {σ:St} {H:Hp} {s:Shared} {h':Heap} {t':Nat} {ch:List Addr} {ys:List V} (I:Inv X pins σ H s) (k:∀ b o,b∉ch→s.heap.get? b=some o→h'.get? b=some o)
  (fe:∀ b∈ch,FpOk X pins H b) (new:ObjOk X.prog X.w (upd H s.heap.objs.size (.tup ys)) h' s.heap.objs.size (.tup ys)):Inv X pins σ (upd H s.heap.objs.size (.tup ys)) { s with heap:=h',toks:=t' }:=by
 have hT:H s.heap.objs.size=none:=I.hok.fresh (Nat.le_refl _)
 have nT:∀ b o,s.heap.get? b=some o→b≠s.heap.objs.size:=fun b o q=>Nat.ne_of_lt (Heap.lt_size q)
 have ntr:∀ b u,H b=some u→b∉ch:=fun b u q z=>by rw [(fe b z).1] at q;cases q
 have up:∀ b u,H b=some u→upd H s.heap.objs.size (.tup ys) b=some u:=fun b u q=>by rw [upd_ne (ne_of_none q hT)];exact q
 refine I.step (g':=s.gens) (d':=s.drawn) (ch:=ch) (fun b hb=>?_) (fun b o _ _ hc q _=>k b o hc q) (fun b o _ _ hc q _=>⟨o.slots,k b o hc q⟩) (fun b o _ q n=>by rw [upd_ne (nT b o q)];exact n)
  (fun b o hc q=>⟨o,k b o hc q⟩) (fun b xs q=>up b _ q) (fun b o u q=>up b _ q) (fun b ps q=>⟨up b _ q,fun c o ec x=>⟨up c _ ec,k c o (ntr c _ ec) x⟩⟩) (fun m hm=>?_) (fun b u q=>?_) I.bare
 ·exact ⟨(fe b hb).2.2.2.1,(fe b hb).2.1,(fe b hb).2.2.2.2.1,(fe b hb).2.2.2.2.2⟩
 ·obtain ⟨o,es,ep,ho,r⟩:=hm
  exact ⟨o,es,ep,k _ o (fun z=>(fe _ z).2.1 rfl) ho,r⟩
 ·by_cases hb:b=s.heap.objs.size
  ·subst hb
   rw [upd_same] at q
   cases q
   exact new
  ·rw [upd_ne hb] at q
   refine (I.hok b u q).stay (fun c v hc z=>k c v ?_ z) (fun c z=>up c _ z) fun c xs z=>up c _ z
   rcases hc with z|z
   ·rw [z];exact ntr b u q
   ·exact ntr c _ z
section
variable {X:Cx} {elts:List Expr} {kk:Nat} {ps:Pos}
theorem turn_zipL {P:Program} {w:World} {K:PySem.W.Frag} (a1 a2 z TI TO i1 i2:Addr) (D:ZipApart z TI TO i1 i2 a1 a2):Turn P w K (.Tuple elts kk ps) (Itz (fun H xs=>SqL K H a1 xs) (fun H xs=>SqL K H a2 xs)) [z,TI,TO,i1,i2] z
  (fun i h=>IsZip h z TI TO .none∧IsPair h TI (.ref i1) (.ref i2)∧(∃ a b,IsPair h TO a b)∧h.IsListIter i1 a1 i∧h.IsListIter i2 a2 i) where
 mem:=by simp
 obj:=fun i h st b hb=>by
  obtain ⟨hz,hTI,⟨u,v,hTO⟩,⟨o1,e1,c1,d1⟩,⟨o2,e2,c2,d2⟩⟩:=st
  have q:b=z∨b=TI∨b=TO∨b=i1∨b=i2:=by simpa using hb
  rcases q with rfl|rfl|rfl|rfl|rfl
  ·exact ⟨_,hz,fun v q=>by have q':Data.fields _=Data.cell v:=q;cases q'⟩
  ·exact ⟨_,hTI,fun v q=>by have q':Data.seq _ _=Data.cell v:=q;cases q'⟩
  ·exact ⟨_,hTO,fun v q=>by have q':Data.seq _ _=Data.cell v:=q;cases q'⟩
  ·exact ⟨o1,e1,fun v q=>by rw [d1] at q;cases q⟩
  ·exact ⟨o2,e2,fun v q=>by rw [d2] at q;cases q⟩
 keep:=fun i h h' st k=>by
  obtain ⟨hz,hTI,⟨u,v,hTO⟩,h1,h2⟩:=st
  exact ⟨k z (by simp) _ hz,k TI (by simp) _ hTI,⟨u,v,k TO (by simp) _ hTO⟩,h1.at fun o e=>k i1 (by simp) o e,h2.at fun o e=>k i2 (by simp) o e⟩
 item:=by
  intro X hP hw hK hc i pins s σ H E I hf st hg
  subst hP hw hK
  obtain ⟨hz,hTI,⟨u0,v0,hTO⟩,h1,h2⟩:=st
  obtain ⟨xs,x,ys,y,hq,hr,hx,hy⟩:=hg
  obtain ⟨its,rv,p,_⟩:=I.list hq
  obtain ⟨jts,rw',p',_⟩:=I.list hr
  obtain ⟨u,hu,ru⟩:=rv.get hx
  obtain ⟨v,hv,rvv⟩:=rw'.get hy
  refine wpAny_pyNext_zip_item D hz hTI hTO h1 h2 p.isList p'.isList (x:=u) (y:=v) (by simpa using hu) (by simpa using hv) fun h' b1 b2 b3 b4 b5 b6 hk=>?_
  refine ⟨_,rfl,wpAny_letOwnedTupleGo_zip b1 fun h2' hz2 sb=>?_⟩
  have eT:z<s.heap.objs.size:=Heap.lt_size hz
  have k2:∀ b o,b∉[z,TO,i1,i2]→s.heap.get? b=some o→h2'.get? b=some o:=fun b o n q=>by
   have n':b≠z∧b≠TO∧b≠i1∧b≠i2:=by simpa using n
   exact sb.extBut b o n'.1 (hk b o n'.1 n'.2.1 n'.2.2.1 n'.2.2.2 q)
  have new:ObjOk X.prog X.w (upd H s.heap.objs.size (.tup [x,y])) h2' s.heap.objs.size (.tup [x,y]):=⟨by show 2≤sizeLine;rw [sizeLine_eq];decide,[u,v],.cons ru (.cons rvv .nil),_,sb.extBut _ _ (Nat.ne_of_gt eT) b5,rfl,_,rfl,rfl⟩
  have sub:∀ b∈[z,TO,i1,i2],b∈[z,TI,TO,i1,i2]:=fun b hb=>by
   simp at hb ⊢
   rcases hb with e|e|e|e<;>simp [e]
  have I2:Inv X pins σ (upd H s.heap.objs.size (.tup [x,y])) { s with heap:=h2',toks:=s.toks }:=Inv.turnedT I k2 (fun b hb=>hf b (sub b hb)) new
  refine ⟨.ref s.heap.objs.size,_,I2,rfl,⟨s.heap.objs.size,x,y,I.hok.fresh (Nat.le_refl _),rfl,rfl,(fun zs hzs=>by rw [I.list_inj hzs hq];exact hx),fun zs hzs=>by rw [I.list_inj hzs hr];exact hy⟩,⟨hz2,?_,⟨u,v,?_⟩,?_,?_⟩,fun b hb=>?_⟩
  ·exact sb.extBut _ _ D.TIz (hk _ _ D.TIz D.TITO D.TIi1 D.TIi2 hTI)
  ·exact sb.extBut _ _ D.TOz b2
  ·exact b3.extBut sb.extBut D.i1z
  ·exact b4.extBut sb.extBut D.i2z
  ·have bl:b<s.heap.objs.size:=by
    have q:b=z∨b=TI∨b=TO∨b=i1∨b=i2:=by simpa using hb
    rcases q with rfl|rfl|rfl|rfl|rfl
    ·exact eT
    ·exact Heap.lt_size hTI
    ·exact Heap.lt_size hTO
    ·obtain ⟨_,q,_⟩:=h1;exact Heap.lt_size q
    ·obtain ⟨_,q,_⟩:=h2;exact Heap.lt_size q
   rw [upd_ne (Nat.ne_of_lt bl)]
   exact (hf b hb).1
 done:=by
  intro X hP hw hK hc i pins s σ H E I hf st hg
  subst hP hw hK
  obtain ⟨hz,hTI,⟨u0,v0,hTO⟩,h1,h2⟩:=st
  obtain ⟨xs,ys,hq,hr,hx⟩:=hg
  obtain ⟨its,rv,p,_⟩:=I.list hq
  obtain ⟨jts,rw',p',_⟩:=I.list hr
  have l1:=rv.length
  have l2:=rw'.length
  have hend:its.toArray[i]?=none∨jts.toArray[i]?=none:=by
   rcases hx with q|q
   ·exact .inl (by rw [List.getElem?_toArray,List.getElem?_eq_none_iff] at *;walk_at"q")
   ·exact .inr (by rw [List.getElem?_toArray,List.getElem?_eq_none_iff] at *;walk_at"q")
  have sub:∀ b∈[z,TO,i1,i2],b∈[z,TI,TO,i1,i2]:=fun b hb=>by
   simp at hb ⊢
   rcases hb with e|e|e|e<;>simp [e]
  refine wpAny_pyNext_zip_end (I.ok.hd hc) D hz hTI hTO h1 h2 p.isList p'.isList hend fun h' hk=>⟨rfl,?_⟩
  exact Inv.turnedN (t':=s.toks) (ch:=[z,TO,i1,i2]) I (fun b o n q=>by
   have n':b≠z∧b≠TO∧b≠i1∧b≠i2:=by simpa using n
   exact hk b o n'.1 n'.2.1 n'.2.2.1 n'.2.2.2 q) fun b hb=>hf b (sub b hb)
 self:=fun _ _ _ _ _ st h=>wpAny_pyIter_zip st.1 h
def iZipL (K:PySem.W.Frag) (ta:TA):TI:=fun σ H R=>ta σ H fun vs H1=>∃ a b,vs=[.ref a,.ref b]∧(∃ xs,SqL K H1 a xs)∧(∃ ys,SqL K H1 b ys)∧R (Itz (fun H xs=>SqL K H a xs) (fun H xs=>SqL K H b xs)) H1
theorem pi_zipL {l r:Expr} {ta:TA} {p pos:Pos} (hg:Gl X "zip") (hm:X.mg "zip" = none) (ha:PA X [l,r] ta) (hs:starEach [l,r] X.env=(false,eval l X.env)::starEach [r] X.env:=by rfl) (hpl:(backTo pos (starEach [r] X.env)).any (·.1)=false:=by rfl) :
  PI X (.Tuple elts kk ps) (.Call (.Name "zip" p) [l,r] [] pos) (iZipL X.K ta):=by
 intro pins s σ H R I h
 refine Call_ (ld_blt I hg hm boot_zip (PyProof.Rows.callWith_type1 (thn (ha pos pins s σ H _ I h) fun us s1 ⟨vs,H1,I1,r1,q1⟩=>?_) hs hpl))
 obtain ⟨a,b,e,⟨xs,hq⟩,⟨ys,hr⟩,q⟩:=q1
 subst e
 obtain ⟨u,v,rfl,ru,rv⟩:=Vals.two r1
 cases ru
 cases rv
 obtain ⟨its,_,pp,_⟩:=I1.list hq
 obtain ⟨jts,_,pp',_⟩:=I1.list hr
 have la:a<s1.heap.objs.size:=by obtain ⟨o,n,e,_⟩:=pp;exact Heap.lt_size e
 have lb:b<s1.heap.objs.size:=by obtain ⟨o,n,e,_⟩:=pp';exact Heap.lt_size e
 refine call_zip_2 pp.isList pp'.isList fun h' gz gTI gTO g1 g2 sz kk=>?_
 refine wpAny_pyIter_zip (by simpa using gz) ?_
 have ap:ZipApart (s1.heap.objs.size+4) (s1.heap.objs.size+2) (s1.heap.objs.size+3) s1.heap.objs.size (s1.heap.objs.size+1) a b:=by
  generalize s1.heap.objs.size=n at la lb
  constructor<;>exact fun q=>by simp only [Addr] at *;walk_at"q"
 refine ⟨s1.heap.objs.size+4,[s1.heap.objs.size+4,s1.heap.objs.size+2,s1.heap.objs.size+3,s1.heap.objs.size,s1.heap.objs.size+1],_,_,H1,rfl,I1.kept (t':=s1.toks) kk,turn_zipL a b _ _ _ _ _ ap,⟨gz,gTI,⟨_,_,gTO⟩,g1,g2⟩,fun c hb=>?_,q⟩
 have bl:s1.heap.objs.size≤c:=by
  have q:c=s1.heap.objs.size+4∨c=s1.heap.objs.size+2∨c=s1.heap.objs.size+3∨c=s1.heap.objs.size∨c=s1.heap.objs.size+1:=by simpa using hb
  rcases q with rfl|rfl|rfl|rfl|rfl
  ·exact Nat.le_add_right _ _
  ·exact Nat.le_add_right _ _
  ·exact Nat.le_add_right _ _
  ·exact Nat.le_refl _
  ·exact Nat.le_add_right _ _
 exact I1.fpOk bl (I1.hok.fresh bl)
end
end
section
section
variable {X:Cx}
theorem pre_sum (ns:List Int):∀ k:Nat,k≤ns.length→preSum (fun i=>ns.getD i 0) k=(ns.take k).sum:=by
 intro k
 induction k with
 |zero=>intro _;rfl
 |succ k ih =>
  intro h
  rw [take_sum_succ ns k (by walk_at"q"),←ih (by walk_at"q")]
  rfl
inductive P_call_sumL (K:PySem.W.Frag) (xs:List V) (H:Hp) (Q:VK):Prop
 |mk (p:Addr) (ns:List Int) (h1:xs=[.ref p]) (h2:SqL K H p (ns.map V.int)) (h3:Q (.int ns.sum) H):P_call_sumL K xs H Q
theorem call_sumL (hc:X.calm=true):CallR X (.builtin "sum") (P_call_sumL X.K):=by
 intro pins s σ H xs us Q I r h
 obtain ⟨p,ns,rfl,hp,q⟩:=h
 obtain ⟨u,rfl,ru⟩:=r.one
 cases ru
 obtain ⟨its,rv,pl,hz⟩:=I.list hp
 have lts:p<s.heap.objs.size:=by
  obtain ⟨o,n,e,_⟩:=pl
  exact Heap.lt_size e
 have hl:=rv.length
 rw [List.length_map] at hl
 refine call_sum_walkG (wpAny_pyIter_list pl.isList ?_)
 refine ⟨_,_,_,_,_,_,fun i=>ns.getD i 0,rfl,Walks.list (A:=X.A.in1) (I.ok.hd hc) s.heap.objs.size p (Nat.ne_of_lt lts) its.toArray,⟨⟨_,Heap.get?_push_size _ rfl,rfl,rfl⟩,?_⟩,?_,?_,fun h' tk t' hk=>?_⟩
 ·obtain ⟨o,n,e,c,d,e2⟩:=pl
  exact ⟨o,Heap.get?_push_of_some _ e,c,n,e2⟩
 ·intro b hb
  rw [Heap.size_push]
  have z:b=s.heap.objs.size∨b=p:=by simpa using hb
  rcases z with rfl|rfl
  ·exact Nat.lt_succ_self _
  ·exact Nat.lt_succ_of_lt lts
 ·intro i v hP
  have hi:its[i]?=some v:=by simpa using hP
  have il:i<its.length:=(List.getElem?_eq_some_iff.mp hi).1
  have e':(ns.map V.int)[i]?=some (.int (ns.getD i 0)):=by
   rw [List.getElem?_map]
   simp [List.getD,show i<ns.length by walk_at"q"]
  obtain ⟨u,hu,ru⟩:=rv.get e'
  rw [hi] at hu;cases hu
  exact ru
 ·have e:preSum (fun i=>ns.getD i 0) its.toArray.size=ns.sum:=by
   rw [List.size_toArray,←hl,pre_sum ns ns.length (Nat.le_refl _),List.take_length]
  rw [e]
  refine ⟨.int ns.sum,H,?_,⟨t',rfl⟩,q⟩
  exact I.kept (t':=tk) fun b o e=>hk b o (by
    intro z
    have:b=s.heap.objs.size:=by simpa using z
    exact absurd (Heap.lt_size e) (by rw [this];exact Nat.lt_irrefl _)) (Heap.get?_push_of_some _ e)
end
end
end L2
namespace Ep
open PySem L2
section
theorem ext_getD {a b:List Int} (h:a.length=b.length) (g:∀ i,i<a.length→a.getD i 0=b.getD i 0):a=b:=by
 refine List.ext_getElem h fun i h1 h2=>?_
 have:=g i h1
 simpa [List.getD,h1,h2] using this
abbrev LaneOk (wide:Int) (w:Int×Int):Prop:=0≤w.1∧w.1<wide∧0≤w.2∧w.2<wide∧w.1≠w.2
theorem sum_set {l:List Int}:∀ {i:Nat} {z:Int},i<l.length→(l.set i z).sum=l.sum-l.getD i 0+z:=by
 induction l with
 |nil=>intro i z h;simp at h
 |cons a r ih =>
  intro i z h
  cases i with
  |zero=>simp [List.getD];walk_at"q"
  |succ i =>
   have:=ih (i:=i) (z:=z) (by simpa using h)
   simp [List.getD] at this ⊢
   walk_at"q"
theorem letM_sum {wide:Int} {cs:List Int} {w:Int×Int} (hl:cs.length=wide.toNat) (h:LaneOk wide w):(letM cs w).sum=cs.sum:=by
 obtain ⟨h1,h2,h3,h4,h5⟩:=h
 unfold letM
 rw [sum_set (by rw [List.length_set];walk_at"q"),sum_set (by walk_at"q"),getD_set (by walk_at"q"),if_neg (by walk_at"q")]
 unfold both
 walk_at"q"
theorem thruM_sum {wide:Int} (ws:List (Int×Int)):∀ cs:List Int,WOk wide ws→cs.length=wide.toNat→(thruM cs ws).sum=cs.sum:=by
 induction ws with
 |nil=>intro cs _ _;rfl
 |cons w r ih =>
  intro cs ok hl
  show (thruM (letM cs w) r).sum=_
  rw [ih _ (fun x hx=>ok x (List.mem_cons_of_mem _ hx)) (by rw [letM_len];exact hl),letM_sum hl (ok w List.mem_cons_self)]
end
section
def mxL (L:List Int):Int:=L.foldl maxI 0
def depM (wide:Int) (ws:List (Int×Int)):Nat:=(mxL (layS wide ws).2).toNat
abbrev whole (wide:Int) (ws:List (Int×Int)):Int:=((2 ^ depM wide ws:Nat):Int)
def Rows (H:Hp):List V→List (List Int)→Prop:=Paired fun r w=>∃ t,r=.ref t∧H t=some (.lst (w.map V.int))
theorem int_item {cs:List Int} {j:Nat} {x:V} (h:(cs.map V.int)[j]?=some x):∃ z,cs[j]?=some z∧x=V.int z:=by
 rw [List.getElem?_map] at h
 cases e:cs[j]? with
 |none=>rw [e] at h;cases h
 |some z=>rw [e] at h;exact ⟨z,rfl,(Option.some.inj h).symm⟩
end
section
theorem getD_of {cs:List Int} {j:Nat} {z:Int} (h:cs[j]?=some z):cs.getD j 0=z:=by simp [List.getD,h]
end
section
theorem cut_from {xs:List V} {n:Nat} (h:n≤xs.length):cutV xs (some (n:Int)) none=xs.drop n:=by
 unfold cutV
 rw [HT.sIx_nat,HT.sIx_none,Nat.min_eq_left h,List.take_of_length_le (by rw [List.length_drop];walk_at"q")]
theorem cut1 {xs:List V}:cutV xs (some 1) none=xs.drop 1:=by
 by_cases h:1≤xs.length
 ·exact cut_from (n:=1) h
 ·have e:xs=[]:=List.length_eq_zero_iff.mp (by walk_at"q")
  subst e
  rfl
theorem atI_neg1 {rs:List V} {x:V} (h:rs[rs.length-1]?=some x):atI rs (-1)=some x:=by
 have hl:=(List.getElem?_eq_some_iff.mp h).1
 unfold atI ixN
 rw [if_neg (by decide),if_pos (by walk_at"q")]
 show rs[((-1:Int)+(rs.length:Int)).toNat]?=some x
 rw [show ((-1:Int)+(rs.length:Int)).toNat=rs.length-1 by walk_at"q"]
 exact h
end
section
end
end Ep
namespace L2
open PySem PySem.Spec PyProof.Rows PyProof.V PySem.SeqAt
section
mutual
inductive Dat (H:Hp):V→PyData→Prop
 |non:Dat H .non .none
 |bl (b:Bool):Dat H (.bl b) (.bool b)
 |int (i:Int):Dat H (.int i) (.int i)
 |str (x:Str):Dat H (.str x) (.str x)
 |lst {a:Addr} {xs:List V} {ds:List PyData}:H a=some (.lst xs)→Dats H xs ds→Dat H (.ref a) (.list ds)
 |tup {a:Addr} {xs:List V} {ds:List PyData}:H a=some (.tup xs)→Dats H xs ds→Dat H (.ref a) (.tuple ds)
inductive Dats (H:Hp):List V→List PyData→Prop
 |nil:Dats H [] []
 |cons {v:V} {vs:List V} {d:PyData} {ds:List PyData}:Dat H v d→Dats H vs ds→Dats H (v::vs) (d::ds)
end
theorem Dat.reads {X:Cx} {pins:List (Addr×Obj)} {σ:St} {H:Hp} {s:Shared} (I:Inv X pins σ H s) {v:V} {d:PyData} (h:Dat H v d):∀ u,RelV v u→∃ as,Reads s.heap u d as:=by
 refine Dat.rec (H:=H) (motive_1:=fun v d _=>∀ u,RelV v u→∃ as,Reads s.heap u d as) (motive_2:=fun vs ds _=>∀ us,Vals vs us→∃ as,ReadsAll s.heap us ds as) ?_ ?_ ?_ ?_ ?_ ?_ ?_ ?_ h
 ·intro u r;cases r;exact ⟨_,.none⟩
 ·intro b u r;cases r;exact ⟨_,.bool b⟩
 ·intro i u r;obtain ⟨t,rfl⟩:=r;exact ⟨_,.int i t⟩
 ·intro x u r;obtain ⟨t,rfl⟩:=r;exact ⟨_,.str x t⟩
 ·intro a xs ds e _ ih u r
  cases r
  obtain ⟨its,rv,pl,_⟩:=I.list (SqL.of (K:=X.K) e)
  obtain ⟨as,ra⟩:=ih its rv
  obtain ⟨o,ho,hc,n,hd⟩:=pl.isList
  exact ⟨_,.list ho hc hd (by simpa using ra)⟩
 ·intro a xs ds e _ ih u r
  cases r
  obtain ⟨its,rv,pl,_⟩:=I.tuple (SqT.of (K:=X.K) e)
  obtain ⟨as,ra⟩:=ih its rv
  obtain ⟨o,ho,hc,n,hd⟩:=(show s.heap.IsTuple a its.toArray from pl)
  exact ⟨_,.tuple ho hc hd (by simpa using ra)⟩
 ·intro us r;cases r;exact ⟨_,.nil⟩
 ·intro v vs d ds _ _ ih1 ih2 us r
  cases r with
  |cons r1 r2 =>
   obtain ⟨as,ra⟩:=ih1 _ r1
   obtain ⟨bs,rb⟩:=ih2 _ r2
   exact ⟨_,.cons ra rb⟩
section
variable {X:Cx}
def rEqD (neg:Bool):R2:=fun x y H Q=>∃ dx dy,Dat H x dx∧Dat H y dy∧shaped dx=true∧shaped dy=true∧noMix dx dy=true∧Q (.bl (if neg then !same dx dy else same dx dy)) H
theorem op_neD (hu:X.A.units+64<cLine):OpR X (compareOp .NotEq) (rEqD true):=by
 intro pins s σ H x y v u Q I rx ry h
 obtain ⟨dx,dy,d1,d2,s1,s2,nm,q⟩:=h
 obtain ⟨as,r1⟩:=d1.reads I v rx
 obtain ⟨bs,r2⟩:=d2.reads I u ry
 exact ne_dataH_same r1 r2 s1 s2 hu nm ⟨.bl _,H,I,rfl,q⟩
end
end
end L2
namespace Ep
open PySem L2 PySem.SeqAt
section
end
end Ep
namespace L2
open PySem PySem.Spec PyProof.Rows PyProof.V PySem.SeqAt
section
section
variable {X:Cx} {a:Expr} {ta:TE} {pos:Pos}
theorem pe_notT (ha:PE X a ta):PE X (.UnaryOp .Not a pos) (fun σ H Q=>ta σ H fun x H'=>∃ k,TruV X.K x H' k∧Q (.bl (!k)) H'):=by
 intro pins s σ H Q I h
 refine UnaryOp_ (thn (ha pins s σ H _ I h) fun v s1 ⟨x,H1,I1,r1,q1⟩=>?_)
 exact not_of (thn (tru_ok pins s1 σ H1 x v (fun k H'=>Q (.bl (!k)) H') I1 r1 q1) fun c s2 ⟨H2,I2,q2⟩=>⟨.bl (!c),H2,I2,rfl,q2⟩)
end
theorem for_zipN {sq1 sq2:Hp→List V→Prop} {xs ys:List V} {n:Nat} {g:TG} {tb:TS} {D:Ends} {σ:St} {H:Hp} (h1:n≤xs.length) (h2:n≤ys.length) (h3:xs.length=n∨ys.length=n) (Pv:Nat→St→Hp→Prop) (h0:Pv 0 σ H) (hl:∀ i σ H,i≤n→Pv i σ H→sq1 H xs∧sq2 H ys)
  (hs:∀ i x y T σ H,i<n→xs[i]?=some x→ys[i]?=some y→H T=none→Pv i σ H→g (.ref T) σ (upd H T (.tup [x,y])) fun σ2 H2=>tb { D with nx:=Pv (i+1),ct:=Pv (i+1),bk:=D.nx } σ2 H2) (hd:∀ σ H,Pv n σ H→D.nx σ H) :
  ∃ W:Nat→Nat→St→Hp→Prop,(∃ m,W 0 m σ H)∧∀ i m σ H,W i m σ H →
   ((Itz sq1 sq2).stop i H∧D.nx σ H)∨((Itz sq1 sq2).go i H∧∃ N:St→Hp→Prop,(∀ σ' H',N σ' H'→∃ m',m'<m∧W (i+1) m' σ' H')∧∀ x H',(Itz sq1 sq2).yld i H x H'→g x σ H' fun σ2 H2=>tb { D with nx:=N,ct:=N,bk:=D.nx } σ2 H2):=by
 refine ⟨fun i m σ H=>m=n-i∧i≤n∧Pv i σ H,⟨n,by simp,Nat.zero_le _,h0⟩,?_⟩
 rintro i m σ H ⟨rfl,hi,p⟩
 obtain ⟨q1,q2⟩:=hl i σ H hi p
 by_cases hlt:i<n
 ·have a1:i<xs.length:=by walk_at"q"
  have a2:i<ys.length:=by walk_at"q"
  refine .inr ⟨⟨xs,xs[i],ys,ys[i],q1,q2,by simp [a1],by simp [a2]⟩,Pv (i+1),fun σ' H' p'=>⟨n-(i+1),by walk_at"q", rfl,hlt,p'⟩,fun x H' y=>?_⟩
  obtain ⟨T,v,u,fT,e1,e2,y1,y2⟩:=y
  subst e1 e2
  exact hs i v u T σ H hlt (y1 xs q1) (y2 ys q2) fT p
 ·have e:i=n:=by walk_at"q"
  subst e
  refine .inl ⟨⟨xs,ys,q1,q2,?_⟩,hd σ H p⟩
  rcases h3 with z|z
  ·exact .inl (by rw [←z];simp)
  ·exact .inr (by rw [←z];simp)
end
end L2
namespace L2
open PySem PySem.Spec PyProof.Rows
section
structure MCal (P:Program) (w:World) (K:PySem.W.Frag) (mg:Str→Option Value) (base:Heap) (C:Addr) (m:Str) (k:Nat) (ps:List Str) (sp:Sp):Prop where
 ex:∃ (f:Addr) (fd:FuncData),FnOk P w K mg base CX0 k f fd ps sp∧Binds K fd ps []∧Meth K C m f
structure Maker (P:Program) (w:World) (K:PySem.W.Frag) (mg:Str→Option Value) (base:Heap) (x:Str) (C:Addr) (k:Nat) (ps:List Str) (sp:Sp):Prop where
 ex:∃ (f:Addr) (fd:FuncData),FnOk P w K mg base CX0 k f fd ps sp∧Binds K fd ps []∧Mk K C f
 at_:mg x=some (.ref C)
section
variable {X:Cx} {C:Addr} {x m:Str} {k:Nat} {ps:List Str} {sp:Sp} {o e:Expr} {es:List Expr} {ta:TE} {t:TA} {p pos apos:Pos}
theorem pe_methC {pl:Sem Bool} (he:PE X o ta) (c:Cls X.K C) (M:MCal X.prog X.w X.K X.mg X.base C m k ps sp) (hr:Room k X.A) (ha:PA X (e::es) t)
  (hst:starEach (e::es) X.env=(false,eval e X.env)::starEach es X.env:=by rfl) (hpl:(backTo pos (starEach es X.env)).any (·.1)=false:=by rfl)
  (ht:eval (.Call (.Attribute o m apos) (e::es) [] pos) X.env=(do
   let ov ←eval o X.env
   standAt apos.atName
   let (f,first) ←holding [ov] (getMethod ov m pl)
   callWith pos f first (backTo pos (starEach (e::es) X.env)) (backToKw pos (keywordEach [] X.env))):=by rfl) :
  PE X (.Call (.Attribute o m apos) (e::es) [] pos) (tMeth C m sp [] E0 ta t):=by
 obtain ⟨f,fd,F,hb,hm⟩:=M.ex
 exact pe_meth he c hm F hr hb .nil pass0 ha hst hpl ht
theorem pe_methC0 {pl:Sem Bool} (he:PE X o ta) (c:Cls X.K C) (M:MCal X.prog X.w X.K X.mg X.base C m k ps sp) (hr:Room k X.A)
  (ht:eval (.Call (.Attribute o m apos) [] [] pos) X.env=(do
   let ov ←eval o X.env
   standAt apos.atName
   let (f,first) ←holding [ov] (getMethod ov m pl)
   callWith pos f first (backTo pos (starEach [] X.env)) (backToKw pos (keywordEach [] X.env))):=by rfl) :
  PE X (.Call (.Attribute o m apos) [] [] pos) (tMeth C m sp [] E0 ta tNil):=by
 obtain ⟨f,fd,F,hb,hm⟩:=M.ex
 exact pe_meth0 he c hm F hr hb .nil pass0 ht
theorem pe_makeC (M:Maker X.prog X.w X.K X.mg X.base x C k ps sp) (hr:Room (k+1) X.A) (hg:Gl X x) (ha:PA X (e::es) t)
  (hdb:(x == ("__debug__" : Str))=false:=by decide) (he:starEach (e::es) X.env=(false,eval e X.env)::starEach es X.env:=by rfl) (hpl:(backTo pos (starEach es X.env)).any (·.1)=false:=by rfl) :
  PE X (.Call (.Name x p) (e::es) [] pos) (tMake C sp [] E0 t):=by
 obtain ⟨f,fd,F,hb,hm⟩:=M.ex
 exact pe_make hm F hr hg M.at_ hb .nil pass0 ha hdb he hpl
def rGetL (K:PySem.W.Frag):V→V→Hp→VK→Prop:=fun x y H Q=>∃ p xs i v,x=.ref p∧y=.int i∧SqL K H p xs∧0≤i∧xs[i.toNat]?=some v∧Q v H
theorem get_list:PGet X (rGetL X.K):=by
 intro pins s σ H o i ov iv Q I ro ri h
 obtain ⟨p,xs,i,z,rfl,rfl,hq,h0,he,q⟩:=h
 cases ro
 obtain ⟨t,rfl⟩:=ri
 obtain ⟨its,r,pl,hz⟩:=I.list hq
 obtain ⟨w,ew,rw'⟩:=r.get he
 have hl:=r.length
 have hn:=line63
 have il:=(List.getElem?_eq_some_iff.mp he).1
 exact wpAny_getItem_list pl.isList h0 (by walk_at"q") (by simpa using ew) ⟨z,H,I,rw',q⟩
end
structure HereM (K:PySem.W.Frag) (mg:Str→Option Value) (C:Addr) (x q:Str) (st:Stmt) (f:Addr) (fd:FuncData):Prop where
 fn:Fun K x q st f fd
 mt:Meth K C x f
theorem HereM.mcal {P:Program} {w:World} {K:PySem.W.Frag} {mg:Str→Option Value} {base:Heap} {C:Addr} {x q:Str} {st:Stmt} {f:Addr} {fd:FuncData} {k:Nat} {ps:List Str} {sp:Sp} (h:HereM K mg C x q st f fd) (F:FnOk P w K mg base CX0 k f fd ps sp)
  (hb:∀ (kV doc pm:Value) (an:Option Addr) (cdv ct:Value) (us:List Value),us.length=ps.length→bindArgs (PySem.W.fnOf x q (defArgs st) (defBody st) (defScope st) .none kV doc pm an cdv ct) ⟨us,[]⟩=pure (ps.zip us)):MCal P w K mg base C x k ps sp :=
 ⟨f,fd,F,h.fn.binds hb,h.mt⟩
end
end L2
namespace Ep
open PySem L2 PySem.SeqAt
section
inductive Place where
 |before (k:Nat) (l:Int)
 |exit (l:Int)
 |out (l n:Int)
def plV:Place→List V
 |.before k l=>[.str "before", .int k,.int l]
 |.exit l=>[.str "exit", .int l]
 |.out l n=>[.str "out", .int l,.int n]
def PlAt (H:Hp) (r:V) (pl:Place):Prop:=∃ t,r=.ref t∧H t=some (.tup (plV pl))
def hasL (w:Int×Int) (l:Int):Bool:=decide (l=w.1) || decide (l=w.2)
def placeF (ws:List (Int×Int)) (l:Int):Nat→Nat→Place
 |0,_=>.exit l
 |n+1,s=>if hasL (wAt ws s) l then .before s l else placeF ws l n (s+1)
def placeM (ws:List (Int×Int)) (l:Int) (s:Nat):Place:=placeF ws l (ws.length-s) s
theorem placeF_before {ws:List (Int×Int)} {l:Int}:∀ {n s k:Nat} {l':Int},placeF ws l n s=.before k l'→s≤k∧k<s+n∧hasL (wAt ws k) l=true∧l'=l
 |0,_,_,_,h=>by simp [placeF] at h
 |n+1,s,k,l',h=>by
  unfold placeF at h
  by_cases c:hasL (wAt ws s) l=true
  ·rw [if_pos c] at h
   injection h with h1 h2
   exact ⟨by walk_at"q", by walk_at"q", by rw [←h1];exact c,h2.symm⟩
  ·rw [if_neg c] at h
   obtain ⟨a,b,d,e⟩:=placeF_before h
   exact ⟨by walk_at"q", by walk_at"q", d,e⟩
theorem placeM_before {ws:List (Int×Int)} {l l':Int} {s k:Nat} (h:placeM ws l s=.before k l'):s≤k∧k<ws.length∧hasL (wAt ws k) l=true∧l'=l:=by
 obtain ⟨a,b,c,d⟩:=placeF_before h
 exact ⟨a,by walk_at"q", c,d⟩
theorem placeF_exit {ws:List (Int×Int)} {l l':Int}:∀ {n s:Nat},placeF ws l n s=.exit l'→l'=l
 |0,_,h=>by unfold placeF at h;injection h with h;exact h.symm
 |n+1,s,h=>by
  unfold placeF at h
  by_cases c:hasL (wAt ws s) l=true
  ·rw [if_pos c] at h;cases h
  ·rw [if_neg c] at h;exact placeF_exit h
structure PlS where
 fac:List Int
 tal:List Int
 pla:List Place
 chg:List Int
structure PlL where
 dx:Addr
 lf:Addr
 lt:Addr
 lp:Addr
 lc:Addr
def pfl (v:V) (L:PlL):List (Str×V):=putF "changes" (.ref L.lc) (putF "places" (.ref L.lp) (putF "tally" (.ref L.lt) (putF "facing" (.ref L.lf) (putF "net" v []))))
theorem putF_len (f:Str) (v:V):∀ fs:List (Str×V),(putF f v fs).length≤fs.length+1
 |[]=>by simp [putF]
 |(g,x)::r=>by
  unfold putF
  split
  ·simp
  ·have:=putF_len f v r
   simp
   walk_at"q"
theorem pfl_net (v:V) (L:PlL):(pfl v L).lookup ("net" : Str)=some v:=by
 unfold pfl
 rw [lookup_putF,if_neg (by decide +kernel),lookup_putF,if_neg (by decide +kernel),lookup_putF,if_neg (by decide +kernel),lookup_putF,if_neg (by decide +kernel),lookup_putF,if_pos rfl]
theorem pfl_facing (v:V) (L:PlL):(pfl v L).lookup ("facing" : Str)=some (.ref L.lf):=by
 unfold pfl
 rw [lookup_putF,if_neg (by decide +kernel),lookup_putF,if_neg (by decide +kernel),lookup_putF,if_neg (by decide +kernel),lookup_putF,if_pos rfl]
theorem pfl_tally (v:V) (L:PlL):(pfl v L).lookup ("tally" : Str)=some (.ref L.lt):=by
 unfold pfl
 rw [lookup_putF,if_neg (by decide +kernel),lookup_putF,if_neg (by decide +kernel),lookup_putF,if_pos rfl]
theorem pfl_places (v:V) (L:PlL):(pfl v L).lookup ("places" : Str)=some (.ref L.lp):=by
 unfold pfl
 rw [lookup_putF,if_neg (by decide +kernel),lookup_putF,if_pos rfl]
theorem pfl_changes (v:V) (L:PlL):(pfl v L).lookup ("changes" : Str)=some (.ref L.lc):=by
 unfold pfl
 rw [lookup_putF,if_pos rfl]
theorem pfl_no (v:V) (L:PlL) {m:Str} (h1:¬ m = "changes") (h2:¬ m = "places") (h3:¬ m = "tally") (h4:¬ m = "facing") (h5:¬ m = "net"):(pfl v L).lookup m=none:=by
 unfold pfl
 rw [lookup_putF,if_neg h1,lookup_putF,if_neg h2,lookup_putF,if_neg h3,lookup_putF,if_neg h4,lookup_putF,if_neg h5]
 rfl
structure PlayAt (C:Addr) (H:Hp) (p:Addr) (v:V) (L:PlL) (st:PlS):Prop where
 ob:H p=some (.ins C L.dx (pfl v L))
 fa:H L.lf=some (.lst (st.fac.map V.int))
 ta:H L.lt=some (.lst (st.tal.map V.int))
 pl:∃ rs,H L.lp=some (.lst rs)∧Paired (PlAt H) rs st.pla
 ch:H L.lc=some (.lst (st.chg.map V.int))
 ft:L.lf≠L.lt
 fp:L.lf≠L.lp
 fc:L.lf≠L.lc
 tp:L.lt≠L.lp
 tc:L.lt≠L.lc
 pc:L.lp≠L.lc
def KpL (L:PlL) (H H':Hp):Prop:=∀ b o,H b=some o→b≠L.lf→b≠L.lt→b≠L.lp→b≠L.lc→H' b=some o
theorem KpL.trans {L:PlL} {H H1 H2:Hp} (a:KpL L H H1) (b:KpL L H1 H2):KpL L H H2:=fun c o e h1 h2 h3 h4=>b c o (a c o e h1 h2 h3 h4) h1 h2 h3 h4
theorem KpL.same {L:PlL} {H H':Hp} (s:Same H H'):KpL L H H':=fun b o e _ _ _ _=>s b o e
theorem KpL.kt {C p:Addr} {v:V} {L:PlL} {st:PlS} {H H':Hp} (P:PlayAt C H p v L st) (k:KpL L H H'):KT H H':=fun b xs e=>by
 obtain ⟨rs,hp,_⟩:=P.pl
 exact k b _ e (ne3 e P.fa) (ne3 e P.ta) (ne3 e hp) (ne3 e P.ch)
theorem PlAt.kt {H H':Hp} {r:V} {pl:Place} (k:KT H H') (h:PlAt H r pl):PlAt H' r pl:=let ⟨t,e,x⟩:=h;⟨t,e,k _ _ x⟩
theorem PlayAt.same {C p:Addr} {v:V} {L:PlL} {st:PlS} {H H':Hp} (P:PlayAt C H p v L st) (s:Same H H'):PlayAt C H' p v L st :=
 let ⟨rs,a,b⟩:=P.pl
 ⟨s _ _ P.ob,s _ _ P.fa,s _ _ P.ta,⟨rs,s _ _ a,Paired.mapP b fun _ _ z=>z.kt (KT.same s (KT.refl _))⟩,s _ _ P.ch,P.ft,P.fp,P.fc,P.tp,P.tc,P.pc⟩
theorem PlayAt.nob {C p:Addr} {v:V} {L:PlL} {st:PlS} {H:Hp} (P:PlayAt C H p v L st):p≠L.lf∧p≠L.lt∧p≠L.lp∧p≠L.lc:=by
 obtain ⟨rs,hp,_⟩:=P.pl
 exact ⟨ne_of P.ob P.fa (by intro z;cases z),ne_of P.ob P.ta (by intro z;cases z),ne_of P.ob hp (by intro z;cases z),ne_of P.ob P.ch (by intro z;cases z)⟩
theorem Paired.getP {α β:Type} {F:α→β→Prop}:∀ {l:List α} {m:List β} {i:Nat} {b:β},Paired F l m→m[i]?=some b→∃ a,l[i]?=some a∧F a b
 |_,_,_,_,.nil,e=>by simp at e
 |_,_,0,_,.cons h _,e=>by simp at e;subst e;exact ⟨_,rfl,h⟩
 |_,_,i+1,b,.cons _ t,e=>by
  obtain ⟨a,h1,h2⟩:=Paired.getP (i:=i) (b:=b) t (by simpa using e)
  exact ⟨a,by simpa using h1,h2⟩
theorem Paired.setP {α β:Type} {F:α→β→Prop} {a:α} {b:β} (h:F a b):∀ {l:List α} {m:List β} (i:Nat),Paired F l m→Paired F (l.set i a) (m.set i b)
 |_,_,_,.nil=>.nil
 |_,_,0,.cons _ t=>.cons h t
 |_,_,i+1,.cons g t=>.cons g (Paired.setP h i t)
theorem Paired.appP {α β:Type} {F:α→β→Prop}:∀ {l:List α} {m:List β} {l':List α} {m':List β},Paired F l m→Paired F l' m'→Paired F (l++l') (m++m')
 |_,_,_,_,.nil,s=>s
 |_,_,_,_,.cons r t,s=>.cons r (Paired.appP t s)
structure PlayT (K:PySem.W.Frag) (C:Addr):Prop where
 cl:Cls K C
 nN:NoAttr K C "net"
 nF:NoAttr K C "facing"
 nT:NoAttr K C "tally"
 nP:NoAttr K C "places"
 nC:NoAttr K C "changes"
structure Wf (wide:Int) (ws:List (Int×Int)) (st:PlS):Prop where
 fl:st.fac.length=ws.length
 tl:st.tal.length=wide.toNat
 cl:st.chg.length=st.pla.length
 ml:st.pla.length≤400
 fs:∀ k w,ws[k]?=some w→st.fac.getD k 0=w.1∨st.fac.getD k 0=w.2
 cs:∀ i,i<st.chg.length→st.chg.getD i 0=1∨st.chg.getD i 0=-1
 ps:∀ pl∈st.pla,match pl with|.before k l=>k<ws.length∧0≤l∧l<wide|.exit l=>0≤l∧l<wide|.out _ _=>True
def startM (wide:Int) (ws:List (Int×Int)):PlS:=⟨ws.map (·.1),List.replicate wide.toNat 0,[],[]⟩
def enterM (ws:List (Int×Int)) (st:PlS) (lane c:Int):PlS:=⟨st.fac,st.tal,st.pla++[placeM ws lane 0],st.chg++[c]⟩
def otherL (w:Int×Int) (f:Int):Int:=if f=w.1 then w.2 else w.1
def turnM (ws:List (Int×Int)) (st:PlS) (k:Nat):PlS:=⟨st.fac.set k (otherL (wAt ws k) (st.fac.getD k 0)),st.tal,st.pla,st.chg⟩
def passL (ws:List (Int×Int)) (st:PlS) (k:Nat) (c:Int):Int:=if c=1 then st.fac.getD k 0 else otherL (wAt ws k) (st.fac.getD k 0)
def leaveM (st:PlS) (l c:Int):PlS:=⟨st.fac,st.tal.set l.toNat (st.tal.getD l.toNat 0+c),st.pla,st.chg⟩
def leaveN (wide:Int) (st:PlS) (l c:Int):Int:=l+wide*(if c=1 then st.tal.getD l.toNat 0 else st.tal.getD l.toNat 0+c)
def putP (st:PlS) (i:Nat) (pl:Place):PlS:=⟨st.fac,st.tal,st.pla.set i pl,st.chg⟩
def stepP (wide:Int) (ws:List (Int×Int)) (st:PlS) (i:Nat) (pl:Place):Place:=match pl with
 |.before k _=>placeM ws (passL ws st k (st.chg.getD i 0)) (k+1)
 |.exit l=>.out l (leaveN wide st l (st.chg.getD i 0))
 |.out l n=>.out l n
def stepS (wide:Int) (ws:List (Int×Int)) (st:PlS) (i:Nat) (pl:Place):PlS:=match pl with
 |.before k l=>putP (turnM ws st k) i (stepP wide ws st i (.before k l))
 |.exit l=>putP (leaveM st l (st.chg.getD i 0)) i (stepP wide ws st i (.exit l))
 |.out l n=>st
def isOut:Place→Bool
 |.out _ _=>true
 |_=>false
def insideM:Nat→List Place→List Int
 |_,[]=>[]
 |i,pl::r=>(if isOut pl then [] else [(i:Int)])++insideM (i+1) r
theorem insideM_snoc (ps:List Place) (pl:Place):∀ i,insideM i (ps++[pl])=insideM i ps++(if isOut pl then [] else [((i+ps.length:Nat):Int)]):=by
 induction ps with
 |nil=>intro i;simp [insideM]
 |cons q r ih =>
  intro i
  show _++insideM (i+1) (r++[pl])=(_++insideM (i+1) r)++_
  rw [ih,List.append_assoc]
  have e:i+1+r.length=i+(q::r).length:=by simp;walk_at"q"
  rw [e]
theorem insideM_len (ps:List Place):∀ i,(insideM i ps).length≤ps.length:=by
 induction ps with
 |nil=>intro i;simp [insideM]
 |cons q r ih =>
  intro i
  show (_++insideM (i+1) r).length≤_
  rw [List.length_append,List.length_cons]
  have:=ih (i+1)
  split<;>simp<;>walk_at"q"
abbrev NetOk (H:Hp) (v:V) (wide:Int) (ws:List (Int×Int)):Prop:=Net H v wide ws∧1≤wide∧wide≤8∧WOk wide ws∧ws.length≤41
theorem NetOk.kt {H H':Hp} {v:V} {wide:Int} {ws:List (Int×Int)} (n:NetOk H v wide ws) (k:KT H H'):NetOk H' v wide ws:=⟨n.1.kt k,n.2⟩
inductive SpIsWholeP (vs:List V) (H:Hp) (Q:VK):Prop
 |mk (i:Int) (h1:vs=[.int i]) (h2:Q (.bl true) H):SpIsWholeP vs H Q
def spIsWhole:Sp:=fun vs H Q _=>SpIsWholeP  vs H Q
inductive SpIsLaneP (vs:List V) (H:Hp) (Q:VK):Prop
 |mk (wide i:Int) (h1:vs=[.int wide,.int i]) (h2:0≤i) (h3:i<wide) (h4:Q (.bl true) H):SpIsLaneP vs H Q
def spIsLane:Sp:=fun vs H Q _=>SpIsLaneP  vs H Q
inductive SpPlaceOnP (vs:List V) (H:Hp) (Q:VK):Prop
 |mk (v:V) (wide:Int) (ws:List (Int×Int)) (l:Int) (s:Nat) (h1:vs=[v,.int l,.int s]) (h2:NetOk H v wide ws) (h3:s≤ws.length) (h4:∀ (t:Addr) (H':Hp),H t=none→Same H H'→H' t=some (.tup (plV (placeM ws l s)))→Q (.ref t) H'):SpPlaceOnP vs H Q
def spPlaceOn:Sp:=fun vs H Q _=>SpPlaceOnP  vs H Q
inductive SpPInitP (C:Addr) (vs:List V) (H:Hp) (Q:VK):Prop
 |mk (p dx:Addr) (v:V) (wide:Int) (ws:List (Int×Int)) (h1:vs=[.ref p,v]) (h2:H p=some (.ins C dx [])) (h3:NetOk H v wide ws) (h4:∀ (L:PlL) (H':Hp),H L.lf=none→H L.lt=none→H L.lp=none→H L.lc=none→PlayAt C H' p v L (startM wide ws)→(∀ b o,H b=some o→b≠p→H' b=some o)→Q .non H'):SpPInitP C vs H Q
def spPInit (C:Addr):Sp:=fun vs H Q _=>SpPInitP C vs H Q
inductive SpComeInP (C:Addr) (vs:List V) (H:Hp) (Q:VK):Prop
 |mk (p:Addr) (v:V) (wide:Int) (ws:List (Int×Int)) (L:PlL) (st:PlS) (lane c:Int) (h1:vs=[.ref p,.int lane,.int c]) (h2:NetOk H v wide ws) (h3:PlayAt C H p v L st) (h4:Wf wide ws st) (h5:0≤lane) (h6:lane<wide) (h7:∀ H',PlayAt C H' p v L (enterM ws st lane c)→KpL L H H'→Q (.int st.pla.length) H'):SpComeInP C vs H Q
def spComeIn (C:Addr):Sp:=fun vs H Q _=>SpComeInP C vs H Q
inductive SpEnterP (C:Addr) (c:Int) (vs:List V) (H:Hp) (Q:VK):Prop
 |mk (p:Addr) (v:V) (wide:Int) (ws:List (Int×Int)) (L:PlL) (st:PlS) (lane:Int) (h1:vs=[.ref p,.int lane]) (h2:NetOk H v wide ws) (h3:PlayAt C H p v L st) (h4:Wf wide ws st) (h5:0≤lane) (h6:lane<wide) (h7:∀ H',PlayAt C H' p v L (enterM ws st lane c)→KpL L H H'→Q (.int st.pla.length) H'):SpEnterP C c vs H Q
def spEnter (C:Addr) (c:Int):Sp:=fun vs H Q _=>SpEnterP C c vs H Q
inductive SpWhereP (C:Addr) (vs:List V) (H:Hp) (Q:VK):Prop
 |mk (p:Addr) (v:V) (L:PlL) (st:PlS) (i:Nat) (pl:Place) (h1:vs=[.ref p,.int i]) (h2:PlayAt C H p v L st) (h3:st.pla[i]?=some pl) (h4:∀ (t:Addr),H t=some (.tup (plV pl))→Q (.ref t) H):SpWhereP C vs H Q
def spWhere (C:Addr):Sp:=fun vs H Q _=>SpWhereP C vs H Q
inductive SpTurnP (C:Addr) (vs:List V) (H:Hp) (Q:VK):Prop
 |mk (p:Addr) (v:V) (wide:Int) (ws:List (Int×Int)) (L:PlL) (st:PlS) (k:Nat) (h1:vs=[.ref p,.int k]) (h2:NetOk H v wide ws) (h3:PlayAt C H p v L st) (h4:st.fac.length=ws.length) (h5:k<ws.length) (h6:∀ H',PlayAt C H' p v L (turnM ws st k)→KpL L H H'→Q .non H'):SpTurnP C vs H Q
def spTurn (C:Addr):Sp:=fun vs H Q _=>SpTurnP C vs H Q
inductive SpPassP (C:Addr) (vs:List V) (H:Hp) (Q:VK):Prop
 |mk (p:Addr) (v:V) (wide:Int) (ws:List (Int×Int)) (L:PlL) (st:PlS) (k:Nat) (c:Int) (h1:vs=[.ref p,.int k,.int c]) (h2:NetOk H v wide ws) (h3:PlayAt C H p v L st) (h4:st.fac.length=ws.length) (h5:k<ws.length) (h6:∀ (t:Addr) (H':Hp),PlayAt C H' p v L (turnM ws st k)→KpL L H H'→H' t=some (.tup (plV (placeM ws (passL ws st k c) (k+1))))→Q (.ref t) H'):SpPassP C vs H Q
def spPass (C:Addr):Sp:=fun vs H Q _=>SpPassP C vs H Q
inductive SpLeaveP (C:Addr) (vs:List V) (H:Hp) (Q:VK):Prop
 |mk (p:Addr) (v:V) (wide:Int) (ws:List (Int×Int)) (L:PlL) (st:PlS) (l c:Int) (h1:vs=[.ref p,.int l,.int c]) (h2:NetOk H v wide ws) (h3:PlayAt C H p v L st) (h4:st.tal.length=wide.toNat) (h5:0≤l) (h6:l<wide) (h7:∀ (t:Addr) (H':Hp),PlayAt C H' p v L (leaveM st l c)→KpL L H H'→H' t=some (.tup (plV (.out l (leaveN wide st l c))))→Q (.ref t) H'):SpLeaveP C vs H Q
def spLeave (C:Addr):Sp:=fun vs H Q _=>SpLeaveP C vs H Q
inductive SpStepP (C:Addr) (vs:List V) (H:Hp) (Q:VK):Prop
 |mk (p:Addr) (v:V) (wide:Int) (ws:List (Int×Int)) (L:PlL) (st:PlS) (i:Nat) (pl:Place) (h1:vs=[.ref p,.int i]) (h2:NetOk H v wide ws) (h3:PlayAt C H p v L st) (h4:Wf wide ws st) (h5:st.pla[i]?=some pl) (h6:isOut pl=false) (h7:∀ (t:Addr) (H':Hp),PlayAt C H' p v L (stepS wide ws st i pl)→KpL L H H'→H' t=some (.tup (plV (stepP wide ws st i pl)))→Q (.ref t) H'):SpStepP C vs H Q
def spStep (C:Addr):Sp:=fun vs H Q _=>SpStepP C vs H Q
inductive SpInsideP (C:Addr) (vs:List V) (H:Hp) (Q:VK):Prop
 |mk (p:Addr) (v:V) (L:PlL) (st:PlS) (h1:vs=[.ref p]) (h2:PlayAt C H p v L st) (h3:st.pla.length≤1000) (h4:∀ (a:Addr) (H':Hp),H a=none→Same H H'→H' a=some (.lst ((insideM 0 st.pla).map V.int))→Q (.ref a) H'):SpInsideP C vs H Q
def spInside (C:Addr):Sp:=fun vs H Q _=>SpInsideP C vs H Q
inductive SpCountsPP (C:Addr) (vs:List V) (H:Hp) (Q:VK):Prop
 |mk (p:Addr) (v:V) (L:PlL) (st:PlS) (h1:vs=[.ref p]) (h2:PlayAt C H p v L st) (h3:∀ (a:Addr) (H':Hp),H a=none→Same H H'→H' a=some (.lst (st.tal.map V.int))→Q (.ref a) H'):SpCountsPP C vs H Q
def spCountsP (C:Addr):Sp:=fun vs H Q _=>SpCountsPP C vs H Q
end
end Ep
namespace L2
open PySem PySem.Spec PyProof.Rows
section
theorem comp_enum {sq:Hp→List V→Prop} {xs:List V} {own:Nat} {caps:List Nat} {g:TG} {tt:TT} {te:TE} {σ:St} {R:Hp→Prop} {l:Addr} {H1:Hp} (Pv:Nat→List V→Hp→Prop) (h0:Pv 0 [] (upd H1 l (.lst []))) (hz:xs.length≤sizeLine)
  (hl:∀ i ys H,i≤xs.length→Pv i ys H→sq H xs∧H l=some (.lst ys)∧ys.length≤i)
  (hs:∀ i x T ys H,xs[i]?=some x→H T=none→Pv i ys H→g (.ref T) (stC own caps σ) (upd H T (.tup [.int i,x])) fun σ2 H2=>Wk (stC own caps σ) σ2 ∧
   tt σ2 H2 fun b H3=>if b=true then te σ2 H3 fun y H4=>H4 l=some (.lst ys)∧Pv (i+1) (ys++[y]) (upd H4 l (.lst (ys++[y]))) else Pv (i+1) ys H3)
  (hd:∀ ys H,Pv xs.length ys H→R H) :
  ∃ W:Nat→Nat→List V→Hp→Prop,(∃ m,W 0 m [] (upd H1 l (.lst []))) ∧
   ∀ i m ys H,W i m ys H→H l=some (.lst ys)∧(((Ite sq).stop i H∧R H)∨((Ite sq).go i H∧ys.length<sizeLine∧∃ N:List V→Hp→Prop,(∀ ys' H',N ys' H'→∃ m',m'<m∧W (i+1) m' ys' H') ∧
    ∀ x H',(Ite sq).yld i H x H'→g x (stC own caps σ) H' fun σ2 H2=>Wk (stC own caps σ) σ2 ∧
    tt σ2 H2 fun b H3=>if b=true then te σ2 H3 fun y H4=>H4 l=some (.lst ys)∧N (ys++[y]) (upd H4 l (.lst (ys++[y]))) else N ys H3)):=by
 refine ⟨fun i m ys H=>m=xs.length-i∧i≤xs.length∧Pv i ys H,⟨xs.length,by simp,Nat.zero_le _,h0⟩,?_⟩
 rintro i m ys H ⟨rfl,hi,p⟩
 obtain ⟨q,e1,e2⟩:=hl i ys H hi p
 refine ⟨e1,?_⟩
 by_cases hlt:i<xs.length
 ·refine .inr ⟨⟨xs,xs[i],q,by simp [hlt]⟩,by walk_at"q", Pv (i+1),fun ys' H' p'=>⟨xs.length-(i+1),by walk_at"q", rfl,hlt,p'⟩,fun x H' y=>?_⟩
  obtain ⟨T,v,fT,a1,a2,y⟩:=y
  subst a1 a2
  exact hs i v T ys H (y xs q) fT p
 ·have e:i=xs.length:=by walk_at"q"
  subst e
  exact .inl ⟨⟨xs,q,rfl⟩,hd ys H p⟩
end
end L2
namespace Ep
open PySem L2 PySem.SeqAt
section
end
section
theorem start_wf {wide:Int} {ws:List (Int×Int)}:Wf wide ws (startM wide ws) where
 fl:=by simp [startM]
 tl:=by simp [startM]
 cl:=rfl
 ml:=by simp [startM]
 fs:=fun k w h=>by
  refine .inl ?_
  show (ws.map (·.1)).getD k 0=w.1
  simp [List.getD,h]
 cs:=fun i hi=>absurd hi (by simp [startM])
 ps:=fun pl h=>by simp [startM] at h
theorem placeM_ok {wide:Int} {ws:List (Int×Int)} {l:Int} {s:Nat} (h0:0≤l) (h1:l<wide):match placeM ws l s with|.before k l=>k<ws.length∧0≤l∧l<wide|.exit l=>0≤l∧l<wide|.out _ _=>True:=by
 cases e:placeM ws l s with
 |before k l' =>
  obtain ⟨_,a,_,b⟩:=placeM_before e
  exact ⟨a,by walk_at"q", by walk_at"q"⟩
 |exit l' =>
  have:=placeF_exit e
  exact ⟨by walk_at"q", by walk_at"q"⟩
 |out l' n'=>trivial
theorem enter_wf {wide:Int} {ws:List (Int×Int)} {st:PlS} {lane c:Int} (wf:Wf wide ws st) (h0:0≤lane) (h1:lane<wide) (hc:c=1∨c=-1) (hm:st.pla.length<400):Wf wide ws (enterM ws st lane c) where
 fl:=wf.fl
 tl:=wf.tl
 cl:=by have:=wf.cl;simp [enterM];walk_at"q"
 ml:=by simp [enterM];walk_at"q"
 fs:=wf.fs
 cs:=fun i hi=>by
  have hi':i<st.chg.length+1:=by simpa [enterM] using hi
  show (st.chg++[c]).getD i 0=1∨(st.chg++[c]).getD i 0=-1
  by_cases z:i<st.chg.length
  ·rw [getD_app z];exact wf.cs i z
  ·have e:i=st.chg.length:=by walk_at"q"
   subst e
   rw [getD_last];exact hc
 ps:=fun pl h=>by
  rcases List.mem_append.mp h with z|z
  ·exact wf.ps pl z
  ·have e:pl=placeM ws lane 0:=by simpa using z
   subst e
   exact placeM_ok h0 h1
theorem otherL_or {w:Int×Int} (f:Int):otherL w f=w.1∨otherL w f=w.2:=by
 unfold otherL
 split
 ·exact .inr rfl
 ·exact .inl rfl
theorem turn_wf {wide:Int} {ws:List (Int×Int)} {st:PlS} {k:Nat} (wf:Wf wide ws st):Wf wide ws (turnM ws st k) where
 fl:=by show (st.fac.set k _).length=_;rw [List.length_set];exact wf.fl
 tl:=wf.tl
 cl:=wf.cl
 ml:=wf.ml
 fs:=fun j w h=>by
  have jl:j<ws.length:=(List.getElem?_eq_some_iff.mp h).1
  show (st.fac.set k _).getD j 0=w.1∨(st.fac.set k _).getD j 0=w.2
  by_cases c:k<st.fac.length
  ·rw [getD_set c]
   by_cases e:j=k
   ·rw [if_pos e,←e,show wAt ws j=w by simp [wAt,List.getD,h]]
    exact otherL_or _
   ·rw [if_neg e];exact wf.fs j w h
  ·rw [List.set_eq_of_length_le (by walk_at"q")];exact wf.fs j w h
 cs:=wf.cs
 ps:=wf.ps
theorem leave_wf {wide:Int} {ws:List (Int×Int)} {st:PlS} {l c:Int} (wf:Wf wide ws st):Wf wide ws (leaveM st l c) where
 fl:=wf.fl
 tl:=by show (st.tal.set _ _).length=_;rw [List.length_set];exact wf.tl
 cl:=wf.cl
 ml:=wf.ml
 fs:=wf.fs
 cs:=wf.cs
 ps:=wf.ps
theorem putP_wf {wide:Int} {ws:List (Int×Int)} {st:PlS} {i:Nat} {pl:Place} (wf:Wf wide ws st) (h:match pl with|.before k l=>k<ws.length∧0≤l∧l<wide|.exit l=>0≤l∧l<wide|.out _ _=>True):Wf wide ws (putP st i pl) where
 fl:=wf.fl
 tl:=wf.tl
 cl:=by show _=(st.pla.set i pl).length;rw [List.length_set];exact wf.cl
 ml:=by show (st.pla.set i pl).length≤_;rw [List.length_set];exact wf.ml
 fs:=wf.fs
 cs:=wf.cs
 ps:=fun q hq=>by
  rcases List.mem_or_eq_of_mem_set hq with z|z
  ·exact wf.ps q z
  ·subst z;exact h
theorem pass_ok {wide:Int} {ws:List (Int×Int)} {st:PlS} {k:Nat} {c:Int} (ok:WOk wide ws) (wf:Wf wide ws st) (hk:k<ws.length):0≤passL ws st k c∧passL ws st k c<wide:=by
 have hw:ws[k]?=some ws[k]:=by simp [hk]
 obtain ⟨o1,o2,o3,o4,o5⟩:=WOk.mem ok hw
 have ew:wAt ws k=ws[k]:=by simp [wAt,List.getD,hw]
 unfold passL
 rw [ew]
 split
 ·rcases wf.fs k _ hw with h|h<;>rw [h]<;>walk_at"q"
 ·rcases otherL_or (w:=ws[k]) (st.fac.getD k 0) with h|h<;>rw [h]<;>walk_at"q"
theorem step_wf {wide:Int} {ws:List (Int×Int)} {st:PlS} {i:Nat} {pl:Place} (ok:WOk wide ws) (wf:Wf wide ws st) (h:st.pla[i]?=some pl):Wf wide ws (stepS wide ws st i pl):=by
 have hp:=wf.ps pl (List.mem_of_getElem? h)
 cases pl with
 |before k l=>exact putP_wf (turn_wf wf) (by obtain ⟨a,b⟩:=pass_ok (c:=st.chg.getD i 0) ok wf hp.1;exact placeM_ok a b)
 |exit l=>exact putP_wf (leave_wf wf) trivial
 |out l n=>exact wf
end
end Ep
namespace Ep
open PySem L2
section
end
end Ep
namespace Ep
open PySem L2 PySem.SeqAt
section
end
section
def KpS (S:List Addr) (H H':Hp):Prop:=∀ b o,H b=some o→b∉S→H' b=some o
theorem KpS.trans {S:List Addr} {H H1 H2:Hp} (a:KpS S H H1) (b:KpS S H1 H2):KpS S H H2:=fun c o e n=>b c o (a c o e n) n
theorem KpS.same {S:List Addr} {H H':Hp} (s:Same H H'):KpS S H H':=fun b o e _=>s b o e
theorem KpS.upd {S:List Addr} {H:Hp} {x:Addr} {o:HO} (h:x∈S):KpS S H (upd H x o):=fun b _ e n=>(upd_ne (fun z=>n (by rw [z];exact h))).trans e
theorem KpS.mono {S T:List Addr} {H H':Hp} (k:KpS S H H') (h:∀ x∈S,x∈T):KpS T H H':=fun b o e n=>k b o e fun z=>n (h b z)
theorem KpS.kpl {S:List Addr} {L:PlL} {H H':Hp} (k:KpL L H H') (h1:L.lf∈S) (h2:L.lt∈S) (h3:L.lp∈S) (h4:L.lc∈S):KpS S H H':=fun b o e n=>k b o e (fun z=>n (z ▸ h1)) (fun z=>n (z ▸ h2)) (fun z=>n (z ▸ h3)) (fun z=>n (z ▸ h4))
theorem KpS.old {S:List Addr} {G H H':Hp} (k:KpS S H H') (s:Same G H) (h:∀ x∈S,G x=none):Same G H':=fun b o e=>k b o (s b o e) fun z=>by rw [h b z] at e;cases e
structure Sts where
 sa:Addr
 a0:Addr
 a1:Addr
 a2:Addr
def Sts.own (A:Sts):List Addr:=[A.sa,A.a0,A.a1,A.a2]
def PlL.own (L:PlL) (p:Addr):List Addr:=[p,L.lf,L.lt,L.lp,L.lc]
def Dj (S T:List Addr):Prop:=∀ x∈S,x∉T
def WkAt (H:Hp) (r:V) (x:Int×Place):Prop:=∃ t u,r=.ref t∧H t=some (.tup [.int x.1,.ref u])∧H u=some (.tup (plV x.2))
def z1 (w:Int×Int) (f:Int):Int:=if f=w.1 then 0 else 1
def zOf (ws:List (Int×Int)) (fac:List Int):List Int:=List.zipWith z1 ws fac
structure StAt (ws:List (Int×Int)) (H:Hp) (A:Sts) (st:PlS):Prop where
 hs:H A.sa=some (.lst [.ref A.a0,.ref A.a1,.ref A.a2])
 h0:H A.a0=some (.lst ((zOf ws st.fac).map V.int))
 h1:H A.a1=some (.lst (st.tal.map V.int))
 h2:∃ rs,H A.a2=some (.lst rs)∧Paired (WkAt H) rs (st.chg.zip st.pla)
 s0:A.sa≠A.a0
 s1:A.sa≠A.a1
 s2:A.sa≠A.a2
 n01:A.a0≠A.a1
 n02:A.a0≠A.a2
 n12:A.a1≠A.a2
theorem PlayAt.keep {C p:Addr} {v:V} {L:PlL} {st:PlS} {H H':Hp} {S:List Addr} (P:PlayAt C H p v L st) (k:KpS S H H') (kt:KT H H') (d:Dj (L.own p) S):PlayAt C H' p v L st :=
 let ⟨rs,a,b⟩:=P.pl
 ⟨k _ _ P.ob (d _ (by simp [PlL.own])),k _ _ P.fa (d _ (by simp [PlL.own])),k _ _ P.ta (d _ (by simp [PlL.own])),⟨rs,k _ _ a (d _ (by simp [PlL.own])),Paired.mapP b fun _ _ z=>z.kt kt⟩,k _ _ P.ch (d _ (by simp [PlL.own])),P.ft,P.fp,P.fc,P.tp,P.tc,P.pc⟩
theorem StAt.kt {ws:List (Int×Int)} {H H':Hp} {A:Sts} {st:PlS} (P:StAt ws H A st) (k:KpS A.own H H'):KT H H':=fun b xs e=>by
 obtain ⟨rs,a,_⟩:=P.h2
 refine k b _ e fun z=>?_
 simp only [Sts.own,List.mem_cons,List.not_mem_nil,or_false] at z
 rcases z with z|z|z|z
 ·exact ne3 e P.hs z
 ·exact ne3 e P.h0 z
 ·exact ne3 e P.h1 z
 ·exact ne3 e a z
theorem PlayAt.live {C p:Addr} {v:V} {L:PlL} {st:PlS} {H:Hp} (P:PlayAt C H p v L st):∀ x∈L.own p,H x≠none:=fun x hx z=>by
 obtain ⟨rs,a,_⟩:=P.pl
 simp only [PlL.own,List.mem_cons,List.not_mem_nil,or_false] at hx
 rcases hx with rfl|rfl|rfl|rfl|rfl
 ·rw [P.ob] at z;cases z
 ·rw [P.fa] at z;cases z
 ·rw [P.ta] at z;cases z
 ·rw [a] at z;cases z
 ·rw [P.ch] at z;cases z
theorem insideM_mem {x:Int}:∀ (ps:List Place) (j:Nat),x∈insideM j ps→∃ i pl,x=((j+i:Nat):Int)∧ps[i]?=some pl∧isOut pl=false
 |[],j,h=>by simp [insideM] at h
 |q::r,j,h=>by
  rcases List.mem_append.mp (show x∈(if isOut q then [] else [(j:Int)])++insideM (j+1) r from h) with z|z
  ·by_cases c:isOut q=true
   ·rw [if_pos c] at z;simp at z
   ·rw [if_neg c] at z
    have e:x=(j:Int):=by simpa using z
    exact ⟨0,q,by simpa using e,rfl,by simpa using c⟩
  ·obtain ⟨i,pl,e,h1,h2⟩:=insideM_mem r (j+1) z
   exact ⟨i+1,pl,by rw [e];congr 1;walk_at"q", by simpa using h1,h2⟩
theorem step_len {wide:Int} {ws:List (Int×Int)} {st:PlS} {i:Nat} {pl:Place}:(stepS wide ws st i pl).pla.length=st.pla.length:=by
 cases pl with
 |before k l=>show (st.pla.set _ _).length=_;rw [List.length_set]
 |exit l=>show (st.pla.set _ _).length=_;rw [List.length_set]
 |out l n=>rfl
theorem step_at {wide:Int} {ws:List (Int×Int)} {st:PlS} {i:Nat} {pl:Place} (h:st.pla[i]?=some pl):(stepS wide ws st i pl).pla[i]?=some (stepP wide ws st i pl):=by
 have il:=(List.getElem?_eq_some_iff.mp h).1
 cases pl with
 |before k l=>show (st.pla.set _ _)[i]?=_;rw [List.getElem?_set_self il]
 |exit l=>show (st.pla.set _ _)[i]?=_;rw [List.getElem?_set_self il]
 |out l n=>exact h
end
section
theorem Kp.fresh {H H':Hp} {p:Addr} {o:HO} (f:H p=none) (k:Kp p (upd H p o) H'):Same H H':=fun b x e=>k b x (same_new f o b x e) (ne_of_none e f)
theorem own_mem {L:PlL} {p x:Addr}:x∈L.own p↔x=p∨x=L.lf∨x=L.lt∨x=L.lp∨x=L.lc:=by simp [PlL.own]
end
end Ep
namespace L2
open PySem
section
section
variable {X:Cx} (K:PySem.W.Frag) (hK:X.K=K) {tg:Expr}
include hK
end
end
end L2
namespace Ep
open PySem L2 PySem.SeqAt
section
def Vf (ws:List (Int×Int)) (e:Int→Int) (P:Nat→Int):Nat→Int→Int
 |0,x=>e x
 |k+1,x=>if x=(wAt ws k).1 then (P k+1) / 2 else if x=(wAt ws k).2 then P k / 2 else Vf ws e P k x
def sumC (p:Place→Bool):List Int→List Place→Int
 |c::cs,pl::ps=>(if p pl then c else 0)+sumC p cs ps
 |_,_=>0
def isB (k:Nat):Place→Bool
 |.before j _=>decide (j=k)
 |_=>false
def isX (l:Int):Place→Bool
 |.exit x=>decide (x=l)
 |_=>false
structure Flow (wide:Int) (ws:List (Int×Int)) (st:PlS) (e:Int→Int) (P:Nat→Int):Prop where
 fa:∀ k w,ws[k]?=some w→st.fac.getD k 0=if P k % 2=0 then w.1 else w.2
 pa:∀ k,k<ws.length→P k=Vf ws e P k (wAt ws k).1+Vf ws e P k (wAt ws k).2-sumC (isB k) st.chg st.pla
 ta:∀ l,0≤l→l<wide→st.tal.getD l.toNat 0=Vf ws e P ws.length l-sumC (isX l) st.chg st.pla
theorem sumC_snoc (p:Place→Bool) (c:Int) (pl:Place):∀ (cs:List Int) (ps:List Place),cs.length=ps.length→sumC p (cs++[c]) (ps++[pl])=sumC p cs ps+if p pl then c else 0
 |[],[],_=>by simp [sumC]
 |[],_::_,h=>by simp at h
 |_::_,[],h=>by simp at h
 |a::cs,q::ps,h=>by
  show (if p q then a else 0)+sumC p (cs++[c]) (ps++[pl])=(if p q then a else 0)+sumC p cs ps+_
  rw [sumC_snoc p c pl cs ps (by simpa using h)]
  walk_at"q"
theorem sumC_set (p:Place→Bool) (pl':Place):∀ (cs:List Int) (ps:List Place) (i:Nat) (pl:Place),cs.length=ps.length→ps[i]?=some pl→sumC p cs (ps.set i pl')=sumC p cs ps+(if p pl' then cs.getD i 0 else 0)-(if p pl then cs.getD i 0 else 0)
 |[],[],i,pl,_,h=>by simp at h
 |[],_::_,_,_,h,_=>by simp at h
 |_::_,[],_,_,h,_=>by simp at h
 |a::cs,q::ps,0,pl,_,h=>by
  have e:q=pl:=by simpa using h
  subst e
  show (if p pl' then a else 0)+sumC p cs ps=(if p q then a else 0)+sumC p cs ps+(if p pl' then a else 0)-(if p q then a else 0)
  walk_at"q"
 |a::cs,q::ps,i+1,pl,hl,h=>by
  show (if p q then a else 0)+sumC p cs (ps.set i pl')=(if p q then a else 0)+sumC p cs ps+_-_
  rw [sumC_set p pl' cs ps i pl (by simpa using hl) (by simpa using h)]
  have e:(a::cs).getD (i+1) 0=cs.getD i 0:=by simp [List.getD]
  rw [e]
  walk_at"q"
theorem sumC_none (p:Place→Bool):∀ (cs:List Int) (ps:List Place),(∀ pl∈ps,p pl=false)→sumC p cs ps=0
 |[],_,_=>rfl
 |_::_,[],_=>rfl
 |a::cs,q::ps,h=>by
  show (if p q then a else 0)+sumC p cs ps=0
  rw [h q (by simp),sumC_none p cs ps fun x hx=>h x (by simp [hx])]
  rfl
def clear (ws:List (Int×Int)) (l:Int) (s k:Nat):Prop:=∀ j,s≤j→j<k→hasL (wAt ws j) l=false
theorem place_spec (ws:List (Int×Int)) (l:Int):∀ (n s:Nat),(placeF ws l n s=.exit l∧clear ws l s (s+n))∨∃ k,placeF ws l n s=.before k l∧s≤k∧k<s+n∧hasL (wAt ws k) l=true∧clear ws l s k
 |0,s=>.inl ⟨rfl,fun j a b=>by walk_at"q"⟩
 |n+1,s=>by
  unfold placeF
  by_cases c:hasL (wAt ws s) l=true
  ·rw [if_pos c]
   exact .inr ⟨s,rfl,Nat.le_refl _,by walk_at"q", c,fun j a b=>by walk_at"q"⟩
  ·rw [if_neg c]
   have c':hasL (wAt ws s) l=false:=by simpa using c
   rcases place_spec ws l n (s+1) with ⟨a,b⟩|⟨k,a,b,d,e,f⟩
   ·refine .inl ⟨a,fun j h1 h2=>?_⟩
    by_cases z:j=s
    ·rw [z];exact c'
    ·exact b j (by walk_at"q") (by walk_at"q")
   ·refine .inr ⟨k,a,by walk_at"q", by walk_at"q", e,fun j h1 h2=>?_⟩
    by_cases z:j=s
    ·rw [z];exact c'
    ·exact f j (by walk_at"q") h2
theorem placeM_spec (ws:List (Int×Int)) (l:Int) {s:Nat} (hs:s≤ws.length):(placeM ws l s=.exit l∧clear ws l s ws.length)∨∃ k,placeM ws l s=.before k l∧s≤k∧k<ws.length∧hasL (wAt ws k) l=true∧clear ws l s k:=by
 have h:=place_spec ws l (ws.length-s) s
 rw [show s+(ws.length-s)=ws.length by walk_at"q"] at h
 exact h
theorem Vf_congr {ws:List (Int×Int)} {e:Int→Int} {P P':Nat→Int}:∀ (k:Nat),(∀ j,j<k→P' j=P j)→∀ x,Vf ws e P' k x=Vf ws e P k x
 |0,_,_=>rfl
 |k+1,h,x=>by
  show (if x=(wAt ws k).1 then (P' k+1) / 2 else if x=(wAt ws k).2 then P' k / 2 else Vf ws e P' k x)=(if x=(wAt ws k).1 then (P k+1) / 2 else if x=(wAt ws k).2 then P k / 2 else Vf ws e P k x)
  rw [h k (by walk_at"q"),Vf_congr k (fun j hj=>h j (by walk_at"q")) x]
open Classical in
theorem Vf_add {ws:List (Int×Int)} {e e':Int→Int} {P P':Nat→Int} {s:Nat} {l c:Int} (hb:∀ x,Vf ws e' P' s x=Vf ws e P s x+if x=l then c else 0) (hP:∀ j,s≤j→P' j=P j) :
  ∀ (n:Nat) (x:Int),Vf ws e' P' (s+n) x=Vf ws e P (s+n) x+if x=l∧clear ws l s (s+n) then c else 0
 |0,x=>by
  rw [Nat.add_zero,hb x]
  have hc:clear ws l s s:=fun j a b=>by walk_at"q"
  by_cases z:x=l
  ·rw [if_pos z,if_pos ⟨z,hc⟩]
  ·rw [if_neg z,if_neg fun h=>z h.1]
 |n+1,x=>by
  have ih:=Vf_add hb hP n x
  rw [←Nat.add_assoc]
  show (if x=(wAt ws (s+n)).1 then (P' (s+n)+1) / 2 else if x=(wAt ws (s+n)).2 then P' (s+n) / 2 else Vf ws e' P' (s+n) x)=(if x=(wAt ws (s+n)).1 then (P (s+n)+1) / 2 else if x=(wAt ws (s+n)).2 then P (s+n) / 2 else Vf ws e P (s+n) x)+_
  rw [hP (s+n) (by walk_at"q")]
  by_cases z1:x=(wAt ws (s+n)).1
  ·rw [if_pos z1,if_pos z1,if_neg,Int.add_zero]
   rintro ⟨rfl,h⟩
   have:=h (s+n) (by walk_at"q") (by walk_at"q")
   simp [hasL,←z1] at this
  ·rw [if_neg z1,if_neg z1]
   by_cases z2:x=(wAt ws (s+n)).2
   ·rw [if_pos z2,if_pos z2,if_neg,Int.add_zero]
    rintro ⟨rfl,h⟩
    have:=h (s+n) (by walk_at"q") (by walk_at"q")
    simp [hasL,←z2] at this
   ·rw [if_neg z2,if_neg z2,ih]
    congr 1
    by_cases h:x=l∧clear ws l s (s+n)
    ·have cl:clear ws l s (s+n+1):=fun j a b=>by
      by_cases e:j=s+n
      ·rw [e,←h.1]
       simp [hasL,z1,z2]
      ·exact h.2 j a (by walk_at"q")
     rw [if_pos h,if_pos ⟨h.1,cl⟩]
    ·rw [if_neg h,if_neg fun g=>h ⟨g.1,fun j a b=>g.2 j a (by walk_at"q")⟩]
-- one more on lane l from level s on,and its place
open Classical in
theorem flow_more {wide:Int} {ws:List (Int×Int)} {e e':Int→Int} {P P':Nat→Int} {s:Nat} {l c:Int} (ok:WOk wide ws) (hs:s≤ws.length) (hb:∀ x,Vf ws e' P' s x=Vf ws e P s x+if x=l then c else 0) (hP:∀ j,s≤j→P' j=P j) :
  (∀ k,s≤k→k<ws.length→Vf ws e' P' k (wAt ws k).1+Vf ws e' P' k (wAt ws k).2=Vf ws e P k (wAt ws k).1+Vf ws e P k (wAt ws k).2+if isB k (placeM ws l s) then c else 0) ∧
  ∀ x,Vf ws e' P' ws.length x=Vf ws e P ws.length x+if isX x (placeM ws l s) then c else 0:=by
 have add:=Vf_add (l:=l) (c:=c) hb hP
 constructor
 ·intro k h1 h2
  obtain ⟨n,rfl⟩:∃ n,k=s+n:=⟨k-s,by walk_at"q"⟩
  have hw:ws[s+n]?=some (wAt ws (s+n)):=by simp [wAt,List.getD,h2]
  obtain ⟨o1,o2,o3,o4,o5⟩:=WOk.mem ok hw
  rw [add n,add n]
  have key:((if (wAt ws (s+n)).1=l∧clear ws l s (s+n) then c else 0)+if (wAt ws (s+n)).2=l∧clear ws l s (s+n) then c else 0)=if isB (s+n) (placeM ws l s) then c else 0:=by
   rcases placeM_spec ws l hs with ⟨a,b⟩|⟨k,a,b,d,f,g⟩
   ·rw [a]
    have nb:=b (s+n) (by walk_at"q") h2
    simp [hasL] at nb
    rw [if_neg fun z=>nb.1 z.1.symm,if_neg fun z=>nb.2 z.1.symm]
    rfl
   ·rw [a]
    by_cases e1:k=s+n
    ·subst e1
     have hb':isB (s+n) (.before (s+n) l)=true:=by simp [isB]
     rw [hb',if_pos rfl]
     simp [hasL] at f
     rcases f with f|f
     ·rw [if_pos ⟨f.symm,g⟩,if_neg fun z=>o5 (by rw [z.1,f]),Int.add_zero]
     ·rw [if_neg fun z=>o5 (by rw [z.1,f]),if_pos ⟨f.symm,g⟩,Int.zero_add]
    ·have hb':isB (s+n) (.before k l)=false:=by simp [isB,e1]
     rw [hb']
     have ncl:∀ w':Int,((w'=(wAt ws (s+n)).1∨w'=(wAt ws (s+n)).2)∧w'=l∧clear ws l s (s+n))→False:=fun w' ⟨h0,h1',h2'⟩=>by
      by_cases lt:k<s+n
      ·have:=h2' k b lt
       rw [f] at this;cases this
      ·have:=g (s+n) (by walk_at"q") (by walk_at"q")
       simp [hasL] at this
       rcases h0 with h0|h0
       ·exact this.1 (h1' ▸ h0)
       ·exact this.2 (h1' ▸ h0)
     rw [if_neg fun z=>ncl _ ⟨.inl rfl,z⟩,if_neg fun z=>ncl _ ⟨.inr rfl,z⟩]
     rfl
  rw [←key]
  walk_at"q"
 ·intro x
  have h:=add (ws.length-s) x
  rw [show s+(ws.length-s)=ws.length by walk_at"q"] at h
  rw [h]
  congr 1
  rcases placeM_spec ws l hs with ⟨a,b⟩|⟨k,a,b,d,f,g⟩
  ·rw [a]
   by_cases z:x=l
   ·have:isX x (.exit l)=true:=by simp [isX,z]
    rw [this,if_pos ⟨z,b⟩];rfl
   ·have:isX x (.exit l)=false:=by simp [isX];exact fun h=>z h.symm
    rw [this,if_neg fun h=>z h.1];rfl
  ·rw [a,if_neg]
   ·rfl
   ·intro z
    have:=z.2 k b d
    rw [f] at this;cases this
theorem flow_enter {wide:Int} {ws:List (Int×Int)} {st:PlS} {e e':Int→Int} {P:Nat→Int} {l c:Int} (ok:WOk wide ws) (wf:Wf wide ws st) (F:Flow wide ws st e P) (he:∀ x,e' x=e x+if x=l then c else 0):Flow wide ws (enterM ws st l c) e' P:=by
 obtain ⟨m1,m2⟩:=flow_more (P:=P) (P':=P) ok (Nat.zero_le _) (l:=l) (c:=c) (s:=0) he (fun _ _=>rfl)
 refine ⟨F.fa,fun k hk=>?_,fun x h0 h1=>?_⟩
 ·show P k=_+_-sumC (isB k) (st.chg++[c]) (st.pla++[placeM ws l 0])
  rw [sumC_snoc _ _ _ _ _ wf.cl,m1 k (Nat.zero_le _) hk]
  have:=F.pa k hk
  walk_at"q"
 ·show st.tal.getD x.toNat 0=_-sumC (isX x) (st.chg++[c]) (st.pla++[placeM ws l 0])
  rw [sumC_snoc _ _ _ _ _ wf.cl,m2 x]
  have:=F.ta x h0 h1
  walk_at"q"
theorem placeM_ge {ws:List (Int×Int)} {l:Int} {s k:Nat} (hs:s≤ws.length) (h:k<s):isB k (placeM ws l s)=false:=by
 rcases placeM_spec ws l hs with ⟨a,_⟩|⟨k',a,b,_⟩
 ·rw [a];rfl
 ·rw [a];simp [isB];walk_at"q"
theorem flow_step {wide:Int} {ws:List (Int×Int)} {st:PlS} {e:Int→Int} {P:Nat→Int} {i:Nat} {pl:Place} (ok:WOk wide ws) (wf:Wf wide ws st) (F:Flow wide ws st e P) (hi:st.pla[i]?=some pl):∃ P',Flow wide ws (stepS wide ws st i pl) e P':=by
 have il:i<st.pla.length:=(List.getElem?_eq_some_iff.mp hi).1
 have cl:=wf.cl
 have hc:=wf.cs i (by walk_at"q")
 have psm:=wf.ps pl (List.mem_of_getElem? hi)
 cases pl with
 |out l n=>exact ⟨P,F⟩
 |exit l =>
  refine ⟨P,F.fa,fun k hk=>?_,fun x h0 h1=>?_⟩
  ·show P k=_+_-sumC (isB k) st.chg (st.pla.set i (.out l (leaveN wide st l (st.chg.getD i 0))))
   rw [sumC_set _ _ _ _ _ _ cl hi]
   have:=F.pa k hk
   have e1:isB k (.out l (leaveN wide st l (st.chg.getD i 0)))=false:=rfl
   have e2:isB k (.exit l)=false:=rfl
   rw [e1,e2]
   simp
   exact this
  ·show (st.tal.set l.toNat (st.tal.getD l.toNat 0+st.chg.getD i 0)).getD x.toNat 0=_-sumC (isX x) st.chg (st.pla.set i (.out l (leaveN wide st l (st.chg.getD i 0))))
   rw [sumC_set _ _ _ _ _ _ cl hi]
   have tl:=wf.tl
   have hx:=F.ta x h0 h1
   have p1:=psm.1
   have p2:=psm.2
   rw [getD_set (by walk_at"q")]
   have e1:isX x (.out l (leaveN wide st l (st.chg.getD i 0)))=false:=rfl
   rw [e1]
   by_cases z:x=l
   ·subst z
    have e2:isX x (.exit x)=true:=by simp [isX]
    rw [e2,if_pos rfl]
    simp only [if_true,Bool.false_eq_true,if_false]
    walk_at"q"
   ·have e2:isX x (.exit l)=false:=by simp [isX];exact fun h=>z h.symm
    rw [e2,if_neg (by walk_at"q")]
    simp only [Bool.false_eq_true,if_false]
    walk_at"q"
 |before k l =>
  have hk:=psm.1
  have hw:ws[k]?=some (wAt ws k):=by simp [wAt,List.getD,hk]
  obtain ⟨o1,o2,o3,o4,o5⟩:=WOk.mem ok hw
  have fk:=F.fa k _ hw
  have fl:=wf.fl
  -- the count of the wicket
  have hbase:∀ x,Vf ws e (fun j=>if j=k then P k+st.chg.getD i 0 else P j) (k+1) x=Vf ws e P (k+1) x+if x=passL ws st k (st.chg.getD i 0) then st.chg.getD i 0 else 0:=fun x=>by
   show (if x=(wAt ws k).1 then ((if k=k then P k+st.chg.getD i 0 else P k)+1) / 2 else if x=(wAt ws k).2 then (if k=k then P k+st.chg.getD i 0 else P k) / 2 else Vf ws e (fun j=>if j=k then P k+st.chg.getD i 0 else P j) k x)=(if x=(wAt ws k).1 then (P k+1) / 2 else if x=(wAt ws k).2 then P k / 2 else Vf ws e P k x)+_
   rw [if_pos rfl,Vf_congr k (fun j hj=>by show (if j=k then _ else _)=_;rw [if_neg (by walk_at"q")]) x]
   have pv:passL ws st k (st.chg.getD i 0)=if (P k % 2=0∧st.chg.getD i 0=1)∨(¬ P k % 2=0∧st.chg.getD i 0=-1) then (wAt ws k).1 else (wAt ws k).2:=by
    unfold passL otherL
    rw [fk]
    generalize st.chg.getD i 0=c at hc
    rcases hc with h|h<;>by_cases par:P k % 2=0<;>simp [h,par,Ne.symm o5]
   rw [pv]
   generalize st.chg.getD i 0=c at hc
   generalize (wAt ws k)=w at o5
   have hc':((P k % 2=0∧c=1)∨(¬ P k % 2=0∧c=-1))∨((P k % 2=0∧c=-1)∨(¬ P k % 2=0∧c=1)):=by walk_at"q"
   rcases hc' with h|h
   ·rw [if_pos h]
    by_cases z1:x=w.1
    ·rw [if_pos z1,if_pos z1,if_pos z1];walk_at"q"
    ·rw [if_neg z1,if_neg z1,if_neg z1]
     by_cases z2:x=w.2
     ·rw [if_pos z2,if_pos z2];walk_at"q"
     ·rw [if_neg z2,if_neg z2];walk_at"q"
   ·rw [if_neg (by walk_at"q" : ¬ ((P k % 2=0∧c=1)∨(¬ P k % 2=0∧c=-1)))]
    by_cases z1:x=w.1
    ·rw [if_pos z1,if_pos z1,if_neg (by rw [z1];exact o5)];walk_at"q"
    ·rw [if_neg z1,if_neg z1]
     by_cases z2:x=w.2
     ·rw [if_pos z2,if_pos z2,if_pos z2];walk_at"q"
     ·rw [if_neg z2,if_neg z2,if_neg z2];walk_at"q"
  obtain ⟨m1,m2⟩:=flow_more ok (s:=k+1) (by walk_at"q") hbase (fun j hj=>by show (if j=k then _ else _)=_;rw [if_neg (by walk_at"q")])
  refine ⟨fun j=>if j=k then P k+st.chg.getD i 0 else P j,fun j w hj=>?_,fun j hj=>?_,fun x h0 h1=>?_⟩
  ·show (st.fac.set k (otherL (wAt ws k) (st.fac.getD k 0))).getD j 0=_
   rw [getD_set (by walk_at"q")]
   by_cases z:j=k
   ·subst z
    rw [hw] at hj
    cases hj
    rw [if_pos rfl,fk]
    unfold otherL
    show _=if (if j=j then P j+st.chg.getD i 0 else P j) % 2=0 then _ else _
    rw [if_pos rfl]
    by_cases par:P j % 2=0
    ·rw [if_pos par,if_pos rfl,if_neg (by rcases hc with h|h<;>rw [h]<;>walk_at"q")]
    ·rw [if_neg par,if_neg (Ne.symm o5),if_pos (by rcases hc with h|h<;>rw [h]<;>walk_at"q")]
   ·rw [if_neg z]
    show _=if (if j=k then P k+st.chg.getD i 0 else P j) % 2=0 then _ else _
    rw [if_neg z]
    exact F.fa j w hj
  ·show (if j=k then P k+st.chg.getD i 0 else P j)=_+_-sumC (isB j) st.chg (st.pla.set i (placeM ws (passL ws st k (st.chg.getD i 0)) (k+1)))
   rw [sumC_set _ _ _ _ _ _ cl hi]
   have pj:=F.pa j hj
   by_cases z:j=k
   ·subst z
    have cg:∀ x,Vf ws e (fun m=>if m=j then P j+st.chg.getD i 0 else P m) j x=Vf ws e P j x:=Vf_congr j (fun m hm=>by show (if m=j then _ else _)=_;rw [if_neg (by walk_at"q")])
    rw [if_pos rfl,cg,cg]
    have e1:isB j (.before j l)=true:=by simp [isB]
    rw [e1,placeM_ge (by walk_at"q") (by walk_at"q")]
    simp only [if_true,Bool.false_eq_true,if_false]
    walk_at"q"
   ·rw [if_neg z]
    have e1:isB j (.before k l)=false:=by simp [isB];exact fun h=>z h.symm
    rw [e1]
    by_cases lt:k<j
    ·rw [m1 j (by walk_at"q") hj]
     simp only [Bool.false_eq_true,if_false]
     walk_at"q"
    ·have cg:∀ x,Vf ws e (fun m=>if m=k then P k+st.chg.getD i 0 else P m) j x=Vf ws e P j x:=Vf_congr j (fun m hm=>by show (if m=k then _ else _)=_;rw [if_neg (by walk_at"q")])
     rw [placeM_ge (by walk_at"q") (by walk_at"q"),cg,cg]
     simp only [Bool.false_eq_true,if_false]
     walk_at"q"
  ·show st.tal.getD x.toNat 0=_-sumC (isX x) st.chg (st.pla.set i (placeM ws (passL ws st k (st.chg.getD i 0)) (k+1)))
   rw [sumC_set _ _ _ _ _ _ cl hi,m2 x]
   have:=F.ta x h0 h1
   have e1:isX x (.before k l)=false:=rfl
   rw [e1]
   simp only [Bool.false_eq_true,if_false]
   walk_at"q"
def eOf (cs:List Int) (x:Int):Int:=if 0≤x then cs.getD x.toNat 0 else 0
theorem flow_start {wide:Int} {ws:List (Int×Int)} (h:0≤wide):Flow wide ws (startM wide ws) (eOf (List.replicate wide.toNat 0)) (fun _=>0):=by
 have z:∀ k x,Vf ws (eOf (List.replicate wide.toNat 0)) (fun _=>0) k x=0:=fun k=>by
  induction k with
  |zero =>
   intro x
   show eOf _ x=0
   unfold eOf
   split
   ·simp [List.getD,List.getElem?_replicate];split<;>rfl
   ·rfl
  |succ k ih =>
   intro x
   show (if x=(wAt ws k).1 then ((0:Int)+1) / 2 else if x=(wAt ws k).2 then 0 / 2 else _)=0
   rw [ih x]
   split
   ·rfl
   ·split<;>rfl
 refine ⟨fun k w hw=>?_,fun k hk=>?_,fun l h0 h1=>?_⟩
 ·show (ws.map (·.1)).getD k 0=_
  simp [List.getD,hw]
 ·rw [z,z]
  rfl
 ·rw [z]
  show (List.replicate wide.toNat (0:Int)).getD l.toNat 0=_
  simp [List.getD,List.getElem?_replicate,startM,sumC]
  split<;>rfl
theorem eOf_set {cs:List Int} {l c:Int} (h0:0≤l) (h1:l.toNat<cs.length) (x:Int):eOf (cs.set l.toNat (cs.getD l.toNat 0+c)) x=eOf cs x+if x=l then c else 0:=by
 unfold eOf
 by_cases z:0≤x
 ·rw [if_pos z,if_pos z,getD_set h1]
  by_cases e:x=l
  ·subst e;rw [if_pos rfl,if_pos rfl]
  ·rw [if_neg (by walk_at"q"),if_neg e];walk_at"q"
 ·rw [if_neg z,if_neg z,if_neg (by walk_at"q")];rfl
theorem flow_rest {wide:Int} {ws:List (Int×Int)} {st:PlS} {cs:List Int} {P:Nat→Int} (ok:WOk wide ws) (wf:Wf wide ws st) (hl:cs.length=wide.toNat) (F:Flow wide ws st (eOf cs) P) (out:∀ pl∈st.pla,isOut pl=true) :
  st.tal=thruM cs ws∧∀ k w,ws[k]?=some w→st.fac.getD k 0=if both (thruM cs (ws.take k)) w % 2=0 then w.1 else w.2:=by
 have nb:∀ k,sumC (isB k) st.chg st.pla=0:=fun k=>sumC_none _ _ _ fun pl hp=>by
  have:=out pl hp
  cases pl<;>simp [isOut] at this<;>rfl
 have nx:∀ l,sumC (isX l) st.chg st.pla=0:=fun k=>sumC_none _ _ _ fun pl hp=>by
  have:=out pl hp
  cases pl<;>simp [isOut] at this<;>rfl
 have ths:∀ k,k≤ws.length→∀ x,0≤x→x<wide→Vf ws (eOf cs) P k x=(thruM cs (ws.take k)).getD x.toNat 0:=fun k=>by
  induction k with
  |zero =>
   intro _ x h0 _
   show eOf cs x=_
   unfold eOf
   rw [if_pos h0]
   rfl
  |succ k ih =>
   intro hk x h0 h1
   have hw:ws[k]?=some (wAt ws k):=by simp [wAt,List.getD,show k<ws.length by walk_at"q"]
   have o:=WOk.mem ok hw
   obtain ⟨o1,o2,o3,o4,o5⟩:=id o
   have tl:(thruM cs (ws.take k)).length=wide.toNat:=by rw [thruM_len];exact hl
   rw [take_snoc hw,thruM_snoc]
   have pk:=F.pa k (by walk_at"q")
   rw [nb,Int.sub_zero,ih (by walk_at"q") _ o1 o2,ih (by walk_at"q") _ o3 o4] at pk
   have eb:both (thruM cs (ws.take k)) (wAt ws k)=P k:=pk.symm
   show (if x=(wAt ws k).1 then (P k+1) / 2 else if x=(wAt ws k).2 then P k / 2 else Vf ws (eOf cs) P k x)=_
   by_cases z1:x=(wAt ws k).1
   ·rw [if_pos z1,z1,letM_first tl o,eb]
   ·rw [if_neg z1]
    by_cases z2:x=(wAt ws k).2
    ·rw [if_pos z2,z2,letM_second tl o,eb]
    ·rw [if_neg z2,letM_other tl o (by walk_at"q") (by walk_at"q")]
     exact ih (by walk_at"q") x h0 h1
 constructor
 ·refine List.ext_getElem? fun j=>?_
  have tl:=wf.tl
  have tl2:(thruM cs ws).length=wide.toNat:=by rw [thruM_len];exact hl
  by_cases hj:j<wide.toNat
  ·rw [getD_lt (show j<st.tal.length by walk_at"q"),getD_lt (show j<(thruM cs ws).length by walk_at"q")]
   have a:=F.ta (j:Int) (by walk_at"q") (by walk_at"q")
   rw [nx,Int.sub_zero,ths ws.length (Nat.le_refl _) _ (by walk_at"q") (by walk_at"q"),List.take_length,Int.toNat_natCast] at a
   rw [a]
  ·rw [List.getElem?_eq_none (by walk_at"q"),List.getElem?_eq_none (by walk_at"q")]
 ·intro k w hw
  have hk:k<ws.length:=(List.getElem?_eq_some_iff.mp hw).1
  have ew:wAt ws k=w:=by simp [wAt,List.getD,hw]
  obtain ⟨o1,o2,o3,o4,o5⟩:=WOk.mem ok hw
  have pk:=F.pa k hk
  rw [nb,Int.sub_zero,ew,ths k (by walk_at"q") _ o1 o2,ths k (by walk_at"q") _ o3 o4] at pk
  rw [F.fa k w hw,pk]
  rfl
end
end Ep
namespace L2
open PySem PySem.Spec PyProof.Rows
section
theorem while_m {c:TT} {tb:TS} {D:Ends} {σ:St} {H:Hp} (Pv:Nat→St→Hp→Prop) (m0:Nat) (h0:Pv m0 σ H)
  (hs:∀ m σ H,Pv m σ H→c σ H fun b H1=>if b=true then tb { D with nx:=fun σ' H'=>∃ m',m'<m∧Pv m' σ' H',ct:=fun σ' H'=>∃ m',m'<m∧Pv m' σ' H',bk:=D.nx } σ H1 else D.nx σ H1)
  (mono:∀ σ H Q Q',(∀ b H1,Q b H1→Q' b H1)→c σ H Q→c σ H Q'):tWhile c tb D σ H:=by
 refine ⟨Pv,⟨m0,h0⟩,?_⟩
 rintro m σ H p
 refine mono σ H _ _ (fun b H1 q=>?_) (hs m σ H p)
 cases b with
 |true=>exact ⟨_,fun σ' H' z=>z,q⟩
 |false=>exact q
end
end L2
namespace Ep
open PySem L2 PySem.SeqAt
section
inductive Run (wide:Int) (ws:List (Int×Int)) (i:Nat):PlS→PlS→Prop
 |done {st:PlS} {pl:Place}:st.pla[i]?=some pl→isOut pl=true→Run wide ws i st st
 |more {st st':PlS} {pl:Place}:st.pla[i]?=some pl→isOut pl=false→Run wide ws i (stepS wide ws st i pl) st'→Run wide ws i st st'
inductive Rest (wide:Int) (ws:List (Int×Int)):List Int→PlS→PlS→Prop
 |nil {st:PlS}:Rest wide ws [] st st
 |cons {i:Int} {is:List Int} {st st1 st2:PlS}:Run wide ws i.toNat st st1→Rest wide ws is st1 st2→Rest wide ws (i::is) st st2
theorem step_other {wide:Int} {ws:List (Int×Int)} {st:PlS} {i j:Nat} {pl:Place} (h:j≠i):(stepS wide ws st i pl).pla[j]?=st.pla[j]?:=by
 cases pl with
 |before k l=>show (st.pla.set _ _)[j]?=_;rw [List.getElem?_set_ne (Ne.symm h)]
 |exit l=>show (st.pla.set _ _)[j]?=_;rw [List.getElem?_set_ne (Ne.symm h)]
 |out l n=>rfl
theorem Run.other {wide:Int} {ws:List (Int×Int)} {i:Nat} {st a:PlS} (h:Run wide ws i st a):(∀ j,j≠i→a.pla[j]?=st.pla[j]?)∧a.pla.length=st.pla.length∧∃ pl,a.pla[i]?=some pl∧isOut pl=true:=by
 induction h with
 |done e o=>exact ⟨fun _ _=>rfl,rfl,_,e,o⟩
 |more e o _ ih =>
  obtain ⟨a,b,c⟩:=ih
  refine ⟨fun j hj=>?_,?_,c⟩
  ·rw [a j hj,step_other hj]
  ·rw [b,step_len]
theorem Rest.len {wide:Int} {ws:List (Int×Int)} {is:List Int} {st a:PlS} (h:Rest wide ws is st a):a.pla.length=st.pla.length:=by
 induction h with
 |nil=>rfl
 |cons r _ ih=>rw [ih,r.other.2.1]
theorem Rest.out {wide:Int} {ws:List (Int×Int)} {is:List Int} {st a:PlS} (h:Rest wide ws is st a):∀ (j:Nat) (pl:Place),a.pla[j]?=some pl→((∃ q,st.pla[j]?=some q∧isOut q=true)∨(j:Int)∈is)→isOut pl=true:=by
 induction h with
 |nil =>
  intro j pl e h
  rcases h with ⟨q,a,b⟩|h
  ·rw [e] at a;cases a;exact b
  ·cases h
 |@cons i is st st1 st2 r _ ih =>
  intro j pl e h
  obtain ⟨r1,r2,r3⟩:=r.other
  refine ih j pl e ?_
  by_cases z:j=i.toNat
  ·rw [←z] at r3
   exact .inl r3
  ·rcases h with ⟨q,a,b⟩|h
   ·exact .inl ⟨q,by rw [r1 j z];exact a,b⟩
   ·rcases List.mem_cons.mp h with h|h
    ·exact absurd (by walk_at"q") z
    ·exact .inr h
theorem insideM_all:∀ (ps:List Place) (j i:Nat) (pl:Place),ps[i]?=some pl→isOut pl=false→((j+i:Nat):Int)∈insideM j ps
 |[],_,_,_,h,_=>by simp at h
 |q::r,j,0,pl,h,o=>by
  have e:q=pl:=by simpa using h
  subst e
  show _∈(if isOut q then [] else [(j:Int)])++insideM (j+1) r
  rw [o]
  simp
 |q::r,j,i+1,pl,h,o=>by
  have:=insideM_all r (j+1) i pl (by simpa using h) o
  refine List.mem_append_right _ ?_
  rw [show j+(i+1)=j+1+i by walk_at"q"]
  exact this
theorem Rest.all {wide:Int} {ws:List (Int×Int)} {st a:PlS} (h:Rest wide ws (insideM 0 st.pla) st a):∀ pl∈a.pla,isOut pl=true:=fun pl hp=>by
 obtain ⟨j,hj⟩:=List.getElem?_of_mem hp
 refine h.out j pl hj ?_
 have jl:j<st.pla.length:=by rw [←h.len];exact (List.getElem?_eq_some_iff.mp hj).1
 have e:st.pla[j]?=some st.pla[j]:=by simp [jl]
 by_cases o:isOut st.pla[j]=true
 ·exact .inl ⟨_,e,o⟩
 ·have:=insideM_all st.pla 0 j _ e (by simpa using o)
  rw [Nat.zero_add] at this
  exact .inr this
theorem insideM_none:∀ (ps:List Place) (j:Nat),(∀ pl∈ps,isOut pl=true)→insideM j ps=[]
 |[],_,_=>rfl
 |q::r,j,h=>by
  show (if isOut q then [] else [(j:Int)])++insideM (j+1) r=[]
  rw [h q (by simp),insideM_none r (j+1) fun x hx=>h x (by simp [hx])]
  rfl
def muPl (n:Nat):Place→Nat
 |.before k _=>n+2-k
 |.exit _=>1
 |.out _ _=>0
theorem muPl_step {wide:Int} {ws:List (Int×Int)} {st:PlS} {i:Nat} {pl:Place} (wf:Wf wide ws st) (h:st.pla[i]?=some pl) (no:isOut pl=false):muPl ws.length (stepP wide ws st i pl)<muPl ws.length pl:=by
 have hp:=wf.ps pl (List.mem_of_getElem? h)
 cases pl with
 |before k l =>
  have hk:=hp.1
  show muPl ws.length (placeM ws (passL ws st k (st.chg.getD i 0)) (k+1))<ws.length+2-k
  rcases placeM_spec ws (passL ws st k (st.chg.getD i 0)) (s:=k+1) (by walk_at"q") with ⟨a,_⟩|⟨k',a,b,c,_⟩
  ·rw [a];show 1<_;walk_at"q"
  ·rw [a];show ws.length+2-k'<_;walk_at"q"
 |exit l=>show 0<1;walk_at"q"
 |out l n=>simp [isOut] at no
inductive SpRestP (C:Addr) (vs:List V) (H:Hp) (Q:VK):Prop
 |mk (p:Addr) (v:V) (wide:Int) (ws:List (Int×Int)) (L:PlL) (st:PlS) (h1:vs=[.ref p]) (h2:NetOk H v wide ws) (h3:PlayAt C H p v L st) (h4:Wf wide ws st) (h5:∀ (st':PlS) (H':Hp),Rest wide ws (insideM 0 st.pla) st st'→PlayAt C H' p v L st'→KpL L H H'→Q .non H'):SpRestP C vs H Q
def spRest (C:Addr):Sp:=fun vs H Q _=>SpRestP C vs H Q
end
section
section
variable {C:Addr} {H H':Hp} {p:Addr} {v:V} {wide:Int} {ws:List (Int×Int)} {L:PlL} {A:Sts} {st:PlS} {en:Addr} {cs:List Int}
theorem KpL.own {H H':Hp} {L:PlL} {p:Addr} (k:KpL L H H'):KpS (L.own p) H H':=KpS.kpl k (by simp [PlL.own]) (by simp [PlL.own]) (by simp [PlL.own]) (by simp [PlL.own])
end
end
end Ep
namespace L2
open PySem PySem.Spec PyProof.Rows
section
end
section
variable {X:Cx}
theorem vals_of_ints:∀ {us:List Value} {ns:List Int},IntsAre us ns→Vals (ns.map V.int) us
 |_,_,.nil=>.nil
 |_,_,.cons n t h=>.cons ⟨t,rfl⟩ (vals_of_ints h)
end
end L2
namespace Ep
open PySem L2 PySem.SeqAt
section
end
end Ep
namespace L2
open PySem
section
theorem seq_gen {a b:TS} {D:Ends} {σ:St} {H:Hp} (h:∀ N:St→Hp→Prop,(∀ σ H,b D σ H→N σ H)→a { D with nx:=N } σ H):tSeq a b D σ H:=h (b D) (fun _ _ z=>z)
end
end L2
namespace L2
open PySem PySem.Spec PyProof.Rows
section
variable {X:Cx}
end
end L2
namespace Ep
open PySem L2 PySem.SeqAt
section
end
end Ep
namespace L2
open PySem PySem.Spec PyProof.Rows
section
end
end L2
namespace Ep
open PySem L2 PySem.SeqAt
section
end
section
def meets (w o:Int×Int):Bool:=(o.1 == w.1 || o.1 == w.2) || (o.2 == w.1 || o.2 == w.2)
def lastW (p:Int×Int→Bool) (l:List (Int×Int)):Option (Int×Int):=l.foldl (fun acc o=>if p o then some o else acc) none
def idle (k:List (Int×Int)) (w:Int×Int):Prop:=lastW (meets w) k=some w
instance (k:List (Int×Int)) (w:Int×Int):Decidable (idle k w):=by unfold idle;infer_instance
end
section
end
section
end
section
end
end Ep
namespace Ep
open PySem L2
section
def Level (c:List Int):Prop:=∀ i j,i≤j→j<c.length→0≤c.getD i 0-c.getD j 0∧c.getD i 0-c.getD j 0≤1
def levelM (n:Nat) (total:Int):List Int:=(List.range n).map fun i:Nat=>-(((0:Int)+(i:Int)-total) / (n:Int))
theorem levelM_len (n:Nat) (t:Int):(levelM n t).length=n:=by unfold levelM;simp
theorem levelM_getD {n:Nat} {t:Int} {i:Nat} (h:i<n):(levelM n t).getD i 0=-(((0:Int)+(i:Int)-t) / (n:Int)):=by
 unfold levelM
 simp only [List.getD]
 rw [List.getElem?_map,List.getElem?_range h]
 rfl
def stairM (n k:Nat) (m:Int):List Int:=(List.range n).map fun i:Nat=>if i<k then m+1 else m
theorem stairM_len (n k:Nat) (m:Int):(stairM n k m).length=n:=by unfold stairM;simp
theorem stairM_getD {n k:Nat} {m:Int} {i:Nat} (h:i<n):(stairM n k m).getD i 0=if i<k then m+1 else m:=by
 unfold stairM
 simp only [List.getD]
 rw [List.getElem?_map,List.getElem?_range h]
 rfl
theorem stairM_sum (n k:Nat) (m:Int) (h:k≤n):(stairM n k m).sum=n*m+k:=by
 induction n generalizing k with
 |zero =>
  have:k=0:=by walk_at"q"
  subst this
  simp [stairM]
 |succ n ih =>
  have e:stairM (n+1) k m=stairM n k m++[if n<k then m+1 else m]:=by unfold stairM;rw [List.range_succ,List.map_append];rfl
  rw [e,List.sum_append_int]
  have e2:((n+1:Nat):Int)*m=(n:Int)*m+m:=by rw [Int.natCast_add,Int.add_mul];walk_at"q"
  by_cases c:n<k
  ·rw [if_pos c]
   have hk:k=n+1:=by walk_at"q"
   subst hk
   have e3:stairM n (n+1) m=stairM n n m:=by
    unfold stairM
    refine List.map_congr_left fun i hi=>?_
    have:i<n:=List.mem_range.mp hi
    rw [if_pos (by walk_at"q"),if_pos this]
   rw [e3,ih n (Nat.le_refl _),e2]
   simp
   walk_at"q"
  ·rw [if_neg c,ih k (by walk_at"q"),e2]
   simp
   walk_at"q"
theorem level_stair {c:List Int} (h:Level c) (pos:0<c.length):∃ k m,k<c.length∧c=stairM c.length k m:=by
 have key:∀ q,q<c.length→(∀ i,i<q→c.getD i 0=c.getD (c.length-1) 0+1)→∃ k,k<c.length∧∀ i,i<c.length→c.getD i 0=if i<k then c.getD (c.length-1) 0+1 else c.getD (c.length-1) 0:=by
  intro q
  induction hd:c.length-q generalizing q with
  |zero=>intro hq;walk_at"q"
  |succ d ih =>
   intro hq hi
   by_cases e:c.getD q 0=c.getD (c.length-1) 0
   ·refine ⟨q,hq,fun i hl=>?_⟩
    by_cases ci:i<q
    ·rw [if_pos ci];exact hi i ci
    ·rw [if_neg ci]
     have h1:=h q i (by walk_at"q") hl
     have h2:=h i (c.length-1) (by walk_at"q") (by walk_at"q")
     walk_at"q"
   ·have h2:=h q (c.length-1) (by walk_at"q") (by walk_at"q")
    have ne:q≠c.length-1:=fun z=>e (by rw [z])
    refine ih (q+1) (by walk_at"q") (by walk_at"q") fun i hl=>?_
    by_cases ci:i<q
    ·exact hi i ci
    ·have:i=q:=by walk_at"q"
     subst this
     walk_at"q"
 obtain ⟨k,hk,hh⟩:=key 0 pos (fun i hi=>absurd hi (by walk_at"q"))
 refine ⟨k,c.getD (c.length-1) 0,hk,ext_getD (stairM_len _ _ _).symm fun i hi=>?_⟩
 rw [stairM_getD hi]
 exact hh i hi
theorem stair_level (n k:Nat) (m:Int):Level (stairM n k m):=fun i j hij hj=>by
 rw [stairM_len] at hj
 rw [stairM_getD (by walk_at"q"),stairM_getD hj]
 split<;>split<;>walk_at"q"
theorem ceil_stair {n k:Nat} {m:Int} (hk:k<n):levelM n (n*m+k)=stairM n k m:=by
 refine ext_getD (by rw [levelM_len,stairM_len]) fun i hi=>?_
 rw [levelM_len] at hi
 rw [levelM_getD hi,stairM_getD hi]
 have hn:(0:Int)<(n:Int):=by walk_at"q"
 by_cases c:i<k
 ·rw [if_pos c]
  have e:(0:Int)+(i:Int)-((n:Int)*m+(k:Int))=((n:Int)+(i:Int)-(k:Int))+(n:Int)*(-(m+1)):=by
   rw [Int.mul_neg,Int.mul_add]
   walk_at"q"
  rw [e,Int.add_mul_ediv_left _ _ (by walk_at"q"),Int.ediv_eq_zero_of_lt (by walk_at"q") (by walk_at"q")]
  walk_at"q"
 ·rw [if_neg c]
  have e:(0:Int)+(i:Int)-((n:Int)*m+(k:Int))=((i:Int)-(k:Int))+(n:Int)*(-m):=by
   rw [Int.mul_neg]
   walk_at"q"
  rw [e,Int.add_mul_ediv_left _ _ (by walk_at"q"),Int.ediv_eq_zero_of_lt (by walk_at"q") (by walk_at"q")]
  walk_at"q"
theorem levelM_stair {n:Nat} (hn:0<n) (t:Int):∃ k m,k<n∧t=n*m+k∧levelM n t=stairM n k m:=by
 have h1:=Int.emod_nonneg t (b:=(n:Int)) (by walk_at"q")
 have h2:=Int.emod_lt_of_pos t (b:=(n:Int)) (by walk_at"q")
 have h3:=Int.mul_ediv_add_emod t (n:Int)
 refine ⟨(t % (n:Int)).toNat,t / (n:Int),by walk_at"q", by walk_at"q", ?_⟩
 rw [←ceil_stair (by walk_at"q")]
 congr 1
 walk_at"q"
theorem levelM_sum {n:Nat} (hn:0<n) (t:Int):(levelM n t).sum=t:=by
 obtain ⟨k,m,hk,et,e⟩:=levelM_stair hn t
 rw [e,stairM_sum n k m (by walk_at"q"),et]
theorem levelM_level {n:Nat} (hn:0<n) (t:Int):Level (levelM n t):=by
 obtain ⟨k,m,hk,et,e⟩:=levelM_stair hn t
 rw [e]
 exact stair_level n k m
theorem level_is {c:List Int} (h:Level c) (pos:0<c.length):levelM c.length c.sum=c:=by
 obtain ⟨k,m,hk,e⟩:=level_stair h pos
 have s:=stairM_sum c.length k m (by walk_at"q")
 rw [←e] at s
 rw [s,ceil_stair hk,←e]
theorem level_iff {c:List Int} (pos:0<c.length):Level c↔levelM c.length c.sum=c:=⟨fun h=>level_is h pos,fun e=>by rw [←e];exact levelM_level pos _⟩
def Falls (c:List Int):Prop:=∀ i,i+1<c.length→c.getD (i+1) 0≤c.getD i 0
theorem Falls.le {c:List Int} (h:Falls c):∀ {i j:Nat},i≤j→j<c.length→c.getD j 0≤c.getD i 0:=by
 intro i j hij
 induction j with
 |zero=>intro _;have:i=0:=by walk_at"q"
        subst this;exact Int.le_refl _
 |succ j ih =>
  intro hl
  by_cases e:i=j+1
  ·subst e;exact Int.le_refl _
  ·have:=ih (by walk_at"q") (by walk_at"q")
   have:=h j hl
   walk_at"q"
theorem level_falls {c:List Int} (pos:0<c.length):Level c↔Falls c∧c.getD 0 0-c.getD (c.length-1) 0≤1:=by
 constructor
 ·intro h
  exact ⟨fun i hi=>by have:=h i (i+1) (by walk_at"q") hi;walk_at"q", (h 0 (c.length-1) (by walk_at"q") (by walk_at"q")).2⟩
 ·rintro ⟨h,l⟩ i j hij hj
  have h1:=h.le hij hj
  have h2:=h.le (Nat.zero_le i) (by walk_at"q")
  have h3:=h.le (i:=j) (j:=c.length-1) (by walk_at"q") (by walk_at"q")
  walk_at"q"
end
section
inductive SpFallsP (vs:List V) (H:Hp) (Q:VK):Prop
 |mk (c:Addr) (cs:List Int) (h1:vs=[.ref c]) (h2:H c=some (.lst (cs.map V.int))) (h3:cs.length≤100) (h4:∀ (b:Bool) (H':Hp),Same H H'→(b=true↔Falls cs)→Q (.bl b) H'):SpFallsP vs H Q
def spFalls:Sp:=fun vs H Q _=>SpFallsP  vs H Q
inductive SpLevelP (vs:List V) (H:Hp) (Q:VK):Prop
 |mk (c:Addr) (cs:List Int) (h1:vs=[.ref c]) (h2:H c=some (.lst (cs.map V.int))) (h3:0<cs.length) (h4:cs.length≤100) (h5:∀ (b:Bool) (H':Hp),Same H H'→(b=true↔Level cs)→Q (.bl b) H'):SpLevelP vs H Q
def spLevel:Sp:=fun vs H Q _=>SpLevelP  vs H Q
end
end Ep
namespace Ep
open PySem L2 PySem.SeqAt
section
end
end Ep
namespace Ep
open PySem L2
section
end
end Ep
namespace Ep
open PySem L2 PySem.SeqAt
section
end
section
end
end Ep
namespace L2
open PySem PySem.Spec PyProof.Rows
section
end
section
theorem ObjOk.ex {P:Program} {w:World} {H:Hp} {h:Heap} {a:Addr} {o:HO} (x:ObjOk P w H h a o):∃ ob,h.get? a=some ob:=by
 cases o with
 |lst xs=>exact let ⟨_,_,_,_,e⟩:=x;⟨_,e⟩
 |tup xs=>exact let ⟨_,_,_,ob,e,_⟩:=x;⟨ob,e⟩
 |dK kvs=>exact let ⟨_,_,_,_,ob,_,_,e,_⟩:=x;⟨ob,e⟩
 |dT kvs=>exact let ⟨_,_,_,_,ob,_,_,e,_⟩:=x;⟨ob,e⟩
 |set S n=>exact let ⟨ob,_,_,_,e,_⟩:=x;⟨ob,e⟩
 |ins C dx fs=>exact let ⟨_,_,_,e,_⟩:=x;⟨_,e⟩
 |own y=>exact x
 |xd fs=>exact let ⟨_,⟨ob,_,_,e,_⟩,_⟩:=x;⟨ob,e⟩
 |rng lo hi=>exact let ⟨_,_,_,e⟩:=x;⟨_,e⟩
 |frz ob u=>exact ⟨ob,x.1⟩
 |tbl q=>exact match (show h.get? a=some { cls:=.none,data:=.fields #[] }∨∃ c,h.get? a=some { cls:=.none,data:=.fields #[rawInt q.2.1,rawInt q.2.2,.ref c] }∧H c=some (.own a)∧h.CodeRec (.ref c) q.1 from x) with|.inl e=>⟨_,e⟩|.inr ⟨_,e,_⟩=>⟨_,e⟩
 |met f y=>exact ⟨_,x⟩
 |ext φ=>exact x.2.1
def CX1 (P:Program) (w:World):CXT:=fun outer H s E e s'=>∃ (ea:Addr) (cls a0:Value) (B:Heap) (H':Hp),e=.ref ea∧s'.os=s.os∧AllBare s'.gens∧Un (frs outer) [] H H' s.heap s'.heap∧HOk P w H' s'.heap ∧
 Heap.FlyingW B outer ea cls a0 s'.heap∧H' ea=none∧(∀ b o,s'.heap.get? b=some o→b∉frs outer→((∃ u,s.heap.get? b=some u)∨∃ u,H' b=some u)→B.get? b=some o)∧E cls none H'
theorem Un.left {L:Addr} {fs:List Addr} {H₀ H':Hp} {g h h2:Heap} (tr:Un (L::fs) [] H₀ H' g h) (hL:∀ b o,g.get? b=some o→b≠L) (hf:∀ b∈fs,H₀ b=none)
  (k2:∀ b o,h.get? b=some o→b∉L::fs→(∃ u,g.get? b=some u)→h2.get? b=some o) (up:∀ b o,b∈fs→h.get? b=some o→∃ sl,h2.get? b=some { o with slots:=sl }):Un fs [] H₀ H' g h2:=by
 have nm:∀ {b o},g.get? b=some o→b∉fs→b∉L::fs:=fun q n z=>by
  rcases List.mem_cons.mp z with z|z
  ·exact hL _ _ q z
  ·exact n z
 refine ⟨fun b o q n hb hx=>k2 b o (tr.keep b o q n (nm q hb) hx) (nm q hb) ⟨o,q⟩,fun b o q n hb hx=>?_,tr.free,fun b o q hx=>?_,tr.tups,tr.frzs,fun b ps q=>⟨(tr.tbls b ps q).1,fun c o ec x=>let z:=(tr.tbls b ps q).2 c o ec x;⟨z.1,k2 c o z.2 (nm x fun m=>by rw [hf c m] at ec;cases ec) ⟨o,x⟩⟩⟩⟩
 ·obtain ⟨sl,e⟩:=tr.slot b o q n (List.mem_cons_of_mem _ hb) hx
  obtain ⟨sl',e'⟩:=up b _ hb e
  exact ⟨sl',e'⟩
 ·obtain ⟨o',e⟩:=tr.there b o q hx
  by_cases hb:b∈fs
  ·obtain ⟨sl,e'⟩:=up b o' hb e
   exact ⟨_,e'⟩
  ·exact ⟨o',k2 b o' e (nm q hb) ⟨o,q⟩⟩
section
variable {P:Program} {w:World} {K:PySem.W.Frag} {mg:Str→Option Value} {base:Heap} {N:List Str} {qual:Str} {scope:Scope} {f:Addr} {cd:Value} {A:Around} {outer:List Env} {s₀:Shared} {H₀:Hp} {E:XK}
 {pins:List (Addr×Obj)} {σ:St} {H:Hp} {s:Shared}
abbrev XC (P:Program) (w:World) (K:PySem.W.Frag) (mg:Str→Option Value) (base:Heap) (N:List Str) (qual:Str) (scope:Scope) (f:Addr) (cd:Value) (A:Around) (outer:List Env) (s₀:Shared) (H₀:Hp) (E:XK):Cx :=
 cxOf (CX1 P w) P w K mg base N qual scope f cd A outer s₀ H₀ E
theorem frame_mem {l:List Env} {env:Env} (he:env∈l) {b:Addr} (hb:env.frame=some b):b∈frs l:=List.mem_filterMap.mpr ⟨env,he,hb⟩
theorem Inv.notL (I:Inv (XC P w K mg base N qual scope f cd A outer s₀ H₀ E) pins σ H s):∀ b o,s₀.heap.get? b=some o→b≠s₀.heap.objs.size:=fun b o q z=>by
 have:=Heap.lt_size q
 rw [z] at this
 exact Nat.lt_irrefl _ this
theorem xe_raise (I:Inv (XC P w K mg base N qual scope f cd A outer s₀ H₀ E) pins σ H s) {h':Heap} {ea:Addr} {cls:Value} {vs:List Value} (hx:Heap.MadeExcOf s.heap h' ea cls vs) (hE:E cls none H) :
  (XC P w K mg base N qual scope f cd A outer s₀ H₀ E).xe (.ref ea) { s with heap:=h' }:=by
 have hst:=I.stack
 have hfr:=I.ok.frames
 have mem:∀ {b:Addr},b∈frs (envOfC qual scope s₀.heap.objs.size f cd::outer)↔b=s₀.heap.objs.size∨b∈frs outer:=fun {b}=>by
  show b∈s₀.heap.objs.size::frs outer↔_
  exact List.mem_cons
 refine wpAny_leaves_madeW (base:=PySem.W.hideAll s.heap (frs (envOfC qual scope s₀.heap.objs.size f cd::outer))) (h:=s.heap) (outer:=outer) hfr rfl (fun b o q=>PySem.W.of_hideAll _ q)
  (PySem.W.funFrames_hide hst (fun env he b hb=>frame_mem he hb)) hx fun h2 t fl tup bt ups=>?_
 have kB:∀ b o,s.heap.get? b=some o→b∉frs (envOfC qual scope s₀.heap.objs.size f cd::outer)→h2.get? b=some o:=fun b o q n=>fl.1 _ _ (PySem.W.hideAll_get _ q n)
 have free:=I.stkFree
 have trk:∀ b u,H b=some u→b∉frs (envOfC qual scope s₀.heap.objs.size f cd::outer):=fun b u q z=>by
  rw [free b z] at q
  cases q
 refine ⟨ea,cls,.ref t,_,H,rfl,I.os,I.bare,?_,?_,fl,?_,?_,hE⟩
 ·refine Un.left (I.base.mono (fs':=s₀.heap.objs.size::frs outer) (fun b hb=>List.mem_cons_of_mem _ hb) (fun b hb=>hb)) I.notL I.ok.frf (fun b o q n _=>kB b o q n) fun b o hb q=>?_
  obtain ⟨_,o',ho',hd⟩:=hst.mem (b:=b) (mem.mpr (.inr hb))
  rw [q] at ho'
  cases ho'
  exact ups b o (hx.keeps b o q) hd
 ·exact fun a o e=>(I.hok a o e).stay (fun b u hb q=>by
   rcases hb with rfl|hb
   ·exact kB b u q (trk b _ e)
   ·exact kB b u q (trk b _ hb)) (fun _ q=>q) fun _ _ q=>q
 ·cases e:H ea with
  |none=>rfl
  |some u =>
   obtain ⟨ob,z⟩:=(I.hok ea u e).ex
   rw [hx.new] at z
   cases z
 ·intro b o q n c
  have key:∀ ob,s.heap.get? b=some ob→b∉frs (envOfC qual scope s₀.heap.objs.size f cd::outer)→(PySem.W.hideAll s.heap (frs (envOfC qual scope s₀.heap.objs.size f cd::outer))).get? b=some o:=fun ob z nb=>by
   have:=kB b ob z nb
   rw [q] at this
   cases this
   exact PySem.W.hideAll_get _ z nb
  rcases c with ⟨u,c⟩|⟨u,c⟩
  ·obtain ⟨ob,z⟩:=I.base.there b u c (List.not_mem_nil (a:=b))
   refine key ob z fun hm=>?_
   rcases mem.mp hm with e|e
   ·exact I.notL b u c e
   ·exact n e
  ·obtain ⟨ob,z⟩:=(I.hok b u c).ex
   exact key ob z (trk b u c)
theorem pass1:Passes (CX1 P w) (XC P w K mg base N qual scope f cd A outer s₀ H₀ E) E:=by
 rintro pins σ H s e s' I ⟨ea,cls,a0,B,H',rfl,os,bare,un,hok,fl,hea,kB,hE⟩
 have hst:=I.stack
 have hfr:=I.ok.frames
 have mem:∀ {b:Addr},b∈frs (envOfC qual scope s₀.heap.objs.size f cd::outer)↔b=s₀.heap.objs.size∨b∈frs outer:=fun {b}=>by
  show b∈s₀.heap.objs.size::frs outer↔_
  exact List.mem_cons
 have free:∀ b∈frs (envOfC qual scope s₀.heap.objs.size f cd::outer),H' b=none:=fun b hb=>by
  obtain ⟨_,o,ho,_⟩:=hst.mem (b:=b) hb
  exact un.free b o ho (I.stkFree b hb) (List.not_mem_nil (a:=b))
 have trk:∀ b u,H' b=some u→b∉frs (envOfC qual scope s₀.heap.objs.size f cd::outer):=fun b u q z=>by
  rw [free b z] at q
  cases q
 have tr:Un (s₀.heap.objs.size::frs outer) [] H₀ H' s₀.heap s'.heap:=(I.base.mono (fs':=s₀.heap.objs.size::frs outer) (fun b hb=>List.mem_cons_of_mem _ hb) (fun b hb=>hb)).trans un
 refine wpAny_leaves_onW (outer:=outer) hfr rfl fl fun h2 fl' ups=>?_
 have k2:∀ b o,s'.heap.get? b=some o→b∉frs (envOfC qual scope s₀.heap.objs.size f cd::outer)→((∃ u,s.heap.get? b=some u)∨∃ u,H' b=some u)→h2.get? b=some o:=fun b o q n c=>fl'.1 _ _ (kB b o q n c)
 refine ⟨ea,cls,a0,B,H',rfl,os.trans I.os,bare,?_,?_,fl',hea,?_,hE⟩
 ·refine Un.left tr I.notL I.ok.frf (fun b o q n ⟨u,c⟩=>k2 b o q n (.inl (I.base.there b u c (List.not_mem_nil (a:=b))))) fun b o hb q=>?_
  obtain ⟨_,o',ho',hd⟩:=fl.2.2.1.mem (b:=b) (mem.mpr (.inr hb))
  rw [q] at ho'
  cases ho'
  exact ups b o q hd
 ·exact fun a o e=>(hok a o e).stay (fun b u hb q=>by
   rcases hb with rfl|hb
   ·exact k2 b u q (trk b _ e) (.inr ⟨_,e⟩)
   ·exact k2 b u q (trk b _ hb) (.inr ⟨_,hb⟩)) (fun _ q=>q) fun _ _ q=>q
 ·intro b o q n c
  have key:∀ ob,s'.heap.get? b=some ob→b∉frs (envOfC qual scope s₀.heap.objs.size f cd::outer)→((∃ u,s.heap.get? b=some u)∨∃ u,H' b=some u)→B.get? b=some o:=fun ob z nb c=>by
   have:=k2 b ob z nb c
   rw [q] at this
   cases this
   exact kB b _ z nb c
  rcases c with ⟨u,c⟩|⟨u,c⟩
  ·obtain ⟨ob,z⟩:=tr.there b u c (List.not_mem_nil (a:=b))
   refine key ob z (fun hm=>?_) (.inl (I.base.there b u c (List.not_mem_nil (a:=b))))
   rcases mem.mp hm with e|e
   ·exact I.notL b u c e
   ·exact n e
  ·obtain ⟨ob,z⟩:=(hok b u c).ex
   exact key ob z (trk b u c) (.inr ⟨u,c⟩)
end
theorem Fun.okE {P:Program} {w:World} {K:PySem.W.Frag} {mg:Str→Option Value} {base:Heap} {x qual:Str} {st:Stmt} {f:Addr} {fd:FuncData} {N ps:List Str} {k:Nat} {sp:Sp} (F:Fun K x qual st f fd) (S:FnScope N ps (defScope st)) (len:∀ vs H Q E,sp vs H Q E→vs.length=ps.length)
  (hbody:∀ (cdv:Value) (A:Around) (outer:List Env) (s:Shared) (H:Hp) (vs:List V) (Q:VK) (E:XK),Room k (A.deeper (envOfC qual (defScope st) s.heap.objs.size f cdv))→sp vs H Q E →
   ∃ t,PSs (XC P w K mg base N qual (defScope st) f cdv A outer s H E) (defBody st) t∧t { nx:=fun _ H'=>Q .non H',rt:=Q } (start N vs) H):FnOk P w K mg base (CX1 P w) (k+1) f fd ps sp:=by
 obtain ⟨oc,od,kV,doc,pm,an,cdv,ct,osl,rfl,lk,hcd⟩:=F.ex
 exact fn_of lk hcd S len fun A outer s H vs Q E hr hsp=>hbody cdv A outer s H vs Q E hr hsp
structure CalleeE (P:Program) (w:World) (K:PySem.W.Frag) (mg:Str→Option Value) (base:Heap) (x:Str) (k:Nat) (ps:List Str) (sp:Sp):Prop where
 ex:∃ (f:Addr) (fd:FuncData),FnOk P w K mg base (CX1 P w) k f fd ps sp∧Binds K fd ps []∧PySem.W.keepIn K (.ref f)=true∧mg x=some (.ref f)
theorem Here.calleeE {P:Program} {w:World} {K:PySem.W.Frag} {mg:Str→Option Value} {base:Heap} {x:Str} {st:Stmt} {f:Addr} {fd:FuncData} {k:Nat} {ps:List Str} {sp:Sp} (h:Here K mg x st f fd) (F:FnOk P w K mg base (CX1 P w) k f fd ps sp)
  (hb:∀ (kV doc pm:Value) (an:Option Addr) (cdv ct:Value) (us:List Value),us.length=ps.length→bindArgs (PySem.W.fnOf x x (defArgs st) (defBody st) (defScope st) .none kV doc pm an cdv ct) ⟨us,[]⟩=pure (ps.zip us)):CalleeE P w K mg base x k ps sp :=
 ⟨f,fd,F,h.fn.binds hb,h.fn.kp,h.at_⟩
theorem pe_callE {P:Program} {w:World} {K:PySem.W.Frag} {mg:Str→Option Value} {base:Heap} {N:List Str} {qual:Str} {scope:Scope} {f:Addr} {cd:Value} {A:Around} {outer:List Env} {s₀:Shared} {H₀:Hp} {E:XK}
  {x:Str} {k:Nat} {ps:List Str} {sp:Sp} {e:Expr} {es:List Expr} {t:TA} {p pos:Pos} (C:CalleeE P w K mg base x k ps sp) (hr:Room k (XC P w K mg base N qual scope f cd A outer s₀ H₀ E).A) (hg:Gl (XC P w K mg base N qual scope f cd A outer s₀ H₀ E) x)
  (ha:PA (XC P w K mg base N qual scope f cd A outer s₀ H₀ E) (e::es) t)
  (hdb:(x == ("__debug__" : Str))=false:=by decide) (he:starEach (e::es) (XC P w K mg base N qual scope f cd A outer s₀ H₀ E).env=(false,eval e (XC P w K mg base N qual scope f cd A outer s₀ H₀ E).env)::starEach es (XC P w K mg base N qual scope f cd A outer s₀ H₀ E).env:=by rfl)
  (hpl:(backTo pos (starEach es (XC P w K mg base N qual scope f cd A outer s₀ H₀ E).env)).any (·.1)=false:=by rfl) :
  PE (XC P w K mg base N qual scope f cd A outer s₀ H₀ E) (.Call (.Name x p) (e::es) [] pos) (tCall sp [] E t):=by
 obtain ⟨f',fd,F,hb,hk,hm⟩:=C.ex
 exact pe_call F hr hg hm hk hb .nil pass1 ha hdb he hpl
end
section
structure ExcAt (h:Heap) (C:Addr) (bmB:List Value) (newId:String):Prop where
 ex:∃ (bm:List Value) (N:Addr) (nm qn:Str) (bs:List Value) (hd:Bool) (sn:List Str) (sub:List Value) (ab:Bool) (col:Option Bool) (dd:Option Addr) (k0 k1 k2 k3 k5:Option Value) (mN:Str→Option Value),
  h.get? C=some (excClassObj nm qn C N bs bm hd sn sub ab col dd k0 k1 k2 k3 k5 newId)∧h.Ns N mN∧mN "__init__" = none∧OwnTail h bmB bm
theorem excAt_of {K:PySem.W.Frag} {h:Heap} {C:Addr} {bmB:List Value} {newId:String} (X:K.In h) (q:PySem.W.excIn K C bmB newId=true):ExcAt h C bmB newId:=by
 unfold PySem.W.excIn at q
 split at q
 case h_1 dd cd sl ho =>
  split at q
  case h_1 C' bm k0 k1 k2 k3 n k5 hm hs =>
   simp only [Bool.and_eq_true,beq_iff_eq,Bool.not_eq_true'] at q
   obtain ⟨⟨⟨⟨⟨e1,e2⟩,e3⟩,e4⟩,e5⟩,e6⟩:=q
   subst e1 e2
   cases cd with
   |mk nm bs mro ns qn hd sn sub ab col del =>
    dsimp only at hm e3 e5 e6
    subst hm e3
    have es:sl=#[k0,k1,k2,k3,some (.builtin n),k5]:=by
     cases sl with
     |mk l=>exact congrArg Array.mk hs
    subst es
    exact ⟨bm,ns,nm,qn,bs,hd,sn,sub,ab,col,dd,k0,k1,k2,k3,k5,_,X _ _ ho,.of_isNs (PySem.W.isNs_of_in X e5),PySem.W.nsMap_none_of_in X e5 e6,PySem.W.tail_of_in X e4⟩
  all_goals cases q
 all_goals cases q
section
variable {P:Program} {w:World} {K:PySem.W.Frag} {mg:Str→Option Value} {base:Heap} {N:List Str} {qual:Str} {scope:Scope} {f:Addr} {cd:Value} {A:Around} {outer:List Env} {s₀:Shared} {H₀:Hp} {E:XK}
abbrev veB:List Value:=[.type "ValueError", .type "Exception", .type "BaseException", .type "object"]
theorem ps_raise {x:Str} {C:Addr} {e:Expr} {ta:TA} {np cpos pos:Pos} (hq:PySem.W.excIn K C veB "ValueError.__new__" = true) (hg:Gl (XC P w K mg base N qual scope f cd A outer s₀ H₀ E) x) (hm:mg x=some (.ref C))
  (ha:PA (XC P w K mg base N qual scope f cd A outer s₀ H₀ E) [e] ta) (hd:(x == ("__debug__" : Str))=false:=by decide)
  (he:starEach [e] (XC P w K mg base N qual scope f cd A outer s₀ H₀ E).env=[(false,eval e (XC P w K mg base N qual scope f cd A outer s₀ H₀ E).env)]:=by rfl) :
  PS (XC P w K mg base N qual scope f cd A outer s₀ H₀ E) (.Raise (some (.Call (.Name x np) [e] [] cpos)) none pos) (fun _ σ H=>ta σ H fun vs H1=>vs.length≤1000∧E (.ref C) none H1):=by
 intro pins s σ H D I h
 obtain ⟨bm,N',nm,qn,bs,hdc,sn,sub,ab,col,dd,k0,k1,k2,k3,k5,mN,hC,hN,hni,T⟩:=(excAt_of I.ok.mod.kin hq).ex
 refine wpAny_Raise_call_subT (C:=C) (nm:=nm) (q:=qn) (N:=N') (bs:=bs) (bm:=bm) (hdct:=hdc) (sn:=sn) (sub:=sub) (ab:=ab) (col:=col) (dd:=dd) (k0:=k0) (k1:=k1) (k2:=k2) (k3:=k3) (k5:=k5)
  PySem.F.excBase_ValueError (mN:=mN) (T.hasType PySem.F.excBase_ValueError.hasBase) (I.ok.hd rfl) (by rw [he];rfl) hni (ld_glob I hg hm ⟨rfl,?_⟩ hd)
 have hA:=ha cpos pins s σ H _ I h
 rw [he] at hA ⊢
 refine Calls.evalArgs_plain (thn hA fun us s1 ⟨vs,H1,I1,r,l,q⟩=>⟨rfl,?_,I1.bk _ _ hC,hN.keeps I1.bk,T.keeps I1.bk,fun h' ea hx=>xe_raise I1 hx q⟩)
 rw [←r.length]
 exact Nat.le_of_lt (small1000 l)
end
end
end L2
namespace L2
open PySem PySem.Spec PyProof.Rows PySem.W Builtin Builtin.ObjectAttr Builtin.Getset_descriptor
section
end
end L2
namespace L2
open PySem PySem.Spec PyProof.Rows
section
section
variable {X:Cx}
def clV:V→Option Value
 |.ref a=>some (.ref a)
 |.ty n=>some (.type n)
 |_=>none
theorem clV_rel {c:V} {u t:Value} (e:clV c=some t) (r:RelV c u):u=t:=by
 cases c with
 |ref a=>cases e;exact r
 |ty n=>cases e;exact r
 |_=>cases e
def clVs:List V→Option (List Value)
 |[]=>some []
 |c::r=>match clV c,clVs r with
  |some t,some ts=>some (t::ts)
  |_,_=>none
theorem clVs_rel:∀ {cs:List V} {us ts:List Value},clVs cs=some ts→Vals cs us→us=ts
 |[],_,_,e,.nil=>by cases e;rfl
 |c::r,_,_,e,.cons h1 h2=>by
  unfold clVs at e
  split at e
  case h_1 t ts e1 e2 =>
   cases e
   rw [clV_rel e1 h1,clVs_rel e2 h2]
  case h_2=>cases e
end
end
section
variable {X:Cx}
inductive P_call_rng2 (K:PySem.W.Frag) (xs:List V) (H:Hp) (Q:VK):Prop
 |mk (i j:Int) (h1:xs=[.int i,.int j]) (h2:∀ r,H r=none→Q (.ref r) (upd H r (.rng i j))):P_call_rng2 K xs H Q
theorem call_rng2:CallR X (.type "range") (P_call_rng2 X.K):=by
 intro pins s σ H xs us Q I r h
 obtain ⟨i,j,rfl,q⟩:=h
 obtain ⟨u,v,rfl,⟨t,rfl⟩,⟨t',rfl⟩⟩:=vals2 r
 refine call_range_2 ⟨.ref s.heap.objs.size,_,I.laid (t':=s.toks+1) (o:=.rng i j) (fun b o e=>Heap.get?_push_of_some _ e) (Nat.le_refl _) ⟨_,_,_,Heap.get?_push_size _ rfl⟩,rfl,q _ (I.hok.fresh (Nat.le_refl _))⟩
inductive P_call_rng1 (K:PySem.W.Frag) (xs:List V) (H:Hp) (Q:VK):Prop
 |mk (j:Int) (h1:xs=[.int j]) (h2:∀ r,H r=none→Q (.ref r) (upd H r (.rng 0 j))):P_call_rng1 K xs H Q
theorem call_rng1:CallR X (.type "range") (P_call_rng1 X.K):=by
 intro pins s σ H xs us Q I r h
 obtain ⟨j,rfl,q⟩:=h
 obtain ⟨u,rfl,⟨t,rfl⟩⟩:=vals1 r
 refine call_range_1 ⟨.ref s.heap.objs.size,_,I.laid (t':=s.toks+1+1) (o:=.rng 0 j) (fun b o e=>Heap.get?_push_of_some _ e) (Nat.le_refl _) ⟨_,_,_,Heap.get?_push_size _ rfl⟩,rfl,q _ (I.hok.fresh (Nat.le_refl _))⟩
theorem vals_from (i:Int):∀ (l:List Value) (k:Nat),(∀ (j:Nat) (v:Value),l[j]?=some v→∃ t,v=.int (i+((k+j:Nat):Int)) t)→Vals ((List.range' k l.length).map fun m:Nat=>V.int (i+(m:Int))) l
 |[],_,_=>.nil
 |v::r,k,h=>by
  rw [List.length_cons,List.range'_succ,List.map_cons]
  refine .cons ?_ (vals_from i r (k+1) fun j u e=>?_)
  ·obtain ⟨t,e⟩:=h 0 v rfl
   exact ⟨t,e⟩
  ·obtain ⟨t,e'⟩:=h (j+1) u (by simpa using e)
   exact ⟨t,by rw [e'];congr 3;walk_at"q"⟩
def rngL (i j:Int):List Int:=(List.range (j-i).toNat).map fun k:Nat=>i+(k:Int)
inductive P_call_listRng (K:PySem.W.Frag) (xs:List V) (H:Hp) (Q:VK):Prop
 |mk (r:Addr) (i j:Int) (h1:xs=[.ref r]) (h2:H r=some (.rng i j)) (h3:-(2 ^ 62)≤i) (h4:i<2 ^ 62) (h5:-(2 ^ 62)≤j) (h6:j<2 ^ 62) (h7:(j-i).toNat≤50000) (h8:∀ l,H l=none→Q (.ref l) (upd H l (.lst ((rngL i j).map V.int)))):P_call_listRng K xs H Q
theorem call_listRng (hc:X.calm=true):CallR X (.type "list") (P_call_listRng X.K):=by
 intro pins s σ H xs us Q I r h
 obtain ⟨p,i,j,rfl,hp,i1,i2,j1,j2,hl,q⟩:=h
 obtain ⟨u,rfl,ru⟩:=vals1 r
 cases ru
 obtain ⟨t,u',v,e⟩:=(show ObjOk X.prog X.w H s.heap p (.rng i j) from I.hok p _ hp)
 have hn:Builtin.Range.rangeSize i j 1=((j-i).toNat:Nat):=by rw [rangeSize_one];split<;>walk_at"q"
 refine call_list_range (I.ok.hd hc) e (small_one i1 i2 j1 j2) hn (by walk_at"q") fun h' tk acc c' hk hS ⟨hs,hv⟩=>?_
 have hvals:Vals ((rngL i j).map V.int) acc.toList:=by
  have z:=vals_from i acc.toList 0 fun k v e=>by
   obtain ⟨t,e'⟩:=hv k v (by simpa using e)
   exact ⟨t,by rw [e',Int.mul_one,Nat.zero_add]⟩
  have hl':acc.toList.length=(j-i).toNat:=by rw [Array.length_toList,hs]
  rw [hl',←List.range_eq_range'] at z
  unfold rngL
  rw [List.map_map]
  exact z
 refine ⟨.ref s.heap.objs.size,_,I.laid (t':=tk) (o:=.lst ((rngL i j).map V.int)) hk (Nat.le_refl _) ⟨?_,acc.toList,c',hvals,?_⟩,rfl,q _ (I.hok.fresh (Nat.le_refl _))⟩
 ·simp only [rngL,List.length_map,List.length_range]
  exact lenLine (by walk_at"q")
 ·rw [Array.toArray_toList]
  exact hS
theorem pe_gint {x:Str} {i:Int} {pos:Pos} (hg:Gl X x) (h:∃ t,X.mg x=some (.int i t)) (hd:(x == ("__debug__" : Str))=false:=by decide):PE X (.Name x pos) (tC (.int i)):=by
 obtain ⟨t,h⟩:=h
 exact pe_glob hg h ⟨t,rfl⟩ hd
end
section
variable {X:Cx}
theorem boot_rangeT:bootBuiltins "range" = some (.type "range"):=by decide +kernel
theorem pi_or {tg e:Expr} {w1 w2:TI} (h1:PI X tg e w1) (h2:PI X tg e w2):PI X tg e (fun σ H R=>w1 σ H R∨w2 σ H R):=fun pins s σ H R I h=>h.elim (h1 pins s σ H R I) (h2 pins s σ H R I)
end
end L2
namespace Ep
open PySem L2 PySem.SeqAt
section
end
end Ep
namespace L2
open PySem PySem.Spec PyProof.Rows
section
end
end L2
namespace L2
open PySem PySem.Spec PyProof.Rows PyProof.V PySem.SeqAt
section
end
end L2
namespace Ep
open PySem L2 PySem.SeqAt PySem.Spec PyProof.Rows
section
end
end Ep
namespace L2
open PySem PySem.Spec PyProof.Rows
section
end
section
def n2 (a b:Int):Nat:=((b-a+1) / 2).toNat
section
variable {X:Cx} {tg:Expr}
inductive P_call_isLT (K:PySem.W.Frag) (xs:List V) (H:Hp) (Q:VK):Prop
 |mk (a:_) (tp:_) (ys:_) (cs:_) (ts:_) (b:_) (h1:xs=[.ref a,.ref tp]) (h2:H a=some (.lst ys)) (h3:H tp=some (.tup cs)) (h4:clVs cs=some ts) (h5:PySem.W.kitAny K (.type "list") ts=some b) (h6:Q (.bl b) H):P_call_isLT K xs H Q
theorem call_isLT:CallR X (.builtin "isinstance") (P_call_isLT X.K):=by
 intro pins s σ H xs us Q I r h
 obtain ⟨a,tp,ys,cs,ts,b,rfl,he,ht,hc,e,q⟩:=h
 obtain ⟨u,v,rfl,ru,rv⟩:=r.two
 cases ru
 cases rv
 obtain ⟨_,_,n,_,h1⟩:=(show ObjOk X.prog X.w H s.heap a (.lst ys) from I.hok a _ he)
 obtain ⟨its,rv,pl,_⟩:=I.tuple (SqT.of (K:=X.K) ht)
 obtain ⟨o,ho,hcl,n,hd⟩:=(show s.heap.IsTuple tp its.toArray from pl)
 cases clVs_rel hc rv
 cases o with
 |mk oc od oda osl =>
  cases hcl
  cases hd
  exact PySem.W.kia_tup PySem.W.kitx_list I.kIn ⟨_,h1,rfl⟩ ho e (fun z=>nomatch z) fun tk=>⟨.bl b,H,I.tok tk,rfl,q⟩
end
end
end L2
namespace Ep
open PySem L2 PySem.SeqAt
section
def wokB (wide:Int) (ws:List (Int×Int)):Bool:=ws.all fun w=>decide (0≤w.1∧w.1<wide∧0≤w.2∧w.2<wide∧w.1≠w.2)
theorem wok_of {wide:Int} {ws:List (Int×Int)} (h:wokB wide ws=true):WOk wide ws:=fun w hw=>by
 have:=List.all_eq_true.mp h w hw
 exact of_decide_eq_true this
structure NoNetT (K:PySem.W.Frag) (mg:Str→Option Value) (a:Addr):Prop where
 q_NoNet:PySem.W.excIn K a veB "ValueError.__new__" = true
 at_NoNet:mg "NoNet" = some (.ref a)
inductive SpIsWicketP (vs:List V) (H:Hp) (Q:VK):Prop
 |mk (wide:Int) (t:Addr) (w:Int×Int) (h1:vs=[.int wide,.ref t]) (h2:H t=some (.tup [.int w.1,.int w.2])) (h3:(0≤w.1∧w.1<wide∧0≤w.2∧w.2<wide∧w.1≠w.2)) (h4:Q (.bl true) H):SpIsWicketP vs H Q
def spIsWicket:Sp:=fun vs H Q _=>SpIsWicketP  vs H Q
inductive SpMakesP (vs:List V) (H:Hp) (Q:VK):Prop
 |mk (wide:Int) (l:Addr) (ws:List (Int×Int)) (h1:vs=[.int wide,.ref l]) (h2:WsL H l ws) (h3:1≤wide) (h4:wide≤8) (h5:WOk wide ws) (h6:ws.length≤40) (h7:∀ H',Same H H'→Q (.bl true) H'):SpMakesP vs H Q
def spMakes:Sp:=fun vs H Q _=>SpMakesP  vs H Q
inductive SpNetOfP (vs:List V) (H:Hp) (Q:VK):Prop
 |mk (wide:Int) (l:Addr) (ws:List (Int×Int)) (h1:vs=[.int wide,.ref l]) (h2:WsL H l ws) (h3:1≤wide) (h4:wide≤8) (h5:WOk wide ws) (h6:ws.length≤40) (h7:∀ (v:V) (H':Hp),Same H H'→Net H' v wide ws→Q v H'):SpNetOfP vs H Q
def spNetOf:Sp:=fun vs H Q _=>SpNetOfP  vs H Q
end
end Ep
namespace L2
open PySem
section
theorem FnOk.down {P:Program} {w:World} {K:PySem.W.Frag} {mg:Str→Option Value} {base:Heap} {k:Nat} {f:Addr} {fd:FuncData} {ps:List Str} {sp:Sp} (F:FnOk P w K mg base (CX1 P w) k f fd ps sp) (h:∀ vs H Q E,sp vs H Q E→sp vs H Q fun _ _ _=>False):FnOk P w K mg base CX0 k f fd ps sp :=
 ⟨F.len,fun A outer s H args us vs Q E hr e0 hb r hs=>codeAny_mono (F.run A outer s H args us vs Q (fun _ _ _=>False) hr e0 hb r (h _ _ _ _ hs)) fun res s' q=>by
  cases res with
  |ok fl=>cases fl with
   |ret u=>exact q
   |next=>exact q
   |brk=>exact q
   |cont=>exact q
  |error e =>
   obtain ⟨_,_,_,_,_,_,_,_,_,_,_,_,_,z⟩:=q
   exact z.elim⟩
end
end L2
namespace Ep
open PySem L2 PySem.SeqAt
section
end
end Ep
namespace L2
open PySem PySem.Spec PyProof.Rows
section
end
end L2
namespace Ep
open PySem L2 PySem.SeqAt
section
theorem thru_app (c:List Int) (us ws:List (Int×Int)):thruM c (us++ws)=thruM (thruM c us) ws:=by
 unfold thruM
 rw [List.foldl_append]
theorem let_left {a:Int} {c d:List Int} (hl:c.length=a.toNat) {w:Int×Int} (h:LaneOk a w):letM (c++d) w=letM c w++d:=by
 obtain ⟨h1,h2,h3,h4,h5⟩:=h
 have g:∀ x:Nat,x<c.length→(c++d).getD x 0=c.getD x 0:=fun x hx=>by
  simp only [List.getD]
  rw [List.getElem?_append_left hx]
 unfold letM both
 rw [g _ (by walk_at"q"),g _ (by walk_at"q"),List.set_append_left _ _ (by walk_at"q"),List.set_append_left _ _ (by rw [List.length_set];walk_at"q")]
theorem let_right {a:Int} {c d:List Int} (h0:0≤a) (hl:c.length=a.toNat) {w:Int×Int} (h1:0≤w.1) (h3:0≤w.2):letM (c++d) (lift a w)=c++letM d w:=by
 have g:∀ x:Nat,(c++d).getD (c.length+x) 0=d.getD x 0:=fun x=>by
  simp only [List.getD]
  rw [List.getElem?_append_right (by walk_at"q")]
  simp
 have e1:(w.1+a).toNat=c.length+w.1.toNat:=by walk_at"q"
 have e2:(w.2+a).toNat=c.length+w.2.toNat:=by walk_at"q"
 unfold letM both lift
 simp only []
 rw [e1,e2,g,g,List.set_append_right _ _ (by walk_at"q"),List.set_append_right _ _ (by walk_at"q")]
 simp
theorem thru_left {a:Int} {d:List Int} (us:List (Int×Int)):∀ c:List Int,c.length=a.toNat→WOk a us→thruM (c++d) us=thruM c us++d:=by
 induction us with
 |nil=>intro c _ _;rfl
 |cons w r ih =>
  intro c hl ok
  have e:=let_left (d:=d) hl (ok w (.head _))
  have:=ih (letM c w) (by unfold letM;rw [List.length_set,List.length_set];exact hl) fun u hu=>ok u (.tail _ hu)
  unfold thruM at *
  rw [List.foldl_cons,List.foldl_cons,e]
  exact this
theorem thru_right {a b:Int} (h0:0≤a) {c:List Int} (hl:c.length=a.toNat) (ws:List (Int×Int)):∀ d:List Int,WOk b ws→thruM (c++d) (ws.map (lift a))=c++thruM d ws:=by
 induction ws with
 |nil=>intro d _;rfl
 |cons w r ih =>
  intro d ok
  have o:=ok w (.head _)
  have e:=let_right (d:=d) h0 hl o.1 o.2.2.1
  have:=ih (letM d w) fun u hu=>ok u (.tail _ hu)
  unfold thruM at *
  rw [List.map_cons,List.foldl_cons,List.foldl_cons,e]
  exact this
theorem thru_beside {a b:Int} (h0:0≤a) {c d:List Int} (hc:c.length=a.toNat) {us ws:List (Int×Int)} (ok1:WOk a us) (ok2:WOk b ws) :
  thruM (c++d) (us++ws.map (lift a))=thruM c us++thruM d ws∧thruM (c++d) (ws.map (lift a)++us)=thruM c us++thruM d ws:=by
 constructor
 ·rw [thru_app,thru_left us c hc ok1,thru_right h0 (by rw [thruM_len];exact hc) ws d ok2]
 ·rw [thru_app,thru_right h0 hc ws d ok2,thru_left us c hc ok1]
end
section
end
section
end
section
end
section
end
section
end
section
end
end Ep
namespace L2
open PySem PySem.Spec PyProof.Rows
section
variable {X:Cx}
end
end L2
namespace Ep
open PySem L2 PySem.SeqAt
section
end
end Ep
namespace L2
open PySem PySem.Spec PyProof.Rows
section
section
variable {X:Cx}
inductive P_call_isST (K:PySem.W.Frag) (xs:List V) (H:Hp) (Q:VK):Prop
 |mk (a:_) (tp:_) (ys:_) (cs:_) (ts:_) (b:_) (h1:xs=[.ref a,.ref tp]) (h2:((H a=some (.lst ys)∧PySem.W.kitAny K (.type "list") ts=some b)∨(H a=some (.tup ys)∧PySem.W.kitAny K (.type "tuple") ts=some b))) (h3:H tp=some (.tup cs)) (h4:clVs cs=some ts) (h5:Q (.bl b) H):P_call_isST K xs H Q
theorem call_isST:CallR X (.builtin "isinstance") (P_call_isST X.K):=by
 intro pins s σ H xs us Q I r h
 obtain ⟨a,tp,ys,cs,ts,b,rfl,he,ht,hc,q⟩:=h
 rcases he with ⟨he,e⟩|⟨he,e⟩
 ·exact call_isLT pins s σ H _ us Q I r ⟨a,tp,ys,cs,ts,b,rfl,he,ht,hc,e,q⟩
 ·obtain ⟨u,v,rfl,ru,rv⟩:=r.two
  cases ru
  cases rv
  obtain ⟨its0,_,p0,_⟩:=I.tuple (SqT.of (K:=X.K) he)
  obtain ⟨o0,ho0,hc0,_⟩:=(show s.heap.IsTuple a its0.toArray from p0)
  obtain ⟨its,rv,pl,_⟩:=I.tuple (SqT.of (K:=X.K) ht)
  obtain ⟨o,ho,hcl,n,hd⟩:=(show s.heap.IsTuple tp its.toArray from pl)
  cases clVs_rel hc rv
  cases o with
  |mk oc od oda osl =>
   cases hcl
   cases hd
   exact PySem.W.kia_tup PySem.W.kitx_tuple I.kIn ⟨_,ho0,hc0⟩ ho e (fun z=>nomatch z) fun tk=>⟨.bl b,H,I.tok tk,rfl,q⟩
theorem ip_fdiv:PIp X .FloorDiv (rI CDiv fun i j=>.int (i / j)):=iop_fdiv
end
end
end L2
namespace Ep
open PySem L2 PySem.SeqAt
section
def pw (k:Nat):Int:=((2 ^ k:Nat):Int)
theorem pw_succ (k:Nat):pw (k+1)=2*pw k:=by unfold pw;rw [Nat.pow_succ];walk_at"q"
theorem pw_pos (k:Nat):1≤pw k:=by
 have:0<2 ^ k:=Nat.pow_pos (by decide)
 unfold pw
 walk_at"q"
theorem pw_le {k:Nat} (h:k≤3):pw k≤8:=by
 have:k=0∨k=1∨k=2∨k=3:=by walk_at"q"
 rcases this with z|z|z|z<;>subst z<;>decide
def acrossM (wide:Int):List (Int×Int):=(List.range (wide / 2).toNat).map fun k:Nat=>((k:Int),wide-1-(k:Int))
def blkM:Nat→List (Int×Int)
 |0=>[]
 |k+1=>acrossM (pw (k+1))++(blkM k++(blkM k).map (lift (pw k)))
def rndM (k:Nat):List (Int×Int):=(List.replicate k (blkM k)).flatten
theorem blk_len {k:Nat} (h:k≤3):(blkM k).length≤12:=by
 have:k=0∨k=1∨k=2∨k=3:=by walk_at"q"
 rcases this with z|z|z|z<;>subst z<;>decide
theorem rnd_all {k:Nat} (h:k≤3):WOk (pw k) (rndM k)∧(rndM k).length≤40:=by
 have:k=0∨k=1∨k=2∨k=3:=by walk_at"q"
 rcases this with z|z|z|z<;>subst z<;>exact ⟨wok_of (by decide),by decide⟩
inductive Odd (H:Hp):V→Prop
 |bl (b:Bool):Odd H (.bl b)
 |non:Odd H .non
 |str (s:Str):Odd H (.str s)
 |lst {a:Addr} {xs:List V} (h:H a=some (.lst xs)):Odd H (.ref a)
 |tup {a:Addr} {xs:List V} (h:H a=some (.tup xs)):Odd H (.ref a)
 |dct {a:Addr} {kvs:List (Key×V)} (h:H a=some (.dK kvs)):Odd H (.ref a)
def halved (i:Int):Prop:=i=1∨i=2∨i=4∨i=8
instance (i:Int):Decidable (halved i):=inferInstanceAs (Decidable (i=1∨i=2∨i=4∨i=8))
structure HalvT (K:PySem.W.Frag) (mg:Str→Option Value):Prop where
 ex:∃ (a:Addr),mg "HALVED_WIDES" = some (.ref a)∧∀ H:Hp,SqT K H a [.int 1,.int 2,.int 4,.int 8]
inductive SpWholeGP (vs:List V) (H:Hp) (Q:VK):Prop
 |mk (x:_) (h1:vs=[x]) (h2:((∃ i,x=.int i∧Q (.bl true) H)∨(Odd H x∧Q (.bl false) H))):SpWholeGP vs H Q
def spWholeG:Sp:=fun vs H Q _=>SpWholeGP  vs H Q
theorem whole_of (vs:List V) (H:Hp) (Q:VK) (E:XK) (h:spIsWhole vs H Q E):spWholeG vs H Q E:=by
 obtain ⟨i,rfl,q⟩:=h
 exact ⟨_,rfl,.inl ⟨i,rfl,q⟩⟩
def SqW (H:Hp) (l:Addr) (ws:List (Int×Int)):Prop:=∃ rs,(H l=some (.lst rs)∨H l=some (.tup rs))∧Refs H rs ws
inductive SpAreWGP (vs:List V) (H:Hp) (Q:VK):Prop
 |mk (wide:Int) (l:Addr) (ws:List (Int×Int)) (h1:vs=[.int wide,.ref l]) (h2:SqW H l ws) (h3:WOk wide ws) (h4:ws.length≤40) (h5:∀ H',Same H H'→Q (.bl true) H'):SpAreWGP vs H Q
def spAreWG:Sp:=fun vs H Q _=>SpAreWGP  vs H Q
inductive SpMakesGP (vs:List V) (H:Hp) (Q:VK):Prop
 |mk (wide:Int) (l:Addr) (ws:List (Int×Int)) (h1:vs=[.int wide,.ref l]) (h2:SqW H l ws) (h3:1≤wide) (h4:wide≤8) (h5:WOk wide ws) (h6:ws.length≤40) (h7:∀ H',Same H H'→Q (.bl true) H'):SpMakesGP vs H Q
def spMakesG:Sp:=fun vs H Q _=>SpMakesGP  vs H Q
theorem makes_of (vs:List V) (H:Hp) (Q:VK) (E:XK) (h:spMakes vs H Q E):spMakesG vs H Q E:=by
 obtain ⟨wide,l,ws,rfl,⟨rs,hl,hr⟩,r1,r2,r3,r4,r5⟩:=h
 exact ⟨wide,l,ws,rfl,⟨rs,.inl hl,hr⟩,r1,r2,r3,r4,r5⟩
inductive SpRefuseP (an:Addr) (vs:List V) (H:Hp) (Q:VK) (E:XK):Prop
 |mk (x:_) (h1:vs=[x]) (h2:((∃ i,x=.int i∧halved i∧Q .non H)∨((Odd H x∨∃ i,x=.int i∧¬ halved i)∧E (.ref an) none H))):SpRefuseP an vs H Q E
def spRefuse (an:Addr):Sp:=fun vs H Q E=>SpRefuseP an vs H Q E
inductive SpHalvesP (vs:List V) (H:Hp) (Q:VK):Prop
 |mk (l:Addr) (ws:List (Int×Int)) (k:Int) (h1:vs=[.ref l,.int k]) (h2:WsL H l ws) (h3:ws.length≤100) (h4:∀ (a:Addr) (H':Hp),H a=none→Same H H'→WsL H' a (ws++ws.map (lift k))→Q (.ref a) H'):SpHalvesP vs H Q
def spHalves:Sp:=fun vs H Q _=>SpHalvesP  vs H Q
inductive SpAcrossP (vs:List V) (H:Hp) (Q:VK):Prop
 |mk (wide:Int) (h1:vs=[.int wide]) (h2:1≤wide) (h3:wide≤8) (h4:∀ (a:Addr) (H':Hp),H a=none→Same H H'→WsL H' a (acrossM wide)→Q (.ref a) H'):SpAcrossP vs H Q
def spAcross:Sp:=fun vs H Q _=>SpAcrossP  vs H Q
inductive SpBlkP (n:Nat) (vs:List V) (H:Hp) (Q:VK):Prop
 |mk (k:Nat) (h1:vs=[.int (pw k)]) (h2:k<n) (h3:k≤3) (h4:∀ (a:Addr) (H':Hp),H a=none→Same H H'→WsL H' a (blkM k)→Q (.ref a) H'):SpBlkP n vs H Q
def spBlk (n:Nat):Sp:=fun vs H Q _=>SpBlkP n vs H Q
def spRoundsG (an:Addr):Sp:=fun vs H Q E=>(∃ (k:Nat),vs=[.int (pw k)]∧k≤3∧∀ (v:V) (H':Hp),Same H H'→Net H' v (pw k) (rndM k)→Q v H')∨(∃ x,vs=[x]∧(Odd H x∨∃ i,x=.int i∧¬ halved i)∧E (.ref an) none H)
inductive SpRoundsNP (vs:List V) (H:Hp) (Q:VK):Prop
 |mk (k:Nat) (h1:vs=[.int (pw k)]) (h2:k≤3) (h3:∀ (v:V) (H':Hp),Same H H'→Net H' v (pw k) (rndM k)→Q v H'):SpRoundsNP vs H Q
def spRoundsN:Sp:=fun vs H Q _=>SpRoundsNP  vs H Q
theorem rounds_n {an:Addr} (vs:List V) (H:Hp) (Q:VK) (E:XK) (h:spRoundsN vs H Q E):spRoundsG an vs H Q E:=by
 obtain ⟨k,e,l,q⟩:=h
 exact .inl ⟨k,e,l,q⟩
end
end Ep
namespace L2
open PySem PySem.Spec PyProof.Rows
section
section
variable {X:Cx}
end
end
end L2
namespace Ep
open PySem L2 PySem.SeqAt
section
inductive SpNetNP (vs:List V) (H:Hp) (Q:VK):Prop
 |mk (wide:Int) (l:Addr) (ws:List (Int×Int)) (h1:vs=[.int wide,.ref l]) (h2:SqW H l ws) (h3:1≤wide) (h4:wide≤8) (h5:WOk wide ws) (h6:ws.length≤40) (h7:∀ (v:V) (H':Hp),Same H H'→Net H' v wide ws→Q v H'):SpNetNP vs H Q
def spNetN:Sp:=fun vs H Q _=>SpNetNP  vs H Q
end
end Ep
namespace L2
open PySem PySem.Spec PyProof.Rows
section
end
end L2
namespace Ep
open PySem L2 PySem.SeqAt
section
end
end Ep
namespace L2
open PySem PySem.Spec PyProof.Rows
section
section
variable {κ:Type} [DecidableEq κ]
def valV (kvs:List (κ×V)) (k:κ):Option V:=(kvs.find? fun kv=>decide (kv.1=k)).map (·.2)
def putK (kvs:List (κ×V)) (k:κ) (v:V):List (κ×V) :=
 if (kvs.any fun kv=>decide (kv.1=k))=true then kvs.map (fun kv=>if kv.1=k then (kv.1,v) else kv) else kvs++[(k,v)]
theorem valV_pos {p:κ×V} {r:List (κ×V)} {k:κ} (e:p.1=k):valV (p::r) k=some p.2:=by simp [valV,List.find?_cons,e]
theorem valV_neg {p:κ×V} {r:List (κ×V)} {k:κ} (e:¬ p.1=k):valV (p::r) k=valV r k:=by simp [valV,List.find?_cons,e]
theorem valV_any (k:κ):∀ kvs:List (κ×V),(kvs.any fun kv=>decide (kv.1=k))=(valV kvs k).isSome
 |[]=>rfl
 |p::r=>by
  rw [List.any_cons]
  by_cases e:p.1=k
  ·simp only [valV_pos e,decide_eq_true e,Bool.true_or,Option.isSome_some]
  ·rw [valV_neg e,decide_eq_false e,Bool.false_or];exact valV_any k r
theorem length_putK (kvs:List (κ×V)) (k:κ) (v:V):(putK kvs k v).length≤kvs.length+1:=by
 unfold putK
 split
 ·rw [List.length_map];walk_at"q"
 ·rw [List.length_append,List.length_cons,List.length_nil];walk_at"q"
theorem putK_new {kvs:List (κ×V)} {k:κ} (v:V) (h:valV kvs k=none):putK kvs k v=kvs++[(k,v)]:=by
 unfold putK
 rw [valV_any,h]
 exact if_neg (by decide)
theorem RelO.isSome_eq {o:Option V} {u:Option Value} (r:RelO o u):o.isSome=u.isSome:=by
 cases o with
 |none=>cases u with
  |none=>rfl
  |some _=>exact (show False from r).elim
 |some _=>cases u with
  |none=>exact (show False from r).elim
  |some _=>rfl
theorem KV.val {kvs:List (κ×V)} {vs:List (κ×Value)} (r:KV kvs vs) (k:κ):RelO (valV kvs k) (valueAt vs k):=by
 unfold KV at r
 induction r with
 |nil=>exact True.intro
 |@cons p q ps qs h t ih =>
  obtain ⟨h1,h2⟩:=h
  by_cases e:p.1=k
  ·have e':q.1=k:=h1.symm.trans e
   have b:valueAt (q::qs) k=some q.2:=by simp [valueAt,List.find?_cons,e']
   rw [valV_pos e,b];exact h2
  ·have e':¬ q.1=k:=fun z=>e (h1.trans z)
   have b:valueAt (q::qs) k=valueAt qs k:=by simp [valueAt,List.find?_cons,e']
   rw [valV_neg e,b];exact ih
theorem KV.any {kvs:List (κ×V)} {vs:List (κ×Value)} (r:KV kvs vs) (k:κ):(kvs.any fun kv=>decide (kv.1=k))=vs.any fun kv=>decide (kv.1=k):=by
 unfold KV at r
 induction r with
 |nil=>rfl
 |cons h t ih=>rw [List.any_cons,List.any_cons,ih,h.1]
theorem KV.repl {kvs:List (κ×V)} {vs:List (κ×Value)} (r:KV kvs vs) (k:κ) {y:V} {u:Value} (ry:RelV y u) :
  KV (kvs.map fun kv=>if kv.1=k then (kv.1,y) else kv) (vs.map fun kv=>if kv.1=k then (kv.1,u) else kv):=by
 unfold KV at r ⊢
 induction r with
 |nil=>exact .nil
 |@cons p q ps qs h t ih =>
  rw [List.map_cons,List.map_cons]
  refine .cons ?_ ih
  obtain ⟨h1,h2⟩:=h
  by_cases e:p.1=k
  ·rw [if_pos e,if_pos (h1.symm.trans e)];exact ⟨h1,ry⟩
  ·rw [if_neg e,if_neg (fun z=>e (h1.trans z))];exact ⟨h1,h2⟩
theorem KV.put {kvs:List (κ×V)} {vs:List (κ×Value)} (r:KV kvs vs) (k:κ) {y:V} {u:Value} (ry:RelV y u):KV (putK kvs k y) (stored vs k u):=by
 unfold putK stored
 rw [r.any k]
 by_cases e:(vs.any fun kv=>decide (kv.1=k))=true
 ·rw [if_pos e,if_pos e];exact r.repl k ry
 ·rw [if_neg e,if_neg e];exact Paired.snoc r ⟨rfl,ry⟩
theorem KV.length {kvs:List (κ×V)} {vs:List (κ×Value)} (r:KV kvs vs):kvs.length=vs.length:=Paired.length r
end
theorem kV_is {P:Program} {w:World} {k:Key} {u:Value} (r:RelV (kV k) u):(mixKind P w).is k u=true:=by
 cases k with
 |inl i=>obtain ⟨t,e⟩:=(show ∃ t,u=Value.int i t from r);subst e;exact mixKind_int P w i t
 |inr x=>obtain ⟨t,e⟩:=(show ∃ t,u=Value.str x t from r);subst e;exact mixKind_str P w x t
theorem items_are {P:Program} {w:World}:∀ {ks:List Key} {us:List Value},Vals (ks.map kV) us→ItemsAre (mixKind P w) ks us
 |[],_,r=>by rw [List.map_nil] at r;cases r;exact .nil
 |k::ks,_,r=>by
  rw [List.map_cons] at r
  cases r with
  |cons h t=>exact .cons (kV_is h) (items_are t)
abbrev KT (H:Hp):List (List Key×V)→List (List Key×Addr×Value)→Prop:=Paired fun p q=>p.1=q.1∧H q.2.1=some (.tup (p.1.map kV))∧RelV p.2 q.2.2
theorem KT.val {H:Hp} {kvs:List (List Key×V)} {xs:List (List Key×Addr×Value)} (r:KT H kvs xs) (k:List Key):RelO (valV kvs k) ((atKey xs k).map (·.2)):=by
 induction r with
 |nil=>exact True.intro
 |@cons p q ps qs h t ih =>
  obtain ⟨h1,_,h2⟩:=h
  by_cases e:p.1=k
  ·have e':q.1=k:=h1.symm.trans e
   have b:atKey (q::qs) k=some q.2:=by simp [atKey,List.find?_cons,e']
   rw [valV_pos e,b];exact h2
  ·have e':¬ q.1=k:=fun z=>e (h1.trans z)
   have b:atKey (q::qs) k=atKey qs k:=by simp [atKey,List.find?_cons,e']
   rw [valV_neg e,b];exact ih
theorem KT.repl {H:Hp} {kvs:List (List Key×V)} {xs:List (List Key×Addr×Value)} (r:KT H kvs xs) (k:List Key) {y:V} {u:Value} (ry:RelV y u) :
  KT H (kvs.map fun kv=>if kv.1=k then (kv.1,y) else kv) (xs.map (putAt k u)):=by
 induction r with
 |nil=>exact .nil
 |@cons p q ps qs h t ih =>
  rw [List.map_cons,List.map_cons]
  refine .cons ?_ ih
  obtain ⟨h1,h2,h3⟩:=h
  unfold putAt
  by_cases e:p.1=k
  ·rw [if_pos e,if_pos (h1.symm.trans e)];exact ⟨h1,h2,ry⟩
  ·rw [if_neg e,if_neg (fun z=>e (h1.trans z))];exact ⟨h1,h2,h3⟩
theorem KT.put {H:Hp} {kvs:List (List Key×V)} {xs:List (List Key×Addr×Value)} (r:KT H kvs xs) (k:List Key) {b:Addr} {y:V} {u:Value} (hb:H b=some (.tup (k.map kV))) (ry:RelV y u) :
  KT H (putK kvs k y) (storedH xs k b u):=by
 have e:(kvs.any fun kv=>decide (kv.1=k))=(atKey xs k).isSome:=by
  rw [valV_any,(r.val k).isSome_eq,Option.isSome_map]
 unfold putK storedH
 rw [e]
 by_cases q:(atKey xs k).isSome=true
 ·rw [if_pos q,if_pos q];exact r.repl k ry
 ·rw [if_neg q,if_neg q];exact Paired.snoc r ⟨rfl,hb,ry⟩
theorem KT.keeps {H H':Hp} {kvs:List (List Key×V)} {xs:List (List Key×Addr×Value)} (r:KT H kvs xs) (ht:∀ b ys,H b=some (.tup ys)→H' b=some (.tup ys)):KT H' kvs xs :=
 Paired.mapP r fun _ _ z=>⟨z.1,ht _ _ z.2.1,z.2.2⟩
section
variable {P:Program} {w:World} {H:Hp} {h:Heap} {a:Addr}
theorem rd_of {u:HO} (ok:HOk P w H h) (e:Rd H a u):ObjOk P w H h a u:=e.ok ok
theorem dk_rd {kvs:List (Key×V)} (ok:HOk P w H h) (e:Rd H a (.dK kvs)):kvs.length≤sizeLine∧(a == sysModules)=false∧∃ vs,KV kvs vs∧h.DictOf (mixKind P w) a vs :=
 show ObjOk P w H h a (.dK kvs) from rd_of ok e
theorem dk_of {kvs:List (Key×V)} (ok:HOk P w H h) (e:H a=some (.dK kvs)):kvs.length≤sizeLine∧(a == sysModules)=false∧∃ vs,KV kvs vs∧h.DictOf (mixKind P w) a vs:=dk_rd ok (.inl e)
theorem key_of {ks:List Key} (ok:HOk P w H h) (e:H a=some (.tup (ks.map kV))):(tupleKind (mixKind P w)).is h ks a:=by
 obtain ⟨_,its,r,o,h1,h2,n,h3,_⟩:=(show ObjOk P w H h a (.tup (ks.map kV)) from ok a _ e)
 exact ⟨o,its.toArray,n,h1,h2,h3,by simpa using items_are r⟩
theorem dt_rd {kvs:List (List Key×V)} (ok:HOk P w H h) (e:Rd H a (.dT kvs)):kvs.length≤sizeLine∧(a == sysModules)=false ∧
  ∃ xs,KT H kvs xs∧h.DictOfH (tupleKind (mixKind P w)) a xs:=by
 obtain ⟨z,y,xs,r,o,es,ep,h1,h2,h3,h4,h5⟩:=(show ObjOk P w H h a (.dT kvs) from rd_of ok e)
 refine ⟨z,y,xs,r,o,es,ep,h1,h2,h3,h4,fun x hx=>?_,h5⟩
 have all:∀ {l:List (List Key×V)} {m:List (List Key×Addr×Value)},KT H l m→∀ x∈m,(tupleKind (mixKind P w)).is h x.1 x.2.1:=by
  intro l m q
  induction q with
  |nil=>intro x hx;exact nomatch hx
  |@cons p q ps qs hq t ih =>
   intro x hx
   rcases List.mem_cons.mp hx with e|hx
   ·subst e
    exact key_of ok (by rw [←hq.1];exact hq.2.1)
   ·exact ih x hx
 exact all r x hx
theorem dt_of {kvs:List (List Key×V)} (ok:HOk P w H h) (e:H a=some (.dT kvs)):kvs.length≤sizeLine∧(a == sysModules)=false ∧
  ∃ xs,KT H kvs xs∧h.DictOfH (tupleKind (mixKind P w)) a xs:=dt_rd ok (.inl e)
end
def DGet (H:Hp) (a:Addr) (y:V) (r:Option V):Prop :=
 (∃ kvs k,Rd H a (.dK kvs)∧y=kV k∧r=valV kvs k)∨∃ kvs k b,Rd H a (.dT kvs)∧y=.ref b∧H b=some (.tup (k.map kV))∧r=valV kvs k
def DPut (H:Hp) (a:Addr) (y v:V) (H':Hp):Prop :=
 (∃ kvs k,H a=some (.dK kvs)∧y=kV k∧kvs.length<sizeLine∧H'=upd H a (.dK (putK kvs k v))) ∨
 ∃ kvs k b,H a=some (.dT kvs)∧y=.ref b∧H b=some (.tup (k.map kV))∧kvs.length<sizeLine∧H'=upd H a (.dT (putK kvs k v))
theorem DGet.k {H:Hp} {a:Addr} {kvs:List (Key×V)} {k:Key} (e:H a=some (.dK kvs)):DGet H a (kV k) (valV kvs k):=.inl ⟨kvs,k,.inl e,rfl,rfl⟩
theorem DPut.k {H:Hp} {a:Addr} {kvs:List (Key×V)} {k:Key} {v:V} (e:H a=some (.dK kvs)) (hl:kvs.length<sizeLine):DPut H a (kV k) v (upd H a (.dK (putK kvs k v))):=.inl ⟨kvs,k,e,rfl,hl,rfl⟩
section
variable {X:Cx} {pins:List (Addr×Obj)} {σ:St} {H:Hp} {s:Shared} {a:Addr} {y v:V} {u r:Value} {o:Option V} {A:Around} {E:Value→Shared→Prop}
theorem Inv.big (I:Inv X pins σ H s):sysModules<s.heap.objs.size:=by
 have h:mainGlobals<s.heap.objs.size:=(I.mod.glob.keeps I.bk).lt
 exact Nat.lt_trans (by decide) h
theorem d_notIn {Q:Value→Shared→Prop} (hu:A.units+1<cLine) (I:Inv X pins σ H s) (g:DGet H a y o) (ry:RelV y u) (h:∀ s',Inv X pins σ H s'→Q (.bool (!o.isSome)) s') :
  wpAny (model X.prog X.w) A (compareOp .NotIn u (.ref a)) Q E s:=by
 rcases g with ⟨kvs,k,e,ey,l⟩|⟨kvs,k,b,e,ey,eb,l⟩
 ·subst ey
  obtain ⟨z,hd,vs,rel,dd⟩:=dk_rd I.hok e
  refine wpAny_notIn_of (kV_is ry) hd dd.mapOf ?_
  rw [←(rel.val k).isSome_eq,←l]
  exact h _ (I.tok _)
 ·subst ey
  cases (show u=Value.ref b from ry)
  obtain ⟨z,hd,xs,rel,dd⟩:=dt_rd I.hok e
  refine wpAny_notIn_heap (tupleKind_room_in1 hu) (key_of I.hok eb) hd dd ?_
  have q:=(rel.val k).isSome_eq
  rw [Option.isSome_map] at q
  rw [←q,←l]
  exact h _ (I.tok _)
theorem d_write {h':Heap} {t':Nat} {ob:HO} (I:Inv X pins σ H s) (mu:Mut (H a)) (hs:Heap.SameBut a s.heap h') (he:∃ q,h'.get? a=some q) (new:ObjOk X.prog X.w (upd H a ob) h' a ob) :
  Inv X pins σ (upd H a ob) { s with heap:=h',toks:=t' } :=
 I.write (x:=a) (e:=a) mu (.inl rfl) (fun b q hb z=>(hs.2 b hb).trans z) he new
theorem dk_new {P:Program} {w:World} {H':Hp} {h':Heap} {kvs:List (Key×V)} {vs:List (Key×Value)} (z:kvs.length≤sizeLine) (hd:(a == sysModules)=false) (rel:KV kvs vs) (dd:h'.DictOf (mixKind P w) a vs) :
  ObjOk P w H' h' a (.dK kvs):=⟨z,hd,vs,rel,dd⟩
theorem d_setItem {H':Hp} {Q:Unit→Shared→Prop} (hu:A.units+1<cLine) (I:Inv X pins σ H s) (g:DPut H a y v H') (ry:RelV y u) (rv:RelV v r) (h:∀ s',Inv X pins σ H' s'→Q () s') :
  wpAny (model X.prog X.w) A (setItem (.ref a) u r) Q E s:=by
 rcases g with ⟨kvs,k,e,ey,l,eH⟩|⟨kvs,k,b,e,ey,eb,l,eH⟩
 ·subst ey eH
  obtain ⟨z,hd,vs,rel,dd⟩:=dk_of I.hok e
  have hz:vs.length≤sizeLine:=by rw [←rel.length];exact z
  have hl:(putK kvs k v).length≤sizeLine:=by have:=length_putK kvs k v;walk_at"q"
  refine wpAny_setItem_pairs (hsz:=hz) (kV_is ry) dd fun h' dd' hs=>h _ ?_
  have he:∃ q,h'.get? a=some q:=let ⟨q,_,_,hq,_⟩:=dd';⟨q,hq⟩
  exact d_write I (by rw [e];exact True.intro) hs he (dk_new hl hd (rel.put k rv) dd')
 ·subst ey eH
  cases (show u=Value.ref b from ry)
  obtain ⟨z,hd,xs,rel,dd⟩:=dt_of I.hok e
  have hz:xs.length≤sizeLine:=by rw [←Paired.length rel];exact z
  have hl:(putK kvs k v).length≤sizeLine:=by have:=length_putK kvs k v;walk_at"q"
  refine wpAny_setItem_heap (hsz:=hz) (tupleKind_room_in1 hu) (key_of I.hok eb) dd fun h' dd' hs=>h _ ?_
  obtain ⟨q,es,ep,hq,h2,h3,h4,_,h5⟩:=dd'
  refine d_write I (by rw [e];exact True.intro) hs ⟨q,hq⟩ ⟨hl,hd,_,(rel.put k eb rv).keeps fun c ys ec=>?_,q,es,ep,hq,h2,h3,h4,h5⟩
  rw [upd_ne (ne_of ec e (fun z=>nomatch z))]
  exact ec
end
section
variable {X:Cx} {pins:List (Addr×Obj)} {σ:St} {H:Hp} {s:Shared} {a:Addr} {kvs:List (Key×V)} {k:Key} {u:Value} {A:Around} {E:Value→Shared→Prop}
theorem d_len {Q:Value→Shared→Prop} (I:Inv X pins σ H s) (e:Rd H a (.dK kvs)) (h:∀ t s',Inv X pins σ H s'→Q (.int kvs.length t) s'):wpAny (model X.prog X.w) A (call (.builtin "len") [.ref a]) Q E s:=by
 obtain ⟨z,hd,vs,rel,dd⟩:=dk_rd I.hok e
 refine call_len_dict hd dd (by rw [←rel.length];rw [sizeLine_eq] at z;walk_at"q") ?_
 rw [←rel.length]
 exact h _ _ (I.tok _)
end
def tDNotIn (ty td:TE):TE:=fun σ H Q=>ty σ H fun y H1=>td σ H1 fun x H2=>∃ a o,x=.ref a∧DGet H2 a y o∧Q (.bl (!o.isSome)) H2
def sDPut (td ty tv:TE):TS:=fun D σ H=>tv σ H fun v H1=>td σ H1 fun x H2=>ty σ H2 fun y H3=>∃ a H4,x=.ref a∧DPut H3 a y v H4∧D.nx σ H4
section
variable {X:Cx} {o i e value:Expr} {pos pos' tpos:Pos} {td ty tv:TE}
theorem pc_dnotin (hu:X.A.units+1<cLine) (hi:PE X i ty) (ho:PE X o td):PC X .NotIn i o (tDNotIn ty td):=by
 intro pins s σ H Q I h
 refine thn (hi pins s σ H _ I h) fun iv s1 ⟨y,H1,I1,ry,q1⟩=>thn (ho pins s1 σ H1 _ I1 q1) fun u s2 ⟨x,H2,I2,rx,a,ov,ex,g,q2⟩=>?_
 subst ex
 obtain rfl:u=Value.ref a:=rx
 exact d_notIn hu I2 g ry fun s3 I3=>⟨.bl (!ov.isSome),H2,I3,rfl,q2⟩
theorem ps_dput (hu:X.A.units+1<cLine) (ho:PE X o td) (hi:PE X i ty) (hv:PE X value tv) (hs:swapsWith value (some (.Subscript o i pos')) pos.line X.env=pure false) :
  PS X (.Assign [.Subscript o i pos'] value pos) (sDPut td ty tv):=by
 intro pins s σ H D I h
 refine wpAny_Assign_Subscript (thn (hv pins s σ H _ I h) fun r s1 ⟨v,H1,I1,rv,q1⟩=>thn (ho pins s1 σ H1 _ I1 q1) fun u s2 ⟨x,H2,I2,rx,q2⟩=>thn (hi pins s2 σ H2 _ I2 q2) fun iv s3 ⟨y,H3,I3,ry,a,H4,ex,g,q3⟩=>?_) hs
 subst ex
 obtain rfl:u=Value.ref a:=rx
 exact d_setItem hu I3 g ry rv fun s4 I4=>⟨σ,H4,I4,q3⟩
end
theorem dk_empty {P:Program} {w:World} {H:Hp} (h:Heap) (hb:sysModules<h.objs.size):ObjOk P w H (h.push { cls:=.type "dict", data:=.dict #[] }) h.objs.size (.dK []) :=
 ⟨Nat.zero_le _,beq_eq_false_iff_ne.mpr (Ne.symm (Nat.ne_of_lt hb)),[],.nil,Heap.DictOf.new h⟩
def tDNewK:TE:=fun _ H Q=>∀ p,H p=none→Q (.ref p) (upd H p (.dK []))
section
variable {X:Cx} {pos:Pos}
theorem pe_dnewK:PE X (.Dict [] [] pos) tDNewK:=fun pins s σ H Q I h =>
 wpAny_Dict_empty ⟨.ref s.heap.objs.size,_,I.laid (a:=s.heap.objs.size) (o:=.dK []) (t':=s.toks) (fun _ _ q=>Heap.get?_push_of_some _ q) (Nat.le_refl _) (dk_empty s.heap I.big),rfl,h _ (I.hok.fresh (Nat.le_refl _))⟩
end
structure M1 (X:Cx) (o:Expr) (m:Str) (apos:Pos) (e:Expr) (cpos:Pos):Prop where
 base:attributeBase o m X.env (eval o X.env)=eval o X.env
 few:((backTo cpos (starEach [e] X.env)).all (fun x=>!x.1) && (backToKw cpos (keywordEach [] X.env)).all (fun x=>x.1.isSome)
  && decide (([e]:List Expr).length+([]:List Keyword).length+(if ([]:List Keyword).isEmpty then 0 else 1)<30))=true
 line:(apos.endLine == cpos.line)=true
 trees:backTo cpos (starEach [e] X.env)=[(false,eval e X.env)]
structure M2 (X:Cx) (o:Expr) (m:Str) (apos:Pos) (e f:Expr) (cpos:Pos):Prop where
 base:attributeBase o m X.env (eval o X.env)=eval o X.env
 few:((backTo cpos (starEach [e,f] X.env)).all (fun x=>!x.1) && (backToKw cpos (keywordEach [] X.env)).all (fun x=>x.1.isSome)
  && decide (([e,f]:List Expr).length+([]:List Keyword).length+(if ([]:List Keyword).isEmpty then 0 else 1)<30))=true
 line:(apos.endLine == cpos.line)=true
 trees:backTo cpos (starEach [e,f] X.env)=[(false,eval e X.env),(false,eval f X.env)]
end
end L2
namespace Ep
open PySem L2 PySem.SeqAt
section
def shM (q:Int) (c:List Int):List Int:=c.map fun x=>x+q
theorem sh_len (q:Int) (c:List Int):(shM q c).length=c.length:=by simp [shM]
theorem sh_getD {q:Int} {c:List Int} {x:Nat} (h:x<c.length):(shM q c).getD x 0=c.getD x 0+q:=by simp [shM,List.getD,h]
theorem let_sh {wide q:Int} {c:List Int} (hl:c.length=wide.toNat) {w:Int×Int} (h:LaneOk wide w):letM (shM q c) w=shM q (letM c w):=by
 obtain ⟨o1,o2,o3,o4,o5⟩:=h
 have b:both (shM q c) w=both c w+2*q:=by unfold both;rw [sh_getD (by walk_at"q"),sh_getD (by walk_at"q")];walk_at"q"
 unfold letM
 rw [b]
 have e1:(both c w+2*q+1) / 2=(both c w+1) / 2+q:=by walk_at"q"
 have e2:(both c w+2*q) / 2=both c w / 2+q:=by walk_at"q"
 rw [e1,e2]
 unfold shM
 rw [List.map_set,List.map_set]
theorem thru_sh {wide q:Int} (ws:List (Int×Int)):∀ c:List Int,c.length=wide.toNat→WOk wide ws→thruM (shM q c) ws=shM q (thruM c ws):=by
 induction ws with
 |nil=>intro c _ _;rfl
 |cons w r ih =>
  intro c hl ok
  have e:=let_sh (q:=q) hl (ok w (.head _))
  have:=ih (letM c w) (by unfold letM;rw [List.length_set,List.length_set];exact hl) fun u hu=>ok u (.tail _ hu)
  unfold thruM at *
  rw [List.foldl_cons,List.foldl_cons,e]
  exact this
theorem level_sh {q:Int} {c:List Int} (h:Level c):Level (shM q c):=fun i j hij hj=>by
 rw [sh_len] at hj
 rw [sh_getD (by walk_at"q"),sh_getD hj]
 have:=h i j hij hj
 walk_at"q"
theorem list8:∀ c:List Int,c.length=8→∃ c0 c1 c2 c3 c4 c5 c6 c7,c=[c0,c1,c2,c3,c4,c5,c6,c7]
 |[c0,c1,c2,c3,c4,c5,c6,c7],_=>⟨c0,c1,c2,c3,c4,c5,c6,c7,rfl⟩
theorem list4:∀ c:List Int,c.length=4→∃ c0 c1 c2 c3,c=[c0,c1,c2,c3]
 |[c0,c1,c2,c3],_=>⟨c0,c1,c2,c3,rfl⟩
theorem list2:∀ c:List Int,c.length=2→∃ c0 c1,c=[c0,c1]
 |[c0,c1],_=>⟨c0,c1,rfl⟩
def pr8 (a b c d:Int):List Int:=[(a+1) / 2,a / 2,(b+1) / 2,b / 2,(c+1) / 2,c / 2,(d+1) / 2,d / 2]
def pr4 (a b:Int):List Int:=[(a+1) / 2,a / 2,(b+1) / 2,b / 2]
theorem t07 (c0 c1 c2 c3 c4 c5 c6 c7:Int):letM [c0,c1,c2,c3,c4,c5,c6,c7] (0,7)=[(c0+c7+1) / 2,c1,c2,c3,c4,c5,c6,(c0+c7) / 2]:=rfl
theorem t16 (c0 c1 c2 c3 c4 c5 c6 c7:Int):letM [c0,c1,c2,c3,c4,c5,c6,c7] (1,6)=[c0,(c1+c6+1) / 2,c2,c3,c4,c5,(c1+c6) / 2,c7]:=rfl
theorem t25 (c0 c1 c2 c3 c4 c5 c6 c7:Int):letM [c0,c1,c2,c3,c4,c5,c6,c7] (2,5)=[c0,c1,(c2+c5+1) / 2,c3,c4,(c2+c5) / 2,c6,c7]:=rfl
theorem t34 (c0 c1 c2 c3 c4 c5 c6 c7:Int):letM [c0,c1,c2,c3,c4,c5,c6,c7] (3,4)=[c0,c1,c2,(c3+c4+1) / 2,(c3+c4) / 2,c5,c6,c7]:=rfl
theorem t03 (c0 c1 c2 c3 c4 c5 c6 c7:Int):letM [c0,c1,c2,c3,c4,c5,c6,c7] (0,3)=[(c0+c3+1) / 2,c1,c2,(c0+c3) / 2,c4,c5,c6,c7]:=rfl
theorem t12 (c0 c1 c2 c3 c4 c5 c6 c7:Int):letM [c0,c1,c2,c3,c4,c5,c6,c7] (1,2)=[c0,(c1+c2+1) / 2,(c1+c2) / 2,c3,c4,c5,c6,c7]:=rfl
theorem t01 (c0 c1 c2 c3 c4 c5 c6 c7:Int):letM [c0,c1,c2,c3,c4,c5,c6,c7] (0,1)=[(c0+c1+1) / 2,(c0+c1) / 2,c2,c3,c4,c5,c6,c7]:=rfl
theorem t23 (c0 c1 c2 c3 c4 c5 c6 c7:Int):letM [c0,c1,c2,c3,c4,c5,c6,c7] (2,3)=[c0,c1,(c2+c3+1) / 2,(c2+c3) / 2,c4,c5,c6,c7]:=rfl
theorem t47 (c0 c1 c2 c3 c4 c5 c6 c7:Int):letM [c0,c1,c2,c3,c4,c5,c6,c7] (4,7)=[c0,c1,c2,c3,(c4+c7+1) / 2,c5,c6,(c4+c7) / 2]:=rfl
theorem t56 (c0 c1 c2 c3 c4 c5 c6 c7:Int):letM [c0,c1,c2,c3,c4,c5,c6,c7] (5,6)=[c0,c1,c2,c3,c4,(c5+c6+1) / 2,(c5+c6) / 2,c7]:=rfl
theorem t45 (c0 c1 c2 c3 c4 c5 c6 c7:Int):letM [c0,c1,c2,c3,c4,c5,c6,c7] (4,5)=[c0,c1,c2,c3,(c4+c5+1) / 2,(c4+c5) / 2,c6,c7]:=rfl
theorem t67 (c0 c1 c2 c3 c4 c5 c6 c7:Int):letM [c0,c1,c2,c3,c4,c5,c6,c7] (6,7)=[c0,c1,c2,c3,c4,c5,(c6+c7+1) / 2,(c6+c7) / 2]:=rfl
theorem u03 (c0 c1 c2 c3:Int):letM [c0,c1,c2,c3] (0,3)=[(c0+c3+1) / 2,c1,c2,(c0+c3) / 2]:=rfl
theorem u12 (c0 c1 c2 c3:Int):letM [c0,c1,c2,c3] (1,2)=[c0,(c1+c2+1) / 2,(c1+c2) / 2,c3]:=rfl
theorem u01 (c0 c1 c2 c3:Int):letM [c0,c1,c2,c3] (0,1)=[(c0+c1+1) / 2,(c0+c1) / 2,c2,c3]:=rfl
theorem u23 (c0 c1 c2 c3:Int):letM [c0,c1,c2,c3] (2,3)=[c0,c1,(c2+c3+1) / 2,(c2+c3) / 2]:=rfl
theorem eb8:blkM 3=[(0,7),(1,6),(2,5),(3,4),(0,3),(1,2),(0,1),(2,3),(4,7),(5,6),(4,5),(6,7)]:=by decide
theorem eb4:blkM 2=[(0,3),(1,2),(0,1),(2,3)]:=by decide
theorem blk8 (c0 c1 c2 c3 c4 c5 c6 c7:Int):∃ q a b c d:Int,0≤a∧a≤5∧0≤b∧b≤5∧0≤c∧c≤5∧0≤d∧d≤5∧thruM [c0,c1,c2,c3,c4,c5,c6,c7] (blkM 3)=shM q (pr8 a b c d):=by
 have e:thruM [c0,c1,c2,c3,c4,c5,c6,c7] (blkM 3)=pr8 ((((c0+c7+1) / 2+(c3+c4+1) / 2+1) / 2)+(((c1+c6+1) / 2+(c2+c5+1) / 2+1) / 2)) ((((c1+c6+1) / 2+(c2+c5+1) / 2) / 2)+(((c0+c7+1) / 2+(c3+c4+1) / 2) / 2))
   (((((c3+c4) / 2+(c0+c7) / 2)+1) / 2)+((((c2+c5) / 2+(c1+c6) / 2)+1) / 2)) ((((c2+c5) / 2+(c1+c6) / 2) / 2)+(((c3+c4) / 2+(c0+c7) / 2) / 2)):=by
  rw [eb8]
  simp only [thruM,List.foldl_cons,List.foldl_nil]
  rw [t07,t16,t25,t34,t03,t12,t01,t23,t47,t56,t45,t67]
  rfl
 rw [e]
 have half:∀ t:Int,0≤(t+1) / 2-t / 2∧(t+1) / 2-t / 2≤1:=fun t=>by walk_at"q"
 have two:∀ x y:Int,0≤x-y→x-y≤2→0≤x / 2-y / 2∧(x+1) / 2-y / 2≤2∧0≤(y+1) / 2-y / 2∧(y+1) / 2-y / 2≤1∧0≤(x+1) / 2-x / 2:=fun x y h1 h2=>by walk_at"q"
 have h0:=half (c0+c7)
 have h1:=half (c1+c6)
 have h2:=half (c2+c5)
 have h3:=half (c3+c4)
 clear e half
 generalize (c0+c7+1) / 2=a0 at *
 generalize (c0+c7) / 2=b0 at *
 generalize (c1+c6+1) / 2=a1 at *
 generalize (c1+c6) / 2=b1 at *
 generalize (c2+c5+1) / 2=a2 at *
 generalize (c2+c5) / 2=b2 at *
 generalize (c3+c4+1) / 2=a3 at *
 generalize (c3+c4) / 2=b3 at *
 have z1:=two (a0+a3) (b3+b0) (by walk_at"q") (by walk_at"q")
 have z2:=two (a1+a2) (b2+b1) (by walk_at"q") (by walk_at"q")
 clear two h0 h1 h2 h3
 generalize (a0+a3+1) / 2=s1 at *
 generalize (a0+a3) / 2=s0 at *
 generalize (b3+b0+1) / 2=r1 at *
 generalize (b3+b0) / 2=r0 at *
 generalize (a1+a2+1) / 2=p1 at *
 generalize (a1+a2) / 2=p0 at *
 generalize (b2+b1+1) / 2=q1 at *
 generalize (b2+b1) / 2=q0 at *
 have base:∀ v:Int,0≤v-2*(v / 2)∧v-2*(v / 2)≤1:=fun v=>by walk_at"q"
 have bv:=base (q0+r0)
 have eq2:∀ x k:Int,(x-2*k+1) / 2+k=(x+1) / 2∧(x-2*k) / 2+k=x / 2:=fun x k=>by walk_at"q"
 refine ⟨(q0+r0) / 2,s1+p1-2*((q0+r0) / 2),p0+s0-2*((q0+r0) / 2),r1+q1-2*((q0+r0) / 2),q0+r0-2*((q0+r0) / 2),?_⟩
 generalize (q0+r0) / 2=k at bv ⊢
 refine ⟨by walk_at"q", by walk_at"q", by walk_at"q", by walk_at"q", by walk_at"q", by walk_at"q", by walk_at"q", by walk_at"q", ?_⟩
 unfold shM pr8
 simp only [List.map_cons,List.map_nil]
 rw [(eq2 _ k).1,(eq2 _ k).2,(eq2 _ k).1,(eq2 _ k).2,(eq2 _ k).1,(eq2 _ k).2,(eq2 _ k).1,(eq2 _ k).2]
theorem blk4 (c0 c1 c2 c3:Int):∃ q a b:Int,0≤a∧a≤5∧0≤b∧b≤5∧thruM [c0,c1,c2,c3] (blkM 2)=shM q (pr4 a b):=by
 have e:thruM [c0,c1,c2,c3] (blkM 2)=pr4 ((c0+c3+1) / 2+(c1+c2+1) / 2) ((c1+c2) / 2+(c0+c3) / 2):=by
  rw [eb4]
  simp only [thruM,List.foldl_cons,List.foldl_nil]
  rw [u03,u12,u01,u23]
  rfl
 rw [e]
 have half:∀ t:Int,0≤(t+1) / 2-t / 2∧(t+1) / 2-t / 2≤1:=fun t=>by walk_at"q"
 have h0:=half (c0+c3)
 have h1:=half (c1+c2)
 clear e half
 generalize (c0+c3+1) / 2=a0 at *
 generalize (c0+c3) / 2=b0 at *
 generalize (c1+c2+1) / 2=a1 at *
 generalize (c1+c2) / 2=b1 at *
 have base:∀ v:Int,0≤v-2*(v / 2)∧v-2*(v / 2)≤1:=fun v=>by walk_at"q"
 have bv:=base (b1+b0)
 have eq2:∀ x k:Int,(x-2*k+1) / 2+k=(x+1) / 2∧(x-2*k) / 2+k=x / 2:=fun x k=>by walk_at"q"
 refine ⟨(b1+b0) / 2,a0+a1-2*((b1+b0) / 2),b1+b0-2*((b1+b0) / 2),?_⟩
 generalize (b1+b0) / 2=k at bv ⊢
 refine ⟨by walk_at"q", by walk_at"q", by walk_at"q", by walk_at"q", ?_⟩
 unfold shM pr4
 simp only [List.map_cons,List.map_nil]
 rw [(eq2 _ k).1,(eq2 _ k).2,(eq2 _ k).1,(eq2 _ k).2]
def lvB (c:List Int):Bool:=decide (levelM c.length c.sum=c)
theorem lvB_level {c:List Int} (pos:0<c.length) (h:lvB c=true):Level c:=(level_iff pos).mpr (of_decide_eq_true h)
theorem fin4:∀ a b:Fin 6,lvB (thruM (pr4 a.val b.val) (blkM 2))=true:=by decide +kernel
theorem fin8_0:∀ b c d:Fin 6,lvB (thruM (pr8 0 b.val c.val d.val) (blkM 3++blkM 3))=true:=by decide +kernel
theorem fin8_1:∀ b c d:Fin 6,lvB (thruM (pr8 1 b.val c.val d.val) (blkM 3++blkM 3))=true:=by decide +kernel
theorem fin8_2:∀ b c d:Fin 6,lvB (thruM (pr8 2 b.val c.val d.val) (blkM 3++blkM 3))=true:=by decide +kernel
theorem fin8_3:∀ b c d:Fin 6,lvB (thruM (pr8 3 b.val c.val d.val) (blkM 3++blkM 3))=true:=by decide +kernel
theorem fin8_4:∀ b c d:Fin 6,lvB (thruM (pr8 4 b.val c.val d.val) (blkM 3++blkM 3))=true:=by decide +kernel
theorem fin8_5:∀ b c d:Fin 6,lvB (thruM (pr8 5 b.val c.val d.val) (blkM 3++blkM 3))=true:=by decide +kernel
theorem fin8 (a b c d:Fin 6):lvB (thruM (pr8 a.val b.val c.val d.val) (blkM 3++blkM 3))=true:=by
 obtain ⟨a,ha⟩:=a
 have:a=0∨a=1∨a=2∨a=3∨a=4∨a=5:=by walk_at"q"
 rcases this with z|z|z|z|z|z<;>subst z
 ·exact fin8_0 b c d
 ·exact fin8_1 b c d
 ·exact fin8_2 b c d
 ·exact fin8_3 b c d
 ·exact fin8_4 b c d
 ·exact fin8_5 b c d
theorem toFin {x:Int} (h0:0≤x) (h5:x≤5):∃ f:Fin 6,x=(f.val:Int):=⟨⟨x.toNat,by walk_at"q"⟩,by show x=((x.toNat:Nat):Int);walk_at"q"⟩
theorem wb8:WOk 8 (blkM 3):=wok_of (by decide)
theorem wb4:WOk 4 (blkM 2):=wok_of (by decide)
theorem rounds_level {k:Nat} (h1:1≤k) (h3:k≤3) {c:List Int} (hl:c.length=(pw k).toNat):Level (thruM c (rndM k)):=by
 have kc:k=1∨k=2∨k=3:=by walk_at"q"
 rcases kc with z|z|z<;>subst z
 ·obtain ⟨c0,c1,rfl⟩:=list2 c hl
  have e:thruM [c0,c1] (rndM 1)=[(c0+c1+1) / 2,(c0+c1) / 2]:=rfl
  rw [e]
  refine (level_iff (c:=[(c0+c1+1) / 2,(c0+c1) / 2]) (Nat.zero_lt_succ _)).mpr ?_
  show levelM 2 ([(c0+c1+1) / 2,(c0+c1) / 2].sum)=_
  unfold levelM
  simp only [List.sum_cons,List.sum_nil,List.range,List.range.loop,List.map_cons,List.map_nil,List.cons.injEq,and_true]
  constructor<;>walk_at"q"
 ·obtain ⟨c0,c1,c2,c3,rfl⟩:=list4 c hl
  have e:rndM 2=blkM 2++blkM 2:=by decide
  obtain ⟨q,a,b,a0,a5,b0,b5,z⟩:=blk4 c0 c1 c2 c3
  obtain ⟨fa,rfl⟩:=toFin a0 a5
  obtain ⟨fb,rfl⟩:=toFin b0 b5
  rw [e,thru_app,z,thru_sh (wide:=4) _ _ rfl wb4]
  exact level_sh (lvB_level (by rw [thruM_len];exact Nat.zero_lt_succ _) (fin4 fa fb))
 ·obtain ⟨c0,c1,c2,c3,c4,c5,c6,c7,rfl⟩:=list8 c hl
  have e:rndM 3=blkM 3++(blkM 3++blkM 3):=by decide
  obtain ⟨q,a,b,c,d,a0,a5,b0,b5,d0,d5,e0,e5,z⟩:=blk8 c0 c1 c2 c3 c4 c5 c6 c7
  obtain ⟨fa,rfl⟩:=toFin a0 a5
  obtain ⟨fb,rfl⟩:=toFin b0 b5
  obtain ⟨fc,rfl⟩:=toFin d0 d5
  obtain ⟨fd,rfl⟩:=toFin e0 e5
  rw [e,thru_app,z,thru_sh (wide:=8) _ _ rfl (wb8.app wb8)]
  exact level_sh (lvB_level (by rw [thruM_len];exact Nat.zero_lt_succ _) (fin8 fa fb fc fd))
end
section
def gapL (wide gap:Int):List (Int×Int):=((List.range wide.toNat).filter fun k:Nat=>decide ((k:Int) / gap % 2=0)).map fun k:Nat=>((k:Int),(k:Int)+gap)
def gapsM:Nat→Int→List (Int×Int)
 |0,_=>[]
 |j+1,wide=>gapL wide (pw j)++gapsM j wide
def foldM:Nat→List (Int×Int)
 |0=>[]
 |k+1=>(foldM k++(foldM k).map (lift (pw k)))++acrossM (pw (k+1))++gapsM k (pw (k+1))
theorem fold_all {k:Nat} (h:k≤3):WOk (pw k) (foldM k)∧(foldM k).length≤24:=by
 have:k=0∨k=1∨k=2∨k=3:=by walk_at"q"
 rcases this with z|z|z|z<;>subst z<;>exact ⟨wok_of (by decide),by decide⟩
theorem level_shift {n:Nat} (hn:0<n) (p r:Int):levelM n ((n:Int)*p+r)=shM p (levelM n r):=by
 unfold levelM shM
 rw [List.map_map]
 refine List.map_congr_left fun i _=>?_
 show -(((0:Int)+(i:Int)-((n:Int)*p+r)) / (n:Int))=-(((0:Int)+(i:Int)-r) / (n:Int))+p
 have e:(0:Int)+(i:Int)-((n:Int)*p+r)=(0+(i:Int)-r)+(n:Int)*(-p):=by
  rw [Int.mul_neg];walk_at"q"
 rw [e,Int.add_mul_ediv_left _ _ (by walk_at"q")]
 walk_at"q"
theorem ac8 {c0 c1 c2 c3 c4 c5 c6 c7 e0 e1 e2 e3 e4 e5 e6 e7:Int} (h0:c0+c7=e0+e7) (h1:c1+c6=e1+e6) (h2:c2+c5=e2+e5) (h3:c3+c4=e3+e4) :
  thruM [c0,c1,c2,c3,c4,c5,c6,c7] (acrossM 8)=thruM [e0,e1,e2,e3,e4,e5,e6,e7] (acrossM 8):=by
 have e:acrossM 8=[(0,7),(1,6),(2,5),(3,4)]:=by decide
 rw [e]
 simp only [thruM,List.foldl_cons,List.foldl_nil]
 rw [t07,t16,t25,t34,t07,t16,t25,t34,h0,h1,h2,h3]
theorem ac4 {c0 c1 c2 c3 e0 e1 e2 e3:Int} (h0:c0+c3=e0+e3) (h1:c1+c2=e1+e2) :
  thruM [c0,c1,c2,c3] (acrossM 4)=thruM [e0,e1,e2,e3] (acrossM 4):=by
 have e:acrossM 4=[(0,3),(1,2)]:=by decide
 rw [e]
 simp only [thruM,List.foldl_cons,List.foldl_nil]
 rw [u03,u12,u03,u12,h0,h1]
theorem fold8:∀ (r t:Fin 4) (e:Fin 2),lvB (thruM (shM (e.val:Int) (levelM 4 (r.val:Int))++levelM 4 (t.val:Int)) (acrossM 8++gapsM 2 8))=true:=by decide +kernel
theorem fold4:∀ (r t:Fin 2) (e:Fin 2),lvB (thruM (shM (e.val:Int) (levelM 2 (r.val:Int))++levelM 2 (t.val:Int)) (acrossM 4++gapsM 1 4))=true:=by decide +kernel
theorem toFn {n:Nat} {x:Int} (h0:0≤x) (h5:x<n):∃ f:Fin n,x=(f.val:Int):=⟨⟨x.toNat,by walk_at"q"⟩,by show x=((x.toNat:Nat):Int);walk_at"q"⟩
theorem sh4 (q a b c d:Int):shM q [a,b,c,d]=[a+q,b+q,c+q,d+q]:=rfl
theorem sh2 (q a b:Int):shM q [a,b]=[a+q,b+q]:=rfl
theorem sh_app (q:Int) (a b:List Int):shM q (a++b)=shM q a++shM q b:=List.map_append
theorem sh_sh (p q:Int) (a:List Int):shM p (shM q a)=shM (q+p) a:=by
 unfold shM
 rw [List.map_map]
 exact List.map_congr_left fun x _=>by show x+q+p=x+(q+p);walk_at"q"
theorem wa8:WOk 8 (acrossM 8++gapsM 2 8):=wok_of (by decide)
theorem wa4:WOk 4 (acrossM 4++gapsM 1 4):=wok_of (by decide)
theorem join8 {c d:List Int} (lc:c.length=4) (ld:d.length=4) (hc:Level c) (hd:Level d):Level (thruM (c++d) (acrossM 8++gapsM 2 8)):=by
 have ec:=level_is hc (by walk_at"q")
 have ed:=level_is hd (by walk_at"q")
 rw [lc] at ec
 rw [ld] at ed
 obtain ⟨r,er⟩:=toFn (n:=4) (x:=c.sum % 4) (by walk_at"q") (by walk_at"q")
 obtain ⟨t,et⟩:=toFn (n:=4) (x:=d.sum % 4) (by walk_at"q") (by walk_at"q")
 obtain ⟨e,ee⟩:=toFn (n:=2) (x:=(c.sum / 4+d.sum / 4) % 2) (by walk_at"q") (by walk_at"q")
 have xc:c.sum=((4:Nat):Int)*(c.sum / 4)+(r.val:Int):=by walk_at"q"
 have xd:d.sum=((4:Nat):Int)*(d.sum / 4)+(t.val:Int):=by walk_at"q"
 rw [xc,level_shift (by decide)] at ec
 rw [xd,level_shift (by decide)] at ed
 generalize c.sum / 4=p at ec ee
 generalize d.sum / 4=q at ed ee
 have key:thruM (c++d) (acrossM 8)=thruM (shM ((p+q) / 2) (shM (e.val:Int) (levelM 4 (r.val:Int))++levelM 4 (t.val:Int))) (acrossM 8):=by
  rw [sh_app,sh_sh,←ec,←ed]
  obtain ⟨a0,a1,a2,a3,ea⟩:=list4 (levelM 4 (r.val:Int)) (by unfold levelM;simp)
  obtain ⟨b0,b1,b2,b3,eb⟩:=list4 (levelM 4 (t.val:Int)) (by unfold levelM;simp)
  rw [ea,eb,sh4,sh4,sh4,sh4]
  refine ac8 ?_ ?_ ?_ ?_<;>walk_at"q"
 rw [thru_app,key,←thru_app,thru_sh (wide:=8) _ _ (by rw [List.length_append,sh_len];unfold levelM;simp) wa8]
 exact level_sh (lvB_level (by rw [thruM_len,List.length_append,sh_len];unfold levelM;simp) (fold8 r t e))
theorem join4 {c d:List Int} (lc:c.length=2) (ld:d.length=2) (hc:Level c) (hd:Level d):Level (thruM (c++d) (acrossM 4++gapsM 1 4)):=by
 have ec:=level_is hc (by walk_at"q")
 have ed:=level_is hd (by walk_at"q")
 rw [lc] at ec
 rw [ld] at ed
 obtain ⟨r,er⟩:=toFn (n:=2) (x:=c.sum % 2) (by walk_at"q") (by walk_at"q")
 obtain ⟨t,et⟩:=toFn (n:=2) (x:=d.sum % 2) (by walk_at"q") (by walk_at"q")
 obtain ⟨e,ee⟩:=toFn (n:=2) (x:=(c.sum / 2+d.sum / 2) % 2) (by walk_at"q") (by walk_at"q")
 have xc:c.sum=((2:Nat):Int)*(c.sum / 2)+(r.val:Int):=by walk_at"q"
 have xd:d.sum=((2:Nat):Int)*(d.sum / 2)+(t.val:Int):=by walk_at"q"
 rw [xc,level_shift (by decide)] at ec
 rw [xd,level_shift (by decide)] at ed
 generalize c.sum / 2=p at ec ee
 generalize d.sum / 2=q at ed ee
 have key:thruM (c++d) (acrossM 4)=thruM (shM ((p+q) / 2) (shM (e.val:Int) (levelM 2 (r.val:Int))++levelM 2 (t.val:Int))) (acrossM 4):=by
  rw [sh_app,sh_sh,←ec,←ed]
  obtain ⟨a0,a1,ea⟩:=list2 (levelM 2 (r.val:Int)) (by unfold levelM;simp)
  obtain ⟨b0,b1,eb⟩:=list2 (levelM 2 (t.val:Int)) (by unfold levelM;simp)
  rw [ea,eb,sh2,sh2,sh2,sh2]
  refine ac4 ?_ ?_<;>walk_at"q"
 rw [thru_app,key,←thru_app,thru_sh (wide:=4) _ _ (by rw [List.length_append,sh_len];unfold levelM;simp) wa4]
 exact level_sh (lvB_level (by rw [thruM_len,List.length_append,sh_len];unfold levelM;simp) (fold4 r t e))
theorem fold1_level {c:List Int} (hl:c.length=2):Level (thruM c (foldM 1)):=by
 have e:foldM 1=rndM 1:=by decide
 rw [e]
 exact rounds_level (k:=1) (by decide) (by decide) hl
theorem fold2_level {c:List Int} (hl:c.length=4):Level (thruM c (foldM 2)):=by
 have e:foldM 2=(foldM 1++(foldM 1).map (lift 2))++(acrossM 4++gapsM 1 4):=by decide
 rw [e,thru_app,←List.take_append_drop 2 c,(thru_beside (a:=2) (b:=2) (by decide) (by simp;walk_at"q") (fold_all (k:=1) (by decide)).1 (fold_all (k:=1) (by decide)).1).1]
 exact join4 (by rw [thruM_len];simp;walk_at"q") (by rw [thruM_len];simp;walk_at"q") (fold1_level (by simp;walk_at"q")) (fold1_level (by simp;walk_at"q"))
theorem fold3_level {c:List Int} (hl:c.length=8):Level (thruM c (foldM 3)):=by
 have e:foldM 3=(foldM 2++(foldM 2).map (lift 4))++(acrossM 8++gapsM 2 8):=by decide
 rw [e,thru_app,←List.take_append_drop 4 c,(thru_beside (a:=4) (b:=4) (by decide) (by simp;walk_at"q") (fold_all (k:=2) (by decide)).1 (fold_all (k:=2) (by decide)).1).1]
 exact join8 (by rw [thruM_len];simp;walk_at"q") (by rw [thruM_len];simp;walk_at"q") (fold2_level (by simp;walk_at"q")) (fold2_level (by simp;walk_at"q"))
theorem fold_level {k:Nat} (h1:1≤k) (h3:k≤3) {c:List Int} (hl:c.length=(pw k).toNat):Level (thruM c (foldM k)):=by
 have kc:k=1∨k=2∨k=3:=by walk_at"q"
 rcases kc with z|z|z<;>subst z
 ·exact fold1_level hl
 ·exact fold2_level hl
 ·exact fold3_level hl
def Lvl (wide:Int) (ws:List (Int×Int)):Prop:=∀ c:List Int,c.length=wide.toNat→Level (thruM c ws)
theorem Lvl.ahead {wide:Int} {us ws:List (Int×Int)} (h:Lvl wide ws):Lvl wide (us++ws):=fun c hl=>by
 rw [thru_app]
 exact h _ (by rw [thruM_len];exact hl)
theorem Lvl.come {wide:Int} {ws:List (Int×Int)} (h:Lvl wide ws) (ok:WOk wide ws) (w1:1≤wide) {c:List Int} (hl:c.length=wide.toNat):thruM c ws=levelM wide.toNat c.sum:=by
 have e:=level_is (h c hl) (by rw [thruM_len];walk_at"q")
 rw [thruM_len,thruM_sum ws c ok hl,hl] at e
 exact e.symm
end
end Ep
namespace L2
open PySem PySem.Spec PyProof.Rows
section
open AutoSeq1 (wpAny_loadPart')
section
variable {prog:Program} {w:World} {A:Around} {E:Value→Shared→Prop} {s:Shared}
theorem collect_rng {Q:List Value→Shared→Prop} {r:Addr} {a b c:Int} {t u v:Tok} {n:Nat} (hh:A.handled=none) (hr:IsRange s.heap r a b c t u v) (hsmall:Builtin.Range.small a b c=true)
  (hn:Builtin.Range.rangeSize a b c=n) (hlen:n≤2 ^ 24)
  (hQ:∀ h' tk acc,(∀ b o',s.heap.get? b=some o'→h'.get? b=some o')→ItemsOf (fun i v=>∃ t,v=.int (a+i*c) t) acc n→Q acc.toList { s with heap:=h',toks:=tk }) :
  wpAny (model prog w) A (collect (.ref r)) Q E s:=by
 unfold collect
 refine wpAny_bind (wpAny_runValue (codeAny_builtin F.entry_proto_collect ?_))
 rw [Around.under_plainId F.plain_proto_collect _]
 show wpAny _ A.in1 (newList [] >>= fun l=>again (.builtin "list.__iadd__" ⟨[l,.ref r],[]⟩)) _ _ s
 refine wpAny_bind (wpAny_newObj_type ?_)
 refine wpAny_pure ⟨plainId_quiet F.plain_list_iadd _,codeAny_builtin F.entry_list_iadd ?_⟩
 rw [Around.under_plainId F.plain_list_iadd _]
 show wpAny _ A.in1 (Builtin.List.listExtendWith (.ref s.heap.objs.size) (.ref r) (.ref s.heap.objs.size)) _ _ _
 have hS:(s.heap.push { cls:=.type "list", data:=.seq ([]:List Value).toArray }).get? s.heap.objs.size=some { cls:=.type "list", data:=.seq #[] 0 }:=Heap.get?_push_size _ rfl
 have fin':∀ (h':Heap) (tk:Nat) (acc:Array Value) (c':Nat),(∀ b o',s.heap.get? b=some o'→h'.get? b=some o')→h'.get? s.heap.objs.size=some { cls:=.type "list", dict:=none,data:=.seq acc c',slots:=#[] }→ItemsOf (fun i v=>∃ t,v=.int (a+i*c) t) acc n →
   wpAny (model prog w) A (match Value.ref s.heap.objs.size with
   |Value.ref a=>do
    match (←load a).data with
     |Data.seq xs _=>pure xs.toList
     |_=>unsupported "internal:collect"
   |_=>unsupported "internal:collect") Q E { s with heap:=h',toks:=tk }:=fun h' tk acc c' hk hx hi=>by
  show wpAny _ A (load s.heap.objs.size >>= _) _ _ _
  refine wpAny_bind (wpAny_load hx ?_)
  exact wpAny_pure (hQ h' tk acc hk hi)
 refine wpAny_mono (wpAny_extend_range (A:=A) (R:=fun r s'=>∃ (h':Heap) (tk:Nat) (acc:Array Value) (c':Nat),r=.ok (.ret (.ref s.heap.objs.size))∧s'={ s with heap:=h',toks:=tk }∧(∀ b o',s.heap.get? b=some o'→h'.get? b=some o')∧h'.get? s.heap.objs.size=some { cls:=.type "list", dict:=none,data:=.seq acc c',slots:=#[] }∧ItemsOf (fun i v=>∃ t,v=.int (a+i*c) t) acc n)
  (s:={ s with heap:=s.heap.push { cls:=.type "list", data:=.seq ([]:List Value).toArray } }) hh (Heap.get?_push_of_some _ hr) hsmall hn hlen s.heap.objs.size (.ref s.heap.objs.size) _ hS fun h' tk acc' c' hk hS' hacc=>?_) (fun fin s' h=>?_) (fun e s' h=>?_)
 ·exact ⟨h',tk,acc',c',rfl,rfl,fun b o' e=>hk b o' (Nat.ne_of_lt (Heap.lt_size e)) (Heap.get?_push_of_some _ e),hS',hacc⟩
 ·cases fin with
  |done f =>
   obtain ⟨h',tk,acc,c',e,rfl,hk,hx,hi⟩:=h
   cases e
   exact fin' h' tk acc c' hk hx hi
  |again c'=>exact ⟨h.1,codeAny_mono h.2 fun r s'' hr=>by obtain ⟨h',tk,acc,c',rfl,rfl,hk,hx,hi⟩:=hr;exact fin' h' tk acc c' hk hx hi⟩
 ·obtain ⟨_,_,_,_,e,_⟩:=h
  cases e
end
theorem meets_tuple_new_rng (r:Addr) {a b c:Int} {t u v:Tok} {n:Nat} (hsmall:Builtin.Range.small a b c=true) (hn:Builtin.Range.rangeSize a b c=n) (hlen:n≤100000) :
  Meets (Builtin.«tuple.__new__» ⟨[.type "tuple", .ref r],[]⟩)
   (fun A R s=>A.handled=none∧IsRange s.heap r a b c t u v∧∀ (h':Heap) (tk:Nat) (acc:Array Value),(∀ b o',s.heap.get? b=some o'→h'.get? b=some o')→ItemsOf (fun i v=>∃ t,v=.int (a+i*c) t) acc n →
    R (.ok (.ret (.ref h'.objs.size))) { s with heap:=h'.push { cls:=.type "tuple", data:=.seq acc },toks:=tk }) :=
 .of_wp fun prog w A R s h=>by
  obtain ⟨hp,g,d,tk,os⟩:=s;obtain ⟨hh,ht,h⟩:=h
  have hsub:=sub_tuple_self
  have hinit:=init_tuple_lookup
  have hmh:=madeHere_tuple
  have hT:Shared.TypeIs ⟨hp,g,d,tk,os⟩ (.ref r) "range" := ⟨_,ht,rfl⟩
  have hh1:A.in1.handled=none:=hh
  wp_walk using wpAny_loadPart' ht,wpAny_typeOf hT,collect_rng (A:=A.in1) hh1 ht hsmall hn (by walk_at"q")
  intro h' tk' acc hk hi
  have hz:acc.size=n:=hi.1
  show wpAny _ _ (Builtin.Tuple.tupleExact acc.toList.toArray >>= fun v=>ret v) _ _ _
  unfold Builtin.Tuple.tupleExact
  refine wpAny_bind (wpAny_newObj_type ?_ (by show acc.toList.toArray.size≤sizeLine;rw [Array.toArray_toList,hz];exact lenLine (by walk_at"q")))
  refine wpAny_pure ⟨_,rfl,?_⟩
  have e:acc.toList.toArray=acc:=by simp
  rw [e]
  exact h h' tk' acc hk hi
section
variable {prog:Program} {w:World} {A:Around} {E:Value→Shared→Prop} {s:Shared}
theorem call_tuple_rng {r:Addr} {a b c:Int} {t u v:Tok} {n:Nat} {Q:Value→Shared→Prop} (hh:A.handled=none) (hr:IsRange s.heap r a b c t u v) (hsmall:Builtin.Range.small a b c=true) (hn:Builtin.Range.rangeSize a b c=n) (hlen:n≤100000)
  (h:∀ (h':Heap) (tk:Nat) (acc:Array Value),(∀ b o',s.heap.get? b=some o'→h'.get? b=some o')→ItemsOf (fun i v=>∃ t,v=.int (a+i*c) t) acc n→Q (.ref h'.objs.size) { s with heap:=h'.push { cls:=.type "tuple", data:=.seq acc },toks:=tk }) :
  wpAny (model prog w) A (call (.type "tuple") [.ref r]) Q E s :=
 callType_new F.called_tuple (by decide) (F.typeCall_tuple_1 _) (F.newCall_tuple_1 _) (fun obj=>F.args_object_init_2 obj _) F.entry_tuple_new
  (meets_tuple_new_rng r hsmall hn hlen) ⟨hh,hr,fun h' tk acc hk hi=>⟨⟨_,Heap.get?_push_size _ rfl,rfl⟩,h h' tk acc hk hi⟩⟩
end
inductive P_call_tupRng (K:PySem.W.Frag) (xs:List V) (H:Hp) (Q:VK):Prop
 |mk (r:Addr) (i j:Int) (h1:xs=[.ref r]) (h2:H r=some (.rng i j)) (h3:-(2 ^ 62)≤i) (h4:i<2 ^ 62) (h5:-(2 ^ 62)≤j) (h6:j<2 ^ 62) (h7:(j-i).toNat≤50000) (h8:∀ l,H l=none→Q (.ref l) (upd H l (.tup ((rngL i j).map V.int)))):P_call_tupRng K xs H Q
variable {X:Cx}
theorem call_tupRng (hc:X.calm=true):CallR X (.type "tuple") (P_call_tupRng X.K):=by
 intro pins s σ H xs us Q I r h
 obtain ⟨p,i,j,rfl,hp,i1,i2,j1,j2,hl,q⟩:=h
 obtain ⟨u,rfl,ru⟩:=vals1 r
 cases ru
 obtain ⟨t,u',v,e⟩:=(show ObjOk X.prog X.w H s.heap p (.rng i j) from I.hok p _ hp)
 have hn:Builtin.Range.rangeSize i j 1=((j-i).toNat:Nat):=by rw [rangeSize_one];split<;>walk_at"q"
 refine call_tuple_rng (I.ok.hd hc) e (small_one i1 i2 j1 j2) hn (by walk_at"q") fun h' tk acc hk ⟨hs,hv⟩=>?_
 have hvals:Vals ((rngL i j).map V.int) acc.toList:=by
  have z:=vals_from i acc.toList 0 fun k v e=>by
   obtain ⟨t,e'⟩:=hv k v (by simpa using e)
   exact ⟨t,by rw [e',Int.mul_one,Nat.zero_add]⟩
  have hl':acc.toList.length=(j-i).toNat:=by rw [Array.length_toList,hs]
  rw [hl',←List.range_eq_range'] at z
  unfold rngL
  rw [List.map_map]
  exact z
 have I1:Inv X pins σ H { s with heap:=h',toks:=tk }:=I.kept (t':=tk) hk
 have I2:Inv X pins σ (upd H h'.objs.size (.tup ((rngL i j).map V.int))) { s with heap:=h'.push { cls:=.type "tuple", data:=.seq acc },toks:=tk } :=
  I1.laid (t':=tk) (fun b o e=>Heap.get?_push_of_some _ e) (Nat.le_refl _) (show ObjOk X.prog X.w _ _ _ (.tup ((rngL i j).map V.int)) from ⟨by simp only [rngL,List.length_map,List.length_range];exact lenLine (by walk_at"q"),acc.toList,hvals,by rw [Array.toArray_toList];exact IsTupD.new _ _⟩)
 exact ⟨.ref h'.objs.size,_,I2,rfl,q _ (I1.hok.fresh (Nat.le_refl _))⟩
end
end L2
namespace Ep
open PySem L2 PySem.SeqAt
section
inductive FPap (H:Hp):Nat→V→Prop
 |one {a:Addr} (h:H a=some (.tup [.str "one"])):FPap H 0 (.ref a)
 |hlv {k:Nat} {a t1 t2:Addr} {x y:V} (h:H a=some (.tup [.str "halves", .int ((foldM k++(foldM k).map (lift (pw k))).length:Int),.ref t1,.ref t2,x,y])) (h1:H t1=some (.tup ((rngL 0 (pw k)).map V.int))) (h2:H t2=some (.tup ((rngL (pw k) (pw (k+1))).map V.int)))
   (hx:FPap H k x) (hy:FPap H k y):FPap H (k+1) (.ref a)
theorem FPap.same {H H':Hp} (s:Same H H'):∀ {k:Nat} {x:V},FPap H k x→FPap H' k x:=by
 intro k x h
 induction h with
 |one h=>exact .one (s _ _ h)
 |hlv h h1 h2 _ _ ih1 ih2=>exact .hlv (s _ _ h) (s _ _ h1) (s _ _ h2) ih1 ih2
inductive SpGapsP (vs:List V) (H:Hp) (Q:VK):Prop
 |mk (k:Nat) (h1:vs=[.int (pw (k+1))]) (h2:k≤2) (h3:∀ (a:Addr) (H':Hp),H a=none→Same H H'→WsL H' a (gapsM k (pw (k+1)))→Q (.ref a) H'):SpGapsP vs H Q
def spGaps:Sp:=fun vs H Q _=>SpGapsP vs H Q
inductive SpHalvesSP (vs:List V) (H:Hp) (Q:VK):Prop
 |mk (l:Addr) (ws:List (Int×Int)) (k:Int) (h1:vs=[.ref l,.int k]) (h2:SqW H l ws) (h3:ws.length≤100) (h4:∀ (a:Addr) (H':Hp),H a=none→Same H H'→WsL H' a (ws++ws.map (lift k))→Q (.ref a) H'):SpHalvesSP vs H Q
def spHalvesS:Sp:=fun vs H Q _=>SpHalvesSP vs H Q
theorem halves_s (vs:List V) (H:Hp) (Q:VK) (E:XK) (h:spHalves vs H Q E):spHalvesS vs H Q E:=by
 obtain ⟨l,ws,k,e,⟨rs,hl,hr⟩,len,q⟩:=h
 exact ⟨l,ws,k,e,⟨rs,.inl hl,hr⟩,len,q⟩
theorem netof_n (vs:List V) (H:Hp) (Q:VK) (E:XK) (h:spNetOf vs H Q E):spNetN vs H Q E:=by
 obtain ⟨wide,l,ws,rfl,⟨rs,hl,hr⟩,w1,w8,ok,len,q⟩:=h
 exact ⟨wide,l,ws,rfl,⟨rs,.inl hl,hr⟩,w1,w8,ok,len,q⟩
inductive FoldedOk (n:Nat) (vs:List V) (H:Hp) (Q:VK):Prop
 |mk (k:Nat) (h1:vs=[.int (pw k)]) (h2:k<n) (h3:k≤3) (h4:∀ (T:Addr) (v pv:V) (H':Hp),H T=none→Same H H'→H' T=some (.tup [v,pv])→Net H' v (pw k) (foldM k)→FPap H' k pv→Q (.ref T) H'):FoldedOk n vs H Q
def spFolded (an:Addr) (n:Nat):Sp:=fun vs H Q E=>FoldedOk n vs H Q∨(0<n∧∃ x,vs=[x]∧(Odd H x∨∃ i,x=.int i∧¬ halved i)∧E (.ref an) none H)
def spFoldedN:Sp:=fun vs H Q _=>FoldedOk 4 vs H Q
theorem folded_n {an:Addr} (vs:List V) (H:Hp) (Q:VK) (E:XK) (h:spFoldedN vs H Q E):spFolded an 4 vs H Q E:=.inl h
theorem lvl_one:Lvl 1 []:=fun c hl i j hij hj=>by
 rw [thruM_nil] at hj ⊢
 have hl':c.length=1:=hl
 have ei:i=0:=by walk_at"q"
 have ej:j=0:=by walk_at"q"
 subst ei;subst ej
 walk_at"q"
theorem fold_lvl {k:Nat} (h3:k≤3):Lvl (pw k) (foldM k):=by
 cases k with
 |zero=>exact lvl_one
 |succ k=>exact fun c hl=>fold_level (by walk_at"q") h3 hl
theorem rnd_lvl {k:Nat} (h3:k≤3):Lvl (pw k) (rndM k):=by
 cases k with
 |zero=>exact lvl_one
 |succ k=>exact fun c hl=>rounds_level (by walk_at"q") h3 hl
end
end Ep
namespace L2
open PySem PySem.Spec PyProof.Rows
section
variable {X:Cx}
end
section
open PySem.W (CodeHd tabObj kla_fn kla_obj envX)
end
section
open AutoSeq1 (wpAny_loadPart')
variable {X:Cx}
end
end L2
namespace Ep
open PySem L2 PySem.SeqAt PyProof.Rows
section
end
end Ep
namespace Ep
open PySem L2
section
end
end Ep
namespace L2
open PySem PySem.Spec PyProof.Rows
section
variable {X:Cx}
end
end L2
namespace Ep
open PySem L2 PySem.SeqAt
section
end
end Ep
namespace L2
theorem seq_by {a b:TS} {D:Ends} {σ:St} {H:Hp} (P:St→Hp→Prop) (ha:∀ N:St→Hp→Prop,(∀ σ H,P σ H→N σ H)→a { D with nx:=N } σ H) (hb:∀ σ H,P σ H→b D σ H):tSeq a b D σ H:=ha (b D) hb
end L2
namespace Ep
open PySem L2 PySem.SeqAt
section
end
end Ep
namespace L2
open PySem PySem.Spec PyProof.Rows
section
section
variable {X:Cx} (K:PySem.W.Frag) (hK:X.K=K)
include hK
theorem pe_fldK {e:Expr} {f:Str} {pos:Pos} {ta:TE} (he:PE X e ta) (hb:attributeBase e f X.env (eval e X.env)=eval e X.env):PE X (.Attribute e f pos) (tFld K ta f):=by subst hK;exact pe_fld he hb
end
end
end L2
namespace Ep
open PySem L2 PySem.SeqAt
section
def numsM (wide lane low:Int) (n:Nat):List Int:=(List.range n).map fun (j:Nat)=>lane+wide*(low+(j:Int))
def standG (wide:Int):Nat→List Int→List Int
 |_,[]=>[]
 |i,c::r=>numsM wide i 0 c.toNat++standG wide (i+1) r
def owedG (wide:Int):Nat→List Int→List Int
 |_,[]=>[]
 |i,c::r=>numsM wide i c (-c).toNat++owedG wide (i+1) r
def absS:List Int→Nat
 |[]=>0
 |c::r=>c.natAbs+absS r
theorem numsM_len (wide lane low:Int) (n:Nat):(numsM wide lane low n).length=n:=by simp [numsM]
theorem standG_len (wide:Int):∀ (i:Nat) (t:List Int),(standG wide i t).length≤absS t
 |_,[]=>Nat.le_refl _
 |i,c::r=>by
  show (numsM wide i 0 c.toNat++standG wide (i+1) r).length≤c.natAbs+absS r
  rw [List.length_append,numsM_len]
  have:=standG_len wide (i+1) r
  walk_at"q"
theorem owedG_len (wide:Int):∀ (i:Nat) (t:List Int),(owedG wide i t).length≤absS t
 |_,[]=>Nat.le_refl _
 |i,c::r=>by
  show (numsM wide i c (-c).toNat++owedG wide (i+1) r).length≤c.natAbs+absS r
  rw [List.length_append,numsM_len]
  have:=owedG_len wide (i+1) r
  walk_at"q"
theorem standG_snoc (wide c:Int):∀ (i:Nat) (t:List Int),standG wide i (t++[c])=standG wide i t++numsM wide ((i+t.length:Nat):Int) 0 c.toNat
 |i,[]=>by simp [standG]
 |i,d::r=>by
  show numsM wide i 0 d.toNat++standG wide (i+1) (r++[c])=(numsM wide i 0 d.toNat++standG wide (i+1) r)++_
  rw [standG_snoc wide c (i+1) r,List.append_assoc]
  have e:i+1+r.length=i+(d::r).length:=by simp;walk_at"q"
  rw [e]
theorem owedG_snoc (wide c:Int):∀ (i:Nat) (t:List Int),owedG wide i (t++[c])=owedG wide i t++numsM wide ((i+t.length:Nat):Int) c (-c).toNat
 |i,[]=>by simp [owedG]
 |i,d::r=>by
  show numsM wide i d (-d).toNat++owedG wide (i+1) (r++[c])=(numsM wide i d (-d).toNat++owedG wide (i+1) r)++_
  rw [owedG_snoc wide c (i+1) r,List.append_assoc]
  have e:i+1+r.length=i+(d::r).length:=by simp;walk_at"q"
  rw [e]
theorem numsM_mem {wide lane low x:Int} {n:Nat}:x∈numsM wide lane low n↔∃ j:Nat,j<n∧x=lane+wide*(low+(j:Int)):=by
 unfold numsM
 rw [List.mem_map]
 constructor
 ·rintro ⟨j,hj,e⟩
  exact ⟨j,List.mem_range.mp hj,e.symm⟩
 ·rintro ⟨j,hj,e⟩
  exact ⟨j,List.mem_range.mpr hj,e.symm⟩
theorem standG_mem {wide x:Int}:∀ {i:Nat} {t:List Int},x∈standG wide i t↔∃ (l j:Nat),l<t.length∧(j:Int)<t.getD l 0∧x=((i+l:Nat):Int)+wide*(j:Int)
 |i,[]=>by simp [standG]
 |i,c::r=>by
  show x∈numsM wide i 0 c.toNat++standG wide (i+1) r↔_
  rw [List.mem_append,numsM_mem,standG_mem (i:=i+1) (t:=r)]
  constructor
  ·rintro (⟨j,hj,e⟩|⟨l,j,hl,hj,e⟩)
   ·exact ⟨0,j,by simp,by simp;walk_at"q", by rw [e];simp⟩
   ·refine ⟨l+1,j,by simp;walk_at"q", by simpa using hj,?_⟩
    rw [e,show i+1+l=i+(l+1) by walk_at"q"]
  ·rintro ⟨l,j,hl,hj,e⟩
   cases l with
   |zero=>exact .inl ⟨j,by simp at hj;walk_at"q", by rw [e];simp⟩
   |succ l =>
    refine .inr ⟨l,j,by simp at hl;walk_at"q", by simpa using hj,?_⟩
    rw [e,show i+1+l=i+(l+1) by walk_at"q"]
theorem stand_iff {wide:Int} {t:List Int} (w1:1≤wide) (hl:t.length=wide.toNat) {n:Int} (hn:0≤n):n∈standG wide 0 t↔n / wide<t.getD (n % wide).toNat 0:=by
 rw [standG_mem]
 have m0:=Int.emod_nonneg n (show wide≠0 by walk_at"q")
 have m1:=Int.emod_lt_of_pos n (show 0<wide by walk_at"q")
 have d0:=Int.ediv_nonneg hn (show 0≤wide by walk_at"q")
 have dm:=Int.emod_add_mul_ediv n wide
 constructor
 ·rintro ⟨l,j,h1,h2,e⟩
  have l1:(l:Int)<wide:=by walk_at"q"
  have em:n % wide=(l:Int):=by
   rw [e,Nat.zero_add,Int.add_mul_emod_self_left]
   exact Int.emod_eq_of_lt (by walk_at"q") l1
  have ed:n / wide=(j:Int):=by
   rw [e,Nat.zero_add,Int.add_mul_ediv_left _ _ (by walk_at"q"),Int.ediv_eq_zero_of_lt (by walk_at"q") l1]
   walk_at"q"
  rw [em,ed,Int.toNat_natCast]
  exact h2
 ·intro h
  refine ⟨(n % wide).toNat,(n / wide).toNat,by walk_at"q", ?_,?_⟩
  ·rw [Int.toNat_of_nonneg d0];exact h
  ·rw [Nat.zero_add,Int.toNat_of_nonneg m0,Int.toNat_of_nonneg d0];exact dm.symm
theorem absS_take:∀ (t:List Int) (i:Nat),absS (t.take i)≤absS t
 |[],i=>by simp
 |c::r,0=>Nat.zero_le _
 |c::r,i+1=>by
  have:=absS_take r i
  show c.natAbs+absS (r.take i)≤c.natAbs+absS r
  walk_at"q"
theorem numsM_succ (wide lane low:Int) (n:Nat):numsM wide lane low (n+1)=numsM wide lane low n++[lane+wide*(low+(n:Int))]:=by
 unfold numsM
 rw [List.range_succ,List.map_append]
 rfl
theorem absS_ge {t:List Int}:∀ (l:Nat),(t.getD l 0).natAbs≤absS t:=by
 induction t with
 |nil=>intro l;simp
 |cons c r ih =>
  intro l
  show _≤c.natAbs+absS r
  cases l with
  |zero=>simp
  |succ l =>
   have:=ih l
   simp only [List.getD_cons_succ]
   walk_at"q"
theorem stand_nonneg {wide:Int} {t:List Int} (w1:1≤wide) {x:Int} (h:x∈standG wide 0 t):0≤x:=by
 obtain ⟨l,j,_,_,e⟩:=standG_mem.mp h
 have:0≤wide*(j:Int):=Int.mul_nonneg (by walk_at"q") (by walk_at"q")
 walk_at"q"
def IsGr (wide:Int) (t:List Int) (g:Int):Prop:=g∈0::standG wide 0 t∧∀ x∈0::standG wide 0 t,x≤g
theorem IsGr.eq {wide:Int} {t:List Int} {g h:Int} (a:IsGr wide t g) (b:IsGr wide t h):g=h:=Int.le_antisymm (b.2 _ a.1) (a.2 _ b.1)
theorem IsGr.nonneg {wide:Int} {t:List Int} {g:Int} (a:IsGr wide t g):0≤g:=a.2 0 (by simp)
theorem isGr_none {wide:Int} {t ns:List Int} (hp:ns.Perm (standG wide 0 t)) (e:ns=[]):IsGr wide t 0:=by
 subst e
 have e:=hp.symm.eq_nil
 unfold IsGr
 rw [e]
 exact ⟨by simp,fun x hx=>by simp at hx;walk_at"q"⟩
theorem isGr_max {wide:Int} {t ns:List Int} {m:Int} (w1:1≤wide) (hp:ns.Perm (standG wide 0 t)) (h:IsMax ns m):IsGr wide t m:=by
 refine ⟨List.mem_cons_of_mem _ (hp.mem_iff.mp h.1),fun x hx=>?_⟩
 rcases List.mem_cons.mp hx with rfl|hx
 ·exact stand_nonneg w1 (hp.mem_iff.mp h.1)
 ·exact h.2 x (hp.mem_iff.mpr hx)
def lackM (wide:Int) (t:List Int) (n:Nat):List Int:=((List.range n).map fun (k:Nat)=>(k:Int)).filter fun k=>decide (t.getD (k % wide).toNat 0≤k / wide)
theorem lackM_succ (wide:Int) (t:List Int) (n:Nat):lackM wide t (n+1)=lackM wide t n++(if t.getD ((n:Int) % wide).toNat 0≤(n:Int) / wide then [(n:Int)] else []):=by
 unfold lackM
 rw [List.range_succ,List.map_append,List.filter_append]
 congr 1
 rw [List.map_cons,List.map_nil,List.filter_cons]
 by_cases h:t.getD ((n:Int) % wide).toNat 0≤(n:Int) / wide
 ·rw [if_pos h,if_pos (by simpa using h)];rfl
 ·rw [if_neg h,if_neg (by simpa using h)];rfl
theorem lackM_len (wide:Int) (t:List Int) (n:Nat):(lackM wide t n).length≤n:=by
 unfold lackM
 refine Nat.le_trans (List.length_filter_le _ _) ?_
 simp
theorem sorted_eq {a b c:List Int} (h1:a.Perm c) (h2:b.Perm c) (s1:a.Pairwise (·≤·)) (s2:b.Pairwise (·≤·)):a=b :=
 List.Perm.eq_of_pairwise (fun x y _ _ h g=>Int.le_antisymm h g) s1 s2 (h1.trans h2.symm)
def outN:List Place→Nat
 |[]=>0
 |pl::r=>(if isOut pl then 1 else 0)+outN r
theorem outN_le:∀ ps:List Place,outN ps≤ps.length
 |[]=>Nat.le_refl _
 |pl::r=>by
  have:=outN_le r
  show (if isOut pl then 1 else 0)+outN r≤r.length+1
  split<;>walk_at"q"
theorem outN_snoc (pl:Place):∀ ps:List Place,outN (ps++[pl])=outN ps+if isOut pl then 1 else 0
 |[]=>by simp [outN]
 |q::r=>by
  show (if isOut q then 1 else 0)+outN (r++[pl])=(if isOut q then 1 else 0)+outN r+_
  rw [outN_snoc pl r]
  walk_at"q"
theorem outN_set (pl':Place):∀ (ps:List Place) (i:Nat) (pl:Place),ps[i]?=some pl→outN (ps.set i pl')+(if isOut pl then 1 else 0)=outN ps+if isOut pl' then 1 else 0
 |[],i,pl,h=>by simp at h
 |q::r,0,pl,h=>by
  have e:q=pl:=by simpa using h
  subst e
  show (if isOut pl' then 1 else 0)+outN r+_=(if isOut q then 1 else 0)+outN r+_
  walk_at"q"
 |q::r,i+1,pl,h=>by
  have:=outN_set pl' r i pl (by simpa using h)
  show (if isOut q then 1 else 0)+outN (r.set i pl')+_=(if isOut q then 1 else 0)+outN r+_
  walk_at"q"
theorem absS_set {x c:Int} (hc:c=1∨c=-1):∀ (t:List Int) (l:Nat),x=t.getD l 0+c→absS (t.set l x)≤absS t+1
 |[],l,_=>by simp [absS]
 |d::r,0,h=>by
  show x.natAbs+absS r≤d.natAbs+absS r+1
  simp at h
  walk_at"q"
 |d::r,l+1,h=>by
  have:=absS_set hc r l (by simpa using h)
  show d.natAbs+absS (r.set l x)≤d.natAbs+absS r+1
  walk_at"q"
theorem absS_rep (n:Nat):absS (List.replicate n 0)=0:=by
 induction n with
 |zero=>rfl
 |succ n ih=>rw [List.replicate_succ];show Int.natAbs 0+_=0;rw [ih];rfl
def Few (st:PlS):Prop:=absS st.tal≤outN st.pla
theorem Few.start (wide:Int) (ws:List (Int×Int)):Few (startM wide ws):=by
 show absS (List.replicate wide.toNat 0)≤outN []
 rw [absS_rep]
 exact Nat.le_refl _
theorem Few.enter {ws:List (Int×Int)} {st:PlS} {lane c:Int} (h:Few st):Few (enterM ws st lane c):=by
 show absS st.tal≤outN (st.pla++[placeM ws lane 0])
 rw [outN_snoc]
 have:absS st.tal≤outN st.pla:=h
 walk_at"q"
theorem Few.step {wide:Int} {ws:List (Int×Int)} {st:PlS} {i:Nat} {pl:Place} (h:Few st) (wf:Wf wide ws st) (hi:st.pla[i]?=some pl):Few (stepS wide ws st i pl):=by
 have h':absS st.tal≤outN st.pla:=h
 have il:i<st.pla.length:=(List.getElem?_eq_some_iff.mp hi).1
 have cl:=wf.cl
 cases pl with
 |out l n=>exact h
 |before k l =>
  show absS st.tal≤outN (st.pla.set i (stepP wide ws st i (.before k l)))
  have:=outN_set (stepP wide ws st i (.before k l)) st.pla i _ hi
  have e:isOut (.before k l)=false:=rfl
  rw [e,if_neg (by decide),Nat.add_zero] at this
  rw [this]
  walk_at"q"
 |exit l =>
  show absS (st.tal.set l.toNat (st.tal.getD l.toNat 0+st.chg.getD i 0))≤outN (st.pla.set i (.out l (leaveN wide st l (st.chg.getD i 0))))
  have a:=absS_set (x:=st.tal.getD l.toNat 0+st.chg.getD i 0) (wf.cs i (by walk_at"q")) st.tal l.toNat rfl
  have b:=outN_set (.out l (leaveN wide st l (st.chg.getD i 0))) st.pla i _ hi
  have e1:isOut (.exit l)=false:=rfl
  have e2:isOut (.out l (leaveN wide st l (st.chg.getD i 0)))=true:=rfl
  rw [e1,e2,if_neg (by decide),if_pos rfl,Nat.add_zero] at b
  rw [b]
  walk_at"q"
theorem Few.le {st:PlS} (h:Few st):absS st.tal≤st.pla.length:=Nat.le_trans h (outN_le _)
theorem mk_play {C:Addr} {Hd:Hp} {v:V} {wide:Int} {ws:List (Int×Int)} (nt:NetOk Hd v wide ws) (x dx:Addr) (fx:Hd x=none) (fdx:Hd dx=none) {R:Hp→Prop} (h:∀ (L:PlL) (H':Hp),(∀ b∈L.own x,Hd b=none)→PlayAt C H' x v L (startM wide ws)→Same Hd H'→R H') :
  spPInit C (.ref x::([v]++[])) (upd (upd Hd dx (.own x)) x (.ins C dx [])) (fun v2 H2=>v2=.non∧R H2) E0:=by
 have s0:Same Hd (upd (upd Hd dx (HO.own x)) x (HO.ins C dx [])):=Same.put fx (Same.put fdx (Same.refl Hd))
 have x0:(upd (upd Hd dx (HO.own x)) x (HO.ins C dx [])) x=some (.ins C dx []):=upd_same
 generalize upd (upd Hd dx (HO.own x)) x (HO.ins C dx [])=H0 at s0 x0
 refine ⟨x,dx,v,wide,ws,rfl,x0,nt.kt (KT.same s0 (KT.refl _)),fun L H1 f1 f2 f3 f4 pa1 kp1=>⟨rfl,?_⟩⟩
 refine h L H1 (fun b hb=>?_) pa1 (fun b o e=>kp1 b o (s0 b o e) (ne_of_none e fx))
 rcases own_mem.mp hb with rfl|rfl|rfl|rfl|rfl
 ·exact fx
 ·exact s0.free f1
 ·exact s0.free f2
 ·exact s0.free f3
 ·exact s0.free f4
inductive SpNumsP (vs:List V) (H:Hp) (Q:VK):Prop
 |mk (wide lane lo hi:Int) (h1:vs=[.int wide,.int lane,.int lo,.int hi]) (h2:1≤wide) (h3:wide≤8) (h4:(-1000≤lo∧lo≤1000)∧(-1000≤hi∧hi≤1000)) (h5:∀ (a:Addr) (H':Hp),H a=none→Same H H'→H' a=some (.lst ((numsM wide lane lo (hi-lo).toNat).map V.int))→Q (.ref a) H'):SpNumsP vs H Q
def spNums:Sp:=fun vs H Q _=>SpNumsP vs H Q
end
section
structure One where
 p:Addr
 L:PlL
 A:Sts
end
end Ep
namespace L2
open PySem PySem.Spec PyProof.Rows
section
end
end L2
namespace L2
open PySem
section
end
end L2
namespace Ep
open PySem L2 PySem.SeqAt
section
theorem num_at {wide l q:Int} (w1:1≤wide) (l0:0≤l) (l1:l<wide):(l+wide*q) % wide=l∧(l+wide*q) / wide=q:=by
 constructor
 ·rw [Int.add_mul_emod_self_left]
  exact Int.emod_eq_of_lt l0 l1
 ·rw [Int.add_mul_ediv_left _ _ (by walk_at"q"),Int.ediv_eq_zero_of_lt l0 l1]
  walk_at"q"
theorem owedG_mem {wide x:Int}:∀ {i:Nat} {t:List Int},x∈owedG wide i t↔∃ (l:Nat) (q:Int),l<t.length∧t.getD l 0≤q∧q<0∧x=((i+l:Nat):Int)+wide*q
 |i,[]=>by simp [owedG]
 |i,c::r=>by
  show x∈numsM wide i c (-c).toNat++owedG wide (i+1) r↔_
  rw [List.mem_append,numsM_mem,owedG_mem (i:=i+1) (t:=r)]
  constructor
  ·rintro (⟨j,hj,e⟩|⟨l,q,hl,h1,h2,e⟩)
   ·exact ⟨0,c+j,by simp,by show c≤_;walk_at"q", by walk_at"q", by rw [e];simp⟩
   ·refine ⟨l+1,q,by simp;walk_at"q", by simpa using h1,h2,?_⟩
    rw [e,show i+1+l=i+(l+1) by walk_at"q"]
  ·rintro ⟨l,q,hl,h1,h2,e⟩
   cases l with
   |zero =>
    have h1':c≤q:=by simpa using h1
    exact .inl ⟨(q-c).toNat,by walk_at"q", by rw [e,Int.toNat_of_nonneg (by walk_at"q")];simp;congr 1;walk_at"q"⟩
   |succ l =>
    refine .inr ⟨l,q,by simp at hl;walk_at"q", by simpa using h1,h2,?_⟩
    rw [e,show i+1+l=i+(l+1) by walk_at"q"]
theorem owed_iff {wide:Int} {t:List Int} (w1:1≤wide) (hl:t.length=wide.toNat) {n:Int}:n∈owedG wide 0 t↔t.getD (n % wide).toNat 0≤n / wide∧n / wide<0:=by
 rw [owedG_mem]
 have m0:=Int.emod_nonneg n (show wide≠0 by walk_at"q")
 have m1:=Int.emod_lt_of_pos n (show 0<wide by walk_at"q")
 have dm:=Int.emod_add_mul_ediv n wide
 constructor
 ·rintro ⟨l,q,h1,h2,h3,e⟩
  obtain ⟨e1,e2⟩:=num_at (wide:=wide) (l:=(l:Int)) (q:=q) w1 (by walk_at"q") (by walk_at"q")
  rw [Nat.zero_add] at e
  rw [e,e1,e2,Int.toNat_natCast]
  exact ⟨h2,h3⟩
 ·rintro ⟨h1,h2⟩
  refine ⟨(n % wide).toNat,n / wide,by walk_at"q", h1,h2,?_⟩
  rw [Nat.zero_add,Int.toNat_of_nonneg m0]
  exact dm.symm
theorem stand_iff' {wide:Int} {t:List Int} (w1:1≤wide) (hl:t.length=wide.toNat) {n:Int}:n∈standG wide 0 t↔0≤n / wide∧n / wide<t.getD (n % wide).toNat 0:=by
 by_cases hn:0≤n
 ·rw [stand_iff w1 hl hn]
  have:=Int.ediv_nonneg hn (show 0≤wide by walk_at"q")
  constructor
  ·exact fun h=>⟨this,h⟩
  ·exact fun h=>h.2
 ·constructor
  ·intro h
   exact absurd (stand_nonneg w1 h) hn
  ·rintro ⟨h,_⟩
   have:=Int.ediv_neg_of_neg_of_pos (show n<0 by walk_at"q") (show 0<wide by walk_at"q")
   walk_at"q"
theorem numsM_nodup {wide lane low:Int} (w1:1≤wide) (n:Nat):(numsM wide lane low n).Nodup:=by
 unfold numsM
 refine List.Pairwise.map _ (R:=fun a b=>a<b) (fun a b h z=>?_) List.pairwise_lt_range
 have:wide*(low+(a:Int))=wide*(low+(b:Int)):=by walk_at"q"
 have:=Int.eq_of_mul_eq_mul_left (by walk_at"q") this
 walk_at"q"
theorem standG_nodup {wide:Int} (w1:1≤wide):∀ (i:Nat) (t:List Int),(i:Int)+t.length≤wide→(standG wide i t).Nodup
 |_,[],_=>List.nodup_nil
 |i,c::r,h=>by
  show (numsM wide i 0 c.toNat++standG wide (i+1) r).Nodup
  rw [List.length_cons] at h
  refine List.nodup_append.mpr ⟨numsM_nodup w1 _,standG_nodup w1 (i+1) r (by walk_at"q"),fun a ha b hb z=>?_⟩
  subst z
  obtain ⟨j,_,e⟩:=numsM_mem.mp ha
  obtain ⟨l,j',hl,_,e'⟩:=standG_mem.mp hb
  have h1:=(num_at (wide:=wide) (l:=(i:Int)) (q:=0+(j:Int)) w1 (by walk_at"q") (by walk_at"q")).1
  have h2:=(num_at (wide:=wide) (l:=((i+1+l:Nat):Int)) (q:=(j':Int)) w1 (by walk_at"q") (by walk_at"q")).1
  rw [←e] at h1
  rw [←e'] at h2
  walk_at"q"
theorem owedG_nodup {wide:Int} (w1:1≤wide):∀ (i:Nat) (t:List Int),(i:Int)+t.length≤wide→(owedG wide i t).Nodup
 |_,[],_=>List.nodup_nil
 |i,c::r,h=>by
  show (numsM wide i c (-c).toNat++owedG wide (i+1) r).Nodup
  rw [List.length_cons] at h
  refine List.nodup_append.mpr ⟨numsM_nodup w1 _,owedG_nodup w1 (i+1) r (by walk_at"q"),fun a ha b hb z=>?_⟩
  subst z
  obtain ⟨j,_,e⟩:=numsM_mem.mp ha
  obtain ⟨l,q,hl,_,_,e'⟩:=owedG_mem.mp hb
  have h1:=(num_at (wide:=wide) (l:=(i:Int)) (q:=c+(j:Int)) w1 (by walk_at"q") (by walk_at"q")).1
  have h2:=(num_at (wide:=wide) (l:=((i+1+l:Nat):Int)) (q:=q) w1 (by walk_at"q") (by walk_at"q")).1
  rw [←e] at h1
  rw [←e'] at h2
  walk_at"q"
end
end Ep
namespace L2
open PySem
section
end
end L2
namespace Ep
open PySem L2 PySem.SeqAt
section
section
variable {C:Addr} {G H H':Hp} {p:Addr} {v:V} {wide:Int} {ws:List (Int×Int)} {L:PlL} {st:PlS} {lt li pn:Addr} {ts is:List (Int×Int)}
theorem one_dj {S:List Addr} {y:Addr} (h:y∉S):Dj S [y]:=fun a ha hm=>h (by simp at hm;rw [←hm];exact ha)
end
end
end Ep
namespace L2
open PySem PyProof.Rows
section
def gallopP:Bool→Keyed→Array Keyed→Nat→Nat→Nat→StateT SortSt Sem (Option Nat):=sortPriv% PySem.Builtin.gallop
def bey (left:Bool) (k x:Int):Bool:=if left=true then decide (x<k) else !decide (k<x)
theorem bey_mono {left:Bool} {k x y:Int} (h:x≤y) (b:bey left k y=true):bey left k x=true:=by
 unfold bey at *
 cases left with
 |true=>simp at b ⊢;walk_at"q"
 |false=>simp at b ⊢;walk_at"q"
theorem ik_at {arr:Array Keyed} (ia:IntKeys arr) {i:Nat} (h:i<arr.size):∃ p t,arr[i]?=some p∧p.1=.int (PyProof.Rows.K arr i) t:=by
 obtain ⟨n,t,e⟩:=ia arr[i] (by simp)
 have e1:arr[i]?=some arr[i]:=getElem?_pos _ i h
 refine ⟨arr[i],t,e1,?_⟩
 unfold PyProof.Rows.K
 rw [e1]
 show _=Value.int (numOf arr[i].1) t
 rw [e]
 rfl
section
variable {prog:Program} {w:World} {A:Around} {E:Value→Shared→Prop} {s:Shared} {st:SortSt}
theorem wpS_ltP {x y:Keyed} {a b:Int} {t u:Tok} {Q:Option Bool→SortSt→Prop} (hk:kindOf st=oneType') (hx:x.1=.int a t) (hy:y.1=.int b u) (h:Q (some (decide (a<b))) st):wpS (model prog w) A E s (lt' x y) Q st:=by
 rw [lt'_eq]
 refine wpS_bind (wpS_get ?_)
 rw [hk,keyLt'_oneType,hx,hy]
 refine wpS_bind (wpS_lift (wpAny_attempt (oneLt_int ⟨rfl,?_⟩)))
 exact wpS_pure h
theorem wpS_elemP {arr:Array Keyed} {i:Nat} {x:Keyed} {Q:Keyed→SortSt→Prop} (h:arr[i]?=some x) (q:Q x st):wpS (model prog w) A E s (elem' arr i) Q st:=by
 rw [elem'_eq,h]
 exact wpS_pure q
theorem wpS_bey {left:Bool} {key:Keyed} {arr:Array Keyed} {i:Nat} {k:Int} {t:Tok} {Q:Option Bool→SortSt→Prop} (hk:kindOf st=oneType') (ia:IntKeys arr) (hkey:key.1=.int k t) (hi:i<arr.size) (q:Q (some (bey left k (PyProof.Rows.K arr i))) st) :
  wpS (model prog w) A E s (do
   let x ←elem' arr i
   if left=true then lt' x key else do
    let r ←lt' key x
    pure (Option.map (fun x=>!x) r)) Q st:=by
 obtain ⟨p,u,e,ep⟩:=ik_at ia hi
 refine wpS_bind (wpS_elemP e ?_)
 unfold bey at q
 cases left with
 |true=>rw [if_pos rfl] at q ⊢;exact wpS_ltP hk ep hkey q
 |false =>
  rw [if_neg (by decide)] at q ⊢
  exact wpS_bind (wpS_ltP hk hkey ep (wpS_pure q))
theorem wpS_gallop {left:Bool} {key:Keyed} {arr:Array Keyed} {base n hint:Nat} {k:Int} {t:Tok} {Q:Option Nat→SortSt→Prop} (hk:kindOf st=oneType') (ia:IntKeys arr) (hkey:key.1=.int k t) (hn:base+n≤arr.size) (hh:hint<n)
  (srt:∀ i j,i≤j→j<n→PyProof.Rows.K arr (base+i)≤PyProof.Rows.K arr (base+j))
  (h:∀ r,r≤n→(∀ i,i<r→bey left k (PyProof.Rows.K arr (base+i))=true)→(∀ i,r≤i→i<n→bey left k (PyProof.Rows.K arr (base+i))=false)→Q (some r) st) :
  wpS (model prog w) A E s (gallopP left key arr base n hint) Q st:=by
 have up:∀ i j,i≤j→j<n→bey left k (PyProof.Rows.K arr (base+j))=true→bey left k (PyProof.Rows.K arr (base+i))=true:=fun i j hij hj b=>bey_mono (srt i j hij hj) b
 have dn:∀ i j,i≤j→j<n→bey left k (PyProof.Rows.K arr (base+i))=false→bey left k (PyProof.Rows.K arr (base+j))=false:=fun i j hij hj b=>by
  cases e:bey left k (PyProof.Rows.K arr (base+j)) with
  |false=>rfl
  |true=>rw [up i j hij hj e] at b;cases b
 -- the search between two ends
 have bin:∀ (lo hi:Nat) (f:Nat→Option (Option Nat)×Nat×Nat→StateT SortSt Sem (ForInStep (Option (Option Nat)×Nat×Nat))),
   (∀ x c,f x c=(if c.2.1≥c.2.2 then pure (ForInStep.done (none,c.2.1,c.2.2)) else do
    let y ←(do
     let x ←elem' arr (base+(c.2.1+(c.2.2-c.2.1) / 2))
     if left=true then lt' x key else do
      let r ←lt' key x
      pure (Option.map (fun x=>!x) r))
    match y with
    |some more=>if more=true then pure (ForInStep.yield (none,c.2.1+(c.2.2-c.2.1) / 2+1,c.2.2)) else pure (ForInStep.yield (none,c.2.1,c.2.1+(c.2.2-c.2.1) / 2))
    |x=>pure (ForInStep.done (some none,c.2.1,c.2.2)))) →
   lo≤hi→hi≤n→(∀ i,i<lo→bey left k (PyProof.Rows.K arr (base+i))=true)→(∀ i,hi≤i→i<n→bey left k (PyProof.Rows.K arr (base+i))=false) →
   wpS (model prog w) A E s (forIn [0:n] ((none,lo,hi):Option (Option Nat)×Nat×Nat) f) (fun c st'=>st'=st∧∃ l r,c=(none,l,r)∧r≤n∧(∀ i,i<r→bey left k (PyProof.Rows.K arr (base+i))=true)∧(∀ i,r≤i→i<n→bey left k (PyProof.Rows.K arr (base+i))=false)) st:=by
  intro lo hi f hf h1 h2 h3 h4
  refine wpS_forRange (I:=fun x c st'=>st'=st∧∃ l r,c=(none,l,r)∧l≤r∧r≤n∧r-l≤n-x∧(∀ i,i<l→bey left k (PyProof.Rows.K arr (base+i))=true)∧(∀ i,r≤i→i<n→bey left k (PyProof.Rows.K arr (base+i))=false)) ?_ ?_ ⟨rfl,lo,hi,rfl,h1,h2,by walk_at"q", h3,h4⟩
  ·rintro x c st' _ hx ⟨rfl,l,r,rfl,a1,a2,a3,a4,a5⟩
   rw [hf]
   dsimp only
   by_cases c1:l≥r
   ·rw [if_pos c1]
    have:l=r:=by walk_at"q"
    subst this
    exact wpS_pure ⟨rfl,l,l,rfl,a2,a4,a5⟩
   ·rw [if_neg c1]
    refine wpS_bind (wpS_bey hk ia hkey (by walk_at"q") ?_)
    dsimp only
    cases e:bey left k (PyProof.Rows.K arr (base+(l+(r-l) / 2))) with
    |true =>
     rw [if_pos rfl]
     exact wpS_pure ⟨rfl,_,_,rfl,by walk_at"q", a2,by walk_at"q", fun i hi=>up i (l+(r-l) / 2) (by walk_at"q") (by walk_at"q") e,a5⟩
    |false =>
     rw [if_neg (by decide)]
     exact wpS_pure ⟨rfl,_,_,rfl,by walk_at"q", by walk_at"q", by walk_at"q", a4,fun i h1 h2=>dn (l+(r-l) / 2) i h1 h2 e⟩
  ·rintro c st' ⟨rfl,l,r,rfl,a1,a2,a3,a4,a5⟩
   have:l=r:=by walk_at"q"
   subst this
   exact ⟨rfl,l,l,rfl,a2,a4,a5⟩
 have fin:∀ (lo hi:Nat) (f:Nat→Option (Option Nat)×Nat×Nat→StateT SortSt Sem (ForInStep (Option (Option Nat)×Nat×Nat))) (g:Option (Option Nat)×Nat×Nat→StateT SortSt Sem (Option Nat)),(∀ l r,g (none,l,r)=pure (some r))→wpS (model prog w) A E s (forIn [0:n] ((none,lo,hi):Option (Option Nat)×Nat×Nat) f) (fun c st'=>st'=st∧∃ l r,c=(none,l,r)∧r≤n∧(∀ i,i<r→bey left k (PyProof.Rows.K arr (base+i))=true)∧(∀ i,r≤i→i<n→bey left k (PyProof.Rows.K arr (base+i))=false)) st →
   wpS (model prog w) A E s (forIn [0:n] ((none,lo,hi):Option (Option Nat)×Nat×Nat) f >>= g) Q st:=by
  intro lo hi f g hg hb
  refine wpS_bind (wpS_mono hb ?_)
  rintro c st' ⟨rfl,l,r,rfl,a1,a2,a3⟩
  rw [hg]
  exact wpS_pure (h r a1 a2 a3)
 refine wpS_bind (wpS_bey hk ia hkey (by walk_at"q") ?_)
 dsimp only
 cases eh:bey left k (PyProof.Rows.K arr (base+hint)) with
 |true =>
  rw [if_pos rfl]
  refine wpS_bind (wpS_mono (wpS_forRange (I:=fun x c st'=>st'=st∧∃ l o,c=(none,l,o)∧l<o∧x<o∧hint+l<n∧bey left k (PyProof.Rows.K arr (base+(hint+l)))=true)
   (Q:=fun c st'=>st'=st∧∃ l o,c=(none,l,o)∧l<o∧hint+l<n∧bey left k (PyProof.Rows.K arr (base+(hint+l)))=true∧(n-hint≤o∨(hint+o<n∧bey left k (PyProof.Rows.K arr (base+(hint+o)))=false))) ?_ ?_ ⟨rfl,0,1,rfl,by walk_at"q", by walk_at"q", by walk_at"q", eh⟩) ?_)
  ·rintro x c st' _ hx ⟨rfl,l,o,rfl,a1,a2,a3,a4⟩
   dsimp only
   by_cases c1:o≥n-hint
   ·rw [if_pos c1]
    exact wpS_pure ⟨rfl,l,o,rfl,a1,a3,a4,.inl c1⟩
   ·rw [if_neg c1]
    refine wpS_bind (wpS_bey hk ia hkey (by walk_at"q") ?_)
    dsimp only
    cases e:bey left k (PyProof.Rows.K arr (base+(hint+o))) with
    |true =>
     simp only [Bool.not_true,Bool.false_eq_true,if_false]
     exact wpS_pure ⟨rfl,_,_,rfl,by walk_at"q", by walk_at"q", by walk_at"q", e⟩
    |false =>
     simp only [Bool.not_false,if_true]
     exact wpS_pure ⟨rfl,_,_,rfl,a1,a3,a4,.inr ⟨by walk_at"q", e⟩⟩
  ·rintro c st' ⟨rfl,l,o,rfl,a1,a2,a3,a4⟩
   exact ⟨rfl,l,o,rfl,a1,a3,a4,.inl (by walk_at"q")⟩
  ·rintro c st' ⟨rfl,l,o,rfl,a1,a3,a4,a5⟩
   dsimp only
   refine fin _ _ _ _ (fun l r=>rfl) (bin _ _ _ (fun x c=>rfl) (by walk_at"q") (by walk_at"q") (fun i hi=>up i (hint+l) (by walk_at"q") a3 a4) fun i h1 h2=>?_)
   rcases a5 with a5|⟨a5,a6⟩
   ·walk_at"q"
   ·exact dn (hint+o) i (by walk_at"q") h2 a6
 |false =>
  rw [if_neg (by decide)]
  refine wpS_bind (wpS_mono (wpS_forRange (I:=fun x c st'=>st'=st∧∃ l o,c=(none,l,o)∧l<o∧x<o∧l≤hint∧bey left k (PyProof.Rows.K arr (base+(hint-l)))=false)
   (Q:=fun c st'=>st'=st∧∃ l o,c=(none,l,o)∧l<o∧l≤hint∧bey left k (PyProof.Rows.K arr (base+(hint-l)))=false∧(hint+1≤o∨(o≤hint∧bey left k (PyProof.Rows.K arr (base+(hint-o)))=true))) ?_ ?_ ⟨rfl,0,1,rfl,by walk_at"q", by walk_at"q", by walk_at"q", eh⟩) ?_)
  ·rintro x c st' _ hx ⟨rfl,l,o,rfl,a1,a2,a3,a4⟩
   dsimp only
   by_cases c1:o≥hint+1
   ·rw [if_pos c1]
    exact wpS_pure ⟨rfl,l,o,rfl,a1,a3,a4,.inl c1⟩
   ·rw [if_neg c1]
    refine wpS_bind (wpS_bey hk ia hkey (by walk_at"q") ?_)
    dsimp only
    cases e:bey left k (PyProof.Rows.K arr (base+(hint-o))) with
    |true =>
     rw [if_pos rfl]
     exact wpS_pure ⟨rfl,_,_,rfl,a1,a3,a4,.inr ⟨by walk_at"q", e⟩⟩
    |false =>
     rw [if_neg (by decide)]
     exact wpS_pure ⟨rfl,_,_,rfl,by walk_at"q", by walk_at"q", by walk_at"q", e⟩
  ·rintro c st' ⟨rfl,l,o,rfl,a1,a2,a3,a4⟩
   exact ⟨rfl,l,o,rfl,a1,a3,a4,.inl (by walk_at"q")⟩
  ·rintro c st' ⟨rfl,l,o,rfl,a1,a3,a4,a5⟩
   dsimp only
   refine fin _ _ _ _ (fun l r=>rfl) (bin _ _ _ (fun x c=>rfl) (by walk_at"q") (by walk_at"q") (fun i hi=>?_) fun i h1 h2=>dn (hint-l) i h1 h2 a4)
   rcases a5 with a5|⟨a5,a6⟩
   ·walk_at"q"
   ·exact up i (hint-o) (by walk_at"q") (by walk_at"q") a6
end
end
section
structure SB (a₀:Array Keyed) (st:SortSt):Prop where
 perm:(arrOf st).Perm a₀
 kind:kindOf st=oneType'
 failed:failedOf st=none
theorem SB.size {a₀:Array Keyed} {st:SortSt} (h:SB a₀ st):(arrOf st).size=a₀.size:=h.perm.size_eq
theorem SB.setArr {a₀:Array Keyed} {st:SortSt} (h:SB a₀ st) {xs:Array Keyed} (hp:xs.Perm (arrOf st)):SB a₀ (PyProof.Rows.setArr st xs):=⟨hp.trans h.perm,h.kind,h.failed⟩
theorem ik_perm {xs ys:Array Keyed} (h:ys.Perm xs) (ia:IntKeys xs):IntKeys ys:=fun p hp=>ia p ((Array.perm_iff_toList_perm.mp h).mem_iff.mp hp)
theorem SB.ik {a₀:Array Keyed} {st:SortSt} (h:SB a₀ st) (h0:IntKeys a₀):IntKeys (arrOf st):=ik_perm h.perm h0
abbrev KK (xs:Array Keyed) (i:Nat):Int:=PyProof.Rows.K xs i
def SrtIn (xs:Array Keyed) (lo hi:Nat):Prop:=∀ i j,lo≤i→i≤j→j<hi→KK xs i≤KK xs j
def DecIn (xs:Array Keyed) (lo hi:Nat):Prop:=∀ i j,lo≤i→i≤j→j<hi→KK xs j≤KK xs i
def Pre (lo:Nat) (xs ys:Array Keyed):Prop:=∀ i,i<lo→ys[i]?=xs[i]?
theorem Pre.refl (lo:Nat) (xs:Array Keyed):Pre lo xs xs:=fun _ _=>rfl
theorem Pre.trans {lo:Nat} {xs ys zs:Array Keyed} (a:Pre lo xs ys) (b:Pre lo ys zs):Pre lo xs zs:=fun i h=>(b i h).trans (a i h)
theorem Pre.mir {lo i j:Nat} {xs:Array Keyed} (hj:j≤xs.size) (h:lo≤i):Pre lo xs (mirror xs i j ((j-i) / 2)):=fun k hk=>by rw [getElem?_mirror_all hj,if_neg (by walk_at"q")]
theorem SrtIn.one {xs:Array Keyed} {lo hi:Nat} (h:hi≤lo+1):SrtIn xs lo hi:=fun i j h1 h2 h3=>by
 have:i=j:=by walk_at"q"
 subst this;exact Int.le_refl _
theorem SrtIn.snoc {xs:Array Keyed} {lo hi:Nat} (h:SrtIn xs lo hi) (hl:lo<hi) (n:¬ KK xs hi<KK xs (hi-1)):SrtIn xs lo (hi+1):=fun i j h1 h2 h3=>by
 by_cases c:j<hi
 ·exact h i j h1 h2 c
 ·have:j=hi:=by walk_at"q"
  subst this
  by_cases d:i=j
  ·subst d;exact Int.le_refl _
  ·exact Int.le_trans (h i (j-1) h1 (by walk_at"q") (by walk_at"q")) (Int.not_lt.mp n)
theorem DecIn.snoc {xs:Array Keyed} {lo hi:Nat} (h:DecIn xs lo hi) (hl:lo<hi) (n:KK xs hi≤KK xs (hi-1)):DecIn xs lo (hi+1):=fun i j h1 h2 h3=>by
 by_cases c:j<hi
 ·exact h i j h1 h2 c
 ·have:j=hi:=by walk_at"q"
  subst this
  by_cases d:i=j
  ·subst d;exact Int.le_refl _
  ·exact Int.le_trans n (h i (j-1) h1 (by walk_at"q") (by walk_at"q"))
section
variable {prog:Program} {w:World} {A:Around} {E:Value→Shared→Prop} {s:Shared} {a₀:Array Keyed} {st:SortSt} {lo nrem:Nat}
theorem wpS_ltL {i j:Nat} {Q:Option Bool→SortSt→Prop} (hB:SB a₀ st) (h0:IntKeys a₀) (hi:i<a₀.size) (hj:j<a₀.size) (h:Q (some (decide (KK (arrOf st) i<KK (arrOf st) j))) st):wpS (model prog w) A E s (ltAt' i j) Q st:=by
 obtain ⟨p,t,e1,e2⟩:=ik_at (hB.ik h0) (i:=i) (by rw [hB.size];exact hi)
 obtain ⟨q,u,e3,e4⟩:=ik_at (hB.ik h0) (i:=j) (by rw [hB.size];exact hj)
 have e1':(arrOf st)[i]?=some (.int (KK (arrOf st) i) t,p.2):=e1.trans (congrArg some (Prod.ext e2 rfl))
 have e3':(arrOf st)[j]?=some (.int (KK (arrOf st) j) u,q.2):=e3.trans (congrArg some (Prod.ext e4 rfl))
 exact wpS_ltAt hB.kind e1' e3' h
theorem wpS_ascL {a:Nat} (f:Nat→Option (Option Nat)×Nat→StateT SortSt Sem (ForInStep (Option (Option Nat)×Nat)))
  (hf:∀ x c,f x c=(do
   let y ←ltAt' (lo+c.2) (lo+c.2-1)
   match y with
   |some sm=>if sm=true then pure (ForInStep.done (none,c.2)) else pure (ForInStep.yield (none,c.2+1))
   |x=>pure (ForInStep.done (some none,c.2))))
  (h0:IntKeys a₀) (hn:lo+nrem≤a₀.size) (ha:1≤a) (han:a≤nrem) (hB:SB a₀ st) (hs:SrtIn (arrOf st) lo (lo+a)) :
  wpS (model prog w) A E s (forIn [a:nrem] ((none,a):Option (Option Nat)×Nat) f) (fun c st'=>st'=st∧∃ n,c=(none,n)∧a≤n∧n≤nrem∧SrtIn (arrOf st) lo (lo+n)∧(n=nrem∨KK (arrOf st) (lo+n)<KK (arrOf st) (lo+n-1))) st:=by
 refine wpS_forRange (I:=fun x c st'=>st'=st∧c=(none,x)∧SrtIn (arrOf st) lo (lo+x)) ?_ ?_ ⟨rfl,rfl,hs⟩
 ·rintro x c st' hax hxn ⟨rfl,rfl,hs'⟩
  rw [hf]
  dsimp only
  refine wpS_bind (wpS_ltL hB h0 (by walk_at"q") (by walk_at"q") ?_)
  dsimp only
  by_cases hless:KK (arrOf st') (lo+x)<KK (arrOf st') (lo+x-1)
  ·rw [decide_eq_true hless,if_pos rfl]
   exact wpS_pure ⟨rfl,x,rfl,hax,by walk_at"q", hs',.inr hless⟩
  ·rw [decide_eq_false hless,if_neg (by decide)]
   exact wpS_pure ⟨rfl,rfl,hs'.snoc (by walk_at"q") hless⟩
 ·rintro c st' ⟨rfl,rfl,hs'⟩
  rw [show max a nrem=nrem by walk_at"q"] at hs' ⊢
  exact ⟨rfl,nrem,rfl,han,Nat.le_refl _,hs',.inl rfl⟩
def RunAt (a₀:Array Keyed) (lo nrem:Nat) (st:SortSt) (m:Nat) (st':SortSt):Prop:=SB a₀ st'∧pendingOf st'=pendingOf st∧Pre lo (arrOf st) (arrOf st')∧1≤m∧m≤nrem∧SrtIn (arrOf st') lo (lo+m)
theorem wpS_tailL {n:Nat} {Q:Option Nat→SortSt→Prop} (f:Nat→Option (Option Nat)×Nat→StateT SortSt Sem (ForInStep (Option (Option Nat)×Nat))) (g:Option (Option Nat)×Nat→StateT SortSt Sem (Option Nat))
  (hf:∀ x c,f x c=(do
   let y ←ltAt' (lo+c.2) (lo+c.2-1)
   match y with
   |some sm=>if sm=true then pure (ForInStep.done (none,c.2)) else pure (ForInStep.yield (none,c.2+1))
   |x=>pure (ForInStep.done (some none,c.2))))
  (hg:∀ m,g (none,m)=pure (some m)) (h0:IntKeys a₀) (hn:lo+nrem≤a₀.size) (h1:1≤n) (hnn:n≤nrem) (hB:SB a₀ st) (hs:DecIn (arrOf st) lo (lo+n)) (h:∀ m st',RunAt a₀ lo nrem st m st'→Q (some m) st') :
  wpS (model prog w) A E s (reverseSlice' lo (lo+n) >>= fun _=>forIn [n:nrem] ((none,n):Option (Option Nat)×Nat) f >>= g) Q st:=by
 have hsz:lo+n≤(arrOf st).size:=by rw [hB.size];walk_at"q"
 refine wpS_bind (wpS_reverse ?_)
 have hB':SB a₀ (PyProof.Rows.setArr st (mirror (arrOf st) lo (lo+n) ((lo+n-lo) / 2))):=hB.setArr (mirror_perm _ _ _ _)
 refine wpS_bind (wpS_mono (wpS_ascL f hf h0 hn h1 hnn hB' ?_) ?_)
 ·intro i j h1 h2 h3
  show KK (mirror (arrOf st) lo (lo+n) ((lo+n-lo) / 2)) i≤KK (mirror (arrOf st) lo (lo+n) ((lo+n-lo) / 2)) j
  unfold KK
  rw [K_mirror hsz,K_mirror hsz,if_pos (by walk_at"q"),if_pos (by walk_at"q")]
  exact hs _ _ (by walk_at"q") (by walk_at"q") (by walk_at"q")
 ·rintro c st' ⟨rfl,m,rfl,a1,a2,a3,_⟩
  rw [hg]
  exact wpS_pure (h m _ ⟨hB',rfl,Pre.mir hsz (Nat.le_refl _),by walk_at"q", a2,a3⟩)
theorem wpS_descL {n:Nat} {Q:Option Nat→SortSt→Prop} (f:Nat→Option (Option Nat)×Nat×Nat→StateT SortSt Sem (ForInStep (Option (Option Nat)×Nat×Nat))) (g:Option (Option Nat)×Nat×Nat→StateT SortSt Sem (Option Nat)) (tl:Nat→StateT SortSt Sem (Option Nat))
  (hf:∀ x c,f x c=(do
   let y ←ltAt' (lo+c.2.1) (lo+c.2.1-1)
   match y with
   |some sm =>
    if sm=true then
     if c.2.2>0 then do
      let _ ←reverseSlice' (lo+c.2.1-(c.2.2+1)) (lo+c.2.1)
      pure (ForInStep.yield (none,c.2.1+1,0))
     else pure (ForInStep.yield (none,c.2.1+1,0))
    else do
     let z ←ltAt' (lo+c.2.1-1) (lo+c.2.1)
     match z with
     |some la=>if la=true then pure (ForInStep.done (none,c.2.1,c.2.2)) else pure (ForInStep.yield (none,c.2.1+1,c.2.2+1))
     |x=>pure (ForInStep.done (some none,c.2.1,c.2.2))
   |x=>pure (ForInStep.done (some none,c.2.1,c.2.2))))
  (hg:∀ m neq,g (none,m,neq)=if neq>0 then (reverseSlice' (lo+m-(neq+1)) (lo+m) >>= fun _=>tl m) else tl m) (h0:IntKeys a₀) (hn:lo+nrem≤a₀.size) (h1:1≤n) (hnn:n≤nrem) (hB:SB a₀ st) (hs:DecIn (arrOf st) lo (lo+n))
  (ht:∀ m st',SB a₀ st'→pendingOf st'=pendingOf st→Pre lo (arrOf st) (arrOf st')→1≤m→m≤nrem→DecIn (arrOf st') lo (lo+m)→wpS (model prog w) A E s (tl m) Q st') :
  wpS (model prog w) A E s (forIn [n:nrem] ((none,n,0):Option (Option Nat)×Nat×Nat) f >>= g) Q st:=by
 refine wpS_bind (wpS_mono (wpS_forRange (I:=fun x c st'=>∃ neq,c=(none,x,neq)∧SB a₀ st'∧pendingOf st'=pendingOf st∧Pre lo (arrOf st) (arrOf st')∧DecIn (arrOf st') lo (lo+x)∧neq+1≤x∧(∀ i,lo+x-(neq+1)≤i→i<lo+x→KK (arrOf st') i=KK (arrOf st') (lo+x-1)))
  (Q:=fun c st'=>∃ m neq,c=(none,m,neq)∧SB a₀ st'∧pendingOf st'=pendingOf st∧Pre lo (arrOf st) (arrOf st')∧n≤m∧m≤nrem∧DecIn (arrOf st') lo (lo+m)∧neq+1≤m∧(∀ i,lo+m-(neq+1)≤i→i<lo+m→KK (arrOf st') i=KK (arrOf st') (lo+m-1))) ?_ ?_ ⟨0,rfl,hB,rfl,Pre.refl _ _,hs,by walk_at"q", fun i h1 h2=>by congr 1;walk_at"q"⟩) ?_)
 ·rintro x c st' hax hxn ⟨neq,rfl,hB',pe,pr,hs',hq,he⟩
  have hsz:lo+x≤(arrOf st').size:=by rw [hB'.size];walk_at"q"
  rw [hf]
  dsimp only
  refine wpS_bind (wpS_ltL hB' h0 (by walk_at"q") (by walk_at"q") ?_)
  dsimp only
  by_cases hless:KK (arrOf st') (lo+x)<KK (arrOf st') (lo+x-1)
  ·rw [decide_eq_true hless,if_pos rfl]
   have d1:DecIn (arrOf st') lo (lo+x+1):=hs'.snoc (by walk_at"q") (Int.le_of_lt hless)
   by_cases hneq:neq>0
   ·rw [if_pos hneq]
    refine wpS_bind (wpS_reverse (wpS_pure ⟨0,rfl,hB'.setArr (mirror_perm _ _ _ _),pe,Pre.trans pr (Pre.mir hsz (by walk_at"q")),?_,by walk_at"q", fun i h1 h2=>by congr 1;walk_at"q"⟩))
    intro i j a1 a2 a3
    show KK (mirror (arrOf st') _ _ _) j≤KK (mirror (arrOf st') _ _ _) i
    unfold KK
    rw [K_mirror_equal hsz he,K_mirror_equal hsz he]
    exact d1 i j a1 a2 a3
   ·rw [if_neg hneq]
    exact wpS_pure ⟨0,rfl,hB',pe,pr,d1,by walk_at"q", fun i h1 h2=>by congr 1;walk_at"q"⟩
  ·rw [decide_eq_false hless,if_neg (by decide)]
   refine wpS_bind (wpS_ltL hB' h0 (by walk_at"q") (by walk_at"q") ?_)
   dsimp only
   by_cases hla:KK (arrOf st') (lo+x-1)<KK (arrOf st') (lo+x)
   ·rw [decide_eq_true hla,if_pos rfl]
    exact wpS_pure ⟨x,neq,rfl,hB',pe,pr,hax,by walk_at"q", hs',hq,he⟩
   ·rw [decide_eq_false hla,if_neg (by decide)]
    have heqx:KK (arrOf st') (lo+x)=KK (arrOf st') (lo+x-1):=by walk_at"q"
    refine wpS_pure ⟨neq+1,rfl,hB',pe,pr,hs'.snoc (by walk_at"q") (Int.le_of_eq heqx),by walk_at"q", fun i a1 a2=>?_⟩
    rw [show lo+(x+1)-1=lo+x by walk_at"q"]
    by_cases hix:i=lo+x
    ·subst hix;rfl
    ·rw [heqx];exact he i (by walk_at"q") (by walk_at"q")
 ·rintro c st' ⟨neq,rfl,hB',pe,pr,hs',hq,he⟩
  rw [show max n nrem=nrem by walk_at"q"] at hs' hq he ⊢
  exact ⟨nrem,neq,rfl,hB',pe,pr,hnn,Nat.le_refl _,hs',hq,he⟩
 ·rintro c st' ⟨m,neq,rfl,hB',pe,pr,a1,a2,hs',hq,he⟩
  have hsz:lo+m≤(arrOf st').size:=by rw [hB'.size];walk_at"q"
  rw [hg]
  by_cases hneq:neq>0
  ·rw [if_pos hneq]
   refine wpS_bind (wpS_reverse (ht m _ (hB'.setArr (mirror_perm _ _ _ _)) pe (Pre.trans pr (Pre.mir hsz (by walk_at"q"))) (by walk_at"q") a2 ?_))
   intro i j b1 b2 b3
   show KK (mirror (arrOf st') _ _ _) j≤KK (mirror (arrOf st') _ _ _) i
   unfold KK
   rw [K_mirror_equal hsz he,K_mirror_equal hsz he]
   exact hs' i j b1 b2 b3
  ·rw [if_neg hneq]
   exact ht m st' hB' pe pr (by walk_at"q") a2 hs'
theorem wpS_countL {Q:Option Nat→SortSt→Prop} (h0:IntKeys a₀) (hn:lo+nrem≤a₀.size) (h1:1≤nrem) (hB:SB a₀ st) (h:∀ m st',RunAt a₀ lo nrem st m st'→Q (some m) st') :
  wpS (model prog w) A E s (countRun' lo nrem) Q st:=by
 have tail:∀ (n:Nat) (f:Nat→Option (Option Nat)×Nat→StateT SortSt Sem (ForInStep (Option (Option Nat)×Nat))) (g:Option (Option Nat)×Nat→StateT SortSt Sem (Option Nat)),(∀ x c,f x c=(do
   let y ←ltAt' (lo+c.2) (lo+c.2-1)
   match y with
   |some sm=>if sm=true then pure (ForInStep.done (none,c.2)) else pure (ForInStep.yield (none,c.2+1))
   |x=>pure (ForInStep.done (some none,c.2))))→(∀ m,g (none,m)=pure (some m))→∀ st',SB a₀ st'→pendingOf st'=pendingOf st→Pre lo (arrOf st) (arrOf st')→1≤n→n≤nrem→DecIn (arrOf st') lo (lo+n) →
   wpS (model prog w) A E s (reverseSlice' lo (lo+n) >>= fun _=>forIn [n:nrem] ((none,n):Option (Option Nat)×Nat) f >>= g) Q st':=fun n f g hf hg st' hB' pe pr a1 a2 hs =>
  wpS_tailL f g hf hg h0 hn a1 a2 hB' hs fun m st2 ⟨b1,b2,b3,b4⟩=>h m st2 ⟨b1,b2.trans pe,Pre.trans pr b3,b4⟩
 refine wpS_bind (wpS_mono (wpS_ascL _ (fun x c=>rfl) h0 hn (Nat.le_refl 1) h1 hB (SrtIn.one (Nat.le_refl _))) ?_)
 rintro c st' ⟨rfl,n,rfl,a1,a2,a3,a4⟩
 dsimp only
 by_cases hnn:n=nrem
 ·rw [if_pos (by simpa using hnn)]
  exact wpS_pure (h n _ ⟨hB,rfl,Pre.refl _ _,a1,a2,a3⟩)
 ·rw [if_neg (by simpa using hnn)]
  have hlt:=a4.resolve_left hnn
  by_cases hgt:n>1
  ·rw [if_pos hgt]
   refine wpS_bind (wpS_ltL hB h0 (by walk_at"q") (by walk_at"q") ?_)
   dsimp only
   by_cases hrose:KK (arrOf st') lo<KK (arrOf st') (lo+n-1)
   ·rw [decide_eq_true hrose,if_pos rfl]
    exact wpS_pure (h n _ ⟨hB,rfl,Pre.refl _ _,a1,a2,a3⟩)
   ·rw [decide_eq_false hrose,if_neg (by decide)]
    have hsz:lo+n≤(arrOf st').size:=by rw [hB.size];walk_at"q"
    have hall:∀ k,lo≤k→k<lo+n→KK (arrOf st') k=KK (arrOf st') (lo+n-1):=by
     intro k k1 k2
     have b1:=a3 lo k (Nat.le_refl _) k1 k2
     have b2:=a3 k (lo+n-1) k1 (by walk_at"q") (by walk_at"q")
     walk_at"q"
    have d1:DecIn (arrOf st') lo (lo+(n+1)):=DecIn.snoc (hi:=lo+n) (fun i j c1 c2 c3=>by rw [hall i c1 (by walk_at"q"),hall j (by walk_at"q") c3];exact Int.le_refl _) (by walk_at"q") (Int.le_of_lt hlt)
    refine wpS_bind (wpS_reverse ?_)
    refine wpS_bind (wpS_lift (wpAny_rule ⟨rfl,?_⟩))
    refine wpS_descL _ _ _ (fun x c=>?_) (fun m neq=>rfl) h0 hn (by walk_at"q") (by walk_at"q") (hB.setArr (mirror_perm _ _ _ _)) ?_ (fun m st2 b1 b2 b3 b4 b5 b6=>tail m _ _ (fun x c=>rfl) (fun m=>rfl) st2 b1 b2 (Pre.trans (Pre.mir hsz (Nat.le_refl _)) b3) b4 b5 b6)
    ·rfl
    ·intro i j c1 c2 c3
     show KK (mirror (arrOf st') _ _ _) j≤KK (mirror (arrOf st') _ _ _) i
     unfold KK
     rw [K_mirror_equal hsz hall,K_mirror_equal hsz hall]
     exact d1 i j c1 c2 c3
  ·rw [if_neg hgt]
   have hn1':n=1:=by walk_at"q"
   subst hn1'
   have d1:DecIn (arrOf st') lo (lo+(1+1)):=DecIn.snoc (hi:=lo+1) (fun i j c1 c2 c3=>by have:i=j:=by walk_at"q"
                                                                                        subst this;exact Int.le_refl _) (by walk_at"q") (Int.le_of_lt hlt)
   refine wpS_bind (wpS_lift (wpAny_rule ⟨rfl,?_⟩))
   exact wpS_descL _ _ _ (fun x c=>rfl) (fun m neq=>rfl) h0 hn (by walk_at"q") (by walk_at"q") hB d1 (fun m st2 b1 b2 b3 b4 b5 b6=>tail m _ _ (fun x c=>rfl) (fun m=>rfl) st2 b1 b2 b3 b4 b5 b6)
end
end
section
section
variable {prog:Program} {w:World} {A:Around} {E:Value→Shared→Prop} {s:Shared} {a₀:Array Keyed} {st:SortSt} {lo:Nat}
theorem wpS_binL {n ok:Nat} {Q:Bool→SortSt→Prop} (h0:IntKeys a₀) (hn:lo+n≤a₀.size) (hok:ok≤n) (hB:SB a₀ st) (hs:SrtIn (arrOf st) lo (lo+ok))
  (h:∀ st',SB a₀ st'→pendingOf st'=pendingOf st→Pre lo (arrOf st) (arrOf st')→SrtIn (arrOf st') lo (lo+n)→Q true st'):wpS (model prog w) A E s (binarySort' lo n ok) Q st:=by
 refine wpS_bind (wpS_mono (wpS_forRange (I:=fun k c st'=>c=(none,())∧SB a₀ st'∧pendingOf st'=pendingOf st∧Pre lo (arrOf st) (arrOf st')∧SrtIn (arrOf st') lo (lo+min k n))
  (Q:=fun c st'=>c=(none,())∧SB a₀ st'∧pendingOf st'=pendingOf st∧Pre lo (arrOf st) (arrOf st')∧SrtIn (arrOf st') lo (lo+n)) ?step ?fin ?init) ?post)
 case post =>
  rintro c st' ⟨rfl,hB',pe,pr,hs'⟩
  exact wpS_pure (h st' hB' pe pr hs')
 case init =>
  refine ⟨rfl,hB,rfl,Pre.refl _ _,fun i j h1 h2 h3=>?_⟩
  by_cases c:ok=0
  ·have:i=j:=by walk_at"q"
   subst this;exact Int.le_refl _
  ·exact hs i j h1 h2 (by walk_at"q")
 case fin =>
  rintro c st' ⟨hc,hB',pe,pr,hs'⟩
  refine ⟨hc,hB',pe,pr,?_⟩
  rwa [show min (max (max ok 1) n) n=n by walk_at"q"] at hs'
 case step =>
  rintro k c st' hak hkn ⟨rfl,hB',pe,pr,hs'⟩
  rw [show min k n=k by walk_at"q"] at hs'
  have hk:lo+k<a₀.size:=by walk_at"q"
  refine wpS_bind (wpS_mono (wpS_forRange (I:=fun x c st''=>st''=st'∧∃ l r,c=(none,l,r)∧l≤r∧r≤k∧r-l≤k-x ∧
    (∀ i,i<l→KK (arrOf st') (lo+i)≤KK (arrOf st') (lo+k))∧(∀ i,r≤i→i<k→KK (arrOf st') (lo+k)<KK (arrOf st') (lo+i)))
   (Q:=fun c st''=>st''=st'∧∃ l r,c=(none,l,r)∧l≤k ∧
    (∀ i,i<l→KK (arrOf st') (lo+i)≤KK (arrOf st') (lo+k))∧(∀ i,l≤i→i<k→KK (arrOf st') (lo+k)<KK (arrOf st') (lo+i))) ?istep ?ifin ?iinit) ?ipost)
  case iinit=>exact ⟨rfl,0,k,rfl,by walk_at"q", by walk_at"q", by walk_at"q", fun i hi=>by walk_at"q", fun i h1 h2=>by walk_at"q"⟩
  case ifin =>
   rintro c st'' ⟨rfl,l,r,rfl,hlr,hrk,hm,hlo,hhi⟩
   have:l=r:=by walk_at"q"
   subst this
   exact ⟨rfl,l,l,rfl,hrk,hlo,hhi⟩
  case istep =>
   rintro x c st'' _ hxk ⟨rfl,l,r,rfl,hlr,hrk,hm,hlo,hhi⟩
   dsimp only
   by_cases hge:l≥r
   ·rw [if_pos hge]
    have:l=r:=by walk_at"q"
    subst this
    exact wpS_pure ⟨rfl,l,l,rfl,hrk,hlo,hhi⟩
   ·rw [if_neg hge]
    refine wpS_bind (wpS_ltL hB' h0 hk (by walk_at"q") ?_)
    dsimp only
    by_cases hless:KK (arrOf st'') (lo+k)<KK (arrOf st'') (lo+(l+r) / 2)
    ·rw [decide_eq_true hless,if_pos rfl]
     refine wpS_pure ⟨rfl,l,(l+r) / 2,rfl,by walk_at"q", by walk_at"q", by walk_at"q", hlo,fun i h1 h2=>?_⟩
     exact Int.lt_of_lt_of_le hless (hs' _ _ (by walk_at"q") (by walk_at"q") (by walk_at"q"))
    ·rw [decide_eq_false hless,if_neg (by decide)]
     refine wpS_pure ⟨rfl,(l+r) / 2+1,r,rfl,by walk_at"q", by walk_at"q", by walk_at"q", fun i h1=>?_,hhi⟩
     exact Int.le_trans (hs' (lo+i) (lo+(l+r) / 2) (by walk_at"q") (by walk_at"q") (by walk_at"q")) (Int.not_lt.mp hless)
  case ipost =>
   rintro c st'' ⟨rfl,l,r,rfl,hlk,hlo,hhi⟩
   show wpS _ _ _ _ (moveDown' (lo+k) (lo+l) >>= fun _=>pure (ForInStep.yield (none,()))) _ _
   rw [moveDown'_eq]
   have hks:lo+k<(arrOf st'').size:=by rw [hB'.size];exact hk
   refine wpS_bind (wpS_modify (wpS_pure ⟨rfl,hB'.setArr (bubble_perm _ _ _),pe,Pre.trans pr fun i hi=>?_,?_⟩))
   ·show (bubble (arrOf st'') (lo+k) (lo+k-(lo+l)))[i]?=_
    rw [getElem?_bubble hks _ (by walk_at"q"),if_neg (by walk_at"q"),if_neg (by walk_at"q")]
   ·rw [show min (k+1) n=k+1 by walk_at"q"]
    intro i j h1 h2 h3
    show KK (bubble (arrOf st'') (lo+k) (lo+k-(lo+l))) i≤KK (bubble (arrOf st'') (lo+k) (lo+k-(lo+l))) j
    unfold KK
    rw [K_bubble hks (by walk_at"q"),K_bubble hks (by walk_at"q"),show lo+k-(lo+k-(lo+l))=lo+l by walk_at"q"]
    have g1:∀ i,lo≤i→i<lo+l→PyProof.Rows.K (arrOf st'') i≤PyProof.Rows.K (arrOf st'') (lo+k):=fun i a b=>by
     have:=hlo (i-lo) (by walk_at"q")
     rwa [show lo+(i-lo)=i by walk_at"q"] at this
    have g2:∀ i,lo+l≤i→i<lo+k→PyProof.Rows.K (arrOf st'') (lo+k)<PyProof.Rows.K (arrOf st'') i:=fun i a b=>by
     have:=hhi (i-lo) (by walk_at"q") (by walk_at"q")
     rwa [show lo+(i-lo)=i by walk_at"q"] at this
    repeat' split
    all_goals first
     |(exfalso;walk_at"q")
     |exact Int.le_refl _
     |exact g1 _ (by walk_at"q") (by walk_at"q")
     |exact Int.le_of_lt (g2 _ (by walk_at"q") (by walk_at"q"))
     |exact hs' _ _ (by walk_at"q") (by walk_at"q") (by walk_at"q")
end
def mergeLoP:Array Keyed→Array Keyed→StateT SortSt Sem (Array Keyed):=sortPriv% PySem.Builtin.mergeLo
def mergeHiP:Array Keyed→Array Keyed→StateT SortSt Sem (Array Keyed):=sortPriv% PySem.Builtin.mergeHi
def leK (x y:Keyed):Prop:=numOf x.1≤numOf y.1
def Srt (l:List Keyed):Prop:=l.Pairwise leK
structure MI (a b:Array Keyed) (out:Array Keyed) (ia ib:Nat):Prop where
 la:ia≤a.size
 lb:ib≤b.size
 pm:out.toList.Perm (a.toList.take ia++b.toList.take ib)
 so:Srt out.toList
 ua:∀ x∈out.toList,∀ y∈a.toList.drop ia,leK x y
 ub:∀ x∈out.toList,∀ y∈b.toList.drop ib,leK x y
def Mgd (a b r:Array Keyed):Prop:=r.toList.Perm (a.toList++b.toList)∧Srt r.toList
theorem Srt.drop {l:List Keyed} (h:Srt l) (n:Nat):Srt (l.drop n):=List.Pairwise.drop h
theorem ext_all (a:Array Keyed) (i:Nat):(a.extract i a.size).toList=a.toList.drop i:=by
 rw [Array.toList_extract]
 show (a.toList.drop i).take (a.size-i)=_
 exact List.take_of_length_le (by simp)
section
variable {a b out:Array Keyed} {ia ib:Nat}
theorem MI.done (h:MI a b out ia ib) (sa:Srt a.toList) (sb:Srt b.toList) (e:ib=b.size∨ia=a.size):Mgd a b (out++a.extract ia a.size++b.extract ib b.size):=by
 have ed:b.toList.drop b.size=[]:=List.drop_of_length_le (by simp)
 have ea:a.toList.drop a.size=[]:=List.drop_of_length_le (by simp)
 unfold Mgd
 rw [Array.toList_append,Array.toList_append,ext_all,ext_all]
 constructor
 ·have p1:((out.toList++a.toList.drop ia)++b.toList.drop ib).Perm (((a.toList.take ia++b.toList.take ib)++a.toList.drop ia)++b.toList.drop ib):=(h.pm.append_right _).append_right _
  refine p1.trans ?_
  have p2:((a.toList.take ia++b.toList.take ib)++a.toList.drop ia).Perm ((a.toList.take ia++a.toList.drop ia)++b.toList.take ib):=by
   rw [List.append_assoc,List.append_assoc]
   exact (List.perm_append_comm).append_left _
  refine (p2.append_right _).trans ?_
  rw [List.take_append_drop,List.append_assoc,List.take_append_drop]
 ·rcases e with rfl|rfl
  ·rw [ed,List.append_nil]
   exact List.pairwise_append.mpr ⟨h.so,sa.drop _,h.ua⟩
  ·rw [ea,List.append_nil]
   exact List.pairwise_append.mpr ⟨h.so,sb.drop _,h.ub⟩
theorem MI.last (h:MI a b out ia ib) (sa:Srt a.toList) (sb:Srt b.toList) (ab:∀ x∈b.toList.drop ib,∀ y∈a.toList.drop ia,leK x y):Mgd a b (out++b.extract ib b.size++a.extract ia a.size):=by
 unfold Mgd
 rw [Array.toList_append,Array.toList_append,ext_all,ext_all]
 constructor
 ·have p1:((out.toList++b.toList.drop ib)++a.toList.drop ia).Perm (((a.toList.take ia++b.toList.take ib)++b.toList.drop ib)++a.toList.drop ia):=(h.pm.append_right _).append_right _
  refine p1.trans ?_
  rw [List.append_assoc (a.toList.take ia),List.take_append_drop]
  have p2:((a.toList.take ia++b.toList)++a.toList.drop ia).Perm ((a.toList.take ia++a.toList.drop ia)++b.toList):=by
   rw [List.append_assoc,List.append_assoc]
   exact (List.perm_append_comm).append_left _
  refine p2.trans ?_
  rw [List.take_append_drop]
 ·refine List.pairwise_append.mpr ⟨List.pairwise_append.mpr ⟨h.so,sb.drop _,h.ub⟩,sa.drop _,fun x hx y hy=>?_⟩
  rcases List.mem_append.mp hx with z|z
  ·exact h.ua x z y hy
  ·exact ab x z y hy
theorem drop_cons {l:Array Keyed} {i:Nat} {x:Keyed} (e:l[i]?=some x):l.toList.drop i=x::l.toList.drop (i+1):=by
 have e':l.toList[i]?=some x:=by rw [Array.getElem?_toList];exact e
 obtain ⟨hl,hx⟩:=List.getElem?_eq_some_iff.mp e'
 rw [←hx]
 exact List.drop_eq_getElem_cons hl
theorem take_cons {l:Array Keyed} {i:Nat} {x:Keyed} (e:l[i]?=some x):l.toList.take (i+1)=l.toList.take i++[x]:=by
 have e':l.toList[i]?=some x:=by rw [Array.getElem?_toList];exact e
 rw [List.take_add_one,e']
 rfl
theorem at_lt {l:Array Keyed} {i:Nat} {x:Keyed} (e:l[i]?=some x):i<l.size:=(Array.getElem?_eq_some_iff.mp e).1
theorem MI.pushA (h:MI a b out ia ib) (sa:Srt a.toList) {x:Keyed} (e:a[ia]?=some x) (le:∀ y∈b.toList.drop ib,leK x y):MI a b (out.push x) (ia+1) ib:=by
 have ed:=drop_cons e
 have hs:Srt (x::a.toList.drop (ia+1)):=by rw [←ed];exact sa.drop _
 have hx:=(List.pairwise_cons.mp hs).1
 refine ⟨at_lt e,h.lb,?_,?_,?_,?_⟩
 ·rw [Array.toList_push,take_cons e]
  refine (h.pm.append_right [x]).trans ?_
  rw [List.append_assoc,List.append_assoc]
  exact (List.perm_append_comm).append_left _
 ·rw [Array.toList_push]
  refine List.pairwise_append.mpr ⟨h.so,List.pairwise_singleton _ _,fun z hz y hy=>?_⟩
  rw [List.mem_singleton.mp hy]
  exact h.ua z hz x (by rw [ed];exact List.mem_cons_self)
 ·intro z hz y hy
  rw [Array.toList_push] at hz
  rcases List.mem_append.mp hz with z1|z1
  ·exact h.ua z z1 y (by rw [ed];exact List.mem_cons_of_mem _ hy)
  ·rw [List.mem_singleton.mp z1];exact hx y hy
 ·intro z hz y hy
  rw [Array.toList_push] at hz
  rcases List.mem_append.mp hz with z1|z1
  ·exact h.ub z z1 y hy
  ·rw [List.mem_singleton.mp z1];exact le y hy
theorem MI.pushB (h:MI a b out ia ib) (sb:Srt b.toList) {x:Keyed} (e:b[ib]?=some x) (le:∀ y∈a.toList.drop ia,leK x y):MI a b (out.push x) ia (ib+1):=by
 have ed:=drop_cons e
 have hs:Srt (x::b.toList.drop (ib+1)):=by rw [←ed];exact sb.drop _
 have hx:=(List.pairwise_cons.mp hs).1
 refine ⟨h.la,at_lt e,?_,?_,?_,?_⟩
 ·rw [Array.toList_push,take_cons e,←List.append_assoc]
  exact h.pm.append_right [x]
 ·rw [Array.toList_push]
  refine List.pairwise_append.mpr ⟨h.so,List.pairwise_singleton _ _,fun z hz y hy=>?_⟩
  rw [List.mem_singleton.mp hy]
  exact h.ub z hz x (by rw [ed];exact List.mem_cons_self)
 ·intro z hz y hy
  rw [Array.toList_push] at hz
  rcases List.mem_append.mp hz with z1|z1
  ·exact h.ua z z1 y hy
  ·rw [List.mem_singleton.mp z1];exact le y hy
 ·intro z hz y hy
  rw [Array.toList_push] at hz
  rcases List.mem_append.mp hz with z1|z1
  ·exact h.ub z z1 y (by rw [ed];exact List.mem_cons_of_mem _ hy)
  ·rw [List.mem_singleton.mp z1];exact hx y hy
theorem ext_push {l:Array Keyed} {i k:Nat} {x:Keyed} (e:l[i+k]?=some x):l.extract i (i+(k+1))=(l.extract i (i+k)).push x:=by
 have hl:=at_lt e
 have hx:l[i+k]=x:=(Array.getElem?_eq_some_iff.mp e).2
 apply Array.ext'
 rw [Array.toList_push,Array.toList_extract,Array.toList_extract]
 show (l.toList.drop i).take (i+(k+1)-i)=(l.toList.drop i).take (i+k-i)++[x]
 rw [show i+(k+1)-i=k+1 by walk_at"q", show i+k-i=k by walk_at"q", List.take_add_one]
 have:(l.toList.drop i)[k]?=some x:=by rw [List.getElem?_drop,Array.getElem?_toList];exact e
 rw [this]
 rfl
theorem MI.chunkA (h:MI a b out ia ib) (sa:Srt a.toList):∀ (k:Nat),ia+k≤a.size→(∀ i x,i<k→a[ia+i]?=some x→∀ y∈b.toList.drop ib,leK x y)→MI a b (out++a.extract ia (ia+k)) (ia+k) ib
 |0,_,_=>by
  have e:a.extract ia (ia+0)=#[]:=by apply Array.ext';rw [Array.toList_extract];simp
  rw [e,Array.append_empty];exact h
 |k+1,hk,le=>by
  have ih:=h.chunkA sa k (by walk_at"q") fun i x hi e=>le i x (by walk_at"q") e
  have e:a[ia+k]?=some a[ia+k]:=getElem?_pos a (ia+k) (by walk_at"q")
  have:=ih.pushA sa e (le k _ (Nat.lt_succ_self _) e)
  rw [ext_push e]
  rw [show out++(a.extract ia (ia+k)).push a[ia+k]=(out++a.extract ia (ia+k)).push a[ia+k] by apply Array.ext';simp]
  exact this
theorem MI.chunkB (h:MI a b out ia ib) (sb:Srt b.toList):∀ (k:Nat),ib+k≤b.size→(∀ i x,i<k→b[ib+i]?=some x→∀ y∈a.toList.drop ia,leK x y)→MI a b (out++b.extract ib (ib+k)) ia (ib+k)
 |0,_,_=>by
  have e:b.extract ib (ib+0)=#[]:=by apply Array.ext';rw [Array.toList_extract];simp
  rw [e,Array.append_empty];exact h
 |k+1,hk,le=>by
  have ih:=h.chunkB sb k (by walk_at"q") fun i x hi e=>le i x (by walk_at"q") e
  have e:b[ib+k]?=some b[ib+k]:=getElem?_pos b (ib+k) (by walk_at"q")
  have:=ih.pushB sb e (le k _ (Nat.lt_succ_self _) e)
  rw [ext_push e]
  rw [show out++(b.extract ib (ib+k)).push b[ib+k]=(out++b.extract ib (ib+k)).push b[ib+k] by apply Array.ext';simp]
  exact this
end
end
section
theorem mem_drop {l:Array Keyed} {i:Nat} {y:Keyed} (h:y∈l.toList.drop i):∃ j,i≤j∧l[j]?=some y:=by
 obtain ⟨k,hk⟩:=List.mem_iff_getElem?.mp h
 rw [List.getElem?_drop,Array.getElem?_toList] at hk
 exact ⟨i+k,by walk_at"q", hk⟩
theorem KK_at {l:Array Keyed} {i:Nat} {x:Keyed} (e:l[i]?=some x):KK l i=numOf x.1:=by
 unfold KK PyProof.Rows.K
 rw [e]
theorem srt_at {l:Array Keyed} (sl:Srt l.toList) {i j:Nat} {x y:Keyed} (e1:l[i]?=some x) (e2:l[j]?=some y) (h:i≤j):leK x y:=by
 by_cases c:i=j
 ·subst c
  rw [e1] at e2
  cases e2
  exact Int.le_refl _
 ·have l1:i<l.toList.length:=by rw [Array.length_toList];exact at_lt e1
  have l2:j<l.toList.length:=by rw [Array.length_toList];exact at_lt e2
  have:=List.pairwise_iff_getElem.mp sl i j l1 l2 (by walk_at"q")
  rw [←Array.getElem?_toList] at e1 e2
  rw [(List.getElem?_eq_some_iff.mp e1).2,(List.getElem?_eq_some_iff.mp e2).2] at this
  exact this
theorem srtK {l:Array Keyed} (sl:Srt l.toList) {i j:Nat} (h:i≤j) (hj:j<l.size):KK l i≤KK l j:=by
 have e1:l[i]?=some l[i]:=getElem?_pos l i (by walk_at"q")
 have e2:l[j]?=some l[j]:=getElem?_pos l j hj
 rw [KK_at e1,KK_at e2]
 exact srt_at sl e1 e2 h
def SameS (st st':SortSt):Prop:=kindOf st'=kindOf st∧arrOf st'=arrOf st∧pendingOf st'=pendingOf st∧failedOf st'=failedOf st
theorem SameS.refl (st:SortSt):SameS st st:=⟨rfl,rfl,rfl,rfl⟩
theorem SameS.trans {a b c:SortSt} (x:SameS a b) (y:SameS b c):SameS a c:=⟨y.1.trans x.1,y.2.1.trans x.2.1,y.2.2.1.trans x.2.2.1,y.2.2.2.trans x.2.2.2⟩
theorem le_rest {l:Array Keyed} (sl:Srt l.toList) {i:Nat} {x y:Keyed} (e:numOf x.1≤KK l i) (hy:y∈l.toList.drop i):leK x y:=by
 obtain ⟨j,hj,ej⟩:=mem_drop hy
 have:=srtK sl hj (at_lt ej)
 rw [KK_at ej] at this
 exact Int.le_trans e this
theorem num_int {x:Keyed} {k:Int} {t:Tok} (h:x.1=.int k t):numOf x.1=k:=by rw [h];rfl
theorem bey_f {k x:Int}:bey false k x=true↔x≤k:=by unfold bey;simp
theorem bey_t {k x:Int}:bey true k x=true↔x<k:=by unfold bey;simp
theorem bey_f' {k x:Int}:bey false k x=false↔k<x:=by unfold bey;simp
theorem bey_t' {k x:Int}:bey true k x=false↔k≤x:=by unfold bey;simp
section
variable {prog:Program} {w:World} {A:Around} {E:Value→Shared→Prop} {s:Shared} {st:SortSt} {a b:Array Keyed}
theorem wpS_mergeLo {Q:Array Keyed→SortSt→Prop} (hk:kindOf st=oneType') (ika:IntKeys a) (ikb:IntKeys b) (sa:Srt a.toList) (sb:Srt b.toList) (ha:1≤a.size) (hb:1≤b.size) (h0:KK b 0≤KK a 0) (hl:∀ j,j<b.size→KK b j≤KK a (a.size-1))
  (h:∀ r st',Mgd a b r→SameS st st'→Q r st'):wpS (model prog w) A E s (mergeLoP a b) Q st:=by
 have lastA:∀ {out:Array Keyed} {ia ib:Nat},MI a b out ia ib→ia+1=a.size→Mgd a b (out++b.extract ib b.size++a.extract ia a.size):=fun {out ia ib} M e=>M.last sa sb fun x hx y hy=>by
  obtain ⟨j,hj,ej⟩:=mem_drop hy
  obtain ⟨i,hi,ei⟩:=mem_drop hx
  have l1:=at_lt ej
  have l2:=at_lt ei
  have:=hl i l2
  rw [KK_at ei,show a.size-1=j by walk_at"q", KK_at ej] at this
  exact this
 refine wpS_bind (wpS_lift (wpAny_rule ⟨rfl,?_⟩))
 obtain ⟨x0,t0,e0,k0⟩:=ik_at ikb (i:=0) (by walk_at"q")
 refine wpS_bind (wpS_elemP e0 ?_)
 dsimp only
 have M0:MI a b #[] 0 0:=⟨by walk_at"q", by walk_at"q", by simp,List.Pairwise.nil,fun x hx=>by simp at hx,fun x hx=>by simp at hx⟩
 have M1:MI a b #[x0] 0 1:=M0.pushB sb e0 fun y hy=>le_rest sa (by rw [num_int k0];exact h0) hy
 clear M0
 by_cases c1:1=b.size
 ·rw [if_pos (by simpa using c1)]
  exact wpS_pure (h _ _ (M1.done sa sb (.inl c1)) (SameS.refl _))
 rw [if_neg (by simpa using c1)]
 by_cases c2:0+1=a.size
 ·rw [if_pos (by simpa using c2)]
  exact wpS_pure (h _ _ (lastA M1 c2) (SameS.refl _))
 rw [if_neg (by simpa using c2)]
 refine wpS_bind (wpS_get ?_)
 refine wpS_bind (wpS_mono (wpS_forRange (I:=fun x c st'=>SameS st st'∧∃ out ia ib g,c=(none,out,ia,ib,g)∧MI a b out ia ib∧ia+1<a.size∧ib<b.size∧x+1≤ia+ib)
  (Q:=fun c st'=>SameS st st'∧∃ r o i j g,c=(some r,o,i,j,g)∧Mgd a b r) ?step ?fin ⟨SameS.refl _,_,_,_,_,rfl,M1,by walk_at"q", by walk_at"q", by walk_at"q"⟩) ?post)
 case fin =>
  rintro c st' ⟨_,out,ia,ib,g,rfl,M,l1,l2,l3⟩
  walk_at"q"
 case post =>
  rintro c st' ⟨ss,r,o,i,j,g,rfl,m⟩
  dsimp only
  exact wpS_pure (h _ _ m ss)
 case step =>
  rintro x c st1 _ hx ⟨ss1,out1,ia1,ib1,mg,rfl,M1,l1,l2,l3⟩
  have hk1:kindOf st1=oneType':=ss1.1.trans hk
  dsimp only
  refine wpS_bind (wpS_mono (wpS_forRange (I:=fun y c st'=>st'=st1∧∃ out ia ib ac bc,c=(none,out,ia,ib,ac,bc)∧MI a b out ia ib∧ia+1<a.size∧ib<b.size∧y+(ia1+ib1)≤ia+ib)
   (Q:=fun c st'=>st'=st1∧((∃ r o i j p q,c=(some r,o,i,j,p,q)∧Mgd a b r)∨∃ out ia ib ac bc,c=(none,out,ia,ib,ac,bc)∧MI a b out ia ib∧ia+1<a.size∧ib<b.size∧ia1+ib1+1≤ia+ib)) ?istep ?ifin ⟨rfl,_,_,_,_,_,rfl,M1,l1,l2,by walk_at"q"⟩) ?ipost)
  case ifin =>
   rintro c st' ⟨_,out,ia,ib,ac,bc,rfl,M,m1,m2,m3⟩
   walk_at"q"
  case istep =>
   rintro y c st' _ hy ⟨rfl,out,ia,ib,ac,bc,rfl,M,m1,m2,m3⟩
   obtain ⟨xb,tb,eb,kb⟩:=ik_at ikb m2
   obtain ⟨xa,ta,ea,ka⟩:=ik_at ika (i:=ia) (by walk_at"q")
   dsimp only
   refine wpS_bind (wpS_elemP eb (wpS_bind (wpS_elemP ea (wpS_bind (wpS_ltP hk1 kb ka ?_)))))
   dsimp only
   by_cases hlt:KK b ib<KK a ia
   ·rw [if_pos (decide_eq_true hlt)]
    refine wpS_bind (wpS_elemP eb ?_)
    have M2:=M.pushB sb eb fun y hy=>le_rest sa (by rw [num_int kb];exact Int.le_of_lt hlt) hy
    by_cases d1:ib+1=b.size
    ·rw [if_pos (by simpa using d1)]
     exact wpS_pure ⟨rfl,.inl ⟨_,_,_,_,_,_,rfl,M2.done sa sb (.inl d1)⟩⟩
    ·rw [if_neg (by simpa using d1)]
     split
     ·exact wpS_pure ⟨rfl,.inr ⟨_,_,_,_,_,rfl,M2,m1,by walk_at"q", by walk_at"q"⟩⟩
     ·exact wpS_pure ⟨rfl,_,_,_,_,_,rfl,M2,m1,by walk_at"q", by walk_at"q"⟩
   ·rw [if_neg (by simpa using hlt)]
    refine wpS_bind (wpS_elemP ea ?_)
    have M2:=M.pushA sa ea fun y hy=>le_rest sb (by rw [num_int ka];exact Int.not_lt.mp hlt) hy
    by_cases d1:ia+1+1=a.size
    ·rw [if_pos (by simpa using d1)]
     exact wpS_pure ⟨rfl,.inl ⟨_,_,_,_,_,_,rfl,lastA M2 d1⟩⟩
    ·rw [if_neg (by simpa using d1)]
     split
     ·exact wpS_pure ⟨rfl,.inr ⟨_,_,_,_,_,rfl,M2,by walk_at"q", m2,by walk_at"q"⟩⟩
     ·exact wpS_pure ⟨rfl,_,_,_,_,_,rfl,M2,by walk_at"q", m2,by walk_at"q"⟩
  case ipost =>
   rintro c st' ⟨rfl,⟨r,o,i,j,p,q,rfl,m⟩|⟨out2,ia2,ib2,ac2,bc2,rfl,M2,m1,m2,m3⟩⟩
   ·dsimp only
    exact wpS_pure ⟨ss1,_,_,_,_,_,rfl,m⟩
   dsimp only
   refine wpS_bind (wpS_lift (wpAny_rule ⟨rfl,?_⟩))
   refine wpS_bind (wpS_mono (wpS_forRange (I:=fun y c st2=>SameS st st2∧∃ out ia ib g ac bc,c=(none,out,ia,ib,g,ac,bc)∧MI a b out ia ib∧ia+1<a.size∧ib<b.size∧y+(ia2+ib2)≤ia+ib)
    (Q:=fun c st2=>SameS st st2∧((∃ r o i j g p q,c=(some r,o,i,j,g,p,q)∧Mgd a b r)∨∃ out ia ib g ac bc,c=(none,out,ia,ib,g,ac,bc)∧MI a b out ia ib∧ia+1<a.size∧ib<b.size∧ia2+ib2≤ia+ib)) ?gstep ?gfin ⟨ss1,_,_,_,_,_,_,rfl,M2,m1,m2,by walk_at"q"⟩) ?gpost)
   case gfin =>
    rintro c st2 ⟨_,out,ia,ib,g,ac,bc,rfl,M,n1,n2,n3⟩
    walk_at"q"
   case gpost =>
    rintro c st2 ⟨ss2,⟨r,o,i,j,g,p,q,rfl,m⟩|⟨out3,ia3,ib3,g3,ac3,bc3,rfl,M3,n1,n2,n3⟩⟩
    ·dsimp only
     exact wpS_pure ⟨ss2,_,_,_,_,_,rfl,m⟩
    ·dsimp only
     refine wpS_bind (wpS_modify (wpS_pure ⟨SameS.trans ss2 ⟨rfl,rfl,rfl,rfl⟩,_,_,_,_,rfl,M3,n1,n2,by walk_at"q"⟩))
   case gstep =>
    rintro y c st2 _ hy ⟨ss2,out,ia,ib,g,ac,bc,rfl,M,n1,n2,n3⟩
    have hk2:kindOf st2=oneType':=ss2.1.trans hk
    obtain ⟨xb,tb,eb,kb⟩:=ik_at ikb n2
    dsimp only
    by_cases hm:g>1
    all_goals (first|rw [if_pos hm]|rw [if_neg hm])
    all_goals
     refine wpS_bind (wpS_modify ?_)
     refine wpS_bind (wpS_elemP eb ?_)
     refine wpS_bind (wpS_gallop (k:=KK b ib) hk2 ika kb (by walk_at"q") (by walk_at"q") (fun i j h1 h2=>srtK sa (by walk_at"q") (by walk_at"q")) fun k k1 k2 k3=>?_)
     have ss3:=SameS.trans ss2 (show SameS st2 _ from ⟨rfl,rfl,rfl,rfl⟩)
     dsimp only
     have MK:=M.chunkA sa k (by walk_at"q") fun i x hi e y hy=>by
      have z:=bey_f.mp (k2 i hi)
      rw [show PyProof.Rows.K a (ia+i)=numOf x.1 from KK_at e] at z
      exact le_rest sb z hy
     by_cases hk0:k>0
     ·rw [if_pos hk0]
      by_cases f1:ia+k+1=a.size
      ·rw [if_pos (by simpa using f1)]
       exact wpS_pure ⟨ss3,.inl ⟨_,_,_,_,_,_,_,rfl,lastA MK f1⟩⟩
      rw [if_neg (by simpa using f1)]
      by_cases f2:ia+k=a.size
      ·rw [if_pos (by simpa using f2)]
       exact wpS_pure ⟨ss3,.inl ⟨_,_,_,_,_,_,_,rfl,MK.done sa sb (.inr f2)⟩⟩
      rw [if_neg (by simpa using f2)]
      obtain ⟨xa,ta,ea,ka⟩:=ik_at ika (i:=ia+k) (by walk_at"q")
      have gt:KK b ib<KK a (ia+k):=bey_f'.mp (k3 k (Nat.le_refl _) (by walk_at"q"))
      refine wpS_bind (wpS_elemP eb ?_)
      have MB:=MK.pushB sb eb fun y hy=>le_rest sa (by rw [num_int kb];exact Int.le_of_lt gt) hy
      by_cases d1:ib+1=b.size
      ·rw [if_pos (by simpa using d1)]
       exact wpS_pure ⟨ss3,.inl ⟨_,_,_,_,_,_,_,rfl,MB.done sa sb (.inl d1)⟩⟩
      rw [if_neg (by simpa using d1)]
      refine wpS_bind (wpS_elemP ea ?_)
      refine wpS_bind (wpS_gallop (k:=KK a (ia+k)) hk2 ikb ka (by walk_at"q") (by walk_at"q") (fun i j h1 h2=>srtK sb (by walk_at"q") (by walk_at"q")) fun j j1 j2 j3=>?_)
      dsimp only
      have MJ:=MB.chunkB sb j (by walk_at"q") fun i x hi e y hy=>by
       have z:=bey_t.mp (j2 i hi)
       rw [show PyProof.Rows.K b (ib+1+i)=numOf x.1 from KK_at e] at z
       exact le_rest sa (Int.le_of_lt z) hy
      by_cases hj0:j>0
      ·rw [if_pos hj0]
       by_cases d2:ib+1+j=b.size
       ·rw [if_pos (by simpa using d2)]
        exact wpS_pure ⟨ss3,.inl ⟨_,_,_,_,_,_,_,rfl,MJ.done sa sb (.inl d2)⟩⟩
       rw [if_neg (by simpa using d2)]
       refine wpS_bind (wpS_elemP ea ?_)
       have MA:=MJ.pushA sa ea fun y hy=>le_rest sb (by rw [num_int ka];exact bey_t'.mp (j3 j (Nat.le_refl _) (by walk_at"q"))) hy
       by_cases d3:ia+k+1+1=a.size
       ·rw [if_pos (by simpa using d3)]
        exact wpS_pure ⟨ss3,.inl ⟨_,_,_,_,_,_,_,rfl,lastA MA d3⟩⟩
       rw [if_neg (by simpa using d3)]
       split
       ·exact wpS_pure ⟨ss3,.inr ⟨_,_,_,_,_,_,rfl,MA,by walk_at"q", by walk_at"q", by walk_at"q"⟩⟩
       ·exact wpS_pure ⟨ss3,_,_,_,_,_,_,rfl,MA,by walk_at"q", by walk_at"q", by walk_at"q"⟩
      ·rw [if_neg hj0]
       have j0:j=0:=by walk_at"q"
       subst j0
       refine wpS_bind (wpS_elemP ea ?_)
       have MA:=MB.pushA sa ea fun y hy=>le_rest sb (by rw [num_int ka];exact bey_t'.mp (j3 0 (Nat.le_refl _) (by walk_at"q"))) hy
       by_cases d3:ia+k+1+1=a.size
       ·rw [if_pos (by simpa using d3)]
        exact wpS_pure ⟨ss3,.inl ⟨_,_,_,_,_,_,_,rfl,lastA MA d3⟩⟩
       rw [if_neg (by simpa using d3)]
       split
       ·exact wpS_pure ⟨ss3,.inr ⟨_,_,_,_,_,_,rfl,MA,by walk_at"q", by walk_at"q", by walk_at"q"⟩⟩
       ·exact wpS_pure ⟨ss3,_,_,_,_,_,_,rfl,MA,by walk_at"q", by walk_at"q", by walk_at"q"⟩
     ·rw [if_neg hk0]
      have k0':k=0:=by walk_at"q"
      subst k0'
      obtain ⟨xa,ta,ea,ka⟩:=ik_at ika (i:=ia) (by walk_at"q")
      have gt:KK b ib<KK a (ia):=bey_f'.mp (k3 0 (Nat.le_refl _) (by walk_at"q"))
      refine wpS_bind (wpS_elemP eb ?_)
      have MB:=M.pushB sb eb fun y hy=>le_rest sa (by rw [num_int kb];exact Int.le_of_lt gt) hy
      by_cases d1:ib+1=b.size
      ·rw [if_pos (by simpa using d1)]
       exact wpS_pure ⟨ss3,.inl ⟨_,_,_,_,_,_,_,rfl,MB.done sa sb (.inl d1)⟩⟩
      rw [if_neg (by simpa using d1)]
      refine wpS_bind (wpS_elemP ea ?_)
      refine wpS_bind (wpS_gallop (k:=KK a (ia)) hk2 ikb ka (by walk_at"q") (by walk_at"q") (fun i j h1 h2=>srtK sb (by walk_at"q") (by walk_at"q")) fun j j1 j2 j3=>?_)
      dsimp only
      have MJ:=MB.chunkB sb j (by walk_at"q") fun i x hi e y hy=>by
       have z:=bey_t.mp (j2 i hi)
       rw [show PyProof.Rows.K b (ib+1+i)=numOf x.1 from KK_at e] at z
       exact le_rest sa (Int.le_of_lt z) hy
      by_cases hj0:j>0
      ·rw [if_pos hj0]
       by_cases d2:ib+1+j=b.size
       ·rw [if_pos (by simpa using d2)]
        exact wpS_pure ⟨ss3,.inl ⟨_,_,_,_,_,_,_,rfl,MJ.done sa sb (.inl d2)⟩⟩
       rw [if_neg (by simpa using d2)]
       refine wpS_bind (wpS_elemP ea ?_)
       have MA:=MJ.pushA sa ea fun y hy=>le_rest sb (by rw [num_int ka];exact bey_t'.mp (j3 j (Nat.le_refl _) (by walk_at"q"))) hy
       by_cases d3:ia+1+1=a.size
       ·rw [if_pos (by simpa using d3)]
        exact wpS_pure ⟨ss3,.inl ⟨_,_,_,_,_,_,_,rfl,lastA MA d3⟩⟩
       rw [if_neg (by simpa using d3)]
       split
       ·exact wpS_pure ⟨ss3,.inr ⟨_,_,_,_,_,_,rfl,MA,by walk_at"q", by walk_at"q", by walk_at"q"⟩⟩
       ·exact wpS_pure ⟨ss3,_,_,_,_,_,_,rfl,MA,by walk_at"q", by walk_at"q", by walk_at"q"⟩
      ·rw [if_neg hj0]
       have j0:j=0:=by walk_at"q"
       subst j0
       refine wpS_bind (wpS_elemP ea ?_)
       have MA:=MB.pushA sa ea fun y hy=>le_rest sb (by rw [num_int ka];exact bey_t'.mp (j3 0 (Nat.le_refl _) (by walk_at"q"))) hy
       by_cases d3:ia+1+1=a.size
       ·rw [if_pos (by simpa using d3)]
        exact wpS_pure ⟨ss3,.inl ⟨_,_,_,_,_,_,_,rfl,lastA MA d3⟩⟩
       rw [if_neg (by simpa using d3)]
       split
       ·exact wpS_pure ⟨ss3,.inr ⟨_,_,_,_,_,_,rfl,MA,by walk_at"q", by walk_at"q", by walk_at"q"⟩⟩
       ·exact wpS_pure ⟨ss3,_,_,_,_,_,_,rfl,MA,by walk_at"q", by walk_at"q", by walk_at"q"⟩
end
end
section
structure MH (a b:Array Keyed) (out:Array Keyed) (na nb:Nat):Prop where
 la:na≤a.size
 lb:nb≤b.size
 pm:out.toList.Perm (a.toList.drop na++b.toList.drop nb)
 so:out.toList.Pairwise fun x y=>leK y x
 ua:∀ x∈out.toList,∀ y∈a.toList.take na,leK y x
 ub:∀ x∈out.toList,∀ y∈b.toList.take nb,leK y x
theorem Srt.take {l:List Keyed} (h:Srt l) (n:Nat):Srt (l.take n):=List.Pairwise.take h
theorem ext_to (a:Array Keyed) (i:Nat):(a.extract 0 i).toList=a.toList.take i:=by
 rw [Array.toList_extract]
 show (a.toList.drop 0).take (i-0)=_
 rfl
theorem rev_list (l:Array Keyed):l.reverse.toList=l.toList.reverse:=Array.toList_reverse
section
variable {a b out:Array Keyed} {na nb:Nat}
theorem perm4 {α:Type} (p q r t:List α):((p++q)++(r++t)).Perm ((p++r)++(q++t)):=by
 rw [List.append_assoc,List.append_assoc]
 refine List.Perm.append_left p ?_
 rw [←List.append_assoc,←List.append_assoc]
 exact List.Perm.append_right t List.perm_append_comm
theorem MH.rs (h:MH a b out na nb):Srt out.toList.reverse:=List.pairwise_reverse.mpr h.so
theorem MH.done (h:MH a b out na nb) (sa:Srt a.toList) (sb:Srt b.toList) (e:nb=0∨na=0):Mgd a b (a.extract 0 na++b.extract 0 nb++out.reverse):=by
 unfold Mgd
 rw [Array.toList_append,Array.toList_append,ext_to,ext_to,rev_list]
 constructor
 ·refine (((List.reverse_perm _).trans h.pm).append_left _).trans ((perm4 _ _ _ _).trans ?_)
  rw [List.take_append_drop,List.take_append_drop]
 ·refine List.pairwise_append.mpr ⟨?_,h.rs,fun x hx y hy=>?_⟩
  ·rcases e with rfl|rfl
   ·rw [List.take_zero,List.append_nil];exact sa.take _
   ·rw [List.take_zero,List.nil_append];exact sb.take _
  ·have hy':=List.mem_reverse.mp hy
   rcases List.mem_append.mp hx with z|z
   ·exact h.ua y hy' x z
   ·exact h.ub y hy' x z
theorem MH.first (h:MH a b out na nb) (sa:Srt a.toList) (sb:Srt b.toList) (ab:∀ x∈b.toList.take nb,∀ y∈a.toList.take na,leK x y):Mgd a b (b.extract 0 nb++a.extract 0 na++out.reverse):=by
 unfold Mgd
 rw [Array.toList_append,Array.toList_append,ext_to,ext_to,rev_list]
 constructor
 ·refine ((List.perm_append_comm (l₁:=b.toList.take nb) (l₂:=a.toList.take na)).append_right _).trans ((((List.reverse_perm _).trans h.pm).append_left _).trans ((perm4 _ _ _ _).trans ?_))
  rw [List.take_append_drop,List.take_append_drop]
 ·refine List.pairwise_append.mpr ⟨List.pairwise_append.mpr ⟨sb.take _,sa.take _,ab⟩,h.rs,fun x hx y hy=>?_⟩
  have hy':=List.mem_reverse.mp hy
  rcases List.mem_append.mp hx with z|z
  ·exact h.ub y hy' x z
  ·exact h.ua y hy' x z
theorem MH.pushA {n:Nat} (h:MH a b out (n+1) nb) (sa:Srt a.toList) {x:Keyed} (e:a[n]?=some x) (le:∀ y∈b.toList.take nb,leK y x):MH a b (out.push x) n nb:=by
 have et:=take_cons e
 have hs:Srt (a.toList.take n++[x]):=by rw [←et];exact sa.take _
 have hx:=(List.pairwise_append.mp hs).2.2
 refine ⟨Nat.le_of_lt (at_lt e),h.lb,?_,?_,?_,?_⟩
 ·rw [Array.toList_push,drop_cons e]
  refine (List.perm_append_comm.trans ?_)
  exact List.Perm.cons x h.pm
 ·rw [Array.toList_push]
  refine List.pairwise_append.mpr ⟨h.so,List.pairwise_singleton _ _,fun z hz y hy=>?_⟩
  rw [List.mem_singleton.mp hy]
  exact h.ua z hz x (by rw [et];simp)
 ·intro z hz y hy
  rw [Array.toList_push] at hz
  rcases List.mem_append.mp hz with z1|z1
  ·exact h.ua z z1 y (by rw [et];exact List.mem_append_left _ hy)
  ·rw [List.mem_singleton.mp z1];exact hx y hy x (List.mem_singleton.mpr rfl)
 ·intro z hz y hy
  rw [Array.toList_push] at hz
  rcases List.mem_append.mp hz with z1|z1
  ·exact h.ub z z1 y hy
  ·rw [List.mem_singleton.mp z1];exact le y hy
theorem MH.pushB {n:Nat} (h:MH a b out na (n+1)) (sb:Srt b.toList) {x:Keyed} (e:b[n]?=some x) (le:∀ y∈a.toList.take na,leK y x):MH a b (out.push x) na n:=by
 have et:=take_cons e
 have hs:Srt (b.toList.take n++[x]):=by rw [←et];exact sb.take _
 have hx:=(List.pairwise_append.mp hs).2.2
 refine ⟨h.la,Nat.le_of_lt (at_lt e),?_,?_,?_,?_⟩
 ·rw [Array.toList_push,drop_cons e]
  refine (h.pm.append_right [x]).trans ?_
  rw [List.append_assoc]
  exact List.Perm.append_left _ List.perm_append_comm
 ·rw [Array.toList_push]
  refine List.pairwise_append.mpr ⟨h.so,List.pairwise_singleton _ _,fun z hz y hy=>?_⟩
  rw [List.mem_singleton.mp hy]
  exact h.ub z hz x (by rw [et];simp)
 ·intro z hz y hy
  rw [Array.toList_push] at hz
  rcases List.mem_append.mp hz with z1|z1
  ·exact h.ua z z1 y hy
  ·rw [List.mem_singleton.mp z1];exact le y hy
 ·intro z hz y hy
  rw [Array.toList_push] at hz
  rcases List.mem_append.mp hz with z1|z1
  ·exact h.ub z z1 y (by rw [et];exact List.mem_append_left _ hy)
  ·rw [List.mem_singleton.mp z1];exact hx y hy x (List.mem_singleton.mpr rfl)
theorem ext_rev {l:Array Keyed} {n m:Nat} {x:Keyed} (e:l[n]?=some x) (h:n<m) (hm:m≤l.size):(l.extract n m).reverse=((l.extract (n+1) m).reverse).push x:=by
 apply Array.ext'
 rw [Array.toList_push,rev_list,rev_list,Array.toList_extract,Array.toList_extract]
 show ((l.toList.drop n).take (m-n)).reverse=((l.toList.drop (n+1)).take (m-(n+1))).reverse++[x]
 rw [drop_cons e,show m-n=(m-(n+1))+1 by walk_at"q", List.take_succ_cons,List.reverse_cons]
theorem MH.chunkA (h:MH a b out na nb) (sa:Srt a.toList):∀ (k:Nat),k≤na→(∀ i x,na-k≤i→i<na→a[i]?=some x→∀ y∈b.toList.take nb,leK y x)→MH a b (out++(a.extract (na-k) na).reverse) (na-k) nb
 |0,_,_=>by
  have e:(a.extract (na-0) na).reverse=#[]:=by apply Array.ext';rw [rev_list,Array.toList_extract];simp
  rw [e,Array.append_empty];exact h
 |k+1,hk,le=>by
  have hla:=h.la
  have ih:=h.chunkA sa k (by walk_at"q") fun i x h1 h2 e=>le i x (by walk_at"q") h2 e
  have e:a[na-(k+1)]?=some a[na-(k+1)]:=getElem?_pos a _ (by walk_at"q")
  rw [show na-k=na-(k+1)+1 by walk_at"q"] at ih
  have:=ih.pushA sa e (le _ _ (Nat.le_refl _) (by walk_at"q") e)
  rw [ext_rev e (by walk_at"q") hla]
  rw [show out++((a.extract (na-(k+1)+1) na).reverse).push a[na-(k+1)]=(out++(a.extract (na-(k+1)+1) na).reverse).push a[na-(k+1)] by apply Array.ext';simp]
  exact this
theorem MH.chunkB (h:MH a b out na nb) (sb:Srt b.toList):∀ (k:Nat),k≤nb→(∀ i x,nb-k≤i→i<nb→b[i]?=some x→∀ y∈a.toList.take na,leK y x)→MH a b (out++(b.extract (nb-k) nb).reverse) na (nb-k)
 |0,_,_=>by
  have e:(b.extract (nb-0) nb).reverse=#[]:=by apply Array.ext';rw [rev_list,Array.toList_extract];simp
  rw [e,Array.append_empty];exact h
 |k+1,hk,le=>by
  have hlb:=h.lb
  have ih:=h.chunkB sb k (by walk_at"q") fun i x h1 h2 e=>le i x (by walk_at"q") h2 e
  have e:b[nb-(k+1)]?=some b[nb-(k+1)]:=getElem?_pos b _ (by walk_at"q")
  rw [show nb-k=nb-(k+1)+1 by walk_at"q"] at ih
  have:=ih.pushB sb e (le _ _ (Nat.le_refl _) (by walk_at"q") e)
  rw [ext_rev e (by walk_at"q") hlb]
  rw [show out++((b.extract (nb-(k+1)+1) nb).reverse).push b[nb-(k+1)]=(out++(b.extract (nb-(k+1)+1) nb).reverse).push b[nb-(k+1)] by apply Array.ext';simp]
  exact this
theorem MH.pushA' (h:MH a b out na nb) (hn:1≤na) (sa:Srt a.toList) {x:Keyed} (e:a[na-1]?=some x) (le:∀ y∈b.toList.take nb,leK y x):MH a b (out.push x) (na-1) nb:=by
 obtain ⟨n,rfl⟩:∃ n,na=n+1:=⟨na-1,by walk_at"q"⟩
 exact h.pushA sa e le
theorem MH.pushB' (h:MH a b out na nb) (hn:1≤nb) (sb:Srt b.toList) {x:Keyed} (e:b[nb-1]?=some x) (le:∀ y∈a.toList.take na,leK y x):MH a b (out.push x) na (nb-1):=by
 obtain ⟨n,rfl⟩:∃ n,nb=n+1:=⟨nb-1,by walk_at"q"⟩
 exact h.pushB sb e le
theorem MH.cutA (h:MH a b out na nb) (sa:Srt a.toList) {k:Nat} (hk:k≤na) (le:∀ i x,k≤i→i<na→a[i]?=some x→∀ y∈b.toList.take nb,leK y x):MH a b (out++(a.extract k na).reverse) k nb:=by
 have z:=h.chunkA sa (na-k) (by walk_at"q") fun i x h1 h2 e=>le i x (by walk_at"q") h2 e
 rwa [show na-(na-k)=k by walk_at"q"] at z
theorem MH.cutB (h:MH a b out na nb) (sb:Srt b.toList) {k:Nat} (hk:k≤nb) (le:∀ i x,k≤i→i<nb→b[i]?=some x→∀ y∈a.toList.take na,leK y x):MH a b (out++(b.extract k nb).reverse) na k:=by
 have z:=h.chunkB sb (nb-k) (by walk_at"q") fun i x h1 h2 e=>le i x (by walk_at"q") h2 e
 rwa [show nb-(nb-k)=k by walk_at"q"] at z
theorem mem_take {l:Array Keyed} {n:Nat} {y:Keyed} (h:y∈l.toList.take n):∃ j,j<n∧l[j]?=some y:=by
 obtain ⟨k,hk⟩:=List.mem_iff_getElem?.mp h
 have hl:k<(l.toList.take n).length:=(List.getElem?_eq_some_iff.mp hk).1
 rw [List.length_take] at hl
 rw [List.getElem?_take_of_lt (by walk_at"q"),Array.getElem?_toList] at hk
 exact ⟨k,by walk_at"q", hk⟩
theorem le_first {l:Array Keyed} (sl:Srt l.toList) {n:Nat} {x y:Keyed} (hn:n≤l.size) (e:KK l (n-1)≤numOf x.1) (hy:y∈l.toList.take n):leK y x:=by
 obtain ⟨j,hj,ej⟩:=mem_take hy
 have:=srtK sl (show j≤n-1 by walk_at"q") (by walk_at"q")
 rw [KK_at ej] at this
 exact Int.le_trans this e
end
section
variable {prog:Program} {w:World} {A:Around} {E:Value→Shared→Prop} {s:Shared} {st:SortSt} {a b:Array Keyed}
theorem wpS_mergeHi {Q:Array Keyed→SortSt→Prop} (hk:kindOf st=oneType') (ika:IntKeys a) (ikb:IntKeys b) (sa:Srt a.toList) (sb:Srt b.toList) (ha:1≤a.size) (hb:1≤b.size) (h0:KK b 0≤KK a 0) (hl:∀ j,j<b.size→KK b j≤KK a (a.size-1))
  (h:∀ r st',Mgd a b r→SameS st st'→Q r st'):wpS (model prog w) A E s (mergeHiP a b) Q st:=by
 have firstB:∀ {out:Array Keyed} {na nb:Nat},MH a b out na nb→nb=1→Mgd a b (b.extract 0 nb++a.extract 0 na++out.reverse):=fun {out na nb} M e=>M.first sa sb fun x hx y hy=>by
  obtain ⟨j,hj,ej⟩:=mem_take hy
  obtain ⟨i,hi,ei⟩:=mem_take hx
  have l1:=at_lt ej
  have:=srtK sa (Nat.zero_le j) l1
  rw [KK_at ej] at this
  have i0:i=0:=by walk_at"q"
  subst i0
  rw [KK_at ei] at h0
  exact Int.le_trans h0 this
 refine wpS_bind (wpS_lift (wpAny_rule ⟨rfl,?_⟩))
 obtain ⟨x0,t0,e0,k0⟩:=ik_at ika (i:=a.size-1) (by walk_at"q")
 refine wpS_bind (wpS_elemP e0 ?_)
 dsimp only
 have M0:MH a b #[] (a.size-1+1) b.size:=by
  rw [show a.size-1+1=a.size by walk_at"q"]
  refine ⟨Nat.le_refl _,Nat.le_refl _,?_,List.Pairwise.nil,fun x hx=>by simp at hx,fun x hx=>by simp at hx⟩
  rw [List.drop_of_length_le (by simp),List.drop_of_length_le (by simp)]
  exact List.Perm.nil
 have M1:MH a b #[x0] (a.size-1) b.size:=M0.pushA sa e0 fun y hy=>le_first sb (Nat.le_refl _) (by rw [num_int k0];exact hl _ (by walk_at"q")) hy
 clear M0
 by_cases c1:a.size-1=0
 ·rw [if_pos (by simpa using c1)]
  exact wpS_pure (h _ _ (M1.done sa sb (.inr c1)) (SameS.refl _))
 rw [if_neg (by simpa using c1)]
 by_cases c2:b.size=1
 ·rw [if_pos (by simpa using c2)]
  exact wpS_pure (h _ _ (firstB M1 c2) (SameS.refl _))
 rw [if_neg (by simpa using c2)]
 refine wpS_bind (wpS_get ?_)
 refine wpS_bind (wpS_mono (wpS_forRange (I:=fun x c st'=>SameS st st'∧∃ na nb out g,c=(none,na,nb,out,g)∧MH a b out na nb∧1≤na∧2≤nb∧x+na+nb<a.size+b.size)
  (Q:=fun c st'=>SameS st st'∧∃ r o i j g,c=(some r,o,i,j,g)∧Mgd a b r) ?step ?fin ⟨SameS.refl _,_,_,_,_,rfl,M1,by walk_at"q", by walk_at"q", by walk_at"q"⟩) ?post)
 case fin =>
  rintro c st' ⟨_,na,nb,out,g,rfl,M,l1,l2,l3⟩
  walk_at"q"
 case post =>
  rintro c st' ⟨ss,r,o,i,j,g,rfl,m⟩
  dsimp only
  exact wpS_pure (h _ _ m ss)
 case step =>
  rintro x c st1 _ hx ⟨ss1,na1,nb1,out1,mg,rfl,M1,l1,l2,l3⟩
  have hk1:kindOf st1=oneType':=ss1.1.trans hk
  dsimp only
  refine wpS_bind (wpS_mono (wpS_forRange (I:=fun y c st'=>st'=st1∧∃ na nb out ac bc,c=(none,na,nb,out,ac,bc)∧MH a b out na nb∧1≤na∧2≤nb∧y+na+nb≤na1+nb1)
   (Q:=fun c st'=>st'=st1∧((∃ r o i j p q,c=(some r,o,i,j,p,q)∧Mgd a b r)∨∃ na nb out ac bc,c=(none,na,nb,out,ac,bc)∧MH a b out na nb∧1≤na∧2≤nb∧na+nb+1≤na1+nb1)) ?istep ?ifin ⟨rfl,_,_,_,_,_,rfl,M1,l1,l2,by walk_at"q"⟩) ?ipost)
  case ifin =>
   rintro c st' ⟨_,na,nb,out,ac,bc,rfl,M,m1,m2,m3⟩
   have:=M1.la
   have:=M1.lb
   walk_at"q"
  case istep =>
   rintro y c st' _ hy ⟨rfl,na,nb,out,ac,bc,rfl,M,m1,m2,m3⟩
   have lna:=M.la
   have lnb:=M.lb
   obtain ⟨xb,tb,eb,kb⟩:=ik_at ikb (i:=nb-1) (by walk_at"q")
   obtain ⟨xa,ta,ea,ka⟩:=ik_at ika (i:=na-1) (by walk_at"q")
   obtain ⟨pa,hpa⟩:∃ pa,na=pa+1:=⟨na-1,by walk_at"q"⟩
   obtain ⟨pb,hpb⟩:∃ pb,nb=pb+1:=⟨nb-1,by walk_at"q"⟩
   dsimp only
   refine wpS_bind (wpS_elemP eb (wpS_bind (wpS_elemP ea (wpS_bind (wpS_ltP hk1 kb ka ?_)))))
   dsimp only
   by_cases hlt:KK b (nb-1)<KK a (na-1)
   ·rw [if_pos (decide_eq_true hlt)]
    refine wpS_bind (wpS_elemP ea ?_)
    have M2:MH a b (out.push xa) (na-1) nb:=by
     subst hpa
     exact M.pushA sa ea fun y hy=>le_first sb lnb (by rw [num_int ka];exact Int.le_of_lt hlt) hy
    by_cases d1:na-1=0
    ·rw [if_pos (by simpa using d1)]
     exact wpS_pure ⟨rfl,.inl ⟨_,_,_,_,_,_,rfl,M2.done sa sb (.inr d1)⟩⟩
    ·rw [if_neg (by simpa using d1)]
     split
     ·exact wpS_pure ⟨rfl,.inr ⟨_,_,_,_,_,rfl,M2,by walk_at"q", m2,by walk_at"q"⟩⟩
     ·exact wpS_pure ⟨rfl,_,_,_,_,_,rfl,M2,by walk_at"q", m2,by walk_at"q"⟩
   ·rw [if_neg (by simpa using hlt)]
    refine wpS_bind (wpS_elemP eb ?_)
    have M2:MH a b (out.push xb) na (nb-1):=by
     subst hpb
     exact M.pushB sb eb fun y hy=>le_first sa lna (by rw [num_int kb];exact Int.not_lt.mp hlt) hy
    by_cases d1:nb-1=1
    ·rw [if_pos (by simpa using d1)]
     exact wpS_pure ⟨rfl,.inl ⟨_,_,_,_,_,_,rfl,firstB M2 d1⟩⟩
    ·rw [if_neg (by simpa using d1)]
     split
     ·exact wpS_pure ⟨rfl,.inr ⟨_,_,_,_,_,rfl,M2,m1,by walk_at"q", by walk_at"q"⟩⟩
     ·exact wpS_pure ⟨rfl,_,_,_,_,_,rfl,M2,m1,by walk_at"q", by walk_at"q"⟩
  case ipost =>
   rintro c st' ⟨rfl,⟨r,o,i,j,p,q,rfl,m⟩|⟨na2,nb2,out2,ac2,bc2,rfl,M2,m1,m2,m3⟩⟩
   ·dsimp only
    exact wpS_pure ⟨ss1,_,_,_,_,_,rfl,m⟩
   dsimp only
   refine wpS_bind (wpS_lift (wpAny_rule ⟨rfl,?_⟩))
   refine wpS_bind (wpS_mono (wpS_forRange (I:=fun y c st2=>SameS st st2∧∃ na nb out g ac bc,c=(none,na,nb,out,g,ac,bc)∧MH a b out na nb∧1≤na∧2≤nb∧y+na+nb≤na2+nb2)
    (Q:=fun c st2=>SameS st st2∧((∃ r o i j g p q,c=(some r,o,i,j,g,p,q)∧Mgd a b r)∨∃ na nb out g ac bc,c=(none,na,nb,out,g,ac,bc)∧MH a b out na nb∧1≤na∧2≤nb∧na+nb≤na2+nb2)) ?gstep ?gfin ⟨ss1,_,_,_,_,_,_,rfl,M2,m1,m2,by walk_at"q"⟩) ?gpost)
   case gfin =>
    rintro c st2 ⟨_,na,nb,out,g,ac,bc,rfl,M,n1,n2,n3⟩
    have:=M2.la
    have:=M2.lb
    walk_at"q"
   case gpost =>
    rintro c st2 ⟨ss2,⟨r,o,i,j,g,p,q,rfl,m⟩|⟨na3,nb3,out3,g3,ac3,bc3,rfl,M3,n1,n2,n3⟩⟩
    ·dsimp only
     exact wpS_pure ⟨ss2,_,_,_,_,_,rfl,m⟩
    ·dsimp only
     refine wpS_bind (wpS_modify (wpS_pure ⟨SameS.trans ss2 ⟨rfl,rfl,rfl,rfl⟩,_,_,_,_,rfl,M3,n1,n2,by walk_at"q"⟩))
   case gstep =>
    rintro y c st2 _ hy ⟨ss2,na,nb,out,g,ac,bc,rfl,M,n1,n2,n3⟩
    have hk2:kindOf st2=oneType':=ss2.1.trans hk
    have lna:=M.la
    have lnb:=M.lb
    obtain ⟨xb,tb,eb,kb⟩:=ik_at ikb (i:=nb-1) (by walk_at"q")
    obtain ⟨pb,hpb⟩:∃ pb,nb=pb+1:=⟨nb-1,by walk_at"q"⟩
    dsimp only
    by_cases hm:g>1
    all_goals (first|rw [if_pos hm]|rw [if_neg hm])
    all_goals
     refine wpS_bind (wpS_modify ?_)
     refine wpS_bind (wpS_elemP eb ?_)
     refine wpS_bind (wpS_gallop (k:=KK b (nb-1)) hk2 ika kb (by walk_at"q") (by walk_at"q") (fun i j h1 h2=>srtK sa (by walk_at"q") (by walk_at"q")) fun k k1 k2 k3=>?_)
     have ss3:=SameS.trans ss2 (show SameS st2 _ from ⟨rfl,rfl,rfl,rfl⟩)
     simp only [Nat.zero_add] at k2 k3
     dsimp only
     have MK:=M.cutA sa (k:=k) (by walk_at"q") fun i x h1 h2 e y hy=>le_first sb lnb (by
      have z:=bey_f'.mp (k3 i (by walk_at"q") h2)
      rw [show PyProof.Rows.K a i=numOf x.1 from KK_at e] at z
      exact Int.le_of_lt z) hy
     by_cases hk0:na-k>0
     ·rw [if_pos hk0]
      by_cases f1:k=0
      ·rw [if_pos (by simpa using f1)]
       exact wpS_pure ⟨ss3,.inl ⟨_,_,_,_,_,_,_,rfl,MK.done sa sb (.inr f1)⟩⟩
      rw [if_neg (by simpa using f1)]
      obtain ⟨xa,ta,ea,ka⟩:=ik_at ika (i:=k-1) (by walk_at"q")
      have le:KK a (k-1)≤KK b (nb-1):=bey_f.mp (k2 (k-1) (by walk_at"q"))
      refine wpS_bind (wpS_elemP eb ?_)
      have MB:=MH.pushB' MK (by walk_at"q") sb eb fun y hy=>le_first sa (by walk_at"q") (by rw [num_int kb];exact le) hy
      by_cases d1:nb-1=1
      ·rw [if_pos (by simpa using d1)]
       exact wpS_pure ⟨ss3,.inl ⟨_,_,_,_,_,_,_,rfl,firstB MB d1⟩⟩
      rw [if_neg (by simpa using d1)]
      refine wpS_bind (wpS_elemP ea ?_)
      refine wpS_bind (wpS_gallop (k:=KK a (k-1)) hk2 ikb ka (by walk_at"q") (by walk_at"q") (fun i j h1 h2=>srtK sb (by walk_at"q") (by walk_at"q")) fun j j1 j2 j3=>?_)
      simp only [Nat.zero_add] at j2 j3
      dsimp only
      have MJ:=MB.cutB sb (k:=j) (by walk_at"q") fun i x h1 h2 e y hy=>le_first sa (by walk_at"q") (by
       have z:=bey_t'.mp (j3 i (by walk_at"q") h2)
       rw [show PyProof.Rows.K b i=numOf x.1 from KK_at e] at z
       exact z) hy
      by_cases hj0:nb-1-j>0
      ·rw [if_pos hj0]
       by_cases d2:j=1
       ·rw [if_pos (by simpa using d2)]
        exact wpS_pure ⟨ss3,.inl ⟨_,_,_,_,_,_,_,rfl,firstB MJ d2⟩⟩
       rw [if_neg (by simpa using d2)]
       by_cases d4:j=0
       ·rw [if_pos (by simpa using d4)]
        exact wpS_pure ⟨ss3,.inl ⟨_,_,_,_,_,_,_,rfl,MJ.done sa sb (.inl d4)⟩⟩
       rw [if_neg (by simpa using d4)]
       refine wpS_bind (wpS_elemP ea ?_)
       have MA:=MJ.pushA' (by walk_at"q") sa ea fun y hy=>le_first sb (by walk_at"q") (by rw [num_int ka];exact Int.le_of_lt (bey_t.mp (j2 (j-1) (by walk_at"q")))) hy
       by_cases d3:k-1=0
       ·rw [if_pos (by simpa using d3)]
        exact wpS_pure ⟨ss3,.inl ⟨_,_,_,_,_,_,_,rfl,MA.done sa sb (.inr d3)⟩⟩
       rw [if_neg (by simpa using d3)]
       split
       ·exact wpS_pure ⟨ss3,.inr ⟨_,_,_,_,_,_,rfl,MA,by walk_at"q", by walk_at"q", by walk_at"q"⟩⟩
       ·exact wpS_pure ⟨ss3,_,_,_,_,_,_,rfl,MA,by walk_at"q", by walk_at"q", by walk_at"q"⟩
      ·rw [if_neg hj0]
       refine wpS_bind (wpS_elemP ea ?_)
       have MA:=MB.pushA' (by walk_at"q") sa ea fun y hy=>le_first sb (by walk_at"q") (by rw [num_int ka];exact Int.le_of_lt (bey_t.mp (j2 (nb-1-1) (by walk_at"q")))) hy
       by_cases d3:k-1=0
       ·rw [if_pos (by simpa using d3)]
        exact wpS_pure ⟨ss3,.inl ⟨_,_,_,_,_,_,_,rfl,MA.done sa sb (.inr d3)⟩⟩
       rw [if_neg (by simpa using d3)]
       split
       ·exact wpS_pure ⟨ss3,.inr ⟨_,_,_,_,_,_,rfl,MA,by walk_at"q", by walk_at"q", by walk_at"q"⟩⟩
       ·exact wpS_pure ⟨ss3,_,_,_,_,_,_,rfl,MA,by walk_at"q", by walk_at"q", by walk_at"q"⟩
     ·rw [if_neg hk0]
      obtain ⟨xa,ta,ea,ka⟩:=ik_at ika (i:=na-1) (by walk_at"q")
      have le:KK a (na-1)≤KK b (nb-1):=bey_f.mp (k2 (na-1) (by walk_at"q"))
      refine wpS_bind (wpS_elemP eb ?_)
      have MB:=MH.pushB' M (by walk_at"q") sb eb fun y hy=>le_first sa (by walk_at"q") (by rw [num_int kb];exact le) hy
      by_cases d1:nb-1=1
      ·rw [if_pos (by simpa using d1)]
       exact wpS_pure ⟨ss3,.inl ⟨_,_,_,_,_,_,_,rfl,firstB MB d1⟩⟩
      rw [if_neg (by simpa using d1)]
      refine wpS_bind (wpS_elemP ea ?_)
      refine wpS_bind (wpS_gallop (k:=KK a (na-1)) hk2 ikb ka (by walk_at"q") (by walk_at"q") (fun i j h1 h2=>srtK sb (by walk_at"q") (by walk_at"q")) fun j j1 j2 j3=>?_)
      simp only [Nat.zero_add] at j2 j3
      dsimp only
      have MJ:=MB.cutB sb (k:=j) (by walk_at"q") fun i x h1 h2 e y hy=>le_first sa (by walk_at"q") (by
       have z:=bey_t'.mp (j3 i (by walk_at"q") h2)
       rw [show PyProof.Rows.K b i=numOf x.1 from KK_at e] at z
       exact z) hy
      by_cases hj0:nb-1-j>0
      ·rw [if_pos hj0]
       by_cases d2:j=1
       ·rw [if_pos (by simpa using d2)]
        exact wpS_pure ⟨ss3,.inl ⟨_,_,_,_,_,_,_,rfl,firstB MJ d2⟩⟩
       rw [if_neg (by simpa using d2)]
       by_cases d4:j=0
       ·rw [if_pos (by simpa using d4)]
        exact wpS_pure ⟨ss3,.inl ⟨_,_,_,_,_,_,_,rfl,MJ.done sa sb (.inl d4)⟩⟩
       rw [if_neg (by simpa using d4)]
       refine wpS_bind (wpS_elemP ea ?_)
       have MA:=MJ.pushA' (by walk_at"q") sa ea fun y hy=>le_first sb (by walk_at"q") (by rw [num_int ka];exact Int.le_of_lt (bey_t.mp (j2 (j-1) (by walk_at"q")))) hy
       by_cases d3:na-1=0
       ·rw [if_pos (by simpa using d3)]
        exact wpS_pure ⟨ss3,.inl ⟨_,_,_,_,_,_,_,rfl,MA.done sa sb (.inr d3)⟩⟩
       rw [if_neg (by simpa using d3)]
       split
       ·exact wpS_pure ⟨ss3,.inr ⟨_,_,_,_,_,_,rfl,MA,by walk_at"q", by walk_at"q", by walk_at"q"⟩⟩
       ·exact wpS_pure ⟨ss3,_,_,_,_,_,_,rfl,MA,by walk_at"q", by walk_at"q", by walk_at"q"⟩
      ·rw [if_neg hj0]
       refine wpS_bind (wpS_elemP ea ?_)
       have MA:=MB.pushA' (by walk_at"q") sa ea fun y hy=>le_first sb (by walk_at"q") (by rw [num_int ka];exact Int.le_of_lt (bey_t.mp (j2 (nb-1-1) (by walk_at"q")))) hy
       by_cases d3:na-1=0
       ·rw [if_pos (by simpa using d3)]
        exact wpS_pure ⟨ss3,.inl ⟨_,_,_,_,_,_,_,rfl,MA.done sa sb (.inr d3)⟩⟩
       rw [if_neg (by simpa using d3)]
       split
       ·exact wpS_pure ⟨ss3,.inr ⟨_,_,_,_,_,_,rfl,MA,by walk_at"q", by walk_at"q", by walk_at"q"⟩⟩
       ·exact wpS_pure ⟨ss3,_,_,_,_,_,_,rfl,MA,by walk_at"q", by walk_at"q", by walk_at"q"⟩
end
end
section
def spl (lo:Nat) (l:List Keyed) (j:Nat) (arr:Array Keyed):Array Keyed:=(l.zipIdx j).foldl (fun a p=>a.setIfInBounds (lo+p.2) p.1) arr
theorem spl_cons (lo:Nat) (x:Keyed) (l:List Keyed) (j:Nat) (arr:Array Keyed):spl lo (x::l) j arr=spl lo l (j+1) (arr.setIfInBounds (lo+j) x):=rfl
theorem spl_get (lo:Nat):∀ (l:List Keyed) (j:Nat) (arr:Array Keyed),lo+j+l.length≤arr.size→∀ i,(spl lo l j arr)[i]?=if lo+j≤i∧i<lo+j+l.length then l[i-(lo+j)]? else arr[i]?
 |[],j,arr,_,i=>by
  show arr[i]?=_
  rw [if_neg (by simp)]
 |x::l,j,arr,hl,i=>by
  rw [List.length_cons] at hl ⊢
  rw [spl_cons,spl_get lo l (j+1) _ (by rw [Array.size_setIfInBounds];walk_at"q")]
  by_cases c:i=lo+j
  ·subst c
   rw [if_neg (by walk_at"q"),if_pos (by walk_at"q"),Nat.sub_self,Array.getElem?_setIfInBounds_self_of_lt (by walk_at"q")]
   rfl
  ·by_cases d:lo+j≤i∧i<lo+j+(l.length+1)
   ·rw [if_pos (by walk_at"q"),if_pos d]
    obtain ⟨m,hm⟩:∃ m,i-(lo+j)=m+1:=⟨i-(lo+j)-1,by walk_at"q"⟩
    rw [hm,show i-(lo+(j+1))=m by walk_at"q"]
    rfl
   ·rw [if_neg (by walk_at"q"),if_neg d,Array.getElem?_setIfInBounds_ne (by walk_at"q")]
theorem spl_list {lo:Nat} {l:List Keyed} {arr:Array Keyed} (h:lo+l.length≤arr.size):(spl lo l 0 arr).toList=(arr.toList.take lo++l)++arr.toList.drop (lo+l.length):=by
 apply List.ext_getElem?
 intro i
 rw [Array.getElem?_toList,spl_get lo l 0 arr (by walk_at"q"),Nat.add_zero]
 have lt:(arr.toList.take lo).length=lo:=by rw [List.length_take,Array.length_toList];walk_at"q"
 by_cases c:i<lo
 ·rw [if_neg (by walk_at"q"),List.getElem?_append_left (by rw [List.length_append];walk_at"q"),List.getElem?_append_left (by walk_at"q"),List.getElem?_take_of_lt c,Array.getElem?_toList]
 ·by_cases d:i<lo+l.length
  ·rw [if_pos (by walk_at"q"),List.getElem?_append_left (by rw [List.length_append];walk_at"q"),List.getElem?_append_right (by walk_at"q"),lt]
  ·rw [if_neg (by walk_at"q"),List.getElem?_append_right (by rw [List.length_append];walk_at"q"),List.length_append,lt,List.getElem?_drop,Array.getElem?_toList]
   congr 1
   walk_at"q"
theorem ext_get {arr:Array Keyed} {lo hi i:Nat} (h:hi≤arr.size) (hi':lo+i<hi):(arr.extract lo hi)[i]?=arr[lo+i]?:=by
 rw [Array.getElem?_extract,if_pos (by walk_at"q")]
theorem ext_size {arr:Array Keyed} {lo hi:Nat} (h:hi≤arr.size):(arr.extract lo hi).size=hi-lo:=by
 rw [Array.size_extract];walk_at"q"
theorem ext_KK {arr:Array Keyed} {lo hi i:Nat} (h:hi≤arr.size) (hi':lo+i<hi):KK (arr.extract lo hi) i=KK arr (lo+i):=K_congr (ext_get h hi')
theorem ext_srt {arr:Array Keyed} {lo hi:Nat} (h:hi≤arr.size) (sr:SrtIn arr lo hi):Srt (arr.extract lo hi).toList:=by
 refine List.pairwise_iff_getElem.mpr fun i j hi' hj hij=>?_
 rw [Array.length_toList,ext_size h] at hi' hj
 have e1:(arr.extract lo hi)[i]?=some (arr.extract lo hi).toList[i]:=by rw [←Array.getElem?_toList];exact List.getElem?_eq_getElem _
 have e2:(arr.extract lo hi)[j]?=some (arr.extract lo hi).toList[j]:=by rw [←Array.getElem?_toList];exact List.getElem?_eq_getElem _
 have:=sr (lo+i) (lo+j) (by walk_at"q") (by walk_at"q") (by walk_at"q")
 rw [←ext_KK h (by walk_at"q"),←ext_KK h (by walk_at"q"),KK_at e1,KK_at e2] at this
 exact this
theorem ext_ik {arr:Array Keyed} {lo hi:Nat} (ia:IntKeys arr):IntKeys (arr.extract lo hi):=fun p hp=>ia p (by
 rw [Array.toList_extract] at hp
 exact List.mem_of_mem_drop (List.mem_of_mem_take hp))
theorem ext_mem {arr:Array Keyed} {lo hi:Nat} {x:Keyed} (h:hi≤arr.size) (hx:x∈(arr.extract lo hi).toList):∃ i,lo≤i∧i<hi∧arr[i]?=some x:=by
 obtain ⟨k,hk⟩:=List.mem_iff_getElem?.mp hx
 have hl:k<(arr.extract lo hi).toList.length:=(List.getElem?_eq_some_iff.mp hk).1
 rw [Array.length_toList,ext_size h] at hl
 rw [Array.getElem?_toList,ext_get h (by walk_at"q")] at hk
 exact ⟨lo+k,by walk_at"q", by walk_at"q", hk⟩
theorem ext_two {arr:Array Keyed} {lo mi hi:Nat} (h1:lo≤mi) (h2:mi≤hi) (h3:hi≤arr.size):(arr.extract lo mi).toList++(arr.extract mi hi).toList=(arr.toList.drop lo).take (hi-lo):=by
 rw [Array.toList_extract,Array.toList_extract]
 show (arr.toList.drop lo).take (mi-lo)++(arr.toList.drop mi).take (hi-mi)=_
 have e:arr.toList.drop mi=(arr.toList.drop lo).drop (mi-lo):=by rw [List.drop_drop];congr 1;walk_at"q"
 rw [e,show hi-lo=(mi-lo)+(hi-mi) by walk_at"q", List.take_add]
theorem spl_perm {arr r:Array Keyed} {lo mi hi:Nat} (h1:lo≤mi) (h2:mi≤hi) (h3:hi≤arr.size) (m:Mgd (arr.extract lo mi) (arr.extract mi hi) r):r.size=hi-lo∧(spl lo r.toList 0 arr).Perm arr:=by
 have e:=ext_two h1 h2 h3
 have p:=m.1
 rw [e] at p
 have hl:r.size=hi-lo:=by
  have:=p.length_eq
  rw [List.length_take,List.length_drop,Array.length_toList,Array.length_toList] at this
  walk_at"q"
 refine ⟨hl,Array.perm_iff_toList_perm.mpr ?_⟩
 rw [spl_list (by rw [Array.length_toList];walk_at"q"),Array.length_toList,hl,show lo+(hi-lo)=hi by walk_at"q"]
 have e2:arr.toList=(arr.toList.take lo++(arr.toList.drop lo).take (hi-lo))++arr.toList.drop hi:=by
  rw [←List.take_add,show lo+(hi-lo)=hi by walk_at"q", List.take_append_drop]
 exact ((p.append_left _).append_right _).trans (by rw [←e2])
section
variable {prog:Program} {w:World} {A:Around} {E:Value→Shared→Prop} {s:Shared} {a₀:Array Keyed} {st:SortSt}
theorem wpS_set {x:SortSt} {Q:PUnit→SortSt→Prop} (h:Q ⟨⟩ x):wpS (model prog w) A E s (set x:StateT SortSt Sem PUnit) Q st:=by
 unfold wpS;rw [StateT.run_set];exact wpAny_pure ⟨rfl,h⟩
def MrgAt (a₀:Array Keyed) (st:SortSt) (i sa na p nb:Nat) (st':SortSt):Prop:=SB a₀ st'∧pendingOf st'=((pendingOf st).setIfInBounds i (sa,na+nb,p)).eraseIdxIfInBounds (i+1)∧(∀ j,j<sa∨sa+na+nb≤j→(arrOf st')[j]?=(arrOf st)[j]?)∧SrtIn (arrOf st') sa (sa+na+nb)
theorem wpS_mergeAtL {i sa na p nb q:Nat} {Q:Bool→SortSt→Prop} (h0:IntKeys a₀) (hB:SB a₀ st) (e1:(pendingOf st)[i]?=some (sa,na,p)) (e2:(pendingOf st)[i+1]?=some (sa+na,nb,q)) (n1:1≤na) (n2:1≤nb) (hz:sa+na+nb≤a₀.size)
  (s1:SrtIn (arrOf st) sa (sa+na)) (s2:SrtIn (arrOf st) (sa+na) (sa+na+nb)) (h:∀ st',MrgAt a₀ st i sa na p nb st'→Q true st'):wpS (model prog w) A E s (mergeAt' i) Q st:=by
 have hsz:=hB.size
 have ik:=hB.ik h0
 refine wpS_bind (wpS_get ?_)
 rw [e1,e2]
 dsimp only
 refine wpS_bind (wpS_set ?_)
 obtain ⟨xb,tb,eb,kb⟩:=ik_at ik (i:=sa+na) (by walk_at"q")
 refine wpS_bind (wpS_elemP eb ?_)
 refine wpS_bind (wpS_gallop (arr:=arrOf st) (k:=KK (arrOf st) (sa+na)) hB.kind ik kb (by walk_at"q") (by walk_at"q") (fun i j h1 h2=>s1 _ _ (by walk_at"q") (by walk_at"q") (by walk_at"q")) fun k k1 k2 k3=>?_)
 dsimp only
 have below:∀ t,sa≤t→t<sa+k→KK (arrOf st) t≤KK (arrOf st) (sa+na):=fun t t1 t2=>by
  have:=bey_f.mp (k2 (t-sa) (by walk_at"q"))
  rwa [show sa+(t-sa)=t by walk_at"q"] at this
 by_cases c1:na-k=0
 ·rw [if_pos (by simpa using c1)]
  refine wpS_pure (h _ ⟨⟨hB.perm,hB.kind,hB.failed⟩,rfl,fun _ _=>rfl,fun i j h1 h2 h3=>?_⟩)
  by_cases d1:j<sa+na
  ·exact s1 i j h1 h2 d1
  ·by_cases d2:sa+na≤i
   ·exact s2 i j d2 h2 h3
   ·exact Int.le_trans (below i h1 (by walk_at"q")) (s2 (sa+na) j (Nat.le_refl _) (by walk_at"q") h3)
 rw [if_neg (by simpa using c1)]
 obtain ⟨xa,ta,ea,ka⟩:=ik_at ik (i:=sa+k+(na-k)-1) (by walk_at"q")
 refine wpS_bind (wpS_elemP ea ?_)
 refine wpS_bind (wpS_gallop (arr:=arrOf st) (k:=KK (arrOf st) (sa+k+(na-k)-1)) hB.kind ik ka (by walk_at"q") (by walk_at"q") (fun i j h1 h2=>s2 _ _ (by walk_at"q") (by walk_at"q") (by walk_at"q")) fun m m1 m2 m3=>?_)
 dsimp only
 rw [show sa+k+(na-k)-1=sa+na-1 by walk_at"q"] at m2 m3
 have above:∀ t,sa+na+m≤t→t<sa+na+nb→KK (arrOf st) (sa+na-1)≤KK (arrOf st) t:=fun t t1 t2=>by
  have:=bey_t'.mp (m3 (t-(sa+na)) (by walk_at"q") (by walk_at"q"))
  rwa [show sa+na+(t-(sa+na))=t by walk_at"q"] at this
 by_cases c2:m=0
 ·rw [if_pos (by simpa using c2)]
  refine wpS_pure (h _ ⟨⟨hB.perm,hB.kind,hB.failed⟩,rfl,fun _ _=>rfl,fun i j h1 h2 h3=>?_⟩)
  by_cases d1:j<sa+na
  ·exact s1 i j h1 h2 d1
  ·by_cases d2:sa+na≤i
   ·exact s2 i j d2 h2 h3
   ·exact Int.le_trans (s1 i (sa+na-1) h1 (by walk_at"q") (by walk_at"q")) (above j (by walk_at"q") h3)
 rw [if_neg (by simpa using c2)]
 have z1:sa+na≤(arrOf st).size:=by walk_at"q"
 have z2:sa+na+m≤(arrOf st).size:=by walk_at"q"
 have x1:Srt ((arrOf st).extract (sa+k) (sa+na)).toList:=ext_srt z1 fun i j h1 h2 h3=>s1 i j (by walk_at"q") h2 h3
 have x2:Srt ((arrOf st).extract (sa+na) (sa+na+m)).toList:=ext_srt z2 fun i j h1 h2 h3=>s2 i j h1 h2 (by walk_at"q")
 have l1:=ext_size (lo:=sa+k) z1
 have l2:=ext_size (lo:=sa+na) z2
 have y1:KK ((arrOf st).extract (sa+na) (sa+na+m)) 0≤KK ((arrOf st).extract (sa+k) (sa+na)) 0:=by
  rw [ext_KK z2 (by walk_at"q"),ext_KK z1 (by walk_at"q")]
  exact Int.le_of_lt (bey_f'.mp (k3 k (Nat.le_refl _) (by walk_at"q")))
 have y2:∀ j,j<((arrOf st).extract (sa+na) (sa+na+m)).size→KK ((arrOf st).extract (sa+na) (sa+na+m)) j≤KK ((arrOf st).extract (sa+k) (sa+na)) (((arrOf st).extract (sa+k) (sa+na)).size-1):=fun j hj=>by
  rw [l2] at hj
  rw [l1,ext_KK z2 (by walk_at"q"),ext_KK z1 (by walk_at"q"),show sa+k+(sa+na-(sa+k)-1)=sa+na-1 by walk_at"q"]
  exact Int.le_of_lt (bey_t.mp (m2 j (by walk_at"q")))
 have fin:∀ (r:Array Keyed) (st3:SortSt),Mgd ((arrOf st).extract (sa+k) (sa+na)) ((arrOf st).extract (sa+na) (sa+na+m)) r→arrOf st3=spl (sa+k) r.toList 0 (arrOf st)→kindOf st3=kindOf st→failedOf st3=failedOf st→pendingOf st3=((pendingOf st).setIfInBounds i (sa,na+nb,p)).eraseIdxIfInBounds (i+1)→Q true st3:=fun r st3 mg ar ki fa pe=>by
  obtain ⟨rs,pr⟩:=spl_perm (by walk_at"q") (by walk_at"q") z2 mg
  have get:∀ t,(arrOf st3)[t]?=if sa+k≤t∧t<sa+na+m then r.toList[t-(sa+k)]? else (arrOf st)[t]?:=fun t=>by
   rw [ar,spl_get _ _ _ _ (by rw [Array.length_toList];walk_at"q"),Array.length_toList,Nat.add_zero,rs,show sa+k+(sa+na+m-(sa+k))=sa+na+m by walk_at"q"]
  have out:∀ t,¬ (sa+k≤t∧t<sa+na+m)→KK (arrOf st3) t=KK (arrOf st) t:=fun t ht=>K_congr (by rw [get t,if_neg ht])
  have mid:∀ t,sa+k≤t→t<sa+na+m→∃ j,sa+k≤j∧j<sa+na+m∧KK (arrOf st3) t=KK (arrOf st) j:=fun t t1 t2=>by
   have hl:t-(sa+k)<r.toList.length:=by rw [Array.length_toList];walk_at"q"
   have e:(arrOf st3)[t]?=some r.toList[t-(sa+k)]:=by rw [get t,if_pos ⟨t1,t2⟩];exact List.getElem?_eq_getElem hl
   have hm:=mg.1.mem_iff.mp (List.getElem_mem hl)
   rcases List.mem_append.mp hm with z|z
   ·obtain ⟨j,j1,j2,ej⟩:=ext_mem z1 z
    exact ⟨j,j1,by walk_at"q", by rw [KK_at e,KK_at ej]⟩
   ·obtain ⟨j,j1,j2,ej⟩:=ext_mem z2 z
    exact ⟨j,by walk_at"q", j2,by rw [KK_at e,KK_at ej]⟩
  refine h st3 ⟨⟨by rw [ar];exact pr.trans hB.perm,ki.trans hB.kind,fa.trans hB.failed⟩,pe,fun j hj=>by rw [get j,if_neg (by walk_at"q")],fun i j h1 h2 h3=>?_⟩
  have low:∀ t j,sa≤t→t<sa+k→sa+k≤j→j<sa+na+nb→KK (arrOf st) t≤KK (arrOf st) j:=fun t j a1 a2 a3 a4=>by
   by_cases d:j<sa+na
   ·exact s1 t j a1 (by walk_at"q") d
   ·exact Int.le_trans (below t a1 a2) (s2 (sa+na) j (Nat.le_refl _) (by walk_at"q") a4)
  have top:∀ t j,sa+k≤t→t<sa+na+m→sa+na+m≤j→j<sa+na+nb→KK (arrOf st) t≤KK (arrOf st) j:=fun t j a1 a2 a3 a4=>by
   by_cases d:t<sa+na
   ·exact Int.le_trans (s1 t (sa+na-1) (by walk_at"q") (by walk_at"q") (by walk_at"q")) (above j a3 a4)
   ·exact s2 t j (by walk_at"q") (by walk_at"q") a4
  by_cases d1:i<sa+k
  ·rw [out i (by walk_at"q")]
   by_cases d2:sa+k≤j∧j<sa+na+m
   ·obtain ⟨j',b1,b2,b3⟩:=mid j d2.1 d2.2
    rw [b3]
    exact low i j' h1 d1 b1 (by walk_at"q")
   ·rw [out j d2]
    by_cases d3:j<sa+k
    ·exact s1 i j h1 h2 (by walk_at"q")
    ·exact low i j h1 d1 (by walk_at"q") h3
  ·by_cases d4:i<sa+na+m
   ·by_cases d2:j<sa+na+m
    ·have hl1:i-(sa+k)<r.toList.length:=by rw [Array.length_toList];walk_at"q"
     have hl2:j-(sa+k)<r.toList.length:=by rw [Array.length_toList];walk_at"q"
     have g1:(arrOf st3)[i]?=r[i-(sa+k)]?:=by rw [get i,if_pos (by walk_at"q"),Array.getElem?_toList]
     have g2:(arrOf st3)[j]?=r[j-(sa+k)]?:=by rw [get j,if_pos (by walk_at"q"),Array.getElem?_toList]
     rw [show KK (arrOf st3) i=KK r (i-(sa+k)) from K_congr g1,show KK (arrOf st3) j=KK r (j-(sa+k)) from K_congr g2]
     exact srtK mg.2 (by walk_at"q") (by walk_at"q")
    ·obtain ⟨i',b1,b2,b3⟩:=mid i (by walk_at"q") d4
     rw [b3,out j (by walk_at"q")]
     exact top i' j b1 b2 (by walk_at"q") h3
   ·rw [out i (by walk_at"q"),out j (by walk_at"q")]
    exact s2 i j (by walk_at"q") h2 h3
 split
 ·refine wpS_bind (wpS_mergeLo (a:=(arrOf st).extract (sa+k) (sa+na)) (b:=(arrOf st).extract (sa+na) (sa+na+m)) hB.kind (ext_ik ik) (ext_ik ik) x1 x2 (by walk_at"q") (by walk_at"q") y1 y2 fun r st3 mg ss=>?_)
  refine wpS_bind (wpS_modify (wpS_bind (wpS_get (wpS_pure ?_))))
  obtain ⟨q1,q2,q3,q4⟩:=ss
  have hf:failedOf st3=none:=q4.trans hB.failed
  show Q (failedOf st3).isNone _
  rw [hf]
  exact fin r _ mg (by show spl (sa+k) r.toList 0 (arrOf st3)=_;rw [q2]) q1 (q4) q3
 ·refine wpS_bind (wpS_mergeHi (a:=(arrOf st).extract (sa+k) (sa+na)) (b:=(arrOf st).extract (sa+na) (sa+na+m)) hB.kind (ext_ik ik) (ext_ik ik) x1 x2 (by walk_at"q") (by walk_at"q") y1 y2 fun r st3 mg ss=>?_)
  refine wpS_bind (wpS_modify (wpS_bind (wpS_get (wpS_pure ?_))))
  obtain ⟨q1,q2,q3,q4⟩:=ss
  have hf:failedOf st3=none:=q4.trans hB.failed
  show Q (failedOf st3).isNone _
  rw [hf]
  exact fin r _ mg (by show spl (sa+k) r.toList 0 (arrOf st3)=_;rw [q2]) q1 (q4) q3
end
end
section
def Stk (xs:Array Keyed):List (Nat×Nat×Nat)→Nat→Nat→Prop
 |[],a,b=>a=b
 |(s,n,_)::r,a,b=>s=a∧1≤n∧SrtIn xs a (a+n)∧Stk xs r (a+n) b
theorem Stk.le {xs:Array Keyed}:∀ {l:List (Nat×Nat×Nat)} {a b:Nat},Stk xs l a b→a+l.length≤b
 |[],a,b,h=>Nat.le_of_eq (show a=b from h)
 |(s,n,p)::r,a,b,h=>by
  obtain ⟨_,h1,_,h2⟩:=h
  have:=h2.le
  rw [List.length_cons]
  walk_at"q"
theorem Stk.snoc {xs:Array Keyed} {n p:Nat} (hn:1≤n):∀ {l:List (Nat×Nat×Nat)} {a b:Nat},Stk xs l a b→SrtIn xs b (b+n)→Stk xs (l++[(b,n,p)]) a (b+n)
 |[],a,b,h,s=>by
  have e:a=b:=h
  subst e
  exact ⟨rfl,hn,s,rfl⟩
 |(_,_,_)::r,a,b,h,s=>⟨h.1,h.2.1,h.2.2.1,h.2.2.2.snoc hn s⟩
theorem Stk.agree {xs ys:Array Keyed}:∀ {l:List (Nat×Nat×Nat)} {a b:Nat},(∀ j,a≤j→j<b→ys[j]?=xs[j]?)→Stk xs l a b→Stk ys l a b
 |[],_,_,_,h=>h
 |(_,n,_)::r,a,b,g,h=>by
  obtain ⟨h0,h1,h2,h3⟩:=h
  have:=h3.le
  refine ⟨h0,h1,fun i j a1 a2 a3=>?_,h3.agree fun j b1 b2=>g j (by walk_at"q") b2⟩
  rw [show KK ys i=KK xs i from K_congr (g i a1 (by walk_at"q")),show KK ys j=KK xs j from K_congr (g j (by walk_at"q") (by walk_at"q"))]
  exact h2 i j a1 a2 a3
theorem Stk.pow {xs:Array Keyed} {pw:Nat}:∀ {l:List (Nat×Nat×Nat)} {a b:Nat} (i:Nat),Stk xs l a b→Stk xs (l.modify i fun x=>(x.1,x.2.1,pw)) a b
 |[],_,_,i,h=>by cases i<;>exact h
 |(s,n,p)::r,a,b,0,h=>⟨h.1,h.2.1,h.2.2.1,h.2.2.2⟩
 |(s,n,p)::r,a,b,i+1,h=>⟨h.1,h.2.1,h.2.2.1,h.2.2.2.pow i⟩
theorem Stk.mrg {xs:Array Keyed} {sa na p sb nb q:Nat}:∀ {l:List (Nat×Nat×Nat)} {a b:Nat} (i:Nat),Stk xs l a b→l[i]?=some (sa,na,p)→l[i+1]?=some (sb,nb,q) →
  (a≤sa∧sb=sa+na∧1≤na∧1≤nb∧sa+na+nb≤b∧SrtIn xs sa (sa+na)∧SrtIn xs (sa+na) (sa+na+nb)) ∧
   ∀ ys:Array Keyed,(∀ j,j<sa∨sa+na+nb≤j→ys[j]?=xs[j]?)→SrtIn ys sa (sa+na+nb)→Stk ys ((l.set i (sa,na+nb,p)).eraseIdx (i+1)) a b
 |[],_,_,i,_,h,_=>by simp at h
 |[_],_,_,0,_,_,h=>by simp at h
 |(s1,n1,p1)::(s2,n2,p2)::r,a,b,0,h,e1,e2=>by
  have e1:(s1,n1,p1)=(sa,na,p):=by simpa using e1
  have e2:(s2,n2,p2)=(sb,nb,q):=by simpa using e2
  cases e1
  cases e2
  obtain ⟨rfl,h1,h2,rfl,h3,h4,h5⟩:=h
  have:=h5.le
  refine ⟨⟨Nat.le_refl _,rfl,h1,h3,by walk_at"q", h2,h4⟩,fun ys g sr=>?_⟩
  show Stk ys (_::r) _ b
  refine ⟨rfl,by walk_at"q", by rw [←Nat.add_assoc];exact sr,?_⟩
  rw [←Nat.add_assoc]
  exact h5.agree fun j b1 b2=>g j (.inr b1)
 |(s1,n1,p1)::r,a,b,i+1,h,e1,e2=>by
  obtain ⟨h0,h1,h2,h3⟩:=h
  obtain ⟨⟨c1,c2,c3,c4,c5,c6,c7⟩,m⟩:=h3.mrg i (by simpa using e1) (by simpa using e2)
  refine ⟨⟨by walk_at"q", c2,c3,c4,c5,c6,c7⟩,fun ys g sr=>?_⟩
  show Stk ys ((s1,n1,p1)::(r.set i (sa,na+nb,p)).eraseIdx (i+1)) a b
  refine ⟨h0,h1,fun i j a1 a2 a3=>?_,m ys g sr⟩
  rw [show KK ys i=KK xs i from K_congr (g i (.inl (by walk_at"q"))),show KK ys j=KK xs j from K_congr (g j (.inl (by walk_at"q")))]
  exact h2 i j a1 a2 a3
section
variable {prog:Program} {w:World} {A:Around} {E:Value→Shared→Prop} {s:Shared} {a₀:Array Keyed} {st:SortSt}
structure RS (a₀:Array Keyed) (st:SortSt) (lo:Nat):Prop where
 sb:SB a₀ st
 stk:Stk (arrOf st) (pendingOf st).toList 0 lo
theorem RS.mrg {lo i:Nat} {x y:Nat×Nat×Nat} {Q:Bool→SortSt→Prop} (h0:IntKeys a₀) (h:RS a₀ st lo) (hl:lo≤a₀.size) (e1:(pendingOf st)[i]?=some x) (e2:(pendingOf st)[i+1]?=some y)
  (q:∀ st',RS a₀ st' lo→(pendingOf st').size+1=(pendingOf st).size→(∀ j,lo≤j→(arrOf st')[j]?=(arrOf st)[j]?)→Q true st'):wpS (model prog w) A E s (mergeAt' i) Q st:=by
 obtain ⟨sa,na,p⟩:=x
 obtain ⟨sb,nb,r⟩:=y
 obtain ⟨⟨c1,rfl,c3,c4,c5,c6,c7⟩,m⟩:=h.stk.mrg i (by rw [Array.getElem?_toList];exact e1) (by rw [Array.getElem?_toList];exact e2)
 refine wpS_mergeAtL h0 h.sb e1 e2 c3 c4 (by walk_at"q") c6 c7 fun st' ⟨b1,b2,b3,b4⟩=>q st' ⟨b1,?_⟩ ?_ fun j hj=>b3 j (.inr (by walk_at"q"))
 ·rw [b2]
  have e:((((pendingOf st).setIfInBounds i (sa,na+nb,p)).eraseIdxIfInBounds (i+1)).toList)=((pendingOf st).toList.set i (sa,na+nb,p)).eraseIdx (i+1):=by
   simp
  rw [e]
  exact m _ b3 b4
 ·have:i+1<(pendingOf st).size:=(Array.getElem?_eq_some_iff.mp e2).1
  have e:((((pendingOf st).setIfInBounds i (sa,na+nb,p)).eraseIdxIfInBounds (i+1)).toList)=((pendingOf st).toList.set i (sa,na+nb,p)).eraseIdx (i+1):=by simp
  rw [b2,←Array.length_toList,e,List.length_eraseIdx,List.length_set,Array.length_toList,if_pos this]
  walk_at"q"
theorem RS.push {lo n:Nat} (h:RS a₀ st lo) (hn:1≤n) (sr:SrtIn (arrOf st) lo (lo+n)):RS a₀ (setPending st ((pendingOf st).push (lo,n,0))) (lo+n) :=
 ⟨⟨h.sb.perm,h.sb.kind,h.sb.failed⟩,by show Stk (arrOf st) ((pendingOf st).push (lo,n,0)).toList 0 (lo+n);rw [Array.toList_push];exact h.stk.snoc hn sr⟩
theorem RS.pow {lo i pw:Nat} (h:RS a₀ st lo):RS a₀ (setPending st ((pendingOf st).modify i fun x=>(x.1,x.2.1,pw))) lo :=
 ⟨⟨h.sb.perm,h.sb.kind,h.sb.failed⟩,by show Stk (arrOf st) ((pendingOf st).modify i _).toList 0 lo;rw [Array.toList_modify];exact h.stk.pow i⟩
theorem wpS_sortRunsL {Q:Unit→SortSt→Prop} (h0:IntKeys a₀) (hB:SB a₀ st) (hp:pendingOf st=#[]) (h2:2≤a₀.size)
  (h:∀ st',(arrOf st').Perm a₀→failedOf st'=none→SortedTo (arrOf st') a₀.size→Q () st'):wpS (model prog w) A E s sortRuns' Q st:=by
 rw [sortRuns'_eq]
 refine wpS_bind (wpS_get ?_)
 dsimp only
 have hsz:=hB.size
 generalize minRun' (arrOf st).size (arrOf st).size 0=mr
 rw [hsz]
 refine wpS_bind (wpS_mono (wpS_forRange (I:=fun x c st'=>∃ lo,c=(none,lo)∧RS a₀ st' lo∧lo≤a₀.size∧x≤lo)
  (Q:=fun c st'=>c=(none,a₀.size)∧RS a₀ st' a₀.size) ?step ?fin ⟨0,rfl,⟨hB,by rw [hp];exact rfl⟩,Nat.zero_le _,Nat.le_refl _⟩) ?post)
 case fin =>
  rintro c st' ⟨lo,rfl,r,l1,l2⟩
  have:lo=a₀.size:=by walk_at"q"
  subst this
  exact ⟨rfl,r⟩
 case post =>
  rintro c st1 ⟨rfl,r1⟩
  dsimp only
  refine wpS_bind (wpS_mono (wpS_forRange (I:=fun x c st'=>c=(none,())∧RS a₀ st' a₀.size∧(pendingOf st').size+x≤a₀.size) (Q:=fun c st'=>c=(none,())∧RS a₀ st' a₀.size∧(pendingOf st').size≤1) ?_ ?_ ⟨rfl,r1,by have:=r1.stk.le;rw [Array.length_toList] at this;walk_at"q"⟩) ?_)
  ·rintro y c st2 _ hy ⟨rfl,r2,l2⟩
   refine wpS_bind (wpS_get ?_)
   by_cases d1:(pendingOf st2).size≤1
   ·rw [if_pos d1]
    exact wpS_pure ⟨rfl,r2,d1⟩
   ·rw [if_neg d1]
    generalize hix:(if Option.any _ _=true then (pendingOf st2).size-2-1 else (pendingOf st2).size-2)=ix
    have gen:∀ (c:Prop) [Decidable c] (n:Nat),(if c then n-1 else n)≤n:=fun c _ n=>by split<;>walk_at"q"
    have hl:ix≤(pendingOf st2).size-2:=by rw [←hix];exact gen _ _
    have e1:(pendingOf st2)[ix]?=some (pendingOf st2)[ix]:=getElem?_pos _ _ (by walk_at"q")
    have e2:(pendingOf st2)[ix+1]?=some (pendingOf st2)[ix+1]:=getElem?_pos _ _ (by walk_at"q")
    refine wpS_bind (r2.mrg h0 (Nat.le_refl _) e1 e2 fun st3 r3 l3 _=>?_)
    simp only [Bool.not_true,Bool.false_eq_true,if_false]
    exact wpS_pure ⟨rfl,r3,by walk_at"q"⟩
  ·rintro c st2 ⟨rfl,r2,l2⟩
   exact ⟨rfl,r2,by walk_at"q"⟩
  ·rintro c st2 ⟨rfl,r2,l2⟩
   dsimp only
   refine wpS_pure (h st2 r2.sb.perm r2.sb.failed ?_)
   have sk:=r2.stk
   rw [←Array.length_toList] at l2
   cases hl:(pendingOf st2).toList with
   |nil =>
    rw [hl] at sk
    have:0=a₀.size:=sk
    walk_at"q"
   |cons t r =>
    rw [hl] at sk l2
    have hr:r=[]:=by
     cases r with
     |nil=>rfl
     |cons _ _=>simp at l2
    subst hr
    obtain ⟨t1,t2,t3⟩:=t
    obtain ⟨_,_,sr,e⟩:=sk
    have e:0+t2=a₀.size:=e
    rw [e] at sr
    exact fun i j h1 h2=>sr i j (Nat.zero_le _) h1 h2
 case step =>
  rintro x c st1 _ hx ⟨lo,rfl,r1,l1,l2⟩
  dsimp only
  by_cases c1:lo≥a₀.size
  ·rw [if_pos c1]
   have:lo=a₀.size:=by walk_at"q"
   subst this
   exact wpS_pure ⟨rfl,r1⟩
  rw [if_neg c1]
  refine wpS_bind (wpS_countL h0 (by walk_at"q") (by walk_at"q") r1.sb fun n st2 ⟨b1,b2,b3,b4,b5,b6⟩=>?_)
  dsimp only
  have r2:RS a₀ st2 lo:=⟨b1,by rw [b2];exact r1.stk.agree fun j _ hj=>b3 j hj⟩
  by_cases c2:n<mr
  ·rw [if_pos c2]
   refine wpS_bind (wpS_lift (wpAny_rule ⟨rfl,?_⟩))
   refine wpS_bind (wpS_binL h0 (by walk_at"q") (by walk_at"q") b1 b6 fun st3 t1 t2 t3 s3=>?_)
   simp only [Bool.not_true,Bool.false_eq_true,if_false]
   have r3:RS a₀ st3 lo:=⟨t1,by rw [t2];exact r2.stk.agree fun j _ hj=>t3 j hj⟩
   refine wpS_bind (wpS_get ?_)
   cases hb:(pendingOf st3).back? with
   |none =>
    dsimp only
    exact wpS_bind (wpS_modify (wpS_pure ⟨lo+min (a₀.size-lo) mr,rfl,r3.push (by walk_at"q") s3,by walk_at"q", by walk_at"q"⟩))
   |some t =>
    obtain ⟨u1,u2,u3⟩:=t
    dsimp only
    refine wpS_bind (wpS_mono (wpS_forRange (I:=fun _ c st'=>c=(none,())∧RS a₀ st' lo∧SrtIn (arrOf st') lo (lo+min (a₀.size-lo) mr)) (Q:=fun c st'=>c=(none,())∧RS a₀ st' lo∧SrtIn (arrOf st') lo (lo+min (a₀.size-lo) mr)) ?_ (fun _ _ hh=>hh) ⟨rfl,r3,s3⟩) ?_)
    ·rintro y c st4 _ hy ⟨rfl,r4,s4⟩
     refine wpS_bind (wpS_get ?_)
     by_cases d1:(pendingOf st4).size>1
     ·rw [if_pos d1]
      have e1:(pendingOf st4)[(pendingOf st4).size-2]?=some (pendingOf st4)[(pendingOf st4).size-2]:=getElem?_pos _ _ (by walk_at"q")
      have e2:(pendingOf st4)[(pendingOf st4).size-2+1]?=some (pendingOf st4)[(pendingOf st4).size-2+1]:=getElem?_pos _ _ (by walk_at"q")
      rw [e1]
      dsimp only
      split
      ·exact wpS_pure ⟨rfl,r4,s4⟩
      ·refine wpS_bind (r4.mrg h0 l1 e1 e2 fun st5 r5 _ g5=>?_)
       simp only [Bool.not_true,Bool.false_eq_true,if_false]
       refine wpS_pure ⟨rfl,r5,fun i j a1 a2 a3=>?_⟩
       rw [show KK (arrOf st5) i=KK (arrOf st4) i from K_congr (g5 i a1),show KK (arrOf st5) j=KK (arrOf st4) j from K_congr (g5 j (by walk_at"q"))]
       exact s4 i j a1 a2 a3
     ·rw [if_neg d1]
      exact wpS_pure ⟨rfl,r4,s4⟩
    ·rintro c st4 ⟨rfl,r4,s4⟩
     dsimp only
     exact wpS_bind (wpS_modify (wpS_bind (wpS_modify (wpS_pure ⟨lo+min (a₀.size-lo) mr,rfl,r4.pow.push (by walk_at"q") s4,by walk_at"q", by walk_at"q"⟩))))
  ·rw [if_neg c2]
   obtain ⟨st3,e3⟩:∃ st3,st3=st2:=⟨_,rfl⟩
   rw [←e3] at r2 b6 ⊢
   have r3:=r2
   have s3:=b6
   refine wpS_bind (wpS_get ?_)
   cases hb:(pendingOf st3).back? with
   |none =>
    dsimp only
    exact wpS_bind (wpS_modify (wpS_pure ⟨lo+n,rfl,r3.push (by walk_at"q") s3,by walk_at"q", by walk_at"q"⟩))
   |some t =>
    obtain ⟨u1,u2,u3⟩:=t
    dsimp only
    refine wpS_bind (wpS_mono (wpS_forRange (I:=fun _ c st'=>c=(none,())∧RS a₀ st' lo∧SrtIn (arrOf st') lo (lo+n)) (Q:=fun c st'=>c=(none,())∧RS a₀ st' lo∧SrtIn (arrOf st') lo (lo+n)) ?_ (fun _ _ hh=>hh) ⟨rfl,r3,s3⟩) ?_)
    ·rintro y c st4 _ hy ⟨rfl,r4,s4⟩
     refine wpS_bind (wpS_get ?_)
     by_cases d1:(pendingOf st4).size>1
     ·rw [if_pos d1]
      have e1:(pendingOf st4)[(pendingOf st4).size-2]?=some (pendingOf st4)[(pendingOf st4).size-2]:=getElem?_pos _ _ (by walk_at"q")
      have e2:(pendingOf st4)[(pendingOf st4).size-2+1]?=some (pendingOf st4)[(pendingOf st4).size-2+1]:=getElem?_pos _ _ (by walk_at"q")
      rw [e1]
      dsimp only
      split
      ·exact wpS_pure ⟨rfl,r4,s4⟩
      ·refine wpS_bind (r4.mrg h0 l1 e1 e2 fun st5 r5 _ g5=>?_)
       simp only [Bool.not_true,Bool.false_eq_true,if_false]
       refine wpS_pure ⟨rfl,r5,fun i j a1 a2 a3=>?_⟩
       rw [show KK (arrOf st5) i=KK (arrOf st4) i from K_congr (g5 i a1),show KK (arrOf st5) j=KK (arrOf st4) j from K_congr (g5 j (by walk_at"q"))]
       exact s4 i j a1 a2 a3
     ·rw [if_neg d1]
      exact wpS_pure ⟨rfl,r4,s4⟩
    ·rintro c st4 ⟨rfl,r4,s4⟩
     dsimp only
     exact wpS_bind (wpS_modify (wpS_bind (wpS_modify (wpS_pure ⟨lo+n,rfl,r4.pow.push (by walk_at"q") s4,by walk_at"q", by walk_at"q"⟩))))
end
end
end L2
namespace L2
open PySem PySem.Spec PyProof.Rows
section
section
variable {prog:Program} {w:World} {A:Around} {E:Value→Shared→Prop} {s:Shared}
theorem sort_any {q:Addr} {us:List Value} {ks:List Int} {e:Nat} {R:Fin→Shared→Prop} (hq:s.heap.get? q=some (seqObj "list" us.toArray e)) (hI:IntsAre us ks) (hz:us.length≤100000)
  (h:∀ (o:Array Value) (ks':List Int),IntsAre o.toList ks'→ks'.Perm ks→ks'.Pairwise (·≤·)→R (.done (.ret .none)) { s with heap:=sortedHeap s.heap q us o }) :
  wpAny (model prog w) A (Builtin.«list.sort» ⟨[.ref q],[]⟩) R E s:=by
 by_cases few:us.length<64
 ·exact list_sort_tree hq hI few h
 have zl:us.length≤sizeLine:=lenLine hz
 have zs:us.toArray.size=us.length:=by simp
 have lt:=Heap.lt_size hq
 obtain ⟨x,y,r,rfl⟩:∃ x y r,us=x::y::r:=by
  cases us with
  |nil=>simp at few
  |cons x us=>cases us with
   |nil=>simp at few
   |cons y r=>exact ⟨x,y,r,rfl⟩
 have two:¬ (x::y::r).toArray.size<2:=by rw [zs];simp
 rw [list_sort_plain]
 obtain ⟨n1,o1⟩:∃ n1,(s.heap.update q (Obj.mapSeq fun _=>#[])).get? q=some (seqObj "list" #[] n1):=⟨_,get?_update_seq hq (fun _=>#[])⟩
 refine wpAny_bind (listItems_at hq rfl (wpAny_bind (listUpdate_at hq rfl (wpAny_bind (seqEpoch_at o1 rfl (wpAny_bind (wpAny_newTuple (wpAny_bind (wpAny_newList (wpAny_holding ?_)))) ))) (by rw [zs];exact zl))))
 have o2:(((s.heap.update q (Obj.mapSeq fun _=>#[])).push (seqObj "tuple" (x::y::r).toArray 0)).push (seqObj "list" #[] 0)).get? q=some (seqObj "list" #[] n1):=by
  refine (Heap.get?_push_ne _ _ _ ?_).trans ((Heap.get?_push_ne _ _ _ ?_).trans o1)
  ·rw [size_push',Heap.size_update];exact Nat.ne_of_lt (Nat.lt_succ_of_lt lt)
  ·rw [Heap.size_update];exact Nat.ne_of_lt lt
 rw [if_neg two,if_neg two,keyKind_ints hI]
 refine wpAny_bind (wpAny_pure ?_)
 refine wpAny_bind (wpAny_mono (wpS_sortRunsL (a₀:=pairsOf (x::y::r)) (st:=SortSt.mk' oneType' ((x::y::r).toArray.zip (x::y::r).toArray) #[] 7 none)
  (Q:=fun _ t=>(arrOf t).Perm (pairsOf (x::y::r))∧failedOf t=none∧SortedTo (arrOf t) (pairsOf (x::y::r)).size) hI.intKeys ⟨Array.Perm.refl _,rfl,rfl⟩ rfl (by rw [pairsOf_size];simp) fun t c1 c2 c3=>⟨c1,c2,c3⟩) ?_ fun _ _ z=>z)
 rintro ⟨⟨⟩,t⟩ s2 ⟨rfl,pm,fl,so⟩
 dsimp only
 refine wpAny_bind (seqEpoch_at o2 rfl (wpAny_bind (listUpdate_at o2 rfl ?_ (hsz2:=?_))))
 ·rw [fl]
  simp only [bne_self_eq_false,Bool.false_eq_true,if_false]
  obtain ⟨ks',c1,c2,c3⟩:=sorted_out hI pm so
  exact wpAny_pure (h _ ks' c1 c2 c3)
 ·have:=(Array.size_map (f:=fun z:Keyed=>z.2) (xs:=arrOf t)).trans (pm.size_eq.trans (pairsOf_size _))
  refine Nat.le_trans (Nat.le_of_eq this) ?_
  walk_at"q"
theorem sorted_any {l:Addr} {us:List Value} {ks:List Int} {R:Value→Shared→Prop} (hl:s.heap.IsList l us.toArray) (hI:IntsAre us ks) (hz:us.length≤100000)
  (h:∀ (o:Array Value) (ks':List Int),IntsAre o.toList ks'→ks'.Perm ks→ks'.Pairwise (·≤·)→R (.ref (s.heap.objs.size+1)) { s with heap:=sortedAll s.heap us o }) :
  wpAny (model prog w) A (call (.builtin "sorted") [.ref l]) R E s:=by
 have zl:us.length≤sizeLine:=lenLine hz
 refine Calls.call_function_entry kind_sorted plain_sorted entry_sorted (args_sorted1 _) ?_
 unfold Builtin.«sorted»
 refine wpAny_bind (m:=checkCount "sorted" 1 1 _) (wpAny_pure ?_)
 refine wpAny_bind (collect_list hl (wpAny_bind (wpAny_newList ?_ zl)) zl)
 have z1:((s.heap.push (seqObj "list" #[] 0)).update s.heap.objs.size (Obj.mapSeq (·++us.toArray))).objs.size=s.heap.objs.size+1:=by rw [Heap.size_update,size_push']
 have o1:=Heap.get?_push_size ((s.heap.push (seqObj "list" #[] 0)).update s.heap.objs.size (Obj.mapSeq (·++us.toArray))) (o:=seqObj "list" us.toArray 0) rfl
 rw [z1] at o1
 show wpAny _ _ _ _ _ { s with heap:=((s.heap.push (seqObj "list" #[] 0)).update s.heap.objs.size (Obj.mapSeq (·++us.toArray))).push (seqObj "list" us.toArray 0) }
 rw [z1]
 refine wpAny_bind (wpAny_holding (wpAny_call_entry slot_list_sort ⟨_,o1,rfl⟩ entry_list_sort (sort_any o1 hI hz fun o ks' c1 c2 c3=>⟨_,rfl,wpAny_pure ⟨_,rfl,h o ks' c1 c2 c3⟩⟩) (args_list_sort _)))
end
inductive P_call_sortedB (K:PySem.W.Frag) (xs:List V) (H:Hp) (Q:VK):Prop
 |mk (p:Addr) (ns:List Int) (h1:xs=[.ref p]) (h2:SqL K H p (ns.map V.int)) (h3:ns.length≤100000) (h4:∀ (l:Addr) (ns':List Int),H l=none→ns'.Perm ns→ns'.Pairwise (·≤·)→Q (.ref l) (upd H l (.lst (ns'.map V.int)))):P_call_sortedB K xs H Q
theorem call_sortedB {X:Cx}:CallR X (.builtin "sorted") (P_call_sortedB X.K):=by
 intro pins s σ H xs us Q I r h
 obtain ⟨p,ns,rfl,hp,hz,q⟩:=h
 obtain ⟨u,rfl,ru⟩:=r.one
 cases ru
 obtain ⟨its,rv,pl,_⟩:=I.list hp
 have hl:=rv.length
 rw [List.length_map] at hl
 refine sorted_any pl.isList (intsAre_of rv) (by walk_at"q") fun out ns' a1 a2 a3=>?_
 obtain ⟨e,he⟩:=sortedAll_at s.heap its out
 have l2:=a2.length_eq
 refine ⟨.ref (s.heap.objs.size+1),upd H (s.heap.objs.size+1) (.lst (ns'.map V.int)),I.laid (t':=s.toks) (fun b o e=>sortedAll_old e) (Nat.le_succ _) ⟨?_,out.toList,e,vals_of_ints a1,?_⟩,rfl,q _ ns' (I.hok.fresh (Nat.le_succ _)) a2 a3⟩
 ·rw [List.length_map]
  exact lenLine (by walk_at"q")
 ·rw [Array.toArray_toList]
  exact he
end
end L2
namespace Ep
open PySem L2 PySem.SeqAt
section
theorem sumC_nonneg (p:Place→Bool):∀ (cs:List Int) (ps:List Place),(∀ c∈cs,c=1)→0≤sumC p cs ps
 |[],_,_=>by simp [sumC]
 |_::_,[],_=>by simp [sumC]
 |a::cs,q::ps,h=>by
  have e:=h a (by simp)
  have:=sumC_nonneg p cs ps fun c hc=>h c (by simp [hc])
  show 0≤(if p q then a else 0)+sumC p cs ps
  split<;>walk_at"q"
theorem flow_le {wide:Int} {ws:List (Int×Int)} {st:PlS} {cs:List Int} {P:Nat→Int} (ok:WOk wide ws) (hl:cs.length=wide.toNat) (F:Flow wide ws st (eOf cs) P) (one:∀ c∈st.chg,c=1) {l:Int} (l0:0≤l) (l1:l<wide) :
  st.tal.getD l.toNat 0≤(thruM cs ws).getD l.toNat 0:=by
 have ths:∀ k,k≤ws.length→∀ x,0≤x→x<wide→Vf ws (eOf cs) P k x≤(thruM cs (ws.take k)).getD x.toNat 0:=fun k=>by
  induction k with
  |zero =>
   intro _ x h0 _
   show eOf cs x≤_
   unfold eOf
   rw [if_pos h0]
   exact Int.le_refl _
  |succ k ih =>
   intro hk x h0 h1
   have hw:ws[k]?=some (wAt ws k):=by simp [wAt,List.getD,show k<ws.length by walk_at"q"]
   have o:=WOk.mem ok hw
   obtain ⟨o1,o2,o3,o4,o5⟩:=id o
   have tl:(thruM cs (ws.take k)).length=wide.toNat:=by rw [thruM_len];exact hl
   rw [take_snoc hw,thruM_snoc]
   have pk:=F.pa k (by walk_at"q")
   have nb:=sumC_nonneg (isB k) st.chg st.pla one
   have a1:=ih (by walk_at"q") _ o1 o2
   have a2:=ih (by walk_at"q") _ o3 o4
   have eb:P k≤both (thruM cs (ws.take k)) (wAt ws k):=by show P k≤_+_;walk_at"q"
   show (if x=(wAt ws k).1 then (P k+1) / 2 else if x=(wAt ws k).2 then P k / 2 else Vf ws (eOf cs) P k x)≤_
   by_cases z1:x=(wAt ws k).1
   ·rw [if_pos z1,z1,letM_first tl o];walk_at"q"
   ·rw [if_neg z1]
    by_cases z2:x=(wAt ws k).2
    ·rw [if_pos z2,z2,letM_second tl o];walk_at"q"
    ·rw [if_neg z2,letM_other tl o (by walk_at"q") (by walk_at"q")]
     exact ih (by walk_at"q") x h0 h1
 have a:=F.ta l l0 l1
 have b:=ths ws.length (Nat.le_refl _) l l0 l1
 rw [List.take_length] at b
 have nx:=sumC_nonneg (isX l) st.chg st.pla one
 walk_at"q"
def outNs:List Place→List Int
 |[]=>[]
 |.out _ n::r=>n::outNs r
 |.before _ _::r=>outNs r
 |.exit _::r=>outNs r
theorem outNs_snoc {pl:Place} (h:isOut pl=false):∀ ps:List Place,outNs (ps++[pl])=outNs ps
 |[]=>by cases pl<;>simp [isOut] at h<;>rfl
 |q::r=>by
  have:=outNs_snoc h r
  cases q with
  |out l n=>show n::outNs (r++[pl])=n::outNs r;rw [this]
  |before k l=>exact this
  |exit l=>exact this
theorem outNs_set {pl':Place} (h':isOut pl'=false):∀ (ps:List Place) (i:Nat) (pl:Place),ps[i]?=some pl→isOut pl=false→outNs (ps.set i pl')=outNs ps
 |[],i,pl,h,_=>by simp at h
 |q::r,0,pl,h,o=>by
  have e:q=pl:=by simpa using h
  subst e
  cases q<;>simp [isOut] at o<;>cases pl'<;>simp [isOut] at h'<;>rfl
 |q::r,i+1,pl,h,o=>by
  have:=outNs_set h' r i pl (by simpa using h) o
  cases q with
  |out l n=>show n::outNs (r.set i pl')=n::outNs r;rw [this]
  |before k l=>exact this
  |exit l=>exact this
theorem outNs_put {l n:Int}:∀ (ps:List Place) (i:Nat) (pl:Place),ps[i]?=some pl→isOut pl=false→(outNs (ps.set i (.out l n))).Perm (n::outNs ps)
 |[],i,pl,h,_=>by simp at h
 |q::r,0,pl,h,o=>by
  have e:q=pl:=by simpa using h
  subst e
  cases q<;>simp [isOut] at o<;>exact List.Perm.refl _
 |q::r,i+1,pl,h,o=>by
  have:=outNs_put (l:=l) (n:=n) r i pl (by simpa using h) o
  cases q with
  |out l' n'=>exact (this.cons n').trans (List.Perm.swap _ _ _)
  |before k l=>exact this
  |exit l=>exact this
theorem outNs_len:∀ (ps:List Place) (i:Nat),(outNs ps).length+(insideM i ps).length=ps.length
 |[],_=>rfl
 |q::r,i=>by
  have:=outNs_len r (i+1)
  cases q with
  |out l n=>show (outNs r).length+1+([]++insideM (i+1) r).length=r.length+1;simp;walk_at"q"
  |before k l=>show (outNs r).length+([(i:Int)]++insideM (i+1) r).length=r.length+1;simp;walk_at"q"
  |exit l=>show (outNs r).length+([(i:Int)]++insideM (i+1) r).length=r.length+1;simp;walk_at"q"
theorem standG_zero (wide:Int):∀ (n i:Nat),standG wide i (List.replicate n 0)=[]
 |0,_=>rfl
 |n+1,i=>by
  rw [List.replicate_succ]
  show numsM wide i 0 (0:Int).toNat++standG wide (i+1) (List.replicate n 0)=[]
  rw [standG_zero wide n (i+1)]
  rfl
theorem standG_up (wide:Int):∀ (i:Nat) (t:List Int) (l:Nat),l<t.length→0≤t.getD l 0→(standG wide i (t.set l (t.getD l 0+1))).Perm ((((i+l:Nat):Int)+wide*t.getD l 0)::standG wide i t)
 |_,[],l,h,_=>by simp at h
 |i,c::r,0,_,h=>by
  have h':0≤c:=by simpa using h
  show (numsM wide i 0 (c+1).toNat++standG wide (i+1) r).Perm (((i:Int)+wide*c)::(numsM wide i 0 c.toNat++standG wide (i+1) r))
  rw [show (c+1).toNat=c.toNat+1 by walk_at"q", numsM_succ,show (0:Int)+((c.toNat:Nat):Int)=c by walk_at"q", List.append_assoc]
  exact List.perm_middle
 |i,c::r,l+1,hl,h=>by
  have ih:=standG_up wide (i+1) r l (by simpa using hl) (by simpa using h)
  show (numsM wide i 0 c.toNat++standG wide (i+1) (r.set l (r.getD l 0+1))).Perm (_::(numsM wide i 0 c.toNat++standG wide (i+1) r))
  refine ((List.Perm.refl _).append ih).trans ?_
  rw [show i+1+l=i+(l+1) by walk_at"q"]
  exact List.perm_middle
theorem owedG_none (wide:Int):∀ (i:Nat) (t:List Int),(∀ l,0≤t.getD l 0)→owedG wide i t=[]
 |_,[],_=>rfl
 |i,c::r,h=>by
  have h0:0≤c:=by simpa using h 0
  show numsM wide i c (-c).toNat++owedG wide (i+1) r=[]
  rw [owedG_none wide (i+1) r fun l=>by simpa using h (l+1),show (-c).toNat=0 by walk_at"q"]
  rfl
structure FwX (wide:Int) (st:PlS) (cs:List Int):Prop where
 one:∀ c∈st.chg,c=1
 sm:cs.sum=(st.pla.length:Int)
 nn:∀ l,0≤st.tal.getD l 0
 pm:(outNs st.pla).Perm (standG wide 0 st.tal)
structure Go (b:Bool) (wide:Int) (ws:List (Int×Int)) (st:PlS) (cs:List Int):Prop where
 wf:Wf wide ws st
 cl:cs.length=wide.toNat
 fl:∃ P,Flow wide ws st (eOf cs) P
 few:Few st
 fw:b=true→FwX wide st cs
theorem Go.start {b:Bool} {wide:Int} {ws:List (Int×Int)} (w1:1≤wide):Go b wide ws (startM wide ws) (List.replicate wide.toNat 0):=by
 refine ⟨start_wf,by simp,⟨_,flow_start (by walk_at"q")⟩,Few.start wide ws,fun _=>⟨fun _ h=>(nomatch h),?_,fun l=>?_,?_⟩⟩
 ·show _=(0:Int)
  generalize wide.toNat=n
  induction n with
  |zero=>rfl
  |succ n ih=>rw [List.replicate_succ,List.sum_cons,ih];rfl
 ·show 0≤(List.replicate wide.toNat (0:Int)).getD l 0
  simp [List.getD,List.getElem?_replicate]
  split<;>simp
 ·show List.Perm [] (standG wide 0 (List.replicate wide.toNat 0))
  rw [standG_zero]
theorem set_sum:∀ (cs:List Int) (l:Nat) (c:Int),l<cs.length→(cs.set l (cs.getD l 0+c)).sum=cs.sum+c
 |[],l,c,h=>by simp at h
 |a::r,0,c,_=>by simp;walk_at"q"
 |a::r,l+1,c,h=>by
  have:=set_sum r l c (by simpa using h)
  show (a::r.set l (r.getD l 0+c)).sum=_
  rw [List.sum_cons,this,List.sum_cons]
  walk_at"q"
theorem Go.enter {b:Bool} {wide:Int} {ws:List (Int×Int)} {st:PlS} {cs:List Int} {l c:Int} (ok:WOk wide ws) (G:Go b wide ws st cs) (l0:0≤l) (l1:l<wide) (hc:c=1∨c=-1) (hb:b=true→c=1) (ml:st.pla.length<400) :
  Go b wide ws (enterM ws st l c) (cs.set l.toNat (cs.getD l.toNat 0+c)):=by
 have cl:=G.cl
 have ll:l.toNat<cs.length:=by walk_at"q"
 obtain ⟨P,F⟩:=G.fl
 refine ⟨enter_wf G.wf l0 l1 hc ml,by rw [List.length_set];exact cl,⟨P,flow_enter ok G.wf F (eOf_set l0 ll)⟩,G.few.enter,fun e=>?_⟩
 have X:=G.fw e
 have e1:=hb e
 subst e1
 refine ⟨fun d hd=>?_,?_,X.nn,?_⟩
 ·rcases List.mem_append.mp (show d∈st.chg++[1] from hd) with z|z
  ·exact X.one d z
  ·exact List.mem_singleton.mp z
 ·rw [set_sum _ _ _ ll,X.sm]
  show _=(((st.pla++[placeM ws l 0]).length:Nat):Int)
  simp
 ·show (outNs (st.pla++[placeM ws l 0])).Perm _
  rw [outNs_snoc (by rcases placeM_spec ws l (Nat.zero_le _) with ⟨a,_⟩|⟨k,a,_⟩<;>rw [a]<;>rfl)]
  exact X.pm
theorem getD_one {xs:List Int} (h:∀ c∈xs,c=1) {i:Nat} (hi:i<xs.length):xs.getD i 0=1:=by
 rw [List.getD_eq_getElem?_getD,List.getElem?_eq_getElem hi]
 exact h _ (List.getElem_mem hi)
theorem Go.step {b:Bool} {wide:Int} {ws:List (Int×Int)} {st:PlS} {cs:List Int} {i:Nat} {pl:Place} (ok:WOk wide ws) (G:Go b wide ws st cs) (hi:st.pla[i]?=some pl):Go b wide ws (stepS wide ws st i pl) cs:=by
 obtain ⟨P,F⟩:=G.fl
 refine ⟨step_wf ok G.wf hi,G.cl,flow_step ok G.wf F hi,G.few.step G.wf hi,fun e=>?_⟩
 have X:=G.fw e
 have il:i<st.pla.length:=(List.getElem?_eq_some_iff.mp hi).1
 have cl:=G.wf.cl
 have c1:=getD_one X.one (i:=i) (by walk_at"q")
 have psm:=G.wf.ps pl (List.mem_of_getElem? hi)
 cases pl with
 |out l n=>exact X
 |before k l =>
  refine ⟨X.one,?_,X.nn,?_⟩
  ·rw [step_len];exact X.sm
  ·show (outNs (st.pla.set i (placeM ws (passL ws st k (st.chg.getD i 0)) (k+1)))).Perm _
   rw [outNs_set (by rcases placeM_spec ws (passL ws st k (st.chg.getD i 0)) (s:=k+1) psm.1 with ⟨a,_⟩|⟨k',a,_⟩<;>rw [a]<;>rfl) _ _ _ hi rfl]
   exact X.pm
 |exit l =>
  have p1:=psm.1
  have p2:=psm.2
  have tl:=G.wf.tl
  have lt:l.toNat<st.tal.length:=by walk_at"q"
  refine ⟨X.one,?_,fun j=>?_,?_⟩
  ·rw [step_len];exact X.sm
  ·show 0≤(st.tal.set l.toNat (st.tal.getD l.toNat 0+st.chg.getD i 0)).getD j 0
   rw [c1,getD_set lt]
   have:=X.nn l.toNat
   have:=X.nn j
   split<;>walk_at"q"
  ·show (outNs (st.pla.set i (.out l (leaveN wide st l (st.chg.getD i 0))))).Perm (standG wide 0 (st.tal.set l.toNat (st.tal.getD l.toNat 0+st.chg.getD i 0)))
   rw [c1]
   refine (outNs_put _ _ _ hi rfl).trans ?_
   refine List.Perm.trans ?_ (standG_up wide 0 st.tal l.toNat lt (X.nn _)).symm
   have en:leaveN wide st l 1=((0+l.toNat:Nat):Int)+wide*st.tal.getD l.toNat 0:=by
    unfold leaveN
    rw [if_pos rfl]
    walk_at"q"
   rw [en]
   exact X.pm.cons _
theorem Go.run {b:Bool} {wide:Int} {ws:List (Int×Int)} {cs:List Int} {i:Nat} {st a:PlS} (ok:WOk wide ws) (r:Run wide ws i st a):Go b wide ws st cs→Go b wide ws a cs:=by
 induction r with
 |done _ _=>exact fun g=>g
 |more e o _ ih=>exact fun g=>ih (g.step ok e)
theorem Go.rest {b:Bool} {wide:Int} {ws:List (Int×Int)} {cs:List Int} {is:List Int} {st a:PlS} (ok:WOk wide ws) (r:Rest wide ws is st a):Go b wide ws st cs→Go b wide ws a cs:=by
 induction r with
 |nil=>exact fun g=>g
 |cons r _ ih=>exact fun g=>ih (g.run ok r)
theorem Go.back {b:Bool} {wide:Int} {ws:List (Int×Int)} {st:PlS} {cs:List Int} (G:Go b wide ws st cs):Go false wide ws st cs:=⟨G.wf,G.cl,G.fl,G.few,fun h=>(nomatch h)⟩
theorem Go.abs {b:Bool} {wide:Int} {ws:List (Int×Int)} {st:PlS} {cs:List Int} (G:Go b wide ws st cs):absS st.tal≤400:=Nat.le_trans G.few.le G.wf.ml
theorem level_lt {wide x t:Int} (w1:1≤wide):x / wide<(levelM wide.toNat t).getD (x % wide).toNat 0↔x<t:=by
 have m0:=Int.emod_nonneg x (show wide≠0 by walk_at"q")
 have m1:=Int.emod_lt_of_pos x (show 0<wide by walk_at"q")
 have dm:=Int.emod_add_mul_ediv x wide
 rw [levelM_getD (by walk_at"q"),Int.toNat_of_nonneg m0,Int.toNat_of_nonneg (show 0≤wide by walk_at"q"),Int.zero_add]
 have e:x % wide-t=(x-t)+wide*(-(x / wide)):=by rw [Int.mul_neg];walk_at"q"
 rw [e,Int.add_mul_ediv_left _ _ (by walk_at"q")]
 have:(x-t) / wide<0↔x-t<0:=⟨fun h=>by
  have:=Int.ediv_nonneg (a:=x-t) (b:=wide)
  walk_at"q", fun h=>Int.ediv_neg_of_neg_of_pos h (by walk_at"q")⟩
 walk_at"q"
theorem stand_below {wide:Int} {ws:List (Int×Int)} {st:PlS} {cs:List Int} (ok:WOk wide ws) (w1:1≤wide) (lv:Lvl wide ws) (G:Go true wide ws st cs) {x:Int} (h:x∈standG wide 0 st.tal):0≤x∧x<(st.pla.length:Int):=by
 have x0:=stand_nonneg w1 h
 refine ⟨x0,?_⟩
 have X:=G.fw rfl
 obtain ⟨P,F⟩:=G.fl
 have m0:=Int.emod_nonneg x (show wide≠0 by walk_at"q")
 have m1:=Int.emod_lt_of_pos x (show 0<wide by walk_at"q")
 have a:=(stand_iff w1 G.wf.tl x0).mp h
 have b:=flow_le ok G.cl F X.one m0 m1
 rw [lv.come ok w1 G.cl,X.sm] at b
 exact (level_lt w1).mp (by walk_at"q")
def rngI (n:Nat):List Int:=(List.range n).map fun k:Nat=>(k:Int)
theorem rngI_len (n:Nat):(rngI n).length=n:=by simp [rngI]
theorem rngI_mem {n:Nat} {x:Int}:x∈rngI n↔0≤x∧x<n:=by
 unfold rngI
 rw [List.mem_map]
 constructor
 ·rintro ⟨k,hk,rfl⟩
  have:=List.mem_range.mp hk
  walk_at"q"
 ·rintro ⟨a,b⟩
  exact ⟨x.toNat,List.mem_range.mpr (by walk_at"q"),by walk_at"q"⟩
theorem rngI_nodup (n:Nat):(rngI n).Nodup:=by
 unfold rngI
 exact List.Pairwise.map _ (fun a b h e=>h (by walk_at"q")) List.nodup_range
theorem rngI_succ (n:Nat):rngI (n+1)=rngI n++[(n:Int)]:=by
 unfold rngI
 rw [List.range_succ,List.map_append]
 rfl
theorem rngI_le (n:Nat):(rngI n).Pairwise (·≤·):=by
 unfold rngI
 exact List.Pairwise.map _ (fun a b h=>by walk_at"q") List.pairwise_lt_range
theorem rngI_below {p:Int→Bool} {g:Nat}:∀ d:Nat,(rngI (g+d)).filter (fun n=>p n && decide (n<(g:Int)))=(rngI g).filter p
 |0=>by
  refine List.filter_congr fun x hx=>?_
  have:=rngI_mem.mp hx
  rw [Nat.add_zero] at this
  rw [decide_eq_true this.2,Bool.and_true]
 |d+1=>by
  rw [←Nat.add_assoc,rngI_succ,List.filter_append,rngI_below d,List.filter_cons,if_neg,List.filter_nil,List.append_nil]
  rw [decide_eq_false (by walk_at"q"),Bool.and_false]
  decide
theorem two_len (S:List Int):∀ l:List Int,(l.filter fun x=>decide (x∉S)).length+(l.filter fun x=>decide (x∈S)).length=l.length
 |[]=>rfl
 |a::r=>by
  have:=two_len S r
  rw [List.filter_cons,List.filter_cons]
  by_cases z:a∈S
  ·rw [if_neg (by simpa using z),if_pos (by simpa using z)];simp only [List.length_cons];walk_at"q"
  ·rw [if_pos (by simpa using z),if_neg (by simpa using z)];simp only [List.length_cons];walk_at"q"
theorem left_len {n:Nat} {S:List Int} (nd:S.Nodup) (h:∀ x∈S,0≤x∧x<(n:Int)):((rngI n).filter fun x=>decide (x∉S)).length+S.length=n:=by
 have e:((rngI n).filter fun x=>decide (x∈S)).Perm S:=by
  refine (List.perm_ext_iff_of_nodup ((rngI_nodup n).filter _) nd).mpr fun x=>?_
  rw [List.mem_filter]
  constructor
  ·rintro ⟨_,b⟩;exact of_decide_eq_true b
  ·intro z;exact ⟨rngI_mem.mpr (h x z),decide_eq_true z⟩
 rw [←e.length_eq]
 have:=two_len S (rngI n)
 rw [rngI_len] at this
 walk_at"q"
theorem go_left {wide:Int} {ws:List (Int×Int)} {st:PlS} {cs S:List Int} (ok:WOk wide ws) (w1:1≤wide) (lv:Lvl wide ws) (G:Go true wide ws st cs) (pm:S.Perm (standG wide 0 st.tal)):((rngI st.pla.length).filter fun x=>decide (x∉S)).length=(insideM 0 st.pla).length:=by
 have tl:=G.wf.tl
 have nd:S.Nodup:=pm.nodup_iff.mpr (standG_nodup w1 0 st.tal (by walk_at"q"))
 have a:=left_len nd fun x hx=>stand_below ok w1 lv G (pm.mem_iff.mp hx)
 have b:=outNs_len st.pla 0
 rw [(G.fw rfl).pm.length_eq,←pm.length_eq] at b
 walk_at"q"
theorem go_lack {wide:Int} {ws:List (Int×Int)} {st:PlS} {cs S:List Int} {g:Int} (ok:WOk wide ws) (w1:1≤wide) (lv:Lvl wide ws) (G:Go true wide ws st cs) (pm:S.Perm (standG wide 0 st.tal)) (hg:IsGr wide st.tal g) :
  lackM wide st.tal g.toNat=(rngI g.toNat).filter fun x=>decide (x∉S):=by
 unfold lackM
 refine List.filter_congr fun x hx=>?_
 have x0:=(rngI_mem.mp hx).1
 have i:=stand_iff (n:=x) w1 G.wf.tl x0
 rw [←pm.mem_iff] at i
 by_cases z:x∈S
 ·have:=i.mp z
  rw [decide_eq_false (by walk_at"q"),decide_eq_false (by simpa using z)]
 ·have:¬ _:=fun h=>z (i.mpr h)
  rw [decide_eq_true (by walk_at"q"),decide_eq_true z]
theorem last_gr {wide:Int} {t S:List Int} {g m:Int} (w1:1≤wide) (pm:S.Perm (standG wide 0 t)) (pw:S.Pairwise (·≤·)) (hg:IsGr wide t g) (h:S.getLast?=some m):m=g:=by
 have mm:m∈S:=List.mem_of_getLast? h
 refine IsGr.eq ⟨List.mem_cons_of_mem _ (pm.mem_iff.mp mm),fun x hx=>?_⟩ hg
 rcases List.mem_cons.mp hx with rfl|hx
 ·exact stand_nonneg w1 (pm.mem_iff.mp mm)
 ·obtain ⟨ys,rfl⟩:=List.getLast?_eq_some_iff.mp h
  rcases List.mem_append.mp (pm.mem_iff.mpr hx) with z|z
  ·exact (List.pairwise_append.mp pw).2.2 x z m (by simp)
  ·rw [List.mem_singleton.mp z];exact Int.le_refl _
theorem go_rest {b:Bool} {wide:Int} {ws:List (Int×Int)} {st:PlS} {cs:List Int} (ok:WOk wide ws) (w1:1≤wide) (lv:Lvl wide ws) (G:Go b wide ws st cs) (out:∀ pl∈st.pla,isOut pl=true):st.tal=thruM cs ws∧st.tal=levelM wide.toNat cs.sum:=by
 obtain ⟨P,F⟩:=G.fl
 have e:=(flow_rest ok G.wf G.cl F out).1
 exact ⟨e,e.trans (lv.come ok w1 G.cl)⟩
theorem rest_stand {wide t:Int} {S:List Int} (w1:1≤wide) (pm:S.Perm (standG wide 0 (levelM wide.toNat t))) (pw:S.Pairwise (·≤·)):S=rngI t.toNat:=by
 have ll:=levelM_len wide.toNat t
 refine sorted_eq (c:=standG wide 0 (levelM wide.toNat t)) pm ?_ pw (rngI_le _)
 refine (List.perm_ext_iff_of_nodup (rngI_nodup _) (standG_nodup w1 0 _ (by walk_at"q"))).mpr fun x=>?_
 rw [rngI_mem,stand_iff' w1 ll,level_lt w1]
 have d:0≤x / wide↔0≤x:=⟨fun h=>by
  by_cases z:x<0
  ·have:=Int.ediv_neg_of_neg_of_pos z (show 0<wide by walk_at"q");walk_at"q"
  ·walk_at"q", fun h=>Int.ediv_nonneg h (by walk_at"q")⟩
 rw [d]
 walk_at"q"
def rngN (t:Int):List Int:=(List.range (-t).toNat).map fun k:Nat=>t+(k:Int)
theorem rest_owed {wide t:Int} {S:List Int} (w1:1≤wide) (pm:S.Perm (owedG wide 0 (levelM wide.toNat t))) (pw:S.Pairwise (·≤·)):S=rngN t:=by
 have ll:=levelM_len wide.toNat t
 have nd:(rngN t).Nodup:=by
  unfold rngN
  exact List.Pairwise.map _ (fun a b h e=>h (by walk_at"q")) List.nodup_range
 have ple:(rngN t).Pairwise (·≤·):=by
  unfold rngN
  exact List.Pairwise.map _ (fun a b h=>by walk_at"q") List.pairwise_lt_range
 refine sorted_eq (c:=owedG wide 0 (levelM wide.toNat t)) pm ?_ pw ple
 refine (List.perm_ext_iff_of_nodup nd (owedG_nodup w1 0 _ (by walk_at"q"))).mpr fun x=>?_
 have mm:x∈rngN t↔t≤x∧x<0:=by
  unfold rngN
  rw [List.mem_map]
  constructor
  ·rintro ⟨k,hk,rfl⟩
   have:=List.mem_range.mp hk
   walk_at"q"
  ·rintro ⟨a,b⟩
   exact ⟨(x-t).toNat,List.mem_range.mpr (by walk_at"q"),by walk_at"q"⟩
 rw [mm,owed_iff w1 ll]
 have l:=level_lt (x:=x) (t:=t) w1
 have d:x / wide<0↔x<0:=⟨fun h=>by
  by_cases z:x<0
  ·exact z
  ·have:=Int.ediv_nonneg (show 0≤x by walk_at"q") (show 0≤wide by walk_at"q");walk_at"q", fun h=>Int.ediv_neg_of_neg_of_pos h (by walk_at"q")⟩
 rw [d]
 walk_at"q"
theorem rest_lack {wide t g:Int} (w1:1≤wide) (hg:IsGr wide (levelM wide.toNat t) g):lackM wide (levelM wide.toNat t) g.toNat=[]:=by
 unfold lackM
 rw [List.filter_eq_nil_iff]
 intro x hx
 have x':=rngI_mem.mp hx
 have l:=level_lt (x:=x) (t:=t) w1
 have g0:=hg.nonneg
 rcases List.mem_cons.mp hg.1 with e|e
 ·walk_at"q"
 ·have:=(stand_iff (n:=g) w1 (levelM_len _ _) g0).mp e
  have:=(level_lt w1).mp this
  simp
  exact l.mpr (by walk_at"q")
theorem isLevel_levelM {wide t:Int} (w1:1≤wide):Level (levelM wide.toNat t):=levelM_level (by walk_at"q") t
theorem stand_ltB {wide:Int} {t:List Int} (w1:1≤wide) (w8:wide≤8) (hl:t.length=wide.toNat) (b:absS t≤400) {x:Int} (h:x∈standG wide 0 t):x<5000:=by
 obtain ⟨l,j,hl',hj,e⟩:=standG_mem.mp h
 have a:=absS_ge (t:=t) l
 have j63:(j:Int)≤400:=by walk_at"q"
 have:wide*(j:Int)≤8*400:=Int.mul_le_mul w8 j63 (by walk_at"q") (by walk_at"q")
 walk_at"q"
theorem IsGr.ltB {wide:Int} {t:List Int} {g:Int} (w1:1≤wide) (w8:wide≤8) (hl:t.length=wide.toNat) (b:absS t≤400) (a:IsGr wide t g):g<5000:=by
 rcases List.mem_cons.mp a.1 with e|e
 ·walk_at"q"
 ·exact stand_ltB w1 w8 hl b e
end
end Ep
namespace L2
open PySem PySem.Spec PyProof.Rows
section
theorem op_neLK {X:Cx} (K:PySem.W.Frag) (hK:X.K=K) (hu:X.A.units+64<cLine):OpR X (compareOp .NotEq) (rEqL K true):=by subst hK;exact op_neL hu
inductive P_call_lenDk (xs:List V) (H:Hp) (Q:VK):Prop
 |mk (p:Addr) (kvs:List (Key×V)) (h1:xs=[.ref p]) (h2:Rd H p (.dK kvs)) (h3:Q (.int kvs.length) H):P_call_lenDk xs H Q
theorem call_lenDk {X:Cx}:CallR X (.builtin "len") P_call_lenDk:=by
 intro pins s σ H xs us Q I r h
 obtain ⟨p,kvs,rfl,e,q⟩:=h
 obtain ⟨u,rfl,ru⟩:=r.one
 cases ru
 exact d_len I e fun t s' I'=>⟨.int kvs.length,H,I',⟨t,rfl⟩,q⟩
end
end L2
namespace Ep
open PySem L2 PySem.SeqAt
section
def dictT (ns:List Int):List (Key×V):=ns.map fun n=>(Sum.inl n,V.bl true)
theorem dictT_val (n:Int):∀ ns:List Int,(valV (dictT ns) (Sum.inl n)).isSome=decide (n∈ns)
 |[]=>rfl
 |a::r=>by
  show (valV ((Sum.inl a,V.bl true)::dictT r) (Sum.inl n)).isSome=_
  by_cases e:a=n
  ·rw [valV_pos (by rw [e])]
   simp [e]
  ·rw [valV_neg (by intro z;exact e (Sum.inl.inj z)),dictT_val n r]
   have:¬ n=a:=fun z=>e z.symm
   simp [this]
theorem dictT_put {ns:List Int} {n:Int} (h:n∉ns):putK (dictT ns) (Sum.inl n) (.bl true)=dictT (ns++[n]):=by
 have e:=dictT_val n ns
 rw [decide_eq_false h] at e
 rw [putK_new _ (by cases z:valV (dictT ns) (Sum.inl n) with|none=>rfl|some v=>rw [z] at e;cases e)]
 unfold dictT
 rw [List.map_append]
 rfl
theorem nodup_at {ns:List Int} (nd:ns.Nodup) {i:Nat} {z:Int} (h:ns[i]?=some z):z∉ns.take i:=by
 obtain ⟨il,e⟩:=List.getElem?_eq_some_iff.mp h
 intro m
 obtain ⟨j,hj⟩:=List.getElem?_of_mem m
 obtain ⟨jl,ej⟩:=List.getElem?_eq_some_iff.mp hj
 rw [List.getElem_take] at ej
 rw [List.length_take] at jl
 exact List.pairwise_iff_getElem.mp nd j i (by walk_at"q") il (by walk_at"q") (by rw [ej,e])
theorem rnd_36 {k:Nat} (h:k≤3):(rndM k).length≤36:=by
 have:k=0∨k=1∨k=2∨k=3:=by walk_at"q"
 rcases this with rfl|rfl|rfl|rfl<;>decide +kernel
theorem rngL_zero (n:Nat):rngL 0 (n:Int)=rngI n:=by
 unfold rngL rngI
 rw [show ((n:Int)-0).toNat=n by walk_at"q"]
 exact List.map_congr_left fun k _=>Int.zero_add _
theorem rngL_up (t:Int):rngL 0 t=rngI t.toNat:=by
 unfold rngL rngI
 rw [show (t-0).toNat=t.toNat by walk_at"q"]
 exact List.map_congr_left fun k _=>Int.zero_add _
theorem rngL_down (t:Int):rngL t 0=rngN t:=by
 unfold rngL rngN
 rw [show ((0:Int)-t).toNat=(-t).toNat by walk_at"q"]
theorem outNs_out {l n:Int}:∀ ps:List Place,outNs (ps++[.out l n])=outNs ps++[n]
 |[]=>rfl
 |q::r=>by
  have:=outNs_out (l:=l) (n:=n) r
  cases q with
  |out l' n'=>show n'::outNs (r++[.out l n])=n'::outNs r++[n];rw [this];rfl
  |before k l=>exact this
  |exit l=>exact this
inductive SpPenBP (K:PySem.W.Frag) (vs:List V) (H:Hp) (Q:VK):Prop
 |mk (a:Addr) (ns:List Int) (k:Int) (h1:vs=[.ref a,.int k]) (h2:SqL K H a (ns.map V.int)) (h3:ns.length≤63) (h4:0≤k) (h5:k<1000) (h6:∀ (p:Addr) (a' b' c':Int),H p=none→Q (.ref p) (upd H p (.lst [.int a',.int b',.int c']))):SpPenBP K vs H Q
def spPenB (K:PySem.W.Frag):Sp:=fun vs H Q _=>SpPenBP K vs H Q
inductive SpStandBP (C:Addr) (vs:List V) (H:Hp) (Q:VK):Prop
 |mk (p:Addr) (v:V) (wide:Int) (ws:List (Int×Int)) (L:PlL) (st:PlS) (h1:vs=[.ref p]) (h2:NetOk H v wide ws) (h3:PlayAt C H p v L st) (h4:st.tal.length=wide.toNat) (h5:absS st.tal≤400) (h6:∀ (a:Addr) (ns:List Int) (H':Hp),H a=none→Same H H'→ns.Perm (standG wide 0 st.tal)→ns.Pairwise (·≤·)→H' a=some (.lst (ns.map V.int))→Q (.ref a) H'):SpStandBP C vs H Q
def spStandB (C:Addr):Sp:=fun vs H Q _=>SpStandBP C vs H Q
inductive SpOwedBP (C:Addr) (vs:List V) (H:Hp) (Q:VK):Prop
 |mk (p:Addr) (v:V) (wide:Int) (ws:List (Int×Int)) (L:PlL) (st:PlS) (h1:vs=[.ref p]) (h2:NetOk H v wide ws) (h3:PlayAt C H p v L st) (h4:st.tal.length=wide.toNat) (h5:absS st.tal≤400) (h6:∀ (a:Addr) (ns:List Int) (H':Hp),H a=none→Same H H'→ns.Perm (owedG wide 0 st.tal)→ns.Pairwise (·≤·)→H' a=some (.lst (ns.map V.int))→Q (.ref a) H'):SpOwedBP C vs H Q
def spOwedB (C:Addr):Sp:=fun vs H Q _=>SpOwedBP C vs H Q
inductive SpLackBP (C:Addr) (vs:List V) (H:Hp) (Q:VK):Prop
 |mk (p:Addr) (v:V) (wide:Int) (ws:List (Int×Int)) (L:PlL) (st:PlS) (h1:vs=[.ref p]) (h2:NetOk H v wide ws) (h3:PlayAt C H p v L st) (h4:st.tal.length=wide.toNat) (h5:absS st.tal≤400) (h6:∀ (a:Addr) (g:Int) (H':Hp),H a=none→Same H H'→IsGr wide st.tal g→H' a=some (.lst ((lackM wide st.tal g.toNat).map V.int))→Q (.ref a) H'):SpLackBP C vs H Q
def spLackB (C:Addr):Sp:=fun vs H Q _=>SpLackBP C vs H Q
inductive SpBuilt91P (vs:List V) (H:Hp) (Q:VK):Prop
 |mk (p:Addr) (h1:vs=[.ref p]) (h2:Pen H p) (h3:∀ (v:V) (wide:Int) (ws:List (Int×Int)) (H':Hp),Kp p H H'→Pen H' p→Net H' v wide ws→1≤wide→wide≤8→WOk wide ws→ws.length≤41→Lvl wide ws→Q v H'):SpBuilt91P vs H Q
def spBuilt91:Sp:=fun vs H Q _=>SpBuilt91P vs H Q
inductive SpInBetP (C:Addr) (vs:List V) (H:Hp) (Q:VK):Prop
 |mk (p:Addr) (v:V) (wide:Int) (ws:List (Int×Int)) (L:PlL) (st:PlS) (cs:List Int) (h1:vs=[.ref p,.int (st.pla.length:Int)]) (h2:NetOk H v wide ws) (h3:PlayAt C H p v L st) (h4:Go true wide ws st cs) (h5:Lvl wide ws) (h6:∀ H',Same H H'→Q (.bl true) H'):SpInBetP C vs H Q
def spInBet (C:Addr):Sp:=fun vs H Q _=>SpInBetP C vs H Q
inductive SpApartP (C:Addr) (vs:List V) (H:Hp) (Q:VK):Prop
 |mk (p:Addr) (v:V) (wide:Int) (ws:List (Int×Int)) (L:PlL) (st:PlS) (cs:List Int) (h1:vs=[.ref p,.int (st.pla.length:Int)]) (h2:NetOk H v wide ws) (h3:PlayAt C H p v L st) (h4:Go true wide ws st cs) (h5:Lvl wide ws) (h6:∀ pl∈st.pla,isOut pl=true) (h7:∀ H',Same H H'→Q (.bl true) H'):SpApartP C vs H Q
def spApart (C:Addr):Sp:=fun vs H Q _=>SpApartP C vs H Q
inductive SpSteps91P (C:Addr) (vs:List V) (H:Hp) (Q:VK):Prop
 |mk (b:Bool) (pn p:Addr) (v:V) (wide:Int) (ws:List (Int×Int)) (L:PlL) (st:PlS) (cs:List Int) (h1:vs=[.ref pn,.ref p]) (h2:NetOk H v wide ws) (h3:PlayAt C H p v L st) (h4:Go b wide ws st cs) (h5:Pen H pn) (h6:pn∉L.own p) (h7:∀ (st':PlS) (H':Hp),PlayAt C H' p v L st'→Go b wide ws st' cs→st'.pla.length=st.pla.length→Pen H' pn→KpS (pn::L.own p) H H'→KT H H'→Q .non H'):SpSteps91P C vs H Q
def spSteps91 (C:Addr):Sp:=fun vs H Q _=>SpSteps91P C vs H Q
inductive SpAtR91P (C:Addr) (vs:List V) (H:Hp) (Q:VK):Prop
 |mk (b:Bool) (p:Addr) (v:V) (wide:Int) (ws:List (Int×Int)) (L:PlL) (st:PlS) (en:Addr) (cs:List Int) (h1:vs=[.ref p,v,.ref en]) (h2:NetOk H v wide ws) (h3:PlayAt C H p v L st) (h4:Go b wide ws st cs) (h5:Lvl wide ws) (h6:∀ pl∈st.pla,isOut pl=true) (h7:H en=some (.lst (cs.map V.int))) (h8:∀ H',Same H H'→Q (.bl true) H'):SpAtR91P C vs H Q
def spAtR91 (C:Addr):Sp:=fun vs H Q _=>SpAtR91P C vs H Q
end
section
structure W91 (b:Bool) (C:Addr) (G G1 H:Hp) (x:Addr) (v:V) (wide:Int) (ws:List (Int×Int)) (L:PlL) (st:PlS) (en:Addr) (cs:List Int) (pn:Addr):Prop where
 sm:Same G H
 kt:KT G1 H
 pl:PlayAt C H x v L st
 go:Go b wide ws st cs
 he:H en=some (.lst (cs.map V.int))
 pe:Pen H pn
 n1:pn∉L.own x
 n2:en≠pn
 n3:en∉L.own x
 f1:∀ a∈L.own x,G a=none
 f2:G en=none
 f3:G pn=none
section
variable {b:Bool} {C:Addr} {G G1 H H':Hp} {x:Addr} {v:V} {wide:Int} {ws:List (Int×Int)} {L:PlL} {st st':PlS} {en:Addr} {cs:List Int} {pn p':Addr}
theorem W91.same (W:W91 b C G G1 H x v wide ws L st en cs pn) (s:Same H H'):W91 b C G G1 H' x v wide ws L st en cs pn :=
 ⟨Same.trans W.sm s,KT.same s W.kt,W.pl.same s,W.go,s _ _ W.he,let ⟨_,_,_,h⟩:=W.pe;⟨_,_,_,s _ _ h⟩,W.n1,W.n2,W.n3,W.f1,W.f2,W.f3⟩
theorem W91.take (W:W91 b C G G1 H x v wide ws L st en cs pn) (i j k:Int):W91 b C G G1 (upd H pn (.lst [.int i,.int j,.int k])) x v wide ws L st en cs pn:=by
 obtain ⟨_,_,_,hp⟩:=W.pe
 exact ⟨Same.put W.f3 W.sm,KT.lst hp W.kt,W.pl.keep (KpS.upd (S:=[pn]) (by simp)) (KT.lst hp (KT.refl _)) (one_dj W.n1),W.go,(upd_ne W.n2).trans W.he,⟨_,_,_,upd_same⟩,W.n1,W.n2,W.n3,W.f1,W.f2,W.f3⟩
theorem W91.pen (W:W91 b C G G1 H x v wide ws L st en cs pn) (f:H p'=none) (i j k:Int):W91 b C G G1 (upd H p' (.lst [.int i,.int j,.int k])) x v wide ws L st en cs p':=by
 have s:Same H (upd H p' (.lst [.int i,.int j,.int k])):=same_new f _
 have T:=W.same s
 exact ⟨T.sm,T.kt,T.pl,T.go,T.he,⟨_,_,_,upd_same⟩,fun z=>W.pl.live _ z f,ne_of_none W.he f,T.n3,T.f1,T.f2,W.sm.free f⟩
theorem W91.keep (W:W91 b C G G1 H x v wide ws L st en cs pn) (k:KpS (pn::L.own x) H H') (kt:KT H H') (pl':PlayAt C H' x v L st') (go':Go b wide ws st' cs) (pe':Pen H' pn):W91 b C G G1 H' x v wide ws L st' en cs pn:=by
 refine ⟨k.old W.sm fun a ha=>?_,KT.trans W.kt kt,pl',go',k _ _ W.he fun z=>?_,pe',W.n1,W.n2,W.n3,W.f1,W.f2,W.f3⟩
 ·rcases List.mem_cons.mp ha with z|z
  ·rw [z];exact W.f3
  ·exact W.f1 a z
 ·rcases List.mem_cons.mp z with z|z
  ·exact W.n2 z
  ·exact W.n3 z
theorem W91.kpl (W:W91 b C G G1 H x v wide ws L st en cs pn) (k:KpL L H H') (pl':PlayAt C H' x v L st') (go':Go b wide ws st' cs):W91 b C G G1 H' x v wide ws L st' en cs pn:=by
 obtain ⟨_,_,_,hp⟩:=W.pe
 have ks:KpS (L.own x) H H':=k.own
 exact W.keep (ks.mono fun a h=>by simp [h]) (KpL.kt W.pl k) pl' go' ⟨_,_,_,ks _ _ hp W.n1⟩
theorem W91.back (W:W91 b C G G1 H x v wide ws L st en cs pn):W91 false C G G1 H x v wide ws L st en cs pn:=⟨W.sm,W.kt,W.pl,W.go.back,W.he,W.pe,W.n1,W.n2,W.n3,W.f1,W.f2,W.f3⟩
theorem W91.rest {is:List Int} (ok:WOk wide ws) (W:W91 b C G G1 H x v wide ws L st en cs pn) (r:Rest wide ws is st st') (pl':PlayAt C H' x v L st') (k:KpL L H H'):W91 b C G G1 H' x v wide ws L st' en cs pn:=W.kpl k pl' (W.go.rest ok r)
theorem W91.enter {l c:Int} {ys:List V} (ok:WOk wide ws) (W:W91 b C G G1 H x v wide ws L st en cs pn) (l0:0≤l) (l1:l<wide) (hc:c=1∨c=-1) (hb:b=true→c=1) (ml:st.pla.length<400) (pl':PlayAt C H' x v L (enterM ws st l c)) (k:KpL L H H') (ey:ys=(cs.set l.toNat (cs.getD l.toNat 0+c)).map V.int) :
  W91 b C G G1 (upd H' en (.lst ys)) x v wide ws L (enterM ws st l c) en (cs.set l.toNat (cs.getD l.toNat 0+c)) pn:=by
 subst ey
 obtain ⟨_,_,_,hp⟩:=W.pe
 have ks:KpS (L.own x) H H':=k.own
 have he':=ks _ _ W.he W.n3
 have kt:=KpL.kt W.pl k
 refine ⟨Same.put W.f2 (ks.old W.sm W.f1),KT.lst he' (KT.trans W.kt kt),pl'.keep (KpS.upd (S:=[en]) (by simp)) (KT.lst he' (KT.refl _)) (one_dj W.n3),W.go.enter ok l0 l1 hc hb ml,upd_same,⟨_,_,_,(upd_ne (Ne.symm W.n2)).trans (ks _ _ hp W.n1)⟩,W.n1,W.n2,W.n3,W.f1,W.f2,W.f3⟩
end
end
end Ep
namespace L2
open PySem PySem.Spec PyProof.Rows
section
variable {X:Cx}
def rCatA:R2:=fun x y H Q=>∃ a b xs ys,x=.ref a∧y=.ref b∧H a=some (.tup xs)∧H b=some (.tup ys)∧xs.length+ys.length≤sizeLine∧∀ c H',Same H H'→H' c=some (.tup (xs++ys))→Q (.ref c) H'
theorem op_catA:OpR X (binaryOp .Add) rCatA:=by
 intro pins s σ H x y v u Q I rx ry h
 obtain ⟨a,b,xs,ys,rfl,rfl,ha,hb,hz,q⟩:=h
 by_cases hx:xs=[]
 ·cases rx
  cases ry
  subst hx
  obtain ⟨its,r1,p1,_⟩:=I.tuple (SqT.of (K:=X.K) ha)
  obtain ⟨its2,r2,p2,_⟩:=I.tuple (SqT.of (K:=X.K) hb)
  cases r1
  obtain ⟨⟨c1,d1,k1,l1⟩,ho,hc,n,hd⟩:=id p1
  obtain ⟨⟨c2,d2,k2,l2⟩,ho2,hc2,n2,hd2⟩:=id p2
  cases hc;cases hd;cases hc2;cases hd2
  exact concat_meets ⟨_,ho,rfl⟩ ⟨_,ho2,rfl⟩ noFill_tuple_add seq_tuple_add PySem.F.slot_tuple_add PySem.F.entry_tuple_add (PySem.F.args_tuple_add_2 _ _) (tuple_addW0 a b #[] its2.toArray n n2 d1 d2 l1 l2 rfl) ⟨ho,ho2,⟨.ref b,H,I,rfl,q b H (Same.refl _) hb⟩⟩
 ·refine op_catT pins s σ H _ _ v u Q I rx ry ⟨a,b,xs,ys,rfl,rfl,SqT.of ha,SqT.of hb,hx,hz,fun e=>?_,fun _ p hp=>?_⟩
  ·subst e
   exact q a H (Same.refl _) (by rw [List.append_nil];exact ha)
  ·exact q p _ (same_new hp _) upd_same
end
end L2
namespace Ep
open PySem L2
section
theorem nwz {H : Hp} {a : Addr} (f : H a = none) (o : HO) : ∃ H', H' = upd H a o ∧ Same H H' ∧ H' a = some o := ⟨_, rfl, same_new f o, upd_same⟩
def top (i:Nat):Stmt:=PySem.Challenge.pw_evenpass_k91_whole_numbers_of_nets_that.main.body.getD i (.Pass ⟨0,0,0,0⟩)
abbrev s_is_whole:Stmt:=top 9
abbrev s_is_lane:Stmt:=top 10
abbrev s_is_wicket:Stmt:=top 11
abbrev s_are_wickets:Stmt:=top 12
abbrev s_makes_net:Stmt:=top 13
abbrev s_net_of:Stmt:=top 14
abbrev s_place_on:Stmt:=top 16
abbrev s_numbers_of:Stmt:=top 17
abbrev s_Play_init:Stmt:=inClass (top 18) 0
abbrev s_Play_enter:Stmt:=inClass (top 18) 1
abbrev s_Play_enter_back:Stmt:=inClass (top 18) 2
abbrev s_Play_come_in:Stmt:=inClass (top 18) 3
abbrev s_Play_where:Stmt:=inClass (top 18) 4
abbrev s_Play_step:Stmt:=inClass (top 18) 5
abbrev s_Play_leave:Stmt:=inClass (top 18) 6
abbrev s_Play_pass_wicket:Stmt:=inClass (top 18) 7
abbrev s_Play_turn:Stmt:=inClass (top 18) 8
abbrev s_Play_inside:Stmt:=inClass (top 18) 9
abbrev s_Play_shown:Stmt:=inClass (top 18) 10
abbrev s_Play_counts:Stmt:=inClass (top 18) 11
abbrev s_Play_standing:Stmt:=inClass (top 18) 12
abbrev s_Play_owed:Stmt:=inClass (top 18) 13
abbrev s_Play_lacking:Stmt:=inClass (top 18) 14
abbrev s_Play_rest:Stmt:=inClass (top 18) 15
abbrev s_Play_twin:Stmt:=inClass (top 18) 16
abbrev s_refuse_unless_halved:Stmt:=top 21
abbrev s_in_both_halves:Stmt:=top 22
abbrev s_across:Stmt:=top 23
abbrev s_by_falling_gaps:Stmt:=top 24
abbrev s_folded:Stmt:=top 25
abbrev s_block:Stmt:=top 26
abbrev s_rounds:Stmt:=top 27
abbrev s_let_through:Stmt:=top 29
abbrev s_exits:Stmt:=top 30
abbrev s_falls:Stmt:=top 32
abbrev s_is_level:Stmt:=top 34
abbrev s_pen:Stmt:=top 36
abbrev s_take:Stmt:=top 37
abbrev s_wickets:Stmt:=top 38
abbrev s_built_net:Stmt:=top 39
abbrev s_in_between:Stmt:=top 40
abbrev s_numbers_apart:Stmt:=top 41
abbrev s_steps:Stmt:=top 42
abbrev s_at_rest:Stmt:=top 43
abbrev s_law:Stmt:=top 44
end
end Ep
namespace Ep
open PySem L2 PySem.SeqAt
section
local macro_rules|`(tactic| walk_at "cm")=>`(tactic| first|exact .inr ⟨by decide,by decide⟩|exact .inl ⟨by decide,by decide⟩|exact .inl ⟨by omega,by omega⟩|exact .inr ⟨by omega,by omega⟩)
local macro_rules|`(tactic| walk_at "side")=>`(tactic| first
 |(show (0:Int)<_;first|decide|omega)
 |(show CMul _ _;walk_at "cm")
 |(show List.length _≤sizeLine;exact lenLine (by simp only [List.length_cons,List.length_nil]<;>omega))
 |(show tyV _ _ _ _;exact .inl ⟨rfl,_,SqL.of (by walk_at "hh")⟩)
 |(show CPow _ _;exact ⟨by decide,by decide,by decide⟩)
 |(show _∧_;exact ⟨by first|decide|omega,by first|decide|omega⟩)
 |omega)
local macro_rules|`(tactic| walk_at "rd1")=>`(tactic| first
 |refine ⟨_,rfl,?_⟩
 |refine ⟨_,_,rfl,rfl,?_⟩
 |refine ⟨_,_,_,_,rfl,rfl,SqL.of (by assumption),by first|rfl|assumption,?_⟩
 |refine ⟨_,_,_,_,rfl,rfl,SqT.of (by assumption),by first|rfl|assumption,?_⟩
 |refine ⟨_,_,rfl,rfl,by walk_at "side", ?_⟩
 |refine REqP.mk rfl ?_
 |refine RNeP.mk rfl ?_
 |refine NewOb.mk (by walk_at "side") ?_
 |refine And.intro rfl ?_
 |refine And.intro (by walk_at "side") ?_
 |refine Or.inr ⟨_,rfl,?_⟩)
local macro_rules|`(tactic| walk_at "rd")=>`(tactic| repeat walk_at "rd1")
local macro_rules|`(tactic| walk_at "ne")=>`(tactic| first
 |assumption
 |exact Ne.symm (by assumption)
 |exact ne1 (by assumption) (by walk_at "hh")
 |exact ne2 (by assumption) (by walk_at "hh")
 |exact ne3 (by assumption) (by walk_at "hh")
 |exact ne4 (by assumption) (by walk_at "hh"))
local macro_rules|`(tactic| walk_at "hh")=>`(tactic| first
 |assumption
 |exact upd_same
 |exact (upd_ne (by walk_at "ne")).trans (by walk_at "hh")
 |exact (by assumption:Same _ _) _ _ (by walk_at "hh")
 |exact (by assumption:Kp _ _ _) _ _ (by walk_at "hh") (by walk_at "ne"))
local macro_rules|`(tactic| walk_at "fr")=>`(tactic| first
 |assumption
 |exact free2 (by assumption) (by walk_at "sm"))
local macro_rules|`(tactic| walk_at "sm")=>`(tactic| first
 |assumption
 |exact Same.refl _
 |exact Same.put (by walk_at "fr") (by walk_at "sm")
 |exact trans2 (by assumption) (by walk_at "sm"))
local macro_rules|`(tactic| walk_at "kt")=>`(tactic| first
 |exact KT.refl _
 |assumption
 |exact KT.new (by assumption) (by walk_at "kt")
 |exact KT.lst (by walk_at "hh") (by walk_at "kt")
 |exact KT.same (by assumption) (by walk_at "kt")
 |exact KT.kp (by assumption) (by walk_at "hh") (by walk_at "kt"))
section
variable {P:Program} {w:World} {K:PySem.W.Frag} {mg:Str→Option Value} {base:Heap} {f:Addr} {fd:FuncData}
theorem sc_take:FnScope ["_law_pen_here", "_law_size", "_law_found", "_law_number"] ["_law_pen_here", "_law_size"] (defScope s_take):=⟨rfl,rfl,rfl,by decide +kernel,rfl,by decide +kernel,by decide +kernel⟩
theorem ok_take (F:Here K mg "_law_take" s_take f fd):FnOk P w K mg base CX0 1 f fd ["_law_pen_here", "_law_size"] spTake:=by
 refine F.fn.ok sc_take (fun vs H Q E h=>?_) (fun cdv A outer s H vs Q E hr h=>?_)
 ·obtain ⟨p,a,b,c,n,rfl,_⟩:=h
  rfl
 ·obtain ⟨p,a,b,c,n,rfl,hp,h0,h1,k⟩:=h
  refine ⟨_,(pss_cons (ps_if (pt_cmpR op_gt (pe_ix ix_list (pv 0) pe_int (fun _ _=>rfl)) pe_int (nomark _))
  (pss_cons (ps_set (i:=2) sc_take.nd rfl (by walk_at"r") (pe_op op_mod (pe_ix ix_list (pv 0) pe_int (fun _ _=>rfl)) (pv 1)))
  (pss_cons (ps_asg (pe_op op_fdivB (pe_ix ix_list (pv 0) pe_int (fun _ _=>rfl)) (pv 1)) (pg_sub (pv 0) pe_int set_list))
  (pss_one (ps_ret (pv 2)))))
  pss_nil)
  (pss_cons (ps_asg (pe_op op_add (pe_ix ix_list (pv 0) pe_int (fun _ _=>rfl)) pe_int) (pg_sub (pv 0) pe_int set_list))
  (pss_cons (ps_set (i:=3) sc_take.nd rfl (by walk_at"r") (pe_op op_mod (pe_op op_mul (pe_op op_add (pe_ix ix_list (pv 0) pe_int (fun _ _=>rfl)) (pe_op op_mul pe_int (pe_ix ix_list (pv 0) pe_int (fun _ _=>rfl)))) pe_int) pe_int))
  (pss_cons (ps_set (i:=3) sc_take.nd rfl (by walk_at"r") (pe_op op_mod (pe_op op_add (pe_op op_mul (pv 3) (pv 3)) (pe_op op_mul pe_int (pe_ix ix_list (pv 0) pe_int (fun _ _=>rfl)))) pe_int))
  (pss_cons (ps_set (i:=3) sc_take.nd rfl (by walk_at"r") (pe_op op_mod (pe_op op_mul (pv 3) (pe_op op_add (pe_op op_mod (pv 3) pe_int) (pe_ix ix_list (pv 0) pe_int (fun _ _=>rfl)))) pe_int))
  (pss_one (ps_ret (pe_op op_mod (pe_op op_fdivB (pv 3) pe_int) (pv 1))))))))),?_⟩
  walk_at "rd"
  refine ite2 (fun g=>?_) (fun g=>?_)
  ·walk_at "rd"
   refine ⟨p,_,_,_,rfl,rfl,hp,rfl,?_⟩
   walk_at "rd"
   exact k _ _ _ _ (Int.emod_nonneg _ (by walk_at"q")) (Int.emod_lt_of_pos _ h0)
  ·walk_at "rd"
   refine ⟨p,_,_,_,rfl,rfl,hp,rfl,?_⟩
   have hp2:(upd H p (HO.lst [V.int a,V.int (b+1),V.int c])) p=some (.lst [V.int a,V.int (b+1),V.int c]):=upd_same
   walk_at "rd"
   exact k _ _ _ _ (Int.emod_nonneg _ (by walk_at"q")) (Int.emod_lt_of_pos _ h0)
theorem sc_pen:FnScope ["_law_script", "_law_k", "_law_cell"] ["_law_script", "_law_k"] (defScope s_pen):=⟨rfl,rfl,rfl,by decide +kernel,rfl,by decide +kernel,by decide +kernel⟩
theorem ok_pen (T:Bn mg) (F:Here K mg "_law_pen" s_pen f fd):FnOk P w K mg base CX0 1 f fd ["_law_script", "_law_k"] (spPenB K):=by
 refine F.fn.ok sc_pen (fun vs H Q E h=>?_) (fun cdv A outer s H vs Q E hr h=>?_)
 ·obtain ⟨a,ns,k,rfl,_⟩:=h
  rfl
 ·obtain ⟨a,ns,k,rfl,hS,h63,h0,h1,q⟩:=h
  refine ⟨_,(pss_cons (ps_set (i:=2) sc_pen.nd rfl (by walk_at"r") (pe_op op_add (pe_op op_mul pe_int (pv 1)) pe_int))
  (pss_cons (ps_if (pt_cmpR op_gt (pe_callB call_len_seq rfl T.n_len PySem.boot_len (pa_cons (pv 0) pa_nil)) pe_int (nomark _))
  (pss_cons (ps_set (i:=2) sc_pen.nd rfl (by walk_at"r") (pe_ix ix_list (pv 0) (pe_op op_mod (pv 1) (pe_callB call_len_seq rfl T.n_len PySem.boot_len (pa_cons (pv 0) pa_nil))) (fun _ _=>rfl)))
  (pss_one (ps_if (pt_cmpR op_ge (pv 1) (pe_callB call_len_seq rfl T.n_len PySem.boot_len (pa_cons (pv 0) pa_nil)) (nomark _))
  (pss_one (ps_set (i:=2) sc_pen.nd rfl (by walk_at"r") (pe_op op_add (pe_op op_mod (pv 2) pe_int) (pe_op op_mul pe_int (pv 1)))))
  pss_nil)))
  pss_nil)
  (pss_cons (ps_if (pt_cmpR op_ge (pv 2) (pe_op op_pow pe_int pe_int) (nomark _))
  (pss_one (ps_ret (pe_lst (pa_cons (pe_op op_sub (pv 2) (pe_op op_pow pe_int pe_int)) (pa_cons pe_int (pa_cons (pe_op op_add (pe_op op_mod (pv 2) pe_int) (pv 1)) pa_nil))))))
  pss_nil)
  (pss_one (ps_ret (pe_lst (pa_cons pe_int (pa_cons pe_int (pa_cons (pe_op op_add (pe_op op_mod (pv 2) pe_int) (pe_op op_mul pe_int (pv 1))) pa_nil))))))))),?_⟩
  have hl:(ns.map V.int).length=ns.length:=List.length_map _
  walk_at "rd"
  refine ⟨_,_,rfl,.inl hS,?_⟩
  walk_at "rd"
  refine ite2 (fun g=>?_) (fun g=>?_)
  ·have g':=of_decide_eq_true g
   rw [hl] at g'
   walk_at "rd"
   refine ⟨_,_,rfl,.inl hS,?_⟩
   walk_at "rd"
   refine ⟨a,_,_,_,rfl,rfl,hS,atI_int (Int.emod_nonneg _ (by walk_at"q")) (by rw [hl];exact Int.emod_lt_of_pos _ (by walk_at"q")),?_⟩
   walk_at "rd"
   refine ⟨_,_,rfl,.inl hS,?_⟩
   walk_at "rd"
   refine ite2 (fun g=>?_) (fun g=>?_)
   all_goals
    walk_at "rd"
    refine ite2 (fun g=>?_) (fun g=>?_)
    ·walk_at "rd"
     intro p hp
     exact q p _ _ _ hp
    ·walk_at "rd"
     intro p hp
     exact q p _ _ _ hp
  ·walk_at "rd"
   refine ite2 (fun g=>?_) (fun g=>?_)
   ·walk_at "rd"
    intro p hp
    exact q p _ _ _ hp
   ·walk_at "rd"
    intro p hp
    exact q p _ _ _ hp
theorem sc_wickets:FnScope ["_law_pen_here", "_law_wide", "_law_many", "_law_found", "_law_k", "_law_first"] ["_law_pen_here", "_law_wide", "_law_many"] (defScope s_wickets):=⟨rfl,rfl,rfl,by decide +kernel,rfl,by decide +kernel,by decide +kernel⟩
theorem ok_wickets (T:Bn mg) (F:Here K mg "_law_wickets" s_wickets f fd) (C_law_take:Callee P w K mg base "_law_take" 1 ["_law_pen_here", "_law_size"] spTake) :
  FnOk P w K mg base CX0 2 f fd ["_law_pen_here", "_law_wide", "_law_many"] spWickets:=by
 refine F.fn.ok sc_wickets (fun vs H Q E h=>?_) (fun cdv A outer s H vs Q E hr h=>?_)
 ·obtain ⟨p,wide,many,rfl,_⟩:=h
  rfl
 ·obtain ⟨p,wide,many,rfl,⟨a0,b0,c0,hp0⟩,w1,w8,m0,m41,q⟩:=h
  refine ⟨_,(pss_cons (ps_set (i:=3) sc_wickets.nd rfl (by walk_at"r") (pe_lst pa_nil))
  (pss_cons (ps_for PassesOwn.never rfl  (pi_range1 rfl T.n_range (pa_cons (pe_op op_mul (pv 2) (pe_callTy call_int1 rfl T.n_int boot_intT (pa_cons (pe_cmpR op_gt (pv 1) pe_int (nomark _)) pa_nil))) pa_nil)) (pg_name (i:=4) sc_wickets.nd rfl (by walk_at"r"))
  (pss_cons (ps_set (i:=5) sc_wickets.nd rfl (by walk_at"r") (pe_callC C_law_take (hr.mono (by walk_at"d")) rfl (pa_cons (pv 0) (pa_cons (pv 1) pa_nil))))
  (pss_one (ps_expr (pe_bm PySem.F.plainAttrs_list PySem.F.slot_list_append PySem.F.type_list_append mt_append (pv 3) (pa_cons (pe_tup (pa_cons (pv 5) (pa_cons (pe_op op_mod (pe_op op_add (pe_op op_add (pv 5) pe_int) (pe_callC C_law_take (hr.mono (by walk_at"d")) rfl (pa_cons (pv 0) (pa_cons (pe_op op_sub (pv 1) pe_int) pa_nil)))) (pv 1)) pa_nil))) pa_nil))))))
  (pss_one (ps_ret (pv 3))))),?_⟩
  walk_at "rd"
  intro l hl
  have npl:p≠l:=ne_of_none hp0 hl
  walk_at "rd"
  have hj:∃ j:Nat,many*(if decide (1<wide)=true then (1:Int) else 0)=(j:Int)∧(j:Int)≤many∧(0<j→1<wide):=by
   by_cases hw:1<wide
   ·exact ⟨many.toNat,by rw [if_pos (decide_eq_true hw)];walk_at"q", by walk_at"q", fun _=>hw⟩
   ·exact ⟨0,by rw [if_neg (by simpa using hw)];walk_at"q", by walk_at"q", fun z=>absurd z (by walk_at"q")⟩
  obtain ⟨j,ej,jm,jw⟩:=hj
  show -(2 ^ 62)≤many*(if decide (1<wide)=true then (1:Int) else 0)∧_
  rw [ej]
  refine ⟨by walk_at"q", by walk_at"q", ?_⟩
  refine for_range (n:=(j:Int).toNat) (fun i σ Hc=>∃ (v4 v5:Option V) (ws:List (Int×Int)),σ=[some (.ref p),some (.int wide),some (.int many),some (.ref l),v4,v5]∧Kp p H Hc∧Pen Hc p∧WsL Hc l ws∧WOk wide ws∧ws.length=i)
   ⟨none,none,[],rfl,Kp.put hl (Kp.refl _ _),⟨a0,b0,c0,by rw [upd_ne npl];exact hp0⟩,⟨[],upd_same,.nil⟩,WOk.nil,rfl⟩ ?_ ?_
  ·rintro i σ Hc hlt ⟨v4,v5,ws,rfl,kp,⟨a,b,c,hp⟩,⟨rs,hls,hrs⟩,ok,len⟩
   have hw:1<wide:=jw (by walk_at"q")
   walk_at "rd"
   refine ⟨p,a,b,c,wide,rfl,hp,by walk_at"q", by walk_at"q", fun v a' b' c' v0 vw=>?_⟩
   have hl1:(upd Hc p (HO.lst [V.int a',V.int b',V.int c'])) l=some (.lst rs):=by rw [upd_ne (Ne.symm npl)];exact hls
   walk_at "rd"
   refine ⟨p,a',b',c',wide-1,rfl,upd_same,by walk_at"q", by walk_at"q", fun u a2 b2 c2 u0 uw=>?_⟩
   walk_at "rd"
   intro t ht
   have kp2:Kp p Hc (upd (upd (upd Hc p (HO.lst [V.int a',V.int b',V.int c'])) p (HO.lst [V.int a2,V.int b2,V.int c2])) t (HO.tup [V.int v,V.int ((v+1+u) % wide)])) :=
    Kp.trans (Kp.trans Kp.upd Kp.upd) (Kp.same (same_new ht _))
   have ntl:t≠l:=fun z=>by
    rw [z,upd_ne (Ne.symm npl),upd_ne (Ne.symm npl),hls] at ht
    cases ht
   have ntp:t≠p:=fun z=>by
    rw [z,upd_same] at ht
    cases ht
   refine ⟨l,rs,_,rfl,rfl,kp2 l _ hls (Ne.symm npl),lenLt (by have:=hrs.len;walk_at"q"),?_⟩
   have hv:(v+1+u) % wide≠v∧0≤(v+1+u) % wide∧(v+1+u) % wide<wide:=by
    refine ⟨fun z=>?_,Int.emod_nonneg _ (by walk_at"q"),Int.emod_lt_of_pos _ (by walk_at"q")⟩
    by_cases hh:v+1+u<wide
    ·rw [Int.emod_eq_of_lt (by walk_at"q") hh] at z
     walk_at"q"
    ·have e2:(v+1+u) % wide=v+1+u-wide:=by
      rw [Int.emod_eq_emod_iff_emod_sub_eq_zero.mpr (show (v+1+u-(v+1+u-wide)) % wide=0 by rw [show v+1+u-(v+1+u-wide)=wide by walk_at"q"];exact Int.emod_self)]
      exact Int.emod_eq_of_lt (by walk_at"q") (by walk_at"q")
     rw [e2] at z
     walk_at"q"
   refine ⟨_,_,ws++[(v,(v+1+u) % wide)],rfl,Kp.put hl (Kp.trans kp kp2),?_,?_,ok.app (WOk.one ⟨v0,vw,hv.2.1,hv.2.2,Ne.symm hv.1⟩),by simp [len]⟩
   ·exact ⟨a2,b2,c2,by rw [upd_ne npl,upd_ne (Ne.symm ntp),upd_same]⟩
   ·refine ⟨_,upd_same,?_⟩
    have hr2:=hrs.kp kp2 hp
    refine (hr2.app (.cons ⟨t,rfl,upd_same⟩ .nil)).mono fun b xs e=>?_
    rw [upd_ne (fun z=>?_)]
    ·exact e
    ·subst z
     rw [kp2 _ _ hls (Ne.symm npl)] at e
     cases e
  ·rintro σ Hc ⟨v4,v5,ws,rfl,kp,pn,wl,ok,len⟩
   walk_at "rd"
   exact q l ws Hc hl kp pn wl ok (by walk_at"q")
theorem sc_is_whole:FnScope ["thing"] ["thing"] (defScope s_is_whole):=⟨rfl,rfl,rfl,by decide +kernel,rfl,by decide +kernel,by decide +kernel⟩
theorem ok_is_whole (T:Bn mg) (F:Here K mg "is_whole" s_is_whole f fd):FnOk P w K mg base CX0 1 f fd ["thing"] spWholeG:=by
 refine F.fn.ok sc_is_whole (fun vs H Q E h=>?_) (fun cdv A outer s H vs Q E hr h=>?_)
 ·obtain ⟨x,rfl,_⟩:=h
  rfl
 ·obtain ⟨x,rfl,h⟩:=h
  refine ⟨_,(pss_one (ps_ret (pe_and (pe_callB call_isinst rfl T.n_isinstance boot_isinstance (pa_cons (pv 0) (pa_cons (pe_bltn (v:=V.ty "int") (u:=.type "int") rfl T.n_int (by decide +kernel) rfl) pa_nil))) (pe_one (pe_not (pe_callB call_isinst rfl T.n_isinstance boot_isinstance (pa_cons (pv 0) (pa_cons (pe_bltn (v:=V.ty "bool") (u:=.type "bool") rfl T.n_bool (by decide +kernel) rfl) pa_nil)))))))),?_⟩
  rcases h with ⟨i,rfl,q⟩|⟨o,q⟩
  ·refine ⟨_,rfl,_,_,_,true,rfl,TyOf.int i,rfl,_,rfl,iteTd rfl ?_⟩
   exact ⟨_,rfl,_,_,_,false,rfl,TyOf.int i,rfl,_,rfl,q⟩
  ·cases o with
   |bl b =>
    refine ⟨_,rfl,_,_,_,true,rfl,TyOf.bl b,rfl,_,rfl,iteTd rfl ?_⟩
    exact ⟨_,rfl,_,_,_,true,rfl,TyOf.bl b,rfl,_,rfl,q⟩
   |non=>exact ⟨_,rfl,_,_,_,false,rfl,TyOf.non,rfl,_,rfl,iteFd (by decide) q⟩
   |str z=>exact ⟨_,rfl,_,_,_,false,rfl,TyOf.str z,rfl,_,rfl,iteFd (by decide) q⟩
   |lst h=>exact ⟨_,rfl,_,_,_,false,rfl,TyOf.lst h,rfl,_,rfl,iteFd (by decide) q⟩
   |tup h=>exact ⟨_,rfl,_,_,_,false,rfl,TyOf.tup h,rfl,_,rfl,iteFd (by decide) q⟩
   |dct h=>exact ⟨_,rfl,_,_,_,false,rfl,TyOf.dK h,rfl,_,rfl,iteFd (by decide) q⟩
theorem sc_is_lane:FnScope ["wide", "thing"] ["wide", "thing"] (defScope s_is_lane):=⟨rfl,rfl,rfl,by decide +kernel,rfl,by decide +kernel,by decide +kernel⟩
theorem ok_is_lane (T:Bn mg) (F:Here K mg "is_lane" s_is_lane f fd) (Cis_whole:Callee P w K mg base "is_whole" 1 ["thing"] spIsWhole):FnOk P w K mg base CX0 2 f fd ["wide", "thing"] spIsLane:=by
 refine F.fn.ok sc_is_lane (fun vs H Q E h=>?_) (fun cdv A outer s H vs Q E hr h=>?_)
 ·obtain ⟨wide,i,rfl,_⟩:=h
  rfl
 ·obtain ⟨wide,i,rfl,h0,h1,q⟩:=h
  refine ⟨_,(pss_one (ps_ret (pe_and (pe_callC Cis_whole (hr.mono (by walk_at"d")) rfl (pa_cons (pv 1) pa_nil)) (pe_one (pe_chain op_le op_lt pe_int (pv 1) (pv 0)))))),?_⟩
  refine ⟨_,rfl,i,rfl,_,rfl,iteTd rfl ?_⟩
  refine ⟨_,rfl,_,_,rfl,rfl,_,rfl,iteTd (decide_eq_true h0) ?_⟩
  refine ⟨_,rfl,_,_,rfl,rfl,?_⟩
  have z:Q (.bl (decide (i<wide))) H:=by
   rw [decide_eq_true h1]
   exact q
  exact z
theorem sc_is_wicket:FnScope ["wide", "thing"] ["wide", "thing"] (defScope s_is_wicket):=⟨rfl,rfl,rfl,by decide +kernel,rfl,by decide +kernel,by decide +kernel⟩
theorem ok_is_wicket (T:Bn mg) (F:Here K mg "is_wicket" s_is_wicket f fd) (Cis_lane:Callee P w K mg base "is_lane" 2 ["wide", "thing"] spIsLane):FnOk P w K mg base CX0 3 f fd ["wide", "thing"] spIsWicket:=by
 refine F.fn.ok sc_is_wicket (fun vs H Q E h=>?_) (fun cdv A outer s H vs Q E hr h=>?_)
 ·obtain ⟨wide,t,w0,rfl,_⟩:=h
  rfl
 ·obtain ⟨wide,t,w0,rfl,ht,⟨o1,o2,o3,o4,o5⟩,q⟩:=h
  refine ⟨_,(pss_cons (ps_if (PW.pt (pw_or (pt_not (pt_val (pe_callB call_isinst rfl T.n_isinstance boot_isinstance (pa_cons (pv 1) (pa_cons (pe_bltn (v:=V.ty "tuple") (u:=.type "tuple") rfl T.n_tuple (by decide +kernel) rfl) pa_nil))))) (pw_or1 (pt_cmpR op_ne (pe_callB call_len_seq rfl T.n_len PySem.boot_len (pa_cons (pv 1) pa_nil)) pe_int (nomark _)))))
  (pss_one (ps_ret pe_bl))
  pss_nil)
  (pss_one (ps_ret (pe_and (pe_callC Cis_lane (hr.mono (by walk_at"d")) rfl (pa_cons (pv 0) (pa_cons (pe_ix ix_tup (pv 1) pe_int (fun _ _=>rfl)) pa_nil))) (pe_and (pe_callC Cis_lane (hr.mono (by walk_at"d")) rfl (pa_cons (pv 0) (pa_cons (pe_ix ix_tup (pv 1) pe_int (fun _ _=>rfl)) pa_nil))) (pe_one (pe_cmpR op_ne (pe_ix ix_tup (pv 1) pe_int (fun _ _=>rfl)) (pe_ix ix_tup (pv 1) pe_int (fun _ _=>rfl)) (nomark _)))))))),?_⟩
  refine ⟨_,rfl,_,_,_,true,rfl,TyOf.tup ht,rfl,?_⟩
  refine ⟨_,rfl,iteFd (by decide) ?_⟩
  refine ⟨_,rfl,t,_,rfl,.inr (SqT.of ht),rfl,_,rfl,iteFd (by simp) ?_⟩
  refine ⟨_,rfl,_,rfl,t,_,_,_,rfl,rfl,SqT.of ht,rfl,wide,w0.1,rfl,o1,o2,_,rfl,iteTd rfl ?_⟩
  refine ⟨_,rfl,_,rfl,t,_,_,_,rfl,rfl,SqT.of ht,rfl,wide,w0.2,rfl,o3,o4,_,rfl,iteTd rfl ?_⟩
  refine ⟨_,rfl,t,_,_,_,rfl,rfl,SqT.of ht,rfl,_,rfl,t,_,_,_,rfl,rfl,SqT.of ht,rfl,rfl,?_⟩
  have z:Q (.bl (!decide (V.int w0.1=V.int w0.2))) H:=by
   rw [decide_eq_false (fun e=>o5 (by injection e))]
   exact q
  exact z
theorem sc_are_wickets:FnScope ["wide", "things"] ["wide", "things"] (defScope s_are_wickets):=⟨rfl,rfl,rfl,by decide +kernel,rfl,by decide +kernel,by decide +kernel⟩
theorem ok_are_wickets (T:Bn mg) (F:Here K mg "are_wickets" s_are_wickets f fd) (GMOST_WICKETS:∃ t,mg "MOST_WICKETS" = some (.int 40 t)) (Cis_wicket:Callee P w K mg base "is_wicket" 3 ["wide", "thing"] spIsWicket):FnOk P w K mg base CX0 4 f fd ["wide", "things"] spAreWG:=by
 refine F.fn.ok sc_are_wickets (fun vs H Q E h=>?_) (fun cdv A outer s H vs Q E hr h=>?_)
 ·obtain ⟨wide,l,ws,rfl,_⟩:=h
  rfl
 ·obtain ⟨wide,l,ws,rfl,⟨rs,hl,hrs⟩,ok,len,q⟩:=h
  have lrs:=hrs.len
  refine ⟨_,(pss_one (ps_ret (pe_and (pe_cmpR op_le (pe_callB call_len_seq rfl T.n_len PySem.boot_len (pa_cons (pv 1) pa_nil)) (pe_gint rfl GMOST_WICKETS) (nomark _)) (pe_one (pe_callB (call_allB rfl) rfl T.n_all boot_all (pa_cons (pe_comp ["thing"] [("wide", 0)] rfl (pi_or (pi_list (pv 1)) (pi_tup (pv 1))) (fun _ _ _ _ _ _=>by exact (pg_name (i:=0) (show List.Nodup (["thing", "wide"]:List Str) by decide +kernel) rfl (by walk_at"r"))) (fun _ _ _ _ _ _=>by exact pts_nil) (fun _ _ _ _ _ _=>by exact (pe_callC Cis_wicket (hr.mono (by walk_at"d")) rfl (pa_cons (pv 1) (pa_cons (pv 0) pa_nil))))) pa_nil)))))),?_⟩
  refine ⟨_,rfl,l,_,rfl,(hl.elim (fun h=>.inl (SqL.of h)) fun h=>.inr (SqT.of h)),_,_,rfl,rfl,_,rfl,iteTd (decide_eq_true (by walk_at"q")) ?_⟩
  rcases hl with hl|hl
  ·refine .inl ⟨_,rfl,l,rfl,⟨_,SqL.of hl⟩,fun lc fc=>?_⟩
   refine comp_list (xs:=rs) (fun i ys Hc=>Same H Hc∧Hc lc=some (.lst ys)∧ys=(List.replicate i true).map V.bl) ⟨Same.put fc (Same.refl H),upd_same,rfl⟩ (lenLine (by walk_at"q")) (fun i ys Hc hi ⟨sc,e1,r1⟩=>⟨SqL.of (sc _ _ hl),e1,by rw [r1];simp⟩) ?_ ?_
   ·rintro i x ys Hc hx ⟨sc,e1,r1⟩
    obtain ⟨w0,t0,hw0,rfl,ht0⟩:=hrs.get hx
    refine ⟨⟨.inl rfl,.inr rfl,trivial⟩,tru_if ?_⟩
    refine ⟨_,rfl,_,rfl,wide,t0,w0,rfl,sc _ _ ht0,ok w0 (List.mem_of_getElem? hw0),e1,Same.put fc sc,upd_same,?_⟩
    rw [r1,List.replicate_succ',List.map_append]
    rfl
   ·rintro ys Hc ⟨sc,e1,rfl⟩
    refine ⟨lc,_,rfl,SqL.of e1,?_⟩
    rw [all_true]
    exact q Hc sc
  ·refine .inr ⟨_,rfl,l,rfl,⟨_,SqT.of hl⟩,fun lc fc=>?_⟩
   refine comp_tup (xs:=rs) (fun i ys Hc=>Same H Hc∧Hc lc=some (.lst ys)∧ys=(List.replicate i true).map V.bl) ⟨Same.put fc (Same.refl H),upd_same,rfl⟩ (lenLine (by walk_at"q")) (fun i ys Hc hi ⟨sc,e1,r1⟩=>⟨SqT.of (sc _ _ hl),e1,by rw [r1];simp⟩) ?_ ?_
   ·rintro i x ys Hc hx ⟨sc,e1,r1⟩
    obtain ⟨w0,t0,hw0,rfl,ht0⟩:=hrs.get hx
    refine ⟨⟨.inl rfl,.inr rfl,trivial⟩,tru_if ?_⟩
    refine ⟨_,rfl,_,rfl,wide,t0,w0,rfl,sc _ _ ht0,ok w0 (List.mem_of_getElem? hw0),e1,Same.put fc sc,upd_same,?_⟩
    rw [r1,List.replicate_succ',List.map_append]
    rfl
   ·rintro ys Hc ⟨sc,e1,rfl⟩
    refine ⟨lc,_,rfl,SqL.of e1,?_⟩
    rw [all_true]
    exact q Hc sc
theorem sc_makes_net:FnScope ["wide", "wickets"] ["wide", "wickets"] (defScope s_makes_net):=⟨rfl,rfl,rfl,by decide +kernel,rfl,by decide +kernel,by decide +kernel⟩
theorem ok_makes_net (T:Bn mg) (F:Here K mg "makes_net" s_makes_net f fd) (GMOST_LANES:∃ t,mg "MOST_LANES" = some (.int 8 t)) (Cis_whole:Callee P w K mg base "is_whole" 1 ["thing"] spIsWhole) (Care_wickets:Callee P w K mg base "are_wickets" 4 ["wide", "things"] spAreWG):FnOk P w K mg base CX0 5 f fd ["wide", "wickets"] spMakesG:=by
 refine F.fn.ok sc_makes_net (fun vs H Q E h=>?_) (fun cdv A outer s H vs Q E hr h=>?_)
 ·obtain ⟨wide,l,ws,rfl,_⟩:=h
  rfl
 ·obtain ⟨wide,l,ws,rfl,⟨rs,hl,hrs⟩,w1,w8,ok,len,q⟩:=h
  refine ⟨_,(pss_cons (ps_if (PW.pt (pw_or (pt_not (pt_val (pe_callC Cis_whole (hr.mono (by walk_at"d")) rfl (pa_cons (pv 0) pa_nil)))) (pw_or1 (pt_not (pt_chain op_le op_le pe_int (pv 0) (pe_gint rfl GMOST_LANES))))))
  (pss_one (ps_ret pe_bl))
  pss_nil)
  (pss_one (ps_ret (pe_and (pe_callB call_isST rfl T.n_isinstance boot_isinstance (pa_cons (pv 1) (pa_cons (pe_tup (pa_cons (pe_bltn (v:=V.ty "list") (u:=.type "list") rfl T.n_list (by decide +kernel) rfl) (pa_cons (pe_bltn (v:=V.ty "tuple") (u:=.type "tuple") rfl T.n_tuple (by decide +kernel) rfl) pa_nil))) pa_nil))) (pe_one (pe_callC Care_wickets (hr.mono (by walk_at"d")) rfl (pa_cons (pv 0) (pa_cons (pv 1) pa_nil)))))))),?_⟩
  refine ⟨_,rfl,wide,rfl,?_⟩
  refine ⟨_,rfl,iteFd (by decide) ?_⟩
  refine ⟨_,rfl,_,_,rfl,rfl,_,rfl,iteTd (decide_eq_true w1) ?_⟩
  refine ⟨_,_,rfl,rfl,_,rfl,iteFd (by simp;walk_at"q") ?_⟩
  refine ⟨_,rfl,lenLine (by show 2≤100000;decide),fun tp ftp=>?_⟩
  obtain ⟨H1,e_,s1,x1⟩:=nwz ftp (HO.tup [V.ty "list", V.ty "tuple"]);rw [←e_];clear e_
  refine ⟨l,tp,rs,_,_,true,rfl,hl.elim (fun h=>.inl ⟨s1 _ _ h,rfl⟩) (fun h=>.inr ⟨s1 _ _ h,rfl⟩),x1,rfl,_,rfl,iteTd rfl ?_⟩
  exact ⟨_,rfl,_,rfl,wide,l,ws,rfl,⟨rs,hl.imp (s1 _ _) (s1 _ _),hrs.same s1⟩,ok,len,fun H2 s2=>q H2 (Same.trans s1 s2)⟩
theorem sc_net_of:FnScope ["wide", "wickets"] ["wide", "wickets"] (defScope s_net_of):=⟨rfl,rfl,rfl,by decide +kernel,rfl,by decide +kernel,by decide +kernel⟩
theorem ok_net_of {an:Addr} (T:Bn mg) (F:Here K mg "net_of" s_net_of f fd) (ER:NoNetT K mg an) (Cmakes_netS:Callee P w K mg base "makes_net" 5 ["wide", "wickets"] spMakesG):FnOk P w K mg base (CX1 P w) 6 f fd ["wide", "wickets"] spNetN:=by
 have Cmakes_net:=Cmakes_netS
 refine F.fn.okE sc_net_of (fun vs H Q E h=>?_) (fun cdv A outer s H vs Q E hr h=>?_)
 ·obtain ⟨wide,l,ws,rfl,_⟩:=h
  rfl
 ·obtain ⟨wide,l,ws,rfl,⟨rs,hl,hrs⟩,w1,w8,ok,len,q⟩:=h
  have lrs:=hrs.len
  refine ⟨_,(pss_cons (ps_if (pt_not (pt_val (pe_callC Cmakes_net (hr.mono (by walk_at"d")) rfl (pa_cons (pv 0) (pa_cons (pv 1) pa_nil)))))
  (pss_one (ps_raise ER.q_NoNet rfl ER.at_NoNet (pa_cons pe_str pa_nil)))
  pss_nil)
  (pss_one (ps_ret (pe_tup (pa_cons (pv 0) (pa_cons (pe_callTy call_tuple_of rfl T.n_tuple boot_tupleT (pa_cons (pe_comp ["wicket"] [] rfl (pi_or (pi_list (pv 1)) (pi_tup (pv 1))) (fun _ _ _ _ _ _=>by exact (pg_name (i:=0) (show List.Nodup (["wicket"]:List Str) by decide +kernel) rfl (by walk_at"r"))) (fun _ _ _ _ _ _=>by exact pts_nil) (fun _ _ _ _ _ _=>by exact (pe_tup (pa_cons (pe_ix (ix_tupK K rfl) (pv 0) pe_int (fun _ _=>rfl)) (pa_cons (pe_ix (ix_tupK K rfl) (pv 0) pe_int (fun _ _=>rfl)) pa_nil))))) pa_nil)) pa_nil)))))),?_⟩
  refine ⟨_,rfl,_,rfl,wide,l,ws,rfl,⟨rs,hl,hrs⟩,w1,w8,ok,len,fun H1 s1=>?_⟩
  refine ⟨_,rfl,?_⟩
  refine iteFd (by decide) ?_
  have step:∀ (lc:Addr) (i:Nat) (x:V) (ys:List V) (Hc:Hp),H1 lc=none→rs[i]?=some x→Same H1 Hc→Hc lc=some (.lst ys)→ys.length≤i→Refs Hc ys (ws.take i)→∃ t0 a0 b0,x=.ref t0∧Hc t0=some (.tup [.int a0,.int b0])∧∀ u,Hc u=none→Same Hc (upd Hc u (.tup [.int a0,.int b0]))∧(upd Hc u (.tup [.int a0,.int b0])) lc=some (.lst ys)∧Same H1 (upd (upd Hc u (.tup [.int a0,.int b0])) lc (.lst (ys++[.ref u])))∧Refs (upd (upd Hc u (.tup [.int a0,.int b0])) lc (.lst (ys++[.ref u]))) (ys++[.ref u]) (ws.take (i+1)):=fun lc i x ys Hc fc hx sc e1 l1 r1=>by
   obtain ⟨w0,t0,hw0,rfl,ht0⟩:=hrs.get hx
   refine ⟨t0,w0.1,w0.2,rfl,sc _ _ (s1 _ _ ht0),fun u fu=>?_⟩
   obtain ⟨H3,e_,s3,x3⟩:=nwz fu (HO.tup [V.int w0.1,V.int w0.2]);rw [←e_];clear e_
   have e3:=s3 _ _ e1
   refine ⟨s3,e3,Same.put fc (Same.trans sc s3),?_⟩
   rw [take_snoc hw0]
   have k4:KT H3 (upd H3 lc (HO.lst (ys++[V.ref u]))):=KT.lst e3 (KT.refl _)
   exact ((r1.same s3).kt k4).app (.cons ⟨u,rfl,k4 _ _ x3⟩ .nil)
  have last:∀ (ys:List V) (Hc:Hp),Same H1 Hc→Refs Hc ys (ws.take rs.length)→∀ t5,Hc t5=none→∀ n6,(upd Hc t5 (.tup ys)) n6=none→Q (.ref n6) (upd (upd Hc t5 (.tup ys)) n6 (.tup [.int wide,.ref t5])):=fun ys Hc sc r1 t5 f5 n6 f6=>by
   rw [lrs,List.take_length] at r1
   have s5:Same Hc (upd Hc t5 (HO.tup ys)):=same_new f5 _
   have x5:(upd Hc t5 (HO.tup ys)) t5=some (.tup ys):=upd_same
   generalize upd Hc t5 (HO.tup ys)=H5 at s5 x5 f6
   have s6:Same H5 (upd H5 n6 (HO.tup [V.int wide,V.ref t5])):=same_new f6 _
   exact q _ _ (Same.trans s1 (Same.trans sc (Same.trans s5 s6))) ⟨n6,t5,ys,rfl,upd_same,s6 _ _ x5,r1.same (Same.trans s5 s6)⟩
  rcases hl with hl|hl
  ·refine ⟨_,rfl,.inl ⟨_,rfl,l,rfl,⟨_,SqL.of (s1 _ _ hl)⟩,fun lc fc=>?_⟩⟩
   refine comp_list (xs:=rs) (fun i ys Hc=>Same H1 Hc∧Hc lc=some (.lst ys)∧ys.length≤i∧Refs Hc ys (ws.take i)) ⟨Same.put fc (Same.refl H1),upd_same,Nat.zero_le _,.nil⟩ (lenLine (by walk_at"q")) (fun i ys Hc hi ⟨sc,e1,l1,r1⟩=>⟨SqL.of (sc _ _ (s1 _ _ hl)),e1,l1⟩) ?_ ?_
   ·rintro i x ys Hc hx ⟨sc,e1,l1,r1⟩
    obtain ⟨t0,a0,b0,rfl,htc,go⟩:=step lc i x ys Hc fc hx sc e1 l1 r1
    refine ⟨⟨.inl rfl,trivial⟩,tru_if ?_⟩
    refine ⟨_,rfl,t0,_,_,_,rfl,rfl,SqT.of htc,rfl,_,rfl,t0,_,_,_,rfl,rfl,SqT.of htc,rfl,lenLine (by show 2≤100000;decide),fun u fu=>?_⟩
    obtain ⟨_,g2,g3,g4⟩:=go u fu
    exact ⟨g2,g3,upd_same,by rw [List.length_append];simp;walk_at"q", g4⟩
   ·rintro ys Hc ⟨sc,e1,l1,r1⟩
    exact ⟨lc,_,rfl,.inl ⟨SqL.of e1,fun t5 f5=>⟨lenLine (by show 2≤100000;decide),fun n6 f6=>last ys Hc sc r1 t5 f5 n6 f6⟩⟩⟩
  ·refine ⟨_,rfl,.inr ⟨_,rfl,l,rfl,⟨_,SqT.of (s1 _ _ hl)⟩,fun lc fc=>?_⟩⟩
   refine comp_tup (xs:=rs) (fun i ys Hc=>Same H1 Hc∧Hc lc=some (.lst ys)∧ys.length≤i∧Refs Hc ys (ws.take i)) ⟨Same.put fc (Same.refl H1),upd_same,Nat.zero_le _,.nil⟩ (lenLine (by walk_at"q")) (fun i ys Hc hi ⟨sc,e1,l1,r1⟩=>⟨SqT.of (sc _ _ (s1 _ _ hl)),e1,l1⟩) ?_ ?_
   ·rintro i x ys Hc hx ⟨sc,e1,l1,r1⟩
    obtain ⟨t0,a0,b0,rfl,htc,go⟩:=step lc i x ys Hc fc hx sc e1 l1 r1
    refine ⟨⟨.inl rfl,trivial⟩,tru_if ?_⟩
    refine ⟨_,rfl,t0,_,_,_,rfl,rfl,SqT.of htc,rfl,_,rfl,t0,_,_,_,rfl,rfl,SqT.of htc,rfl,lenLine (by show 2≤100000;decide),fun u fu=>?_⟩
    obtain ⟨_,g2,g3,g4⟩:=go u fu
    exact ⟨g2,g3,upd_same,by rw [List.length_append];simp;walk_at"q", g4⟩
   ·rintro ys Hc ⟨sc,e1,l1,r1⟩
    exact ⟨lc,_,rfl,.inl ⟨SqL.of e1,fun t5 f5=>⟨lenLine (by show 2≤100000;decide),fun n6 f6=>last ys Hc sc r1 t5 f5 n6 f6⟩⟩⟩
theorem sc_place_on:FnScope ["net", "lane", "start", "number"] ["net", "lane", "start"] (defScope s_place_on):=⟨rfl,rfl,rfl,by decide +kernel,rfl,by decide +kernel,by decide +kernel⟩
theorem ok_place_on (T:Bn mg) (F:Here K mg "place_on" s_place_on f fd):FnOk P w K mg base CX0 1 f fd ["net", "lane", "start"] spPlaceOn:=by
 refine F.fn.ok sc_place_on (fun vs H Q E h=>?_) (fun cdv A outer s H vs Q E hr h=>?_)
 ·obtain ⟨v,wide,ws,l,s,rfl,_⟩:=h
  rfl
 ·obtain ⟨v,wide,ws,l,s,rfl,⟨⟨n,t,rs,rfl,hn,ht,hrs⟩,w1,w8,ok,len⟩,hs,q⟩:=h
  have lrs:=hrs.len
  refine ⟨_,(pss_cons (ps_for PassesOwn.never rfl  (pi_range2 rfl T.n_range (pa_cons (pv 2) (pa_cons (pe_callB call_len_seq rfl T.n_len PySem.boot_len (pa_cons (pe_ix ix_tup (pv 0) pe_int (fun _ _=>rfl)) pa_nil)) pa_nil))) (pg_name (i:=3) sc_place_on.nd rfl (by walk_at"r"))
  (pss_one (ps_if (pt_cmpR op_in_seq (pv 1) (pe_ix ix_tup (pe_ix ix_tup (pv 0) pe_int (fun _ _=>rfl)) (pv 3) (fun _ _=>rfl)) (by with_unfolding_all rfl))
  (pss_one (ps_ret (pe_tup (pa_cons pe_str (pa_cons (pv 3) (pa_cons (pv 1) pa_nil))))))
  pss_nil)))
  (pss_one (ps_ret (pe_tup (pa_cons pe_str (pa_cons (pv 1) pa_nil)))))),?_⟩
  refine ⟨_,rfl,_,rfl,n,_,_,_,rfl,rfl,SqT.of hn,rfl,t,_,rfl,.inr (SqT.of ht),?_⟩
  refine ⟨_,_,rfl,⟨by walk_at"q", by walk_at"q", by walk_at"q", by walk_at"q"⟩,?_⟩
  refine for_range (n:=((rs.length:Int)-(s:Int)).toNat) (fun i σ Hc=>∃ v3,σ=[some (.ref n),some (.int l),some (.int s),v3]∧Hc=H∧placeM ws l s=placeF ws l (ws.length-s-i) (s+i)) ⟨none,rfl,rfl,rfl⟩ ?_ ?_
  ·rintro i σ Hc hi ⟨v3,rfl,rfl,hp⟩
   have il:s+i<ws.length:=by walk_at"q"
   have e0:(s:Int)+(i:Int)=((s+i:Nat):Int):=by walk_at"q"
   rw [e0]
   obtain ⟨t0,w0,et0,_,hw0,ht0⟩:=atI_ref hrs (i:=((s+i:Nat):Int)) (by walk_at"q") (by walk_at"q")
   rw [Int.toNat_natCast] at hw0
   have ew:wAt ws (s+i)=w0:=by simp [wAt,List.getD,hw0]
   have ef:placeF ws l (ws.length-s-i) (s+i)=if hasL w0 l then .before (s+i) l else placeF ws l (ws.length-s-(i+1)) (s+(i+1)):=by
    rw [show ws.length-s-i=(ws.length-s-(i+1))+1 by walk_at"q"]
    show (if hasL (wAt ws (s+i)) l then _ else _)=_
    rw [ew]
    rfl
   rw [ef] at hp
   refine ⟨_,rfl,_,rfl,n,_,_,_,rfl,rfl,SqT.of hn,rfl,_,rfl,t,_,_,_,rfl,rfl,SqT.of ht,et0,?_⟩
   refine ⟨t0,_,rfl,.inr (SqT.of ht0),rfl,rfl,_,rfl,?_⟩
   have ei:inV (.int l) [.int w0.1,.int w0.2]=hasL w0 l:=in_pair l w0.1 w0.2
   show if inV (.int l) [.int w0.1,.int w0.2]=true then _ else _
   rw [ei]
   refine ite2 (fun g=>?_) (fun g=>?_)
   ·rw [if_pos g] at hp
    refine ⟨_,rfl,_,rfl,lenLine (by show 3≤100000;decide),fun T1 f1=>?_⟩
    exact q T1 _ f1 (same_new f1 _) (by rw [upd_same,hp];rfl)
   ·rw [if_neg g] at hp
    exact ⟨_,rfl,rfl,hp⟩
  ·rintro σ Hc ⟨v3,rfl,rfl,hp⟩
   have e0:ws.length-s-((rs.length:Int)-(s:Int)).toNat=0:=by walk_at"q"
   rw [e0] at hp
   refine ⟨_,rfl,lenLine (by show 2≤100000;decide),fun T1 f1=>?_⟩
   exact q T1 _ f1 (same_new f1 _) (by rw [upd_same,hp];rfl)
theorem sc_numbers_of:FnScope ["wide", "lane", "low", "high"] ["wide", "lane", "low", "high"] (defScope s_numbers_of):=⟨rfl,rfl,rfl,by decide +kernel,rfl,by decide +kernel,by decide +kernel⟩
theorem ok_numbers_of (T:Bn mg) (F:Here K mg "numbers_of" s_numbers_of f fd):FnOk P w K mg base CX0 1 f fd ["wide", "lane", "low", "high"] spNums:=by
 refine F.fn.ok sc_numbers_of (fun vs H Q E h=>?_) (fun cdv A outer s H vs Q E hr h=>?_)
 ·obtain ⟨wide,lane,lo,hi,rfl,_⟩:=h
  rfl
 ·obtain ⟨wide,lane,lo,hi,rfl,w1,w8,⟨⟨b1,b2⟩,b3,b4⟩,q⟩:=h
  refine ⟨_,(pss_one (ps_ret (pe_comp ["count"] [("lane", 1),("wide", 0)] rfl (pi_range2 rfl T.n_range (pa_cons (pv 2) (pa_cons (pv 3) pa_nil))) (fun _ _ _ _ _ _=>by exact (pg_name (i:=0) (show List.Nodup (["count", "lane", "wide"]:List Str) by decide +kernel) rfl (by walk_at"r"))) (fun _ _ _ _ _ _=>by exact pts_nil) (fun _ _ _ _ _ _=>by exact (pe_op op_add (pv 1) (pe_op op_mul (pv 2) (pv 0))))))),?_⟩
  refine ⟨_,rfl,_,rfl,lo,hi,rfl,⟨by walk_at"q", by walk_at"q", by walk_at"q", by walk_at"q"⟩,fun l fl=>?_⟩
  refine comp_range (n:=(hi-lo).toNat) (fun j ys Hd=>Same H Hd∧Hd l=some (.lst ys)∧ys=(numsM wide lane lo j).map V.int) ⟨Same.put fl (Same.refl _),upd_same,rfl⟩ (lenLine (by walk_at"q"))
   (fun j ys Hd ⟨s4,e4,e5⟩=>⟨e4,by rw [e5,List.length_map,numsM_len];exact Nat.le_refl _⟩) ?_ ?_
  ·rintro j ys Hd hj ⟨s6,e6,rfl⟩
   refine ⟨⟨.inl rfl,.inr rfl,.inr rfl,trivial⟩,tru_if ?_⟩
   refine ⟨_,rfl,_,rfl,_,rfl,_,_,rfl,rfl,.inl ⟨by walk_at"q", by walk_at"q"⟩,_,_,rfl,rfl,e6,Same.put fl s6,upd_same,?_⟩
   rw [numsM_succ,List.map_append]
   rfl
  rintro ys H1 ⟨s1,e1,rfl⟩
  exact q l H1 fl s1 e1
theorem sc_Play_init:FnScope ["self", "net"] ["self", "net"] (defScope s_Play_init):=⟨rfl,rfl,rfl,by decide +kernel,rfl,by decide +kernel,by decide +kernel⟩
theorem ok_Play_init {C:Addr} (T:Bn mg) (TP:PlayT K C) (F:HereM K mg C "__init__" "Play.__init__" s_Play_init f fd):FnOk P w K mg base CX0 1 f fd ["self", "net"] (spPInit C):=by
 refine F.fn.ok sc_Play_init (fun vs H Q E h=>?_) (fun cdv A outer s H vs Q E hr h=>?_)
 ·obtain ⟨p,dx,v,wide,ws,rfl,_⟩:=h
  rfl
 ·obtain ⟨p,dx,v,wide,ws,rfl,hp,⟨⟨n,t,rs,rfl,hn,ht,hrs⟩,w1,w8,ok,len⟩,q⟩:=h
  have lrs:=hrs.len
  refine ⟨_,(pss_cons (ps_fld (pv 0) (pv 1) rfl)
  (pss_cons (ps_fld (pv 0) (pe_comp ["wicket"] [] rfl (pi_tup (pe_ix ix_tup (pv 1) pe_int (fun _ _=>rfl))) (fun _ _ _ _ _ _=>by exact (pg_name (i:=0) (show List.Nodup (["wicket"]:List Str) by decide +kernel) rfl (by walk_at"r"))) (fun _ _ _ _ _ _=>by exact pts_nil) (fun _ _ _ _ _ _=>by exact (pe_ix (ix_tupK K rfl) (pv 0) pe_int (fun _ _=>rfl)))) rfl)
  (pss_cons (ps_fld (pv 0) (pe_op op_rep (pe_lst (pa_cons pe_int pa_nil)) (pe_ix ix_tup (pv 1) pe_int (fun _ _=>rfl))) rfl)
  (pss_cons (ps_fld (pv 0) (pe_lst pa_nil) rfl)
  (pss_one (ps_fld (pv 0) (pe_lst pa_nil) rfl)))))),?_⟩
  refine ⟨_,rfl,_,rfl,p,C,dx,[],rfl,hp,TP.cl,TP.nN,(by show 0<1000;decide),?_⟩
  have k1:∀ b o,H b=some o→b≠p→(upd H p (HO.ins C dx (putF "net" (V.ref n) []))) b=some o:=fun b o e ne=>(upd_ne ne).trans e
  have hp1:(upd H p (HO.ins C dx (putF "net" (V.ref n) []))) p=some (.ins C dx (putF "net" (.ref n) [])):=upd_same
  have fr1:∀ b,(upd H p (HO.ins C dx (putF "net" (V.ref n) []))) b=none→H b=none∧b≠p:=fun b e=>by
   have ne:b≠p:=fun z=>by rw [z,upd_same] at e;cases e
   rw [upd_ne ne] at e
   exact ⟨e,ne⟩
  generalize upd H p (HO.ins C dx (putF "net" (V.ref n) []))=H1 at k1 hp1 fr1
  have np:n≠p:=ne_of hn hp (by intro z;cases z)
  have tp:t≠p:=ne_of ht hp (by intro z;cases z)
  have hn1:=k1 _ _ hn np
  have ht1:=k1 _ _ ht tp
  have hrs1:Refs H1 rs ws:=hrs.mono fun b xs e=>k1 _ _ e (ne_of e hp (by intro z;cases z))
  refine ⟨_,rfl,n,_,_,_,rfl,rfl,SqT.of hn1,rfl,t,rfl,⟨_,SqT.of ht1⟩,fun lf ff=>?_⟩
  refine comp_tup (xs:=rs) (fun j ys Hc=>Same H1 Hc∧Hc lf=some (.lst ys)∧ys=((ws.take j).map (·.1)).map V.int) ⟨Same.put ff (Same.refl _),upd_same,rfl⟩ (lenLine (by walk_at"q"))
   (fun j ys Hc hj ⟨s1,e1,r1⟩=>⟨SqT.of (s1 _ _ ht1),e1,by rw [r1];simp;walk_at"q"⟩) ?_ ?_
  ·rintro j x ys Hc hx ⟨s1,e1,rfl⟩
   obtain ⟨w0,t0,hw0,rfl,ht0⟩:=hrs1.get hx
   refine ⟨⟨.inl rfl,trivial⟩,tru_if ?_⟩
   refine ⟨_,rfl,t0,_,_,_,rfl,rfl,SqT.of (s1 _ _ ht0),rfl,e1,Same.put ff s1,upd_same,?_⟩
   rw [take_snoc hw0,List.map_append,List.map_append]
   rfl
  rintro ys H2 ⟨s2,e2,rfl⟩
  rw [lrs,List.take_length] at e2
  have hp2:=s2 _ _ hp1
  have nfp:lf≠p:=Ne.symm (ne_of_none hp1 ff)
  refine ⟨_,rfl,p,C,dx,_,rfl,hp2,TP.cl,TP.nF,(by have:=putF_len "net" (V.ref n) [];simp at this;walk_at"q"),?_⟩
  have x3:(upd H2 p (HO.ins C dx (putF "facing" (V.ref lf) (putF "net" (V.ref n) [])))) lf=some (.lst ((ws.map (·.1)).map V.int)):=(upd_ne nfp).trans e2
  have hp3:(upd H2 p (HO.ins C dx (putF "facing" (V.ref lf) (putF "net" (V.ref n) [])))) p=some (.ins C dx (putF "facing" (.ref lf) (putF "net" (.ref n) []))):=upd_same
  have k3:∀ b o,H1 b=some o→b≠p→(upd H2 p (HO.ins C dx (putF "facing" (V.ref lf) (putF "net" (V.ref n) [])))) b=some o:=fun b o e ne=>(upd_ne ne).trans (s2 _ _ e)
  have fr3:∀ b,(upd H2 p (HO.ins C dx (putF "facing" (V.ref lf) (putF "net" (V.ref n) [])))) b=none→H1 b=none:=fun b e=>by
   have ne:b≠p:=fun z=>by rw [z,upd_same] at e;cases e
   rw [upd_ne ne] at e
   exact s2.free e
  generalize upd H2 p (HO.ins C dx (putF "facing" (V.ref lf) (putF "net" (V.ref n) [])))=H3 at x3 hp3 k3 fr3
  have hn3:=k3 _ _ hn1 np
  refine ⟨lenLine (by show 1≤100000;decide),fun l4 f4=>?_⟩
  refine ⟨_,rfl,n,_,_,_,rfl,rfl,SqT.of ((same_new f4 _) _ _ hn3),rfl,l4,wide,_,rfl,rfl,upd_same,by walk_at"q", by walk_at"q", lenLine (by show 1*wide.toNat≤100000;walk_at"q"),fun lt f5=>?_⟩
  have er:(List.replicate wide.toNat [V.int 0]).flatten=(List.replicate wide.toNat (0:Int)).map V.int:=by
   generalize wide.toNat=k
   induction k with
   |zero=>rfl
   |succ k ih=>rw [List.replicate_succ,List.flatten_cons,ih,List.replicate_succ,List.map_cons];rfl
  rw [er]
  have s5:Same H3 (upd (upd H3 l4 (HO.lst [V.int 0])) lt (HO.lst ((List.replicate wide.toNat (0:Int)).map V.int))):=Same.trans (same_new f4 _) (same_new f5 _)
  have x5:(upd (upd H3 l4 (HO.lst [V.int 0])) lt (HO.lst ((List.replicate wide.toNat (0:Int)).map V.int))) lt=some (.lst ((List.replicate wide.toNat (0:Int)).map V.int)):=upd_same
  have f5':H3 lt=none:=(same_new f4 _).free f5
  generalize upd (upd H3 l4 (HO.lst [V.int 0])) lt (HO.lst ((List.replicate wide.toNat (0:Int)).map V.int))=H5 at s5 x5
  have ntp:lt≠p:=Ne.symm (ne_of_none hp3 f5')
  have nft:lf≠lt:=ne_of_none x3 f5'
  refine ⟨_,rfl,p,C,dx,_,rfl,s5 _ _ hp3,TP.cl,TP.nT,(by have h1:=putF_len "net" (V.ref n) [];have h2:=putF_len "facing" (V.ref lf) (putF "net" (V.ref n) []);simp at h1;walk_at"q"),?_⟩
  refine ⟨lenLine (by show 0≤100000;decide),fun lp f6=>?_⟩
  have f6':lp≠p:=fun z=>by rw [z,upd_same] at f6;cases f6
  have f6'':H5 lp=none:=by rw [upd_ne f6'] at f6;exact f6
  have npl:lp≠lf:=fun z=>by rw [z] at f6'';rw [s5 _ _ x3] at f6'';cases f6''
  have npt:lp≠lt:=fun z=>by rw [z,x5] at f6'';cases f6''
  refine ⟨_,rfl,p,C,dx,_,rfl,(upd_ne (Ne.symm f6')).trans upd_same,TP.cl,TP.nP,(by have h1:=putF_len "net" (V.ref n) [];have h2:=putF_len "facing" (V.ref lf) (putF "net" (V.ref n) []);have h3:=putF_len "tally" (V.ref lt) (putF "facing" (V.ref lf) (putF "net" (V.ref n) []));simp at h1;walk_at"q"),?_⟩
  refine ⟨lenLine (by show 0≤100000;decide),fun lc f7=>?_⟩
  have f7':lc≠p:=fun z=>by rw [z,upd_same] at f7;cases f7
  have f7a:lc≠lp:=fun z=>by rw [z,upd_ne f6',upd_same] at f7;cases f7
  have f7'':H5 lc=none:=by rw [upd_ne f7',upd_ne f7a,upd_ne f7'] at f7;exact f7
  have ncl:lc≠lf:=fun z=>by rw [z] at f7'';rw [s5 _ _ x3] at f7'';cases f7''
  have nct:lc≠lt:=fun z=>by rw [z,x5] at f7'';cases f7''
  refine ⟨_,rfl,p,C,dx,_,rfl,(upd_ne (Ne.symm f7')).trans upd_same,TP.cl,TP.nC,(by have h1:=putF_len "net" (V.ref n) [];have h2:=putF_len "facing" (V.ref lf) (putF "net" (V.ref n) []);have h3:=putF_len "tally" (V.ref lt) (putF "facing" (V.ref lf) (putF "net" (V.ref n) []));have h4:=putF_len "places" (V.ref lp) (putF "tally" (V.ref lt) (putF "facing" (V.ref lf) (putF "net" (V.ref n) [])));simp at h1;walk_at"q"),?_⟩
  refine q ⟨dx,lf,lt,lp,lc⟩ _ (fr1 _ ff).1 (fr1 _ (fr3 _ f5')).1 (fr1 _ (fr3 _ (s5.free f6''))).1 (fr1 _ (fr3 _ (s5.free f7''))).1 ?_ fun b o e ne=>?_
  ·refine ⟨upd_same,?_,?_,⟨[],?_,.nil⟩,?_,nft,Ne.symm npl,Ne.symm ncl,Ne.symm npt,Ne.symm nct,Ne.symm f7a⟩
   ·show (upd _ p _) lf=_
    rw [upd_ne nfp,upd_ne (Ne.symm ncl),upd_ne nfp,upd_ne (Ne.symm npl),upd_ne nfp]
    exact s5 _ _ x3
   ·show (upd _ p _) lt=_
    rw [upd_ne ntp,upd_ne (Ne.symm nct),upd_ne ntp,upd_ne (Ne.symm npt),upd_ne ntp]
    exact x5
   ·show (upd _ p _) lp=_
    rw [upd_ne f6',upd_ne (Ne.symm f7a),upd_ne f6',upd_same]
   ·show (upd _ p _) lc=_
    rw [upd_ne f7',upd_same]
    rfl
  ·have e5:=s5 _ _ (k3 _ _ (k1 b o e ne) ne)
   rw [upd_ne ne,upd_ne (ne_of_none e5 f7''),upd_ne ne,upd_ne (ne_of_none e5 f6''),upd_ne ne]
   exact e5
theorem sc_Play_come_in:FnScope ["self", "lane", "change"] ["self", "lane", "change"] (defScope s_Play_come_in):=⟨rfl,rfl,rfl,by decide +kernel,rfl,by decide +kernel,by decide +kernel⟩
theorem ok_Play_come_in {C:Addr} (T:Bn mg) (TP:PlayT K C) (F:HereM K mg C "come_in" "Play.come_in" s_Play_come_in f fd) (Cis_lane:Callee P w K mg base "is_lane" 2 ["wide", "thing"] spIsLane) (Cplace_on:Callee P w K mg base "place_on" 1 ["net", "lane", "start"] spPlaceOn):FnOk P w K mg base CX0 3 f fd ["self", "lane", "change"] (spComeIn C):=by
 refine F.fn.ok sc_Play_come_in (fun vs H Q E h=>?_) (fun cdv A outer s H vs Q E hr h=>?_)
 ·obtain ⟨p,v,wide,ws,L,st,lane,c,rfl,_⟩:=h
  rfl
 ·obtain ⟨p,v,wide,ws,L,st,lane,c,rfl,net,pa,wf,l0,l1,q⟩:=h
  obtain ⟨n,t,rs,rfl,hn,ht,hrs⟩:=id net.1
  refine ⟨_,(pss_cons (ps_if (pt_not (pt_val (pe_callC Cis_lane (hr.mono (by walk_at"d")) rfl (pa_cons (pe_ix ix_tup (pe_fld (pv 0) rfl) pe_int (fun _ _=>rfl)) (pa_cons (pv 1) pa_nil)))))
  (pss_one ps_never)
  pss_nil)
  (pss_cons (ps_expr (pe_bm PySem.F.plainAttrs_list PySem.F.slot_list_append PySem.F.type_list_append mt_append (pe_fld (pv 0) rfl) (pa_cons (pe_callC Cplace_on (hr.mono (by walk_at"d")) rfl (pa_cons (pe_fld (pv 0) rfl) (pa_cons (pv 1) (pa_cons pe_int pa_nil)))) pa_nil)))
  (pss_cons (ps_expr (pe_bm PySem.F.plainAttrs_list PySem.F.slot_list_append PySem.F.type_list_append mt_append (pe_fld (pv 0) rfl) (pa_cons (pv 2) pa_nil)))
  (pss_one (ps_ret (pe_op op_sub (pe_callB call_len_seq rfl T.n_len PySem.boot_len (pa_cons (pe_fld (pv 0) rfl) pa_nil)) pe_int)))))),?_⟩
  refine ⟨_,rfl,p,C,_,_,_,rfl,pa.ob,TP.cl,TP.nN,pfl_net _ _,n,_,_,_,rfl,rfl,SqT.of hn,rfl,_,rfl,wide,lane,rfl,l0,l1,_,rfl,iteFd (by decide) ?_⟩
  obtain ⟨rp,xp,hpl⟩:=pa.pl
  have lrp:=Paired.length hpl
  have ml:=wf.ml
  refine ⟨_,rfl,p,C,_,_,_,rfl,pa.ob,TP.cl,TP.nP,pfl_places _ _,.inl ⟨rfl,_,SqL.of xp⟩,?_⟩
  refine ⟨_,rfl,p,C,_,_,_,rfl,pa.ob,TP.cl,TP.nN,pfl_net _ _,_,rfl,.ref n,wide,ws,lane,0,rfl,net,Nat.zero_le _,fun t1 H1 f1 s1 x1=>?_⟩
  have pa1:=pa.same s1
  have xp1:=s1 _ _ xp
  refine ⟨L.lp,_,_,rfl,rfl,xp1,lenLt (by walk_at"q"),?_⟩
  obtain ⟨nf,nt,np,nc⟩:=pa.nob
  have ob2:(upd H1 L.lp (HO.lst (rp++[V.ref t1]))) p=some (.ins C L.dx (pfl (.ref n) L)):=(upd_ne np).trans pa1.ob
  have ch2:(upd H1 L.lp (HO.lst (rp++[V.ref t1]))) L.lc=some (.lst (st.chg.map V.int)):=(upd_ne (Ne.symm pa.pc)).trans pa1.ch
  refine ⟨_,rfl,p,C,_,_,_,rfl,ob2,TP.cl,TP.nC,pfl_changes _ _,.inl ⟨rfl,_,SqL.of ch2⟩,?_⟩
  have cl:=wf.cl
  refine ⟨_,rfl,L.lc,_,_,rfl,rfl,ch2,lenLt (by rw [List.length_map];walk_at"q"),?_⟩
  have kt2:KT H1 (upd (upd H1 L.lp (HO.lst (rp++[V.ref t1]))) L.lc (HO.lst (st.chg.map V.int++[V.int c]))):=KT.lst ch2 (KT.lst xp1 (KT.refl _))
  have pa3:PlayAt C (upd (upd H1 L.lp (HO.lst (rp++[V.ref t1]))) L.lc (HO.lst (st.chg.map V.int++[V.int c]))) p (.ref n) L (enterM ws st lane c):=by
   refine ⟨(upd_ne nc).trans ob2,?_,?_,⟨rp++[.ref t1],?_,?_⟩,?_,pa.ft,pa.fp,pa.fc,pa.tp,pa.tc,pa.pc⟩
   ·rw [upd_ne pa.fc,upd_ne pa.fp];exact pa1.fa
   ·rw [upd_ne pa.tc,upd_ne pa.tp];exact pa1.ta
   ·rw [upd_ne pa.pc,upd_same]
   ·exact Paired.appP (Paired.mapP hpl fun _ _ z=>(z.kt (KT.same s1 (KT.refl _))).kt kt2) (.cons ⟨t1,rfl,kt2 _ _ x1⟩ .nil)
   ·rw [upd_same]
    show _=some (HO.lst ((st.chg++[c]).map V.int))
    rw [List.map_append]
    rfl
  have kp3:KpL L H (upd (upd H1 L.lp (HO.lst (rp++[V.ref t1]))) L.lc (HO.lst (st.chg.map V.int++[V.int c]))):=fun b o e h1 h2 h3 h4=>by
   rw [upd_ne h4,upd_ne h3]
   exact s1 _ _ e
  generalize upd (upd H1 L.lp (HO.lst (rp++[V.ref t1]))) L.lc (HO.lst (st.chg.map V.int++[V.int c]))=H3 at pa3 kp3
  obtain ⟨rp3,xp3,hpl3⟩:=pa3.pl
  have lrp3:=Paired.length hpl3
  refine ⟨_,rfl,p,C,_,_,_,rfl,pa3.ob,TP.cl,TP.nP,pfl_places _ _,L.lp,_,rfl,.inl (SqL.of xp3),_,_,rfl,rfl,?_⟩
  have el:(rp3.length:Int)-1=(st.pla.length:Int):=by
   rw [lrp3]
   show (((st.pla++[_]).length:Nat):Int)-1=_
   rw [List.length_append,List.length_singleton]
   walk_at"q"
  have z:Q (.int ((rp3.length:Int)-1)) H3:=by
   rw [el]
   exact q H3 pa3 kp3
  exact z
theorem sc_Play_enter:FnScope ["self", "lane"] ["self", "lane"] (defScope s_Play_enter):=⟨rfl,rfl,rfl,by decide +kernel,rfl,by decide +kernel,by decide +kernel⟩
theorem ok_Play_enter {C:Addr} (T:Bn mg) (TP:PlayT K C) (F:HereM K mg C "enter" "Play.enter" s_Play_enter f fd) (MPlay_come_in:MCal P w K mg base C "come_in" 3 ["self", "lane", "change"] (spComeIn C)):FnOk P w K mg base CX0 4 f fd ["self", "lane"] (spEnter C 1):=by
 refine F.fn.ok sc_Play_enter (fun vs H Q E h=>?_) (fun cdv A outer s H vs Q E hr h=>?_)
 ·obtain ⟨p,v,wide,ws,L,st,lane,rfl,_⟩:=h
  rfl
 ·obtain ⟨p,v,wide,ws,L,st,lane,rfl,net,pa,wf,l0,l1,q⟩:=h
  refine ⟨_,(pss_one (ps_ret (pe_methC (pv 0) TP.cl MPlay_come_in (hr.mono (by walk_at"d")) (pa_cons (pv 1) (pa_cons pe_int pa_nil))))),?_⟩
  refine ⟨_,rfl,p,_,_,rfl,pa.ob,pfl_no _ _ (by decide +kernel) (by decide +kernel) (by decide +kernel) (by decide +kernel) (by decide +kernel),_,rfl,?_⟩
  exact ⟨p,v,wide,ws,L,st,lane,1,rfl,net,pa,wf,l0,l1,q⟩
theorem sc_Play_enter_back:FnScope ["self", "lane"] ["self", "lane"] (defScope s_Play_enter_back):=⟨rfl,rfl,rfl,by decide +kernel,rfl,by decide +kernel,by decide +kernel⟩
theorem ok_Play_enter_back {C:Addr} (T:Bn mg) (TP:PlayT K C) (F:HereM K mg C "enter_back" "Play.enter_back" s_Play_enter_back f fd) (MPlay_come_in:MCal P w K mg base C "come_in" 3 ["self", "lane", "change"] (spComeIn C)):FnOk P w K mg base CX0 4 f fd ["self", "lane"] (spEnter C (-1)):=by
 refine F.fn.ok sc_Play_enter_back (fun vs H Q E h=>?_) (fun cdv A outer s H vs Q E hr h=>?_)
 ·obtain ⟨p,v,wide,ws,L,st,lane,rfl,_⟩:=h
  rfl
 ·obtain ⟨p,v,wide,ws,L,st,lane,rfl,net,pa,wf,l0,l1,q⟩:=h
  refine ⟨_,(pss_one (ps_ret (pe_methC (pv 0) TP.cl MPlay_come_in (hr.mono (by walk_at"d")) (pa_cons (pv 1) (pa_cons (pe_un un_neg pe_int) pa_nil))))),?_⟩
  refine ⟨_,rfl,p,_,_,rfl,pa.ob,pfl_no _ _ (by decide +kernel) (by decide +kernel) (by decide +kernel) (by decide +kernel) (by decide +kernel),_,rfl,_,rfl,?_⟩
  exact ⟨p,v,wide,ws,L,st,lane,-1,rfl,net,pa,wf,l0,l1,q⟩
theorem sc_Play_where:FnScope ["self", "walker"] ["self", "walker"] (defScope s_Play_where):=⟨rfl,rfl,rfl,by decide +kernel,rfl,by decide +kernel,by decide +kernel⟩
theorem ok_Play_where {C:Addr} (T:Bn mg) (TP:PlayT K C) (F:HereM K mg C "where" "Play.where" s_Play_where f fd) (Cis_whole:Callee P w K mg base "is_whole" 1 ["thing"] spIsWhole):FnOk P w K mg base CX0 2 f fd ["self", "walker"] (spWhere C):=by
 refine F.fn.ok sc_Play_where (fun vs H Q E h=>?_) (fun cdv A outer s H vs Q E hr h=>?_)
 ·obtain ⟨p,v,L,st,i,pl,rfl,_⟩:=h
  rfl
 ·obtain ⟨p,v,L,st,i,pl,rfl,pa,hi,q⟩:=h
  obtain ⟨rp,xp,hpl⟩:=pa.pl
  have lrp:=Paired.length hpl
  have il:i<st.pla.length:=(List.getElem?_eq_some_iff.mp hi).1
  obtain ⟨r,hr0,t,rfl,ht⟩:=Paired.getP hpl hi
  refine ⟨_,(pss_cons (ps_if (PW.pt (pw_or (pt_not (pt_val (pe_callC Cis_whole (hr.mono (by walk_at"d")) rfl (pa_cons (pv 1) pa_nil)))) (pw_or1 (pt_not (pt_chain op_le op_lt pe_int (pv 1) (pe_callB call_len_seq rfl T.n_len PySem.boot_len (pa_cons (pe_fld (pv 0) rfl) pa_nil)))))))
  (pss_one ps_never)
  pss_nil)
  (pss_one (ps_ret (pe_ix ix_list (pe_fld (pv 0) rfl) (pv 1) (fun _ _=>rfl))))),?_⟩
  refine ⟨_,rfl,_,rfl,_,rfl,iteFd (by decide) ?_⟩
  refine ⟨_,rfl,_,_,rfl,rfl,_,rfl,iteTd (decide_eq_true (by walk_at"q")) ?_⟩
  refine ⟨_,rfl,p,C,_,_,_,rfl,pa.ob,TP.cl,TP.nP,pfl_places _ _,L.lp,_,rfl,.inl (SqL.of xp),_,_,rfl,rfl,_,rfl,iteFd ?_ ?_⟩
  ·rw [decide_eq_true (show (i:Int)<(rp.length:Int) by walk_at"q")]
   decide
  refine ⟨_,rfl,p,C,_,_,_,rfl,pa.ob,TP.cl,TP.nP,pfl_places _ _,_,rfl,L.lp,_,_,_,rfl,rfl,SqL.of xp,atI_nat hr0,?_⟩
  exact q t ht
theorem sc_Play_turn:FnScope ["self", "wicket", "lanes"] ["self", "wicket"] (defScope s_Play_turn):=⟨rfl,rfl,rfl,by decide +kernel,rfl,by decide +kernel,by decide +kernel⟩
theorem ok_Play_turn {C:Addr} (T:Bn mg) (TP:PlayT K C) (F:HereM K mg C "turn" "Play.turn" s_Play_turn f fd):FnOk P w K mg base CX0 1 f fd ["self", "wicket"] (spTurn C):=by
 refine F.fn.ok sc_Play_turn (fun vs H Q E h=>?_) (fun cdv A outer s H vs Q E hr h=>?_)
 ·obtain ⟨p,v,wide,ws,L,st,k,rfl,_⟩:=h
  rfl
 ·obtain ⟨p,v,wide,ws,L,st,k,rfl,net,pa,lf,hk,q⟩:=h
  obtain ⟨n,t,rs,rfl,hn,ht,hrs⟩:=id net.1
  have lrs:=hrs.len
  obtain ⟨t0,w0,et0,_,hw0,ht0⟩:=atI_ref hrs (i:=(k:Int)) (by walk_at"q") (by walk_at"q")
  rw [Int.toNat_natCast] at hw0
  have ew:wAt ws k=w0:=by simp [wAt,List.getD,hw0]
  refine ⟨_,(pss_cons (ps_set (i:=2) sc_Play_turn.nd rfl (by walk_at"r") (pe_ix ix_tup (pe_ix ix_tup (pe_fld (pv 0) rfl) pe_int (fun _ _=>rfl)) (pv 1) (fun _ _=>rfl)))
  (pss_one (ps_asg (pe_ifExp (pt_cmpR op_eq (pe_ix ix_list (pe_fld (pv 0) rfl) (pv 1) (fun _ _=>rfl)) (pe_ix ix_tup (pv 2) pe_int (fun _ _=>rfl)) (nomark _)) (pe_ix ix_tup (pv 2) pe_int (fun _ _=>rfl)) (pe_ix ix_tup (pv 2) pe_int (fun _ _=>rfl))) (pg_sub (pe_fld (pv 0) rfl) (pv 1) set_list)))),?_⟩
  refine ⟨_,rfl,p,C,_,_,_,rfl,pa.ob,TP.cl,TP.nN,pfl_net _ _,n,_,_,_,rfl,rfl,SqT.of hn,rfl,_,rfl,t,_,_,_,rfl,rfl,SqT.of ht,et0,?_⟩
  refine ⟨_,rfl,p,C,_,_,_,rfl,pa.ob,TP.cl,TP.nF,pfl_facing _ _,_,rfl,L.lf,_,_,_,rfl,rfl,SqL.of pa.fa,atI_int (i:=(k:Int)) (by walk_at"q") (by walk_at"q"),?_⟩
  refine ⟨_,rfl,t0,_,_,_,rfl,rfl,SqT.of ht0,rfl,rfl,_,rfl,?_⟩
  rw [Int.toNat_natCast]
  have fin:∀ z:Int,z=otherL w0 (st.fac.getD k 0)→Q .non (upd H L.lf (HO.lst ((st.fac.map V.int).set k (V.int z)))):=fun z hz=>by
   rw [set_map]
   refine q _ ⟨(upd_ne pa.nob.1).trans pa.ob,?_,(upd_ne (Ne.symm pa.ft)).trans pa.ta,?_,(upd_ne (Ne.symm pa.fc)).trans pa.ch,pa.ft,pa.fp,pa.fc,pa.tp,pa.tc,pa.pc⟩ fun b o e h1 h2 h3 h4=>(upd_ne h1).trans e
   ·rw [upd_same,hz,←ew]
    rfl
   ·obtain ⟨rp,xp,hpl⟩:=pa.pl
    exact ⟨rp,(upd_ne (Ne.symm pa.fp)).trans xp,Paired.mapP hpl fun _ _ z=>z.kt (KT.lst pa.fa (KT.refl _))⟩
  refine ite2 (fun g=>?_) (fun g=>?_)
  ·have g':=veq g
   refine ⟨_,rfl,t0,_,_,_,rfl,rfl,SqT.of ht0,rfl,?_⟩
   refine ⟨_,rfl,p,C,_,_,_,rfl,pa.ob,TP.cl,TP.nF,pfl_facing _ _,_,rfl,L.lf,_,(k:Int),k,rfl,rfl,pa.fa,by rw [ixN_of (by walk_at"q") (by rw [List.length_map];walk_at"q"),Int.toNat_natCast],?_⟩
   exact fin w0.2 (by unfold otherL;rw [if_pos g'])
  ·have g':=vne g
   refine ⟨_,rfl,t0,_,_,_,rfl,rfl,SqT.of ht0,rfl,?_⟩
   refine ⟨_,rfl,p,C,_,_,_,rfl,pa.ob,TP.cl,TP.nF,pfl_facing _ _,_,rfl,L.lf,_,(k:Int),k,rfl,rfl,pa.fa,by rw [ixN_of (by walk_at"q") (by rw [List.length_map];walk_at"q"),Int.toNat_natCast],?_⟩
   exact fin w0.1 (by unfold otherL;rw [if_neg g'])
theorem sc_Play_pass_wicket:FnScope ["self", "wicket", "change", "before", "lane"] ["self", "wicket", "change"] (defScope s_Play_pass_wicket):=⟨rfl,rfl,rfl,by decide +kernel,rfl,by decide +kernel,by decide +kernel⟩
theorem ok_Play_pass_wicket {C:Addr} (T:Bn mg) (TP:PlayT K C) (F:HereM K mg C "pass_wicket" "Play.pass_wicket" s_Play_pass_wicket f fd) (MPlay_turn:MCal P w K mg base C "turn" 1 ["self", "wicket"] (spTurn C)) (Cplace_on:Callee P w K mg base "place_on" 1 ["net", "lane", "start"] spPlaceOn):FnOk P w K mg base CX0 2 f fd ["self", "wicket", "change"] (spPass C):=by
 refine F.fn.ok sc_Play_pass_wicket (fun vs H Q E h=>?_) (fun cdv A outer s H vs Q E hr h=>?_)
 ·obtain ⟨p,v,wide,ws,L,st,k,c,rfl,_⟩:=h
  rfl
 ·obtain ⟨p,v,wide,ws,L,st,k,c,rfl,net,pa,lf,hk,q⟩:=h
  refine ⟨_,(pss_cons (ps_set (i:=3) sc_Play_pass_wicket.nd rfl (by walk_at"r") (pe_ix ix_list (pe_fld (pv 0) rfl) (pv 1) (fun _ _=>rfl)))
  (pss_cons (ps_expr (pe_methC (pv 0) TP.cl MPlay_turn (hr.mono (by walk_at"d")) (pa_cons (pv 1) pa_nil)))
  (pss_cons (ps_set (i:=4) sc_Play_pass_wicket.nd rfl (by walk_at"r") (pe_ifExp (pt_cmpR op_eq (pv 2) pe_int (nomark _)) (pv 3) (pe_ix ix_list (pe_fld (pv 0) rfl) (pv 1) (fun _ _=>rfl))))
  (pss_one (ps_ret (pe_callC Cplace_on (hr.mono (by walk_at"d")) rfl (pa_cons (pe_fld (pv 0) rfl) (pa_cons (pv 4) (pa_cons (pe_op op_add (pv 1) pe_int) pa_nil))))))))),?_⟩
  refine ⟨_,rfl,p,C,_,_,_,rfl,pa.ob,TP.cl,TP.nF,pfl_facing _ _,_,rfl,L.lf,_,_,_,rfl,rfl,SqL.of pa.fa,atI_int (i:=(k:Int)) (by walk_at"q") (by walk_at"q"),?_⟩
  refine ⟨_,rfl,p,_,_,rfl,pa.ob,pfl_no _ _ (by decide +kernel) (by decide +kernel) (by decide +kernel) (by decide +kernel) (by decide +kernel),_,rfl,p,v,wide,ws,L,st,k,rfl,net,pa,lf,hk,fun H1 pa1 k1=>?_⟩
  have net1:=net.kt (KpL.kt pa k1)
  have fl1:(turnM ws st k).fac.length=ws.length:=by
   show (st.fac.set k _).length=_
   rw [List.length_set]
   exact lf
  have fin:∀ z:Int,z=passL ws st k c→tRet (tCall spPlaceOn [] E0 (tCons (tFld K (tVar 0) "net") (tCons (tVar 4) (tCons (tOp (rI0 fun i j=>V.int (i+j)) (tVar 1) (tC (.int 1))) tNil)))) { nx:=fun _ H'=>Q .non H',rt:=Q } [some (.ref p),some (.int k),some (.int c),some (.int (st.fac.getD k 0)),some (.int z)] H1:=fun z hz=>by
   refine ⟨_,rfl,p,C,_,_,_,rfl,pa1.ob,TP.cl,TP.nN,pfl_net _ _,_,rfl,_,rfl,_,_,rfl,rfl,v,wide,ws,z,k+1,by rfl,net1,by walk_at"q", fun t2 H2 f2 s2 x2=>?_⟩
   rw [hz] at x2
   exact q t2 H2 (pa1.same s2) (KpL.trans k1 (KpL.same s2)) x2
  refine ⟨_,rfl,rfl,_,rfl,?_⟩
  refine ite2 (fun g=>?_) (fun g=>?_)
  ·have g':=veq g
   refine ⟨_,rfl,?_⟩
   exact fin _ (by unfold passL;rw [if_pos g',Int.toNat_natCast])
  ·have g':=vne g
   refine ⟨_,rfl,p,C,_,_,_,rfl,pa1.ob,TP.cl,TP.nF,pfl_facing _ _,_,rfl,L.lf,_,_,_,rfl,rfl,SqL.of pa1.fa,atI_int (i:=(k:Int)) (by walk_at"q") (by walk_at"q"),?_⟩
   refine fin _ ?_
   unfold passL
   rw [if_neg g',Int.toNat_natCast]
   show (st.fac.set k _).getD k 0=_
   rw [getD_set (by walk_at"q"),if_pos rfl]
theorem sc_Play_leave:FnScope ["self", "lane", "change", "before", "count"] ["self", "lane", "change"] (defScope s_Play_leave):=⟨rfl,rfl,rfl,by decide +kernel,rfl,by decide +kernel,by decide +kernel⟩
theorem ok_Play_leave {C:Addr} (T:Bn mg) (TP:PlayT K C) (F:HereM K mg C "leave" "Play.leave" s_Play_leave f fd):FnOk P w K mg base CX0 1 f fd ["self", "lane", "change"] (spLeave C):=by
 refine F.fn.ok sc_Play_leave (fun vs H Q E h=>?_) (fun cdv A outer s H vs Q E hr h=>?_)
 ·obtain ⟨p,v,wide,ws,L,st,l,c,rfl,_⟩:=h
  rfl
 ·obtain ⟨p,v,wide,ws,L,st,l,c,rfl,net,pa,tl,l0,l1,q⟩:=h
  obtain ⟨n,t,rs,rfl,hn,ht,hrs⟩:=id net.1
  have w1:=net.2.1
  have w8:=net.2.2.1
  refine ⟨_,(pss_cons (ps_set (i:=3) sc_Play_leave.nd rfl (by walk_at"r") (pe_ix ix_list (pe_fld (pv 0) rfl) (pv 1) (fun _ _=>rfl)))
  (pss_cons (ps_augS (pe_fld (pv 0) rfl) (pv 1) get_list (pv 2) ip_add set_list)
  (pss_cons (ps_set (i:=4) sc_Play_leave.nd rfl (by walk_at"r") (pe_ifExp (pt_cmpR op_eq (pv 2) pe_int (nomark _)) (pv 3) (pe_ix ix_list (pe_fld (pv 0) rfl) (pv 1) (fun _ _=>rfl))))
  (pss_one (ps_ret (pe_tup (pa_cons pe_str (pa_cons (pv 1) (pa_cons (pe_op op_add (pv 1) (pe_op op_mul (pe_ix ix_tup (pe_fld (pv 0) rfl) pe_int (fun _ _=>rfl)) (pv 4))) pa_nil))))))))),?_⟩
  refine ⟨_,rfl,p,C,_,_,_,rfl,pa.ob,TP.cl,TP.nT,pfl_tally _ _,_,rfl,L.lt,_,_,_,rfl,rfl,SqL.of pa.ta,atI_int l0 (by walk_at"q"),?_⟩
  have hg:(st.tal.map V.int)[l.toNat]?=some (.int (st.tal.getD l.toNat 0)):=by
   rw [List.getElem?_map,getD_lt (show l.toNat<st.tal.length by walk_at"q")]
   rfl
  refine ⟨_,rfl,p,C,_,_,_,rfl,pa.ob,TP.cl,TP.nT,pfl_tally _ _,_,rfl,L.lt,_,l,_,rfl,rfl,SqL.of pa.ta,l0,hg,_,rfl,_,_,rfl,rfl,L.lt,_,l,l.toNat,rfl,rfl,pa.ta,ixN_of l0 (by rw [List.length_map];walk_at"q"),?_⟩
  rw [set_map]
  have pa1:PlayAt C (upd H L.lt (HO.lst ((st.tal.set l.toNat (st.tal.getD l.toNat 0+c)).map V.int))) p (.ref n) L (leaveM st l c):=by
   refine ⟨(upd_ne pa.nob.2.1).trans pa.ob,(upd_ne pa.ft).trans pa.fa,upd_same,?_,(upd_ne (Ne.symm pa.tc)).trans pa.ch,pa.ft,pa.fp,pa.fc,pa.tp,pa.tc,pa.pc⟩
   obtain ⟨rp,xp,hpl⟩:=pa.pl
   exact ⟨rp,(upd_ne (Ne.symm pa.tp)).trans xp,Paired.mapP hpl fun _ _ z=>z.kt (KT.lst pa.ta (KT.refl _))⟩
  have k1:KpL L H (upd H L.lt (HO.lst ((st.tal.set l.toNat (st.tal.getD l.toNat 0+c)).map V.int))):=fun b o e h1 h2 h3 h4=>(upd_ne h2).trans e
  generalize upd H L.lt (HO.lst ((st.tal.set l.toNat (st.tal.getD l.toNat 0+c)).map V.int))=H1 at pa1 k1
  have hn1:=(KpL.kt pa k1) _ _ hn
  have fin:∀ z:Int,l+wide*z=leaveN wide st l c→tRet (tTup (tCons (tC (.str "out")) (tCons (tVar 1) (tCons (tOp (rI0 fun i j=>V.int (i+j)) (tVar 1) (tOp (rI CMul fun i j=>V.int (i*j)) (tOp (rIxT K) (tFld K (tVar 0) "net") (tC (.int 0))) (tVar 4))) tNil)))) { nx:=fun _ H'=>Q .non H',rt:=Q } [some (.ref p),some (.int l),some (.int c),some (.int (st.tal.getD l.toNat 0)),some (.int z)] H1:=fun z hz=>by
   refine ⟨_,rfl,_,rfl,_,rfl,p,C,_,_,_,rfl,pa1.ob,TP.cl,TP.nN,pfl_net _ _,n,_,_,_,rfl,rfl,SqT.of hn1,rfl,_,rfl,_,_,rfl,rfl,.inl ⟨by walk_at"q", by walk_at"q"⟩,_,_,rfl,rfl,lenLine (by show 3≤100000;decide),fun t2 f2=>?_⟩
   refine q t2 _ (pa1.same (same_new f2 _)) (KpL.trans k1 (KpL.same (same_new f2 _))) ?_
   rw [upd_same,←hz]
   rfl
  refine ⟨_,rfl,rfl,_,rfl,?_⟩
  refine ite2 (fun g=>?_) (fun g=>?_)
  ·have g':=veq g
   refine ⟨_,rfl,?_⟩
   exact fin _ (by unfold leaveN;rw [if_pos g'])
  ·have g':=vne g
   have lt1:(leaveM st l c).tal.length=wide.toNat:=by
    show (st.tal.set _ _).length=_
    rw [List.length_set]
    exact tl
   refine ⟨_,rfl,p,C,_,_,_,rfl,pa1.ob,TP.cl,TP.nT,pfl_tally _ _,_,rfl,L.lt,_,_,_,rfl,rfl,SqL.of pa1.ta,atI_int l0 (by walk_at"q"),?_⟩
   refine fin _ ?_
   unfold leaveN
   rw [if_neg g']
   show l+wide*(st.tal.set l.toNat _).getD l.toNat 0=_
   rw [getD_set (by walk_at"q"),if_pos rfl]
theorem sc_Play_step:FnScope ["self", "walker", "place"] ["self", "walker"] (defScope s_Play_step):=⟨rfl,rfl,rfl,by decide +kernel,rfl,by decide +kernel,by decide +kernel⟩
theorem ok_Play_step {C:Addr} (T:Bn mg) (TP:PlayT K C) (F:HereM K mg C "step" "Play.step" s_Play_step f fd) (MPlay_where:MCal P w K mg base C "where" 2 ["self", "walker"] (spWhere C)) (MPlay_leave:MCal P w K mg base C "leave" 1 ["self", "lane", "change"] (spLeave C)) (MPlay_pass_wicket:MCal P w K mg base C "pass_wicket" 2 ["self", "wicket", "change"] (spPass C)):FnOk P w K mg base CX0 4 f fd ["self", "walker"] (spStep C):=by
 refine F.fn.ok sc_Play_step (fun vs H Q E h=>?_) (fun cdv A outer s H vs Q E hr h=>?_)
 ·obtain ⟨p,v,wide,ws,L,st,i,pl,rfl,_⟩:=h
  rfl
 ·obtain ⟨p,v,wide,ws,L,st,i,pl,rfl,net,pa,wf,hi,no,q⟩:=h
  have il:i<st.pla.length:=(List.getElem?_eq_some_iff.mp hi).1
  have cl:=wf.cl
  have psm:=wf.ps pl (List.mem_of_getElem? hi)
  refine ⟨_,(pss_cons (ps_set (i:=2) sc_Play_step.nd rfl (by walk_at"r") (pe_methC (pv 0) TP.cl MPlay_where (hr.mono (by walk_at"d")) (pa_cons (pv 1) pa_nil)))
  (pss_cons (ps_if (pt_cmpR op_eq (pe_ix ix_tup (pv 2) pe_int (fun _ _=>rfl)) pe_str (nomark _))
  (pss_one ps_never)
  pss_nil)
  (pss_cons (ps_if (pt_cmpR op_eq (pe_ix ix_tup (pv 2) pe_int (fun _ _=>rfl)) pe_str (nomark _))
  (pss_one (ps_asg (pe_methC (pv 0) TP.cl MPlay_leave (hr.mono (by walk_at"d")) (pa_cons (pe_ix ix_tup (pv 2) pe_int (fun _ _=>rfl)) (pa_cons (pe_ix ix_list (pe_fld (pv 0) rfl) (pv 1) (fun _ _=>rfl)) pa_nil))) (pg_sub (pe_fld (pv 0) rfl) (pv 1) set_list)))
  (pss_one (ps_asg (pe_methC (pv 0) TP.cl MPlay_pass_wicket (hr.mono (by walk_at"d")) (pa_cons (pe_ix ix_tup (pv 2) pe_int (fun _ _=>rfl)) (pa_cons (pe_ix ix_list (pe_fld (pv 0) rfl) (pv 1) (fun _ _=>rfl)) pa_nil))) (pg_sub (pe_fld (pv 0) rfl) (pv 1) set_list))))
  (pss_one (ps_ret (pe_ix ix_list (pe_fld (pv 0) rfl) (pv 1) (fun _ _=>rfl))))))),?_⟩
  refine ⟨_,rfl,p,_,_,rfl,pa.ob,pfl_no _ _ (by decide +kernel) (by decide +kernel) (by decide +kernel) (by decide +kernel) (by decide +kernel),_,rfl,p,v,L,st,i,pl,rfl,pa,hi,fun t ht=>?_⟩
  -- the new place is put
  have fin:∀ (st1:PlS) (t1:Addr) (H1:Hp),PlayAt C H1 p v L st1→KpL L H H1→st1.pla=st.pla→H1 t1=some (.tup (plV (stepP wide ws st i pl)))→stepS wide ws st i pl=putP st1 i (stepP wide ws st i pl) →
    (gSub (tFld K (tVar 0) "places") (tVar 1) rSetL) (.ref t1) [some (.ref p),some (.int i),some (.ref t)] H1 (fun σ2 H2=>tRet (tOp (rIxL K) (tFld K (tVar 0) "places") (tVar 1)) { nx:=fun _ H'=>Q .non H',rt:=Q } σ2 H2):=fun st1 t1 H1 pa1 k1 e1 x1 es=>by
   obtain ⟨rp,xp,hpl⟩:=pa1.pl
   have lrp:=Paired.length hpl
   rw [e1] at lrp
   refine ⟨_,rfl,p,C,_,_,_,rfl,pa1.ob,TP.cl,TP.nP,pfl_places _ _,_,rfl,L.lp,_,(i:Int),i,rfl,rfl,xp,by rw [ixN_of (by walk_at"q") (by walk_at"q"),Int.toNat_natCast],?_⟩
   have kt2:KT H1 (upd H1 L.lp (HO.lst (rp.set i (V.ref t1)))):=KT.lst xp (KT.refl _)
   have pa2:PlayAt C (upd H1 L.lp (HO.lst (rp.set i (V.ref t1)))) p v L (putP st1 i (stepP wide ws st i pl)):=by
    refine ⟨(upd_ne pa1.nob.2.2.1).trans pa1.ob,(upd_ne pa.fp).trans pa1.fa,(upd_ne pa.tp).trans pa1.ta,⟨_,upd_same,?_⟩,(upd_ne (Ne.symm pa.pc)).trans pa1.ch,pa.ft,pa.fp,pa.fc,pa.tp,pa.tc,pa.pc⟩
    exact Paired.setP ⟨t1,rfl,kt2 _ _ x1⟩ i (Paired.mapP hpl fun _ _ z=>z.kt kt2)
   have k2:KpL L H (upd H1 L.lp (HO.lst (rp.set i (V.ref t1)))):=KpL.trans k1 fun b o e h1 h2 h3 h4=>(upd_ne h3).trans e
   have x2:(upd H1 L.lp (HO.lst (rp.set i (V.ref t1)))) L.lp=some (.lst (rp.set i (.ref t1))):=upd_same
   have xt:=kt2 _ _ x1
   generalize upd H1 L.lp (HO.lst (rp.set i (V.ref t1)))=H2 at pa2 k2 x2 xt
   refine ⟨_,rfl,p,C,_,_,_,rfl,pa2.ob,TP.cl,TP.nP,pfl_places _ _,_,rfl,L.lp,_,_,_,rfl,rfl,SqL.of x2,atI_nat (show (rp.set i (V.ref t1))[i]?=some (V.ref t1) by simp [show i<rp.length by walk_at"q"]),?_⟩
   rw [←es] at pa2
   exact q t1 H2 pa2 k2 xt
  have hc:(st.chg.map V.int)[i]?=some (.int (st.chg.getD i 0)):=by
   rw [List.getElem?_map,getD_lt (show i<st.chg.length by walk_at"q")]
   rfl
  cases pl with
  |out l n=>exact absurd no (by simp [isOut])
  |exit l =>
   have ht':H t=some (.tup [.str "exit", .int l]):=ht
   refine ⟨_,rfl,t,_,_,_,rfl,rfl,SqT.of ht',rfl,rfl,_,rfl,iteFd (by decide) ?_⟩
   refine ⟨_,rfl,t,_,_,_,rfl,rfl,SqT.of ht',rfl,rfl,_,rfl,iteTd (by decide) ?_⟩
   refine ⟨_,rfl,p,_,_,rfl,pa.ob,pfl_no _ _ (by decide +kernel) (by decide +kernel) (by decide +kernel) (by decide +kernel) (by decide +kernel),_,rfl,t,_,_,_,rfl,rfl,SqT.of ht',rfl,?_⟩
   refine ⟨_,rfl,p,C,_,_,_,rfl,pa.ob,TP.cl,TP.nC,pfl_changes _ _,_,rfl,L.lc,_,_,_,rfl,rfl,SqL.of pa.ch,atI_nat hc,?_⟩
   refine ⟨p,v,wide,ws,L,st,l,st.chg.getD i 0,rfl,net,pa,wf.tl,psm.1,psm.2,fun t1 H1 pa1 k1 x1=>?_⟩
   exact fin _ t1 H1 pa1 k1 rfl x1 rfl
  |before k l =>
   have ht':H t=some (.tup [.str "before", .int k,.int l]):=ht
   refine ⟨_,rfl,t,_,_,_,rfl,rfl,SqT.of ht',rfl,rfl,_,rfl,iteFd (by decide) ?_⟩
   refine ⟨_,rfl,t,_,_,_,rfl,rfl,SqT.of ht',rfl,rfl,_,rfl,iteFd (by decide) ?_⟩
   refine ⟨_,rfl,p,_,_,rfl,pa.ob,pfl_no _ _ (by decide +kernel) (by decide +kernel) (by decide +kernel) (by decide +kernel) (by decide +kernel),_,rfl,t,_,_,_,rfl,rfl,SqT.of ht',rfl,?_⟩
   refine ⟨_,rfl,p,C,_,_,_,rfl,pa.ob,TP.cl,TP.nC,pfl_changes _ _,_,rfl,L.lc,_,_,_,rfl,rfl,SqL.of pa.ch,atI_nat hc,?_⟩
   refine ⟨p,v,wide,ws,L,st,k,st.chg.getD i 0,rfl,net,pa,wf.fl,psm.1,fun t1 H1 pa1 k1 x1=>?_⟩
   exact fin _ t1 H1 pa1 k1 rfl x1 rfl
theorem sc_Play_inside:FnScope ["self"] ["self"] (defScope s_Play_inside):=⟨rfl,rfl,rfl,by decide +kernel,rfl,by decide +kernel,by decide +kernel⟩
theorem ok_Play_inside {C:Addr} (T:Bn mg) (TP:PlayT K C) (F:HereM K mg C "inside" "Play.inside" s_Play_inside f fd):FnOk P w K mg base CX0 1 f fd ["self"] (spInside C):=by
 refine F.fn.ok sc_Play_inside (fun vs H Q E h=>?_) (fun cdv A outer s H vs Q E hr h=>?_)
 ·obtain ⟨p,v,L,st,rfl,_⟩:=h
  rfl
 ·obtain ⟨p,v,L,st,rfl,pa,ml,q⟩:=h
  obtain ⟨rp,xp,hpl⟩:=pa.pl
  have lrp:=Paired.length hpl
  refine ⟨_,(pss_one (ps_ret (pe_comp ["walker", "place"] [] rfl (pi_enumL rfl T.n_enumerate (pa_cons (pe_fld (pv 0) rfl) pa_nil)) (fun _ _ _ _ _ _=>by exact (pg_tupK K rfl (n:=2) rfl (pgs_cons (pg_name (i:=0) (show List.Nodup (["walker", "place"]:List Str) by decide +kernel) rfl (by walk_at"r")) (pgs_cons (pg_name (i:=1) (show List.Nodup (["walker", "place"]:List Str) by decide +kernel) rfl (by walk_at"r")) pgs_nil)))) (fun _ _ _ _ _ _=>by exact (pts_one (pt_cmpR op_ne (pe_ix (ix_tupK K rfl) (pv 1) pe_int (fun _ _=>rfl)) pe_str (nomark _)))) (fun _ _ _ _ _ _=>by exact (pv 0))))),?_⟩
  refine ⟨_,rfl,p,C,_,_,_,rfl,pa.ob,TP.cl,TP.nP,pfl_places _ _,L.lp,rfl,⟨_,SqL.of xp⟩,fun l fl=>?_⟩
  refine comp_enum (xs:=rp) (fun j ys Hc=>Same H Hc∧Hc l=some (.lst ys)∧ys=(insideM 0 (st.pla.take j)).map V.int) ⟨Same.put fl (Same.refl _),upd_same,rfl⟩ (lenLine (by walk_at"q"))
   (fun j ys Hc hj ⟨s1,e1,r1⟩=>⟨SqL.of (s1 _ _ xp),e1,by rw [r1,List.length_map];have:=insideM_len (st.pla.take j) 0;rw [List.length_take] at this;walk_at"q"⟩) ?_ ?_
  ·rintro j x T1 ys Hc hx fT ⟨s1,e1,rfl⟩
   have jl:j<rp.length:=(List.getElem?_eq_some_iff.mp hx).1
   have hj:st.pla[j]?=some st.pla[j]:=by simp [show j<st.pla.length by walk_at"q"]
   obtain ⟨r,hr0,t,rfl,ht⟩:=Paired.getP hpl hj
   rw [hx] at hr0
   cases hr0
   have sn:=insideM_snoc (st.pla.take j) st.pla[j] 0
   rw [←take_snoc hj,List.length_take,Nat.min_eq_left (by walk_at"q"),Nat.zero_add] at sn
   have s2:Same Hc (upd Hc T1 (HO.tup [V.int j,V.ref t])):=same_new fT _
   refine ⟨T1,_,rfl,SqT.of upd_same,rfl,?_⟩
   refine ⟨_,_,rfl,_,_,rfl,rfl,?_⟩
   refine ⟨⟨.inl rfl,.inl rfl,trivial⟩,?_⟩
   generalize upd Hc T1 (HO.tup [V.int j,V.ref t])=H2 at s2
   have e2:=s2 _ _ e1
   have ht2:=s2 _ _ (s1 _ _ ht)
   generalize st.pla[j]=pl at sn ht2
   cases pl with
   |before k l' =>
    refine ⟨_,rfl,t,_,_,_,rfl,rfl,SqT.of ht2,rfl,rfl,_,rfl,iteTd (by decide) ?_⟩
    refine ⟨_,rfl,e2,Same.put fl (Same.trans s1 s2),upd_same,?_⟩
    rw [sn,List.map_append]
    rfl
   |exit l' =>
    refine ⟨_,rfl,t,_,_,_,rfl,rfl,SqT.of ht2,rfl,rfl,_,rfl,iteTd (by decide) ?_⟩
    refine ⟨_,rfl,e2,Same.put fl (Same.trans s1 s2),upd_same,?_⟩
    rw [sn,List.map_append]
    rfl
   |out l' n' =>
    refine ⟨_,rfl,t,_,_,_,rfl,rfl,SqT.of ht2,rfl,rfl,_,rfl,iteFd (by decide) ?_⟩
    refine ⟨Same.trans s1 s2,e2,?_⟩
    rw [sn]
    show _=(insideM 0 (st.pla.take j)++[]).map V.int
    rw [List.append_nil]
  rintro ys Hc ⟨s1,e1,rfl⟩
  rw [lrp,List.take_length] at e1
  exact q l Hc fl s1 e1
theorem sc_Play_counts:FnScope ["self"] ["self"] (defScope s_Play_counts):=⟨rfl,rfl,rfl,by decide +kernel,rfl,by decide +kernel,by decide +kernel⟩
theorem ok_Play_counts {C:Addr} (T:Bn mg) (TP:PlayT K C) (F:HereM K mg C "counts" "Play.counts" s_Play_counts f fd):FnOk P w K mg base CX0 1 f fd ["self"] (spCountsP C):=by
 refine F.fn.ok sc_Play_counts (fun vs H Q E h=>?_) (fun cdv A outer s H vs Q E hr h=>?_)
 ·obtain ⟨p,v,L,st,rfl,_⟩:=h
  rfl
 ·obtain ⟨p,v,L,st,rfl,pa,q⟩:=h
  refine ⟨_,(pss_one (ps_ret (pe_callTy call_list_of rfl T.n_list boot_listT (pa_cons (pe_fld (pv 0) rfl) pa_nil)))),?_⟩
  refine ⟨_,rfl,p,C,_,_,_,rfl,pa.ob,TP.cl,TP.nT,pfl_tally _ _,L.lt,_,rfl,.inl (SqL.of pa.ta),fun l fl=>?_⟩
  exact q l _ fl (same_new fl _) upd_same
theorem sc_Play_standing:FnScope ["self", "found", "lane", "count"] ["self"] (defScope s_Play_standing):=⟨rfl,rfl,rfl,by decide +kernel,rfl,by decide +kernel,by decide +kernel⟩
theorem ok_Play_standing {C:Addr} (T:Bn mg) (TP:PlayT K C) (F:HereM K mg C "standing" "Play.standing" s_Play_standing f fd) (Cnumbers_of:Callee P w K mg base "numbers_of" 1 ["wide", "lane", "low", "high"] spNums):FnOk P w K mg base CX0 2 f fd ["self"] (spStandB C):=by
 refine F.fn.ok sc_Play_standing (fun vs H Q E h=>?_) (fun cdv A outer s H vs Q E hr h=>?_)
 ·obtain ⟨p,v,wide,ws,L,st,rfl,_⟩:=h
  rfl
 ·obtain ⟨p,v,wide,ws,L,st,rfl,net,pa,tl,few,q⟩:=h
  obtain ⟨n,tn,rns,rfl,hn,htn,hrs⟩:=id net.1
  have w1:=net.2.1
  have w8:=net.2.2.1
  refine ⟨_,(pss_cons (ps_set (i:=1) sc_Play_standing.nd rfl (by walk_at"r") (pe_lst pa_nil))
  (pss_cons (ps_for PassesOwn.never rfl  (pi_enumL rfl T.n_enumerate (pa_cons (pe_fld (pv 0) rfl) pa_nil)) (pg_tup rfl (pgs_cons (pg_name (i:=2) sc_Play_standing.nd rfl (by walk_at"r")) (pgs_cons (pg_name (i:=3) sc_Play_standing.nd rfl (by walk_at"r")) pgs_nil)))
  (pss_one (ps_expr (pe_bm PySem.F.plainAttrs_list PySem.F.slot_list_extend PySem.F.type_list_extend mt_extend (pv 1) (pa_cons (pe_callC Cnumbers_of (hr.mono (by walk_at"d")) rfl (pa_cons (pe_ix ix_tup (pe_fld (pv 0) rfl) pe_int (fun _ _=>rfl)) (pa_cons (pv 2) (pa_cons pe_int (pa_cons (pv 3) pa_nil))))) pa_nil)))))
  (pss_one (ps_ret (pe_callB call_sortedB rfl T.n_sorted PyProof.Rows.boot_sorted (pa_cons (pv 1) pa_nil)))))),?_⟩
  refine ⟨lenLine (by show 0≤100000;decide),fun lf ff=>?_⟩
  obtain ⟨H0,e_,s0,x0⟩:=nwz ff (HO.lst []);rw [←e_];clear e_
  have pa0:=pa.same s0
  refine ⟨_,rfl,p,C,_,_,_,rfl,pa0.ob,TP.cl,TP.nT,pfl_tally _ _,L.lt,rfl,⟨_,SqL.of pa0.ta⟩,?_⟩
  refine for_enum (xs:=st.tal.map V.int) (fun i σ Hc=>∃ v2 v3,σ=[some (.ref p),some (.ref lf),v2,v3]∧Same H Hc∧Hc lf=some (.lst ((standG wide 0 (st.tal.take i)).map V.int)))
   ⟨none,none,rfl,s0,x0⟩ (fun i σ Hc _ ⟨_,_,_,sc,_⟩=>SqL.of (sc _ _ pa.ta)) ?_ ?_
  ·rintro i x T1 σ Hc hx fT ⟨v2,v3,rfl,sc,xc⟩
   obtain ⟨z,hz,rfl⟩:=int_item hx
   have il:i<st.tal.length:=(List.getElem?_eq_some_iff.mp hz).1
   have bz:=absS_ge (t:=st.tal) i
   rw [List.getD_eq_getElem?_getD,hz,Option.getD_some] at bz
   have s1:Same Hc (upd Hc T1 (HO.tup [V.int i,V.int z])):=same_new fT _
   refine ⟨T1,_,rfl,SqT.of upd_same,rfl,?_⟩
   generalize upd Hc T1 (HO.tup [V.int i,V.int z])=H1 at s1
   refine ⟨_,_,rfl,_,_,rfl,rfl,?_⟩
   have sc1:=Same.trans sc s1
   have pa1:=pa.same sc1
   have ll:=standG_len wide 0 (st.tal.take i)
   have la:=absS_take st.tal i
   refine ⟨_,rfl,.inl ⟨rfl,_,SqL.of (s1 _ _ xc)⟩,?_⟩
   refine ⟨_,rfl,p,C,_,_,_,rfl,pa1.ob,TP.cl,TP.nN,pfl_net _ _,n,_,_,_,rfl,rfl,SqT.of (sc1 _ _ hn),rfl,_,rfl,_,rfl,wide,i,0,z,rfl,w1,w8,⟨⟨by walk_at"q", by walk_at"q"⟩,by walk_at"q", by walk_at"q"⟩,fun a H2 fa s2 xa=>?_⟩
   refine ⟨lf,a,_,_,rfl,rfl,s2 _ _ (s1 _ _ xc),xa,lenLine (by rw [List.length_map,List.length_map,numsM_len];walk_at"q"),?_⟩
   refine ⟨_,_,rfl,Same.put ff (Same.trans sc1 s2),?_⟩
   rw [upd_same,take_snoc hz,standG_snoc,List.map_append,List.length_take,Nat.min_eq_left (by walk_at"q"),Nat.zero_add,Int.sub_zero]
  ·rintro σ Hc ⟨v2,v3,rfl,sc,xc⟩
   rw [List.length_map,List.take_length] at xc
   have ll:=standG_len wide 0 st.tal
   refine ⟨_,rfl,lf,_,rfl,SqL.of xc,by walk_at"q", fun l ns' fl pm pw=>?_⟩
   exact q l ns' _ (sc.free fl) (Same.put (sc.free fl) sc) pm pw upd_same
theorem sc_Play_owed:FnScope ["self", "found", "lane", "count"] ["self"] (defScope s_Play_owed):=⟨rfl,rfl,rfl,by decide +kernel,rfl,by decide +kernel,by decide +kernel⟩
theorem ok_Play_owed {C:Addr} (T:Bn mg) (TP:PlayT K C) (F:HereM K mg C "owed" "Play.owed" s_Play_owed f fd) (Cnumbers_of:Callee P w K mg base "numbers_of" 1 ["wide", "lane", "low", "high"] spNums):FnOk P w K mg base CX0 2 f fd ["self"] (spOwedB C):=by
 refine F.fn.ok sc_Play_owed (fun vs H Q E h=>?_) (fun cdv A outer s H vs Q E hr h=>?_)
 ·obtain ⟨p,v,wide,ws,L,st,rfl,_⟩:=h
  rfl
 ·obtain ⟨p,v,wide,ws,L,st,rfl,net,pa,tl,few,q⟩:=h
  obtain ⟨n,tn,rns,rfl,hn,htn,hrs⟩:=id net.1
  have w1:=net.2.1
  have w8:=net.2.2.1
  refine ⟨_,(pss_cons (ps_set (i:=1) sc_Play_owed.nd rfl (by walk_at"r") (pe_lst pa_nil))
  (pss_cons (ps_for PassesOwn.never rfl  (pi_enumL rfl T.n_enumerate (pa_cons (pe_fld (pv 0) rfl) pa_nil)) (pg_tup rfl (pgs_cons (pg_name (i:=2) sc_Play_owed.nd rfl (by walk_at"r")) (pgs_cons (pg_name (i:=3) sc_Play_owed.nd rfl (by walk_at"r")) pgs_nil)))
  (pss_one (ps_expr (pe_bm PySem.F.plainAttrs_list PySem.F.slot_list_extend PySem.F.type_list_extend mt_extend (pv 1) (pa_cons (pe_callC Cnumbers_of (hr.mono (by walk_at"d")) rfl (pa_cons (pe_ix ix_tup (pe_fld (pv 0) rfl) pe_int (fun _ _=>rfl)) (pa_cons (pv 2) (pa_cons (pv 3) (pa_cons pe_int pa_nil))))) pa_nil)))))
  (pss_one (ps_ret (pe_callB call_sortedB rfl T.n_sorted PyProof.Rows.boot_sorted (pa_cons (pv 1) pa_nil)))))),?_⟩
  refine ⟨lenLine (by show 0≤100000;decide),fun lf ff=>?_⟩
  obtain ⟨H0,e_,s0,x0⟩:=nwz ff (HO.lst []);rw [←e_];clear e_
  have pa0:=pa.same s0
  refine ⟨_,rfl,p,C,_,_,_,rfl,pa0.ob,TP.cl,TP.nT,pfl_tally _ _,L.lt,rfl,⟨_,SqL.of pa0.ta⟩,?_⟩
  refine for_enum (xs:=st.tal.map V.int) (fun i σ Hc=>∃ v2 v3,σ=[some (.ref p),some (.ref lf),v2,v3]∧Same H Hc∧Hc lf=some (.lst ((owedG wide 0 (st.tal.take i)).map V.int)))
   ⟨none,none,rfl,s0,x0⟩ (fun i σ Hc _ ⟨_,_,_,sc,_⟩=>SqL.of (sc _ _ pa.ta)) ?_ ?_
  ·rintro i x T1 σ Hc hx fT ⟨v2,v3,rfl,sc,xc⟩
   obtain ⟨z,hz,rfl⟩:=int_item hx
   have il:i<st.tal.length:=(List.getElem?_eq_some_iff.mp hz).1
   have bz:=absS_ge (t:=st.tal) i
   rw [List.getD_eq_getElem?_getD,hz,Option.getD_some] at bz
   have s1:Same Hc (upd Hc T1 (HO.tup [V.int i,V.int z])):=same_new fT _
   refine ⟨T1,_,rfl,SqT.of upd_same,rfl,?_⟩
   generalize upd Hc T1 (HO.tup [V.int i,V.int z])=H1 at s1
   refine ⟨_,_,rfl,_,_,rfl,rfl,?_⟩
   have sc1:=Same.trans sc s1
   have pa1:=pa.same sc1
   have ll:=owedG_len wide 0 (st.tal.take i)
   have la:=absS_take st.tal i
   refine ⟨_,rfl,.inl ⟨rfl,_,SqL.of (s1 _ _ xc)⟩,?_⟩
   refine ⟨_,rfl,p,C,_,_,_,rfl,pa1.ob,TP.cl,TP.nN,pfl_net _ _,n,_,_,_,rfl,rfl,SqT.of (sc1 _ _ hn),rfl,_,rfl,_,rfl,wide,i,z,0,rfl,w1,w8,⟨⟨by walk_at"q", by walk_at"q"⟩,by walk_at"q", by walk_at"q"⟩,fun a H2 fa s2 xa=>?_⟩
   refine ⟨lf,a,_,_,rfl,rfl,s2 _ _ (s1 _ _ xc),xa,lenLine (by rw [List.length_map,List.length_map,numsM_len];walk_at"q"),?_⟩
   refine ⟨_,_,rfl,Same.put ff (Same.trans sc1 s2),?_⟩
   rw [upd_same,take_snoc hz,owedG_snoc,List.map_append,List.length_take,Nat.min_eq_left (by walk_at"q"),Nat.zero_add,Int.zero_sub]
  ·rintro σ Hc ⟨v2,v3,rfl,sc,xc⟩
   rw [List.length_map,List.take_length] at xc
   have ll:=owedG_len wide 0 st.tal
   refine ⟨_,rfl,lf,_,rfl,SqL.of xc,by walk_at"q", fun l ns' fl pm pw=>?_⟩
   exact q l ns' _ (sc.free fl) (Same.put (sc.free fl) sc) pm pw upd_same
theorem sc_Play_lacking:FnScope ["self", "wide", "greatest"] ["self"] (defScope s_Play_lacking):=⟨rfl,rfl,rfl,by decide +kernel,rfl,by decide +kernel,by decide +kernel⟩
theorem ok_Play_lacking {C:Addr} (T:Bn mg) (TP:PlayT K C) (F:HereM K mg C "lacking" "Play.lacking" s_Play_lacking f fd) (MPlay_standing:MCal P w K mg base C "standing" 2 ["self"] (spStandB C)):FnOk P w K mg base CX0 3 f fd ["self"] (spLackB C):=by
 refine F.fn.ok sc_Play_lacking (fun vs H Q E h=>?_) (fun cdv A outer s H vs Q E hr h=>?_)
 ·obtain ⟨p,v,wide,ws,L,st,rfl,_⟩:=h
  rfl
 ·obtain ⟨p,v,wide,ws,L,st,rfl,net,pa,tl,few,q⟩:=h
  obtain ⟨n,tn,rns,rfl,hn,htn,hrs⟩:=id net.1
  have w1:=net.2.1
  have w8:=net.2.2.1
  refine ⟨_,(pss_cons (ps_set (i:=1) sc_Play_lacking.nd rfl (by walk_at"r") (pe_ix ix_tup (pe_fld (pv 0) rfl) pe_int (fun _ _=>rfl)))
  (pss_cons (ps_set (i:=2) sc_Play_lacking.nd rfl (by walk_at"r") (pe_maxD rfl rfl T.n_max (pe_methC0 (pv 0) TP.cl MPlay_standing (hr.mono (by walk_at"d"))) pe_int))
  (pss_one (ps_ret (pe_comp ["number"] [("wide", 1),("self", 0)] rfl (pi_range1 rfl T.n_range (pa_cons (pv 2) pa_nil)) (fun _ _ _ _ _ _=>by exact (pg_name (i:=0) (show List.Nodup (["number", "wide", "self"]:List Str) by decide +kernel) rfl (by walk_at"r"))) (fun _ _ _ _ _ _=>by exact (pts_one (pt_cmpR op_ge (pe_op op_fdiv (pv 0) (pv 1)) (pe_ix (ix_listK K rfl) (pe_fldK K rfl (pv 2) rfl) (pe_op op_mod (pv 0) (pv 1)) (fun _ _=>rfl)) (nomark _)))) (fun _ _ _ _ _ _=>by exact (pv 0))))))),?_⟩
  refine ⟨_,rfl,p,C,_,_,_,rfl,pa.ob,TP.cl,TP.nN,pfl_net _ _,n,_,_,_,rfl,rfl,SqT.of hn,rfl,?_⟩
  dsimp only [gName]
  refine seq_gen (a:=tAsg _ _) fun N hN=>?_
  refine ⟨_,rfl,p,_,_,rfl,pa.ob,pfl_no _ _ (by decide +kernel) (by decide +kernel) (by decide +kernel) (by decide +kernel) (by decide +kernel),p,.ref n,wide,ws,L,st,rfl,net,pa,tl,few,fun a ns H1 fa s1 pm pw xa=>?_⟩
  have go:∀ g,IsGr wide st.tal g→N [some (.ref p),some (.int wide),some (.int g)] H1:=fun g hg=>hN _ _ (by
   have g0:=hg.nonneg
   have g6:=hg.ltB w1 w8 tl few
   refine ⟨_,rfl,_,rfl,by walk_at"q", by walk_at"q", fun l fl=>?_⟩
   refine comp_range (n:=g.toNat) (fun j ys Hd=>Same H1 Hd∧Hd l=some (.lst ys)∧ys=(lackM wide st.tal j).map V.int) ⟨Same.put fl (Same.refl _),upd_same,rfl⟩ (lenLine (by walk_at"q"))
    (fun j ys Hd ⟨s4,e4,e5⟩=>⟨e4,by rw [e5,List.length_map];exact lackM_len _ _ _⟩) ?_ ?_
   ·rintro j ys Hd hj ⟨s6,e6,rfl⟩
    have ej:(0:Int)+(j:Int)=(j:Int):=Int.zero_add _
    rw [ej]
    have m0:=Int.emod_nonneg (j:Int) (show wide≠0 by walk_at"q")
    have m1:=Int.emod_lt_of_pos (j:Int) (show 0<wide by walk_at"q")
    have pa6:=(pa.same s1).same s6
    refine ⟨⟨.inl rfl,.inr rfl,.inr rfl,trivial⟩,?_⟩
    refine ⟨_,rfl,_,rfl,_,_,rfl,rfl,⟨by walk_at"q", by walk_at"q"⟩,_,rfl,p,C,_,_,_,rfl,pa6.ob,TP.cl,TP.nT,pfl_tally _ _,_,rfl,_,rfl,_,_,rfl,rfl,by walk_at"q", L.lt,_,_,_,rfl,rfl,SqL.of pa6.ta,atI_int m0 (by walk_at"q"),_,_,rfl,rfl,_,rfl,?_⟩
    refine ite2 (fun g=>?_) (fun g=>?_)
    ·refine ⟨_,rfl,e6,Same.put fl s6,upd_same,?_⟩
     have g':=of_decide_eq_true g
     rw [lackM_succ,if_pos g',List.map_append]
     rfl
    ·refine ⟨s6,e6,?_⟩
     have g':=not_dec g
     rw [lackM_succ,if_neg g',List.append_nil]
   ·rintro ys H2 ⟨s2,e2,rfl⟩
    exact q l g H2 (s1.free fl) (Same.trans s1 s2) hg e2)
  exact ⟨a,ns,rfl,SqL.of xa,fun e=>go 0 (isGr_none pm e),fun m im=>go m (isGr_max w1 pm im)⟩
theorem sc_Play_rest:FnScope ["self", "walker"] ["self"] (defScope s_Play_rest):=⟨rfl,rfl,rfl,by decide +kernel,rfl,by decide +kernel,by decide +kernel⟩
theorem ok_Play_rest {C:Addr} (T:Bn mg) (TP:PlayT K C) (F:HereM K mg C "rest" "Play.rest" s_Play_rest f fd) (MPlay_inside:MCal P w K mg base C "inside" 1 ["self"] (spInside C)) (MPlay_step:MCal P w K mg base C "step" 4 ["self", "walker"] (spStep C)):FnOk P w K mg base CX0 5 f fd ["self"] (spRest C):=by
 refine F.fn.ok sc_Play_rest (fun vs H Q E h=>?_) (fun cdv A outer s H vs Q E hr h=>?_)
 ·obtain ⟨p,v,wide,ws,L,st,rfl,_⟩:=h
  rfl
 ·obtain ⟨p,v,wide,ws,L,st,rfl,net,pa,wf,q⟩:=h
  have ok:=net.2.2.2.1
  have ml:=wf.ml
  have nom:∀ (m:Str),(¬ m = "changes")→(¬ m = "places")→(¬ m = "tally")→(¬ m = "facing")→(¬ m = "net")→(pfl v L).lookup m=none:=fun m=>pfl_no _ _
  refine ⟨_,(pss_one (ps_for PassesOwn.never rfl  (pi_list (pe_methC0 (pv 0) TP.cl MPlay_inside (hr.mono (by walk_at"d")))) (pg_name (i:=1) sc_Play_rest.nd rfl (by walk_at"r"))
  (pss_one (ps_while PassesOwn.never  (pt_cmpR op_ne (pe_ix ix_tup (pe_ix ix_list (pe_fld (pv 0) rfl) (pv 1) (fun _ _=>rfl)) pe_int (fun _ _=>rfl)) pe_str (nomark _))
  (pss_one (ps_expr (pe_methC (pv 0) TP.cl MPlay_step (hr.mono (by walk_at"d")) (pa_cons (pv 1) pa_nil)))))))),?_⟩
  refine ⟨_,rfl,p,_,_,rfl,pa.ob,nom _ (by decide +kernel) (by decide +kernel) (by decide +kernel) (by decide +kernel) (by decide +kernel),p,v,L,st,rfl,pa,by walk_at"q", fun li H1 fli s1 xli=>?_⟩
  obtain ⟨rp0,xp0,_⟩:=pa.pl
  have lnf:li≠L.lf:=Ne.symm (ne_of_none pa.fa fli)
  have lnt:li≠L.lt:=Ne.symm (ne_of_none pa.ta fli)
  have lnp:li≠L.lp:=Ne.symm (ne_of_none xp0 fli)
  have lnc:li≠L.lc:=Ne.symm (ne_of_none pa.ch fli)
  refine ⟨li,rfl,⟨_,SqL.of xli⟩,for_list (K:=K) (a:=li) (xs:=(insideM 0 st.pla).map V.int) (fun i σ Hc=>∃ (v1:Option V) (stc:PlS),σ=[some (.ref p),v1]∧PlayAt C Hc p v L stc∧Wf wide ws stc∧KpL L H Hc∧Hc li=some (.lst ((insideM 0 st.pla).map V.int))∧stc.pla.length=st.pla.length∧∀ st',Rest wide ws ((insideM 0 st.pla).drop i) stc st'→Rest wide ws (insideM 0 st.pla) st st')
   ⟨none,st,rfl,pa.same s1,wf,KpL.same s1,xli,rfl,fun st' h=>h⟩ (fun i σ Hc _ ⟨_,_,_,_,_,_,xl,_⟩=>SqL.of xl) ?_ ?_⟩
  ·rintro i x σ Hc hx ⟨v1,stc,rfl,paC,wfC,kC,xlC,lenC,rst⟩
   obtain ⟨z,hz,rfl⟩:=int_item hx
   obtain ⟨j,pl,ez,hj,no⟩:=insideM_mem st.pla 0 (List.mem_of_getElem? hz)
   rw [Nat.zero_add] at ez
   subst ez
   have jl:j<st.pla.length:=(List.getElem?_eq_some_iff.mp hj).1
   have hd:(insideM 0 st.pla).drop i=(j:Int)::(insideM 0 st.pla).drop (i+1):=by
    obtain ⟨il,ei⟩:=List.getElem?_eq_some_iff.mp hz
    rw [←ei]
    exact List.drop_eq_getElem_cons il
   have hj':stc.pla[j]?=some (stc.pla[j]'(by walk_at"q")):=by simp [show j<stc.pla.length by walk_at"q"]
   refine while_m (fun m σ Hd=>∃ (std:PlS) (pl:Place),σ=[some (.ref p),some (.int j)]∧PlayAt C Hd p v L std∧Wf wide ws std∧KpL L H Hd∧Hd li=some (.lst ((insideM 0 st.pla).map V.int))∧std.pla.length=st.pla.length∧std.pla[j]?=some pl∧m=muPl ws.length pl∧∀ st',Run wide ws j std st'→Run wide ws j stc st')
    _ ⟨stc,_,rfl,paC,wfC,kC,xlC,lenC,hj',rfl,fun st' h=>h⟩ ?_ ?_
   ·rintro m σ Hd ⟨std,pl,rfl,paD,wfD,kD,xlD,lenD,hjD,rfl,run⟩
    obtain ⟨rp,xp,hp⟩:=paD.pl
    obtain ⟨r,hr0,t,rfl,ht⟩:=Paired.getP hp hjD
    have ktD:KT H Hd:=KpL.kt pa kD
    by_cases o:isOut pl=true
    ·cases pl with
     |before k' l'=>exact absurd o (by simp [isOut])
     |exit l'=>exact absurd o (by simp [isOut])
     |out l' n' =>
      refine ⟨_,rfl,p,C,_,_,_,rfl,paD.ob,TP.cl,TP.nP,pfl_places _ _,_,rfl,L.lp,_,_,_,rfl,rfl,SqL.of xp,atI_nat hr0,t,_,_,_,rfl,rfl,SqT.of ht,rfl,rfl,_,rfl,iteFd (by decide) ?_⟩
      refine ⟨_,std,rfl,paD,wfD,kD,xlD,lenD,fun st' h=>rst st' ?_⟩
      rw [hd]
      exact .cons (run _ (.done hjD o)) h
    ·have no':isOut pl=false:=by simpa using o
     have tst:∀ {R:Bool→Hp→Prop},R true Hd→tTest (tOp rNe (tOp (rIxT K) (tOp (rIxL K) (tFld K (tVar 0) "places") (tVar 1)) (tC (V.int 0))) (tC (V.str "out"))) [some (.ref p),some (.int j)] Hd R:=fun hR=>by
      cases pl with
      |out l' n'=>exact absurd no' (by simp [isOut])
      |before k' l'=>exact ⟨_,rfl,p,C,_,_,_,rfl,paD.ob,TP.cl,TP.nP,pfl_places _ _,_,rfl,L.lp,_,_,_,rfl,rfl,SqL.of xp,atI_nat hr0,t,_,_,_,rfl,rfl,SqT.of ht,rfl,rfl,_,rfl,hR⟩
      |exit l'=>exact ⟨_,rfl,p,C,_,_,_,rfl,paD.ob,TP.cl,TP.nP,pfl_places _ _,_,rfl,L.lp,_,_,_,rfl,rfl,SqL.of xp,atI_nat hr0,t,_,_,_,rfl,rfl,SqT.of ht,rfl,rfl,_,rfl,hR⟩
     refine tst (iteTd rfl ?_)
     refine ⟨_,rfl,p,_,_,rfl,paD.ob,nom _ (by decide +kernel) (by decide +kernel) (by decide +kernel) (by decide +kernel) (by decide +kernel),_,rfl,p,v,wide,ws,L,std,j,pl,rfl,net.kt ktD,paD,wfD,hjD,no',fun t5 H5 pa5 k5 x5=>?_⟩
     refine ⟨_,muPl_step wfD hjD no',_,_,rfl,pa5,step_wf ok wfD hjD,KpL.trans kD k5,k5 _ _ xlD lnf lnt lnp lnc,by rw [step_len];exact lenD,step_at hjD,rfl,fun st' h=>run st' (.more hjD no' h)⟩
   ·rintro σ Hd Q' Q'' hq h
    obtain ⟨y,f0,a1,b1,c1,d1,e1,f1,f2,f3,f4,f5,y2,f6,a2,b2,c2,d2,g1,g2,g3,g4,a3,b3,c3,d3,g5,g6,g7,g8,g9,k',m1,h2⟩:=h
    exact ⟨y,f0,a1,b1,c1,d1,e1,f1,f2,f3,f4,f5,y2,f6,a2,b2,c2,d2,g1,g2,g3,g4,a3,b3,c3,d3,g5,g6,g7,g8,g9,k',m1,hq _ _ h2⟩
  ·rintro σ Hc ⟨v1,stc,rfl,paC,wfC,kC,xlC,lenC,rst⟩
   rw [List.length_map,List.drop_length] at rst
   exact q stc Hc (rst _ .nil) paC kC
theorem sc_refuse_unless_halved:FnScope ["wide"] ["wide"] (defScope s_refuse_unless_halved):=⟨rfl,rfl,rfl,by decide +kernel,rfl,by decide +kernel,by decide +kernel⟩
theorem ok_refuse_unless_halved {an:Addr} (T:Bn mg) (F:Here K mg "refuse_unless_halved" s_refuse_unless_halved f fd) (ER:NoNetT K mg an) (GH:HalvT K mg) (Cis_wholeS:Callee P w K mg base "is_whole" 1 ["thing"] spWholeG):FnOk P w K mg base (CX1 P w) 2 f fd ["wide"] (spRefuse an):=by
 have Cis_whole:=Cis_wholeS
 obtain ⟨ah,hm_HALVED_WIDES,sq⟩:=GH.ex
 refine F.fn.okE sc_refuse_unless_halved (fun vs H Q E h=>?_) (fun cdv A outer s H vs Q E hr h=>?_)
 ·obtain ⟨x,rfl,_⟩:=h
  rfl
 ·obtain ⟨x,rfl,h⟩:=h
  refine ⟨_,(pss_one (ps_if (PW.pt (pw_or (pt_not (pt_val (pe_callC Cis_whole (hr.mono (by walk_at"d")) rfl (pa_cons (pv 0) pa_nil)))) (pw_or1 (pt_cmpR op_notIn_seq (pv 0) (pe_glob (v:=V.ref _) rfl hm_HALVED_WIDES rfl) (by with_unfolding_all rfl)))))
  (pss_one (ps_raise ER.q_NoNet rfl ER.at_NoNet (pa_cons pe_str pa_nil)))
  pss_nil)),?_⟩
  have int:∀ i:Int,x=.int i→inV (.int i) [V.int 1,V.int 2,V.int 4,V.int 8]=decide (halved i):=fun i _=>by
   rw [Bool.eq_iff_iff,decide_eq_true_iff]
   unfold halved
   simp only [inV,eqV,List.any_cons,List.any_nil,Bool.or_false,Bool.or_eq_true,beq_iff_eq]
   walk_at"q"
  rcases h with ⟨i,rfl,hi,q⟩|⟨o|⟨i,rfl,hi⟩,q⟩
  ·refine ⟨_,rfl,_,rfl,.inl ⟨i,rfl,?_⟩⟩
   refine ⟨_,rfl,iteFd (by decide) ?_⟩
   refine ⟨_,rfl,ah,_,rfl,.inr (sq H),rfl,rfl,_,rfl,iteFd ?_ q⟩
   show ¬ (!inV (.int i) [V.int 1,V.int 2,V.int 4,V.int 8])=true
   rw [int i rfl,decide_eq_true hi]
   decide
  ·refine ⟨_,rfl,_,rfl,.inr ⟨o,?_⟩⟩
   refine ⟨_,rfl,iteTd (by decide) ?_⟩
   exact ⟨by show 1≤1000;decide,q⟩
  ·refine ⟨_,rfl,_,rfl,.inl ⟨i,rfl,?_⟩⟩
   refine ⟨_,rfl,iteFd (by decide) ?_⟩
   refine ⟨_,rfl,ah,_,rfl,.inr (sq H),rfl,rfl,_,rfl,iteTd ?_ ?_⟩
   ·show (!inV (.int i) [V.int 1,V.int 2,V.int 4,V.int 8])=true
    rw [int i rfl,decide_eq_false hi]
    rfl
   ·exact ⟨by show 1≤1000;decide,q⟩
theorem sc_in_both_halves:FnScope ["wickets", "half"] ["wickets", "half"] (defScope s_in_both_halves):=⟨rfl,rfl,rfl,by decide +kernel,rfl,by decide +kernel,by decide +kernel⟩
theorem ok_in_both_halves (T:Bn mg) (F:Here K mg "in_both_halves" s_in_both_halves f fd):FnOk P w K mg base CX0 1 f fd ["wickets", "half"] spHalvesS:=by
 refine F.fn.ok sc_in_both_halves (fun vs H Q E h=>?_) (fun cdv A outer s H vs Q E hr h=>?_)
 ·obtain ⟨l,ws,k,rfl,_⟩:=h
  rfl
 ·obtain ⟨l,ws,k,rfl,⟨rs,hl,hrs⟩,len,q⟩:=h
  have lrs:=hrs.len
  refine ⟨_,(pss_one (ps_ret (pe_op op_cat (pe_callTy call_list_of rfl T.n_list boot_listT (pa_cons (pv 0) pa_nil)) (pe_comp ["first", "second"] [("half", 1)] rfl (pi_or (pi_list (pv 0)) (pi_tup (pv 0))) (fun _ _ _ _ _ _=>by exact (pg_tupK K rfl (n:=2) rfl (pgs_cons (pg_name (i:=0) (show List.Nodup (["first", "second", "half"]:List Str) by decide +kernel) rfl (by walk_at"r")) (pgs_cons (pg_name (i:=1) (show List.Nodup (["first", "second", "half"]:List Str) by decide +kernel) rfl (by walk_at"r")) pgs_nil)))) (fun _ _ _ _ _ _=>by exact pts_nil) (fun _ _ _ _ _ _=>by exact (pe_tup (pa_cons (pe_op op_add (pv 0) (pv 2)) (pa_cons (pe_op op_add (pv 1) (pv 2)) pa_nil)))))))),?_⟩
  refine ⟨_,rfl,l,_,rfl,hl.imp SqL.of SqT.of,fun l1 f1=>?_⟩
  obtain ⟨H1,e_,s1,x1⟩:=nwz f1 (HO.lst rs);rw [←e_];clear e_
  have step:∀ (lc:Addr) (i:Nat) (x:V) (ys:List V) (Hc:Hp),H1 lc=none→rs[i]?=some x→Same H1 Hc→Hc lc=some (.lst ys)→Refs Hc ys ((ws.take i).map (lift k))→∃ t0 a0 b0,x=.ref t0∧Hc t0=some (.tup [.int a0,.int b0])∧∀ u,Hc u=none→(upd Hc u (.tup [.int (a0+k),.int (b0+k)])) lc=some (.lst ys)∧Same H1 (upd (upd Hc u (.tup [.int (a0+k),.int (b0+k)])) lc (.lst (ys++[.ref u])))∧Refs (upd (upd Hc u (.tup [.int (a0+k),.int (b0+k)])) lc (.lst (ys++[.ref u]))) (ys++[.ref u]) ((ws.take (i+1)).map (lift k)):=fun lc i x ys Hc fc hx sc e1 r1=>by
   obtain ⟨w0,t0,hw0,rfl,ht0⟩:=hrs.get hx
   refine ⟨t0,w0.1,w0.2,rfl,sc _ _ (s1 _ _ ht0),fun u fu=>?_⟩
   obtain ⟨H3,e_,s3,x3⟩:=nwz fu (HO.tup [V.int (w0.1+k),V.int (w0.2+k)]);rw [←e_];clear e_
   have e3:=s3 _ _ e1
   refine ⟨e3,Same.put fc (Same.trans sc s3),?_⟩
   rw [take_snoc hw0,List.map_append]
   have k4:KT H3 (upd H3 lc (HO.lst (ys++[V.ref u]))):=KT.lst e3 (KT.refl _)
   exact ((r1.same s3).kt k4).app (.cons ⟨u,rfl,k4 _ _ x3⟩ .nil)
  have last:∀ (lc:Addr) (ys:List V) (Hc:Hp),Same H1 Hc→Refs Hc ys ((ws.take rs.length).map (lift k))→∀ lo,Hc lo=none→Q (.ref lo) (upd Hc lo (.lst (rs++ys))):=fun lc ys Hc sc r1 lo fo=>by
   rw [lrs,List.take_length] at r1
   have s0c:=Same.trans s1 sc
   have s5:Same Hc (upd Hc lo (HO.lst (rs++ys))):=same_new fo _
   exact q lo _ (s0c.free fo) (Same.trans s0c s5) ⟨_,upd_same,((hrs.same s0c).app r1).same s5⟩
  rcases hl with hl|hl
  ·refine .inl ⟨_,rfl,l,rfl,⟨_,SqL.of (s1 _ _ hl)⟩,fun lc fc=>?_⟩
   refine comp_list (xs:=rs) (fun i ys Hc=>Same H1 Hc∧Hc lc=some (.lst ys)∧ys.length≤i∧Refs Hc ys ((ws.take i).map (lift k))) ⟨Same.put fc (Same.refl H1),upd_same,Nat.zero_le _,.nil⟩ (lenLine (by walk_at"q")) (fun i ys Hc hi ⟨sc,e1,l1,r1⟩=>⟨SqL.of (sc _ _ (s1 _ _ hl)),e1,l1⟩) ?_ ?_
   ·rintro i x ys Hc hx ⟨sc,e1,ly,r1⟩
    obtain ⟨t0,a0,b0,rfl,htc,go⟩:=step lc i x ys Hc fc hx sc e1 r1
    refine ⟨t0,_,rfl,SqT.of htc,rfl,?_⟩
    refine ⟨_,_,rfl,_,_,rfl,rfl,?_⟩
    refine ⟨⟨.inl rfl,.inl rfl,.inr rfl,trivial⟩,tru_if ?_⟩
    refine ⟨_,rfl,_,rfl,_,_,rfl,rfl,_,rfl,_,rfl,_,_,rfl,rfl,lenLine (by show 2≤100000;decide),fun u fu=>?_⟩
    obtain ⟨g2,g3,g4⟩:=go u fu
    exact ⟨g2,g3,upd_same,by rw [List.length_append];simp;walk_at"q", g4⟩
   ·rintro ys Hc ⟨sc,e1,ly,r1⟩
    have ll:=r1.len
    rw [List.length_map,List.length_take] at ll
    exact ⟨l1,lc,_,_,rfl,rfl,sc _ _ x1,e1,lenLine (by walk_at"q"),last lc ys Hc sc r1⟩
  ·refine .inr ⟨_,rfl,l,rfl,⟨_,SqT.of (s1 _ _ hl)⟩,fun lc fc=>?_⟩
   refine comp_tup (xs:=rs) (fun i ys Hc=>Same H1 Hc∧Hc lc=some (.lst ys)∧ys.length≤i∧Refs Hc ys ((ws.take i).map (lift k))) ⟨Same.put fc (Same.refl H1),upd_same,Nat.zero_le _,.nil⟩ (lenLine (by walk_at"q")) (fun i ys Hc hi ⟨sc,e1,l1,r1⟩=>⟨SqT.of (sc _ _ (s1 _ _ hl)),e1,l1⟩) ?_ ?_
   ·rintro i x ys Hc hx ⟨sc,e1,ly,r1⟩
    obtain ⟨t0,a0,b0,rfl,htc,go⟩:=step lc i x ys Hc fc hx sc e1 r1
    refine ⟨t0,_,rfl,SqT.of htc,rfl,?_⟩
    refine ⟨_,_,rfl,_,_,rfl,rfl,?_⟩
    refine ⟨⟨.inl rfl,.inl rfl,.inr rfl,trivial⟩,tru_if ?_⟩
    refine ⟨_,rfl,_,rfl,_,_,rfl,rfl,_,rfl,_,rfl,_,_,rfl,rfl,lenLine (by show 2≤100000;decide),fun u fu=>?_⟩
    obtain ⟨g2,g3,g4⟩:=go u fu
    exact ⟨g2,g3,upd_same,by rw [List.length_append];simp;walk_at"q", g4⟩
   ·rintro ys Hc ⟨sc,e1,ly,r1⟩
    have ll:=r1.len
    rw [List.length_map,List.length_take] at ll
    exact ⟨l1,lc,_,_,rfl,rfl,sc _ _ x1,e1,lenLine (by walk_at"q"),last lc ys Hc sc r1⟩
theorem sc_across:FnScope ["wide"] ["wide"] (defScope s_across):=⟨rfl,rfl,rfl,by decide +kernel,rfl,by decide +kernel,by decide +kernel⟩
theorem ok_across (T:Bn mg) (F:Here K mg "across" s_across f fd):FnOk P w K mg base CX0 1 f fd ["wide"] spAcross:=by
 refine F.fn.ok sc_across (fun vs H Q E h=>?_) (fun cdv A outer s H vs Q E hr h=>?_)
 ·obtain ⟨wide,rfl,_⟩:=h
  rfl
 ·obtain ⟨wide,rfl,w1,w8,q⟩:=h
  refine ⟨_,(pss_one (ps_ret (pe_comp ["lane"] [("wide", 0)] rfl (pi_range1 rfl T.n_range (pa_cons (pe_op op_fdiv (pv 0) pe_int) pa_nil)) (fun _ _ _ _ _ _=>by exact (pg_name (i:=0) (show List.Nodup (["lane", "wide"]:List Str) by decide +kernel) rfl (by walk_at"r"))) (fun _ _ _ _ _ _=>by exact pts_nil) (fun _ _ _ _ _ _=>by exact (pe_tup (pa_cons (pv 0) (pa_cons (pe_op op_sub (pe_op op_sub (pv 1) pe_int) (pv 0)) pa_nil))))))),?_⟩
  refine ⟨_,rfl,_,_,rfl,rfl,⟨by decide,by decide⟩,?_⟩
  refine ⟨_,rfl,by walk_at"q", by walk_at"q", fun lc fc=>?_⟩
  refine comp_range (n:=(wide / 2).toNat) (fun i ys Hc=>Same H Hc∧Hc lc=some (.lst ys)∧ys.length≤i∧Refs Hc ys ((List.range i).map fun k:Nat=>((k:Int),wide-1-(k:Int)))) ⟨Same.put fc (Same.refl H),upd_same,Nat.zero_le _,.nil⟩ (lenLine (by walk_at"q")) (fun i ys Hc ⟨_,e,l,_⟩=>⟨e,l⟩) ?_ ?_
  ·rintro i ys Hc hi ⟨sc,e1,ly,r1⟩
   refine ⟨⟨.inl rfl,.inr rfl,trivial⟩,tru_if ?_⟩
   refine ⟨_,rfl,_,rfl,_,_,rfl,rfl,_,rfl,_,_,rfl,rfl,lenLine (by show 2≤100000;decide),fun u fu=>?_⟩
   obtain ⟨H3,e_,s3,x3⟩:=nwz fu (HO.tup [V.int (0+(i:Int)),V.int (wide-1-(0+(i:Int)))]);rw [←e_];clear e_
   have e3:=s3 _ _ e1
   refine ⟨e3,Same.put fc (Same.trans sc s3),upd_same,by rw [List.length_append];simp;walk_at"q", ?_⟩
   rw [List.range_succ,List.map_append]
   have k4:KT H3 (upd H3 lc (HO.lst (ys++[V.ref u]))):=KT.lst e3 (KT.refl _)
   rw [Int.zero_add] at x3
   exact ((r1.same s3).kt k4).app (.cons ⟨u,rfl,k4 _ _ x3⟩ .nil)
  ·rintro ys Hc ⟨sc,e1,ly,r1⟩
   exact q lc Hc fc sc ⟨ys,e1,r1⟩
theorem sc_by_falling_gaps:FnScope ["wide", "wickets", "gap"] ["wide"] (defScope s_by_falling_gaps):=⟨rfl,rfl,rfl,by decide +kernel,rfl,by decide +kernel,by decide +kernel⟩
theorem ok_by_falling_gaps (T:Bn mg) (F:Here K mg "by_falling_gaps" s_by_falling_gaps f fd):FnOk P w K mg base CX0 1 f fd ["wide"] spGaps:=by
 refine F.fn.ok sc_by_falling_gaps (fun vs H Q E h=>?_) (fun cdv A outer s H vs Q E hr h=>?_)
 ·obtain ⟨k,rfl,_⟩:=h
  rfl
 ·obtain ⟨k,rfl,k2,q⟩:=h
  have p1:=pw_pos k
  have ps:=pw_succ k
  have p8:=pw_le (k:=k+1) (by walk_at"q")
  refine ⟨_,(pss_cons (ps_set (i:=1) sc_by_falling_gaps.nd rfl (by walk_at"r") (pe_lst pa_nil))
  (pss_cons (ps_set (i:=2) sc_by_falling_gaps.nd rfl (by walk_at"r") (pe_op op_fdiv (pv 0) pe_int))
  (pss_cons (ps_while PassesOwn.never  (pt_cmpR op_gt (pv 2) pe_int (nomark _))
  (pss_cons (ps_expr (pe_bm PySem.F.plainAttrs_list PySem.F.slot_list_extend PySem.F.type_list_extend mt_extend (pv 1) (pa_cons (pe_comp ["lane"] [("gap", 2)] rfl (pi_range1 rfl T.n_range (pa_cons (pv 0) pa_nil)) (fun _ _ _ _ _ _=>by exact (pg_name (i:=0) (show List.Nodup (["lane", "gap"]:List Str) by decide +kernel) rfl (by walk_at"r"))) (fun _ _ _ _ _ _=>by exact (pts_one (pt_cmpR op_eq (pe_op op_mod (pe_op op_fdiv (pv 0) (pv 1)) pe_int) pe_int (nomark _)))) (fun _ _ _ _ _ _=>by exact (pe_tup (pa_cons (pv 0) (pa_cons (pe_op op_add (pv 0) (pv 1)) pa_nil))))) pa_nil)))
  (pss_one (ps_aug (i:=2) sc_by_falling_gaps.nd rfl (by walk_at"r") pe_int ip_fdiv))))
  (pss_one (ps_ret (pv 1)))))),?_⟩
  refine ⟨lenLine (by show 0≤100000;decide),fun l fl=>?_⟩
  obtain ⟨H1,e_,s1,x1⟩:=nwz fl (HO.lst []);rw [←e_];clear e_
  refine ⟨_,rfl,_,_,rfl,rfl,⟨by decide,by decide⟩,?_⟩
  have e4:pw (k+1) / 4=pw k / 2:=by walk_at"q"
  dsimp only
  rw [e4]
  refine while_m (fun m σ Hw=>∃ (ws:List (Int×Int)) (rs:List V),m≤k∧σ=[some (.int (pw (k+1))),some (.ref l),some (.int (pw m / 2))]∧Same H Hw∧Hw l=some (.lst rs)∧Refs Hw rs ws∧ws++gapsM m (pw (k+1))=gapsM k (pw (k+1))∧ws.length+m*8≤16) k
   ⟨[],[],Nat.le_refl _,rfl,s1,x1,.nil,rfl,by show 0+k*8≤16;walk_at"q"⟩ ?_ ?_
  ·rintro m σ Hw ⟨ws,rs,mk,rfl,sw,xw,rw',ew,lw16⟩
   have lw:=rw'.len
   refine ⟨_,rfl,_,_,rfl,rfl,_,rfl,?_⟩
   cases m with
   |zero =>
    refine iteFd (by decide) ?_
    refine ⟨_,rfl,?_⟩
    have e0:ws=gapsM k (pw (k+1)):=by rw [←ew];exact (List.append_nil ws).symm
    rw [e0] at rw'
    exact q l Hw fl sw ⟨rs,xw,rw'⟩
   |succ m =>
    have pm:=pw_succ m
    have pmp:=pw_pos m
    have pm8:=pw_le (k:=m) (by walk_at"q")
    have eg:pw (m+1) / 2=pw m:=by walk_at"q"
    rw [eg]
    refine iteTd (decide_eq_true (show (0:Int)<pw m by walk_at"q")) ?_
    refine ⟨_,rfl,.inl ⟨rfl,_,SqL.of xw⟩,?_⟩
    refine ⟨_,rfl,_,rfl,by walk_at"q", by walk_at"q", fun lg fg=>?_⟩
    refine comp_range (n:=(pw (k+1)).toNat) (fun j zs Hd=>Same Hw Hd∧Hd lg=some (.lst zs)∧zs.length≤j∧Refs Hd zs (((List.range j).filter fun i:Nat=>decide ((i:Int) / pw m % 2=0)).map fun i:Nat=>((i:Int),(i:Int)+pw m))) ⟨Same.put fg (Same.refl Hw),upd_same,Nat.zero_le _,.nil⟩ (lenLine (by walk_at"q")) (fun j zs Hd ⟨_,e,lz,_⟩=>⟨e,lz⟩) ?_ ?_
    ·rintro j zs Hd hj ⟨sd,e2,lz,r2⟩
     refine ⟨⟨.inl rfl,.inr rfl,trivial⟩,?_⟩
     refine ⟨_,rfl,_,rfl,_,_,rfl,rfl,⟨by walk_at"q", by walk_at"q"⟩,_,_,rfl,rfl,(show (0:Int)<2 by decide),rfl,_,rfl,?_⟩
     rw [List.range_succ,List.filter_append,List.map_append]
     by_cases c:(j:Int) / pw m % 2=0
     ·refine iteTd (decide_eq_true (congrArg V.int (by rw [Int.zero_add];exact c))) ?_
      refine ⟨_,rfl,_,rfl,_,rfl,_,_,rfl,rfl,lenLine (by show 2≤100000;decide),fun u fu=>?_⟩
      obtain ⟨H3,e_,s3,x3⟩:=nwz fu (HO.tup [V.int (0+(j:Int)),V.int (0+(j:Int)+pw m)]);rw [←e_];clear e_
      have e3:=s3 _ _ e2
      refine ⟨e3,Same.put fg (Same.trans sd s3),upd_same,by rw [List.length_append];simp;walk_at"q", ?_⟩
      have k4:KT H3 (upd H3 lg (HO.lst (zs++[V.ref u]))):=KT.lst e3 (KT.refl _)
      rw [Int.zero_add] at x3
      have one:(([j].filter fun i:Nat=>decide ((i:Int) / pw m % 2=0)).map fun i:Nat=>((i:Int),(i:Int)+pw m))=[((j:Int),(j:Int)+pw m)]:=by simp [c]
      rw [one]
      exact ((r2.same s3).kt k4).app (.cons ⟨u,rfl,k4 _ _ x3⟩ .nil)
     ·refine iteFd (by rw [decide_eq_true_iff];intro z;have z':=V.int.inj z;rw [Int.zero_add] at z';exact c z') ?_
      have none':(([j].filter fun i:Nat=>decide ((i:Int) / pw m % 2=0)).map fun i:Nat=>((i:Int),(i:Int)+pw m))=[]:=by simp [c]
      rw [none',List.append_nil]
      exact ⟨sd,e2,by walk_at"q", r2⟩
    ·rintro zs Hd ⟨sd,e2,lz,r2⟩
     have e1d:=sd _ _ xw
     refine ⟨l,lg,_,_,rfl,rfl,e1d,e2,lenLine (by walk_at"q"),?_⟩
     have k5:KT Hd (upd Hd l (HO.lst (rs++zs))):=KT.lst e1d (KT.refl _)
     have lz2:=r2.len
     have gl:(gapL (pw (k+1)) (pw m)).length≤8:=by
      have:zs.length≤(pw (k+1)).toNat:=lz
      show (gapL (pw (k+1)) (pw m)).length≤8
      unfold gapL
      rw [←lz2]
      walk_at"q"
     refine ⟨_,rfl,_,_,rfl,rfl,⟨by decide,by decide⟩,m,Nat.lt_succ_self _,ws++gapL (pw (k+1)) (pw m),rs++zs,by walk_at"q", rfl,Same.put fl (Same.trans sw sd),upd_same,((rw'.same sd).kt k5).app (r2.kt k5),?_,?_⟩
     ·rw [←ew,List.append_assoc]
      rfl
     ·rw [List.length_append]
      walk_at"q"
  ·rintro σ Hw Q1 Q2 hm ⟨v,e,h⟩
   refine ⟨v,e,?_⟩
   obtain ⟨i,j,e1,e2,b,e3,h⟩:=h
   exact ⟨i,j,e1,e2,b,e3,hm _ _ h⟩
theorem sc_folded:FnScope ["wide", "half", "inner", "wickets", "paper"] ["wide"] (defScope s_folded):=⟨rfl,rfl,rfl,by decide +kernel,rfl,by decide +kernel,by decide +kernel⟩
theorem ok_folded0 {an:Addr}:FnOk P w K mg base (CX1 P w) 7 f fd ["wide"] (spFolded an 0) :=
 ⟨fun vs H Q E h=>by rcases h with ⟨k,_,h,_⟩|⟨h,_⟩<;>exact absurd h (Nat.not_lt_zero _),fun A outer s H args us vs Q E _ _ _ _ h=>by rcases h with ⟨k,_,h,_⟩|⟨h,_⟩<;>exact absurd h (Nat.not_lt_zero _)⟩
theorem ok_folded1 {an:Addr} {n m:Nat} (T:Bn mg) (F:Here K mg "folded" s_folded f fd) (Crefuse_unless_halved:CalleeE P w K mg base "refuse_unless_halved" 2 ["wide"] (spRefuse an)) (Cnet_ofS:CalleeE P w K mg base "net_of" 6 ["wide", "wickets"] spNetN)
  (Cin_both_halvesS:Callee P w K mg base "in_both_halves" 1 ["wickets", "half"] spHalvesS) (Cacross:Callee P w K mg base "across" 1 ["wide"] spAcross) (Cby_falling_gaps:Callee P w K mg base "by_falling_gaps" 1 ["wide"] spGaps)
  (Cfolded:CalleeE P w K mg base "folded" (m+7) ["wide"] (spFolded an n)):FnOk P w K mg base (CX1 P w) (m+8) f fd ["wide"] (spFolded an (n+1)):=by
 have Cnet_of:=Cnet_ofS
 have Cin_both_halves:=Cin_both_halvesS
 refine F.fn.okE sc_folded (fun vs H Q E h=>?_) (fun cdv A outer s H vs Q E hr h=>?_)
 ·rcases h with ⟨k,rfl,_⟩|⟨_,x,rfl,_⟩<;>rfl
 ·refine ⟨_,(pss_cons (ps_expr (pe_callE Crefuse_unless_halved (hr.mono (by walk_at"d")) rfl (pa_cons (pv 0) pa_nil)))
  (pss_cons (ps_if (pt_cmpR op_eq (pv 0) pe_int (nomark _))
  (pss_one (ps_ret (pe_tup (pa_cons (pe_callE Cnet_of (hr.mono (by walk_at"d")) rfl (pa_cons pe_int (pa_cons (pe_tup pa_nil) pa_nil))) (pa_cons (pe_tup (pa_cons pe_str pa_nil)) pa_nil)))))
  pss_nil)
  (pss_cons (ps_set (i:=1) sc_folded.nd rfl (by walk_at"r") (pe_op op_fdiv (pv 0) pe_int))
  (pss_cons (ps_set (i:=2) sc_folded.nd rfl (by walk_at"r") (pe_callE Cfolded (hr.mono (by walk_at"d")) rfl (pa_cons (pv 1) pa_nil)))
  (pss_cons (ps_set (i:=3) sc_folded.nd rfl (by walk_at"r") (pe_callC Cin_both_halves (hr.mono (by walk_at"d")) rfl (pa_cons (pe_ix ix_tup (pe_ix ix_tup (pv 2) pe_int (fun _ _=>rfl)) pe_int (fun _ _=>rfl)) (pa_cons (pv 1) pa_nil))))
  (pss_cons (ps_set (i:=4) sc_folded.nd rfl (by walk_at"r") (pe_tup (pa_cons pe_str (pa_cons (pe_callB call_len_seq rfl T.n_len PySem.boot_len (pa_cons (pv 3) pa_nil)) (pa_cons (pe_callTy (call_tupRng rfl) rfl T.n_tuple boot_tupleT (pa_cons (pe_callTy call_rng1 rfl T.n_range boot_rangeT (pa_cons (pv 1) pa_nil)) pa_nil)) (pa_cons (pe_callTy (call_tupRng rfl) rfl T.n_tuple boot_tupleT (pa_cons (pe_callTy call_rng2 rfl T.n_range boot_rangeT (pa_cons (pv 1) (pa_cons (pv 0) pa_nil))) pa_nil)) (pa_cons (pe_ix ix_tup (pv 2) pe_int (fun _ _=>rfl)) (pa_cons (pe_ix ix_tup (pv 2) pe_int (fun _ _=>rfl)) pa_nil))))))))
  (pss_one (ps_ret (pe_tup (pa_cons (pe_callE Cnet_of (hr.mono (by walk_at"d")) rfl (pa_cons (pv 0) (pa_cons (pe_op op_cat (pe_op op_cat (pv 3) (pe_callC Cacross (hr.mono (by walk_at"d")) rfl (pa_cons (pv 0) pa_nil))) (pe_callC Cby_falling_gaps (hr.mono (by walk_at"d")) rfl (pa_cons (pv 0) pa_nil))) pa_nil))) (pa_cons (pv 4) pa_nil))))))))))),?_⟩
  rcases h with ⟨k,rfl,kn,k3,q⟩|⟨_,x,rfl,hx,q⟩
  rotate_left
  ·exact ⟨_,rfl,_,rfl,.inr ⟨hx,q⟩⟩
  have hv:halved (pw k):=by
   have:k=0∨k=1∨k=2∨k=3:=by walk_at"q"
   rcases this with z|z|z|z<;>subst z
   ·exact .inl rfl
   ·exact .inr (.inl rfl)
   ·exact .inr (.inr (.inl rfl))
   ·exact .inr (.inr (.inr rfl))
  refine ⟨_,rfl,_,rfl,.inl ⟨_,rfl,hv,?_⟩⟩
  refine ⟨_,rfl,rfl,_,rfl,?_⟩
  cases k with
  |zero =>
   refine iteTd (by decide) ?_
   refine ⟨lenLine (by show 0≤100000;decide),fun t0 f0=>?_⟩
   obtain ⟨H0,e_,s0,x0⟩:=nwz f0 (HO.tup []);rw [←e_];clear e_
   refine ⟨1,t0,[],rfl,⟨[],.inr x0,.nil⟩,by decide,by decide,fun w hw=>(nomatch hw),by decide,fun v H1 s1 net1=>?_⟩
   refine ⟨lenLine (by show 1≤100000;decide),fun t2 f2=>?_⟩
   obtain ⟨H2,e_,s2,x2⟩:=nwz f2 (HO.tup [V.str "one"]);rw [←e_];clear e_
   refine ⟨lenLine (by show 2≤100000;decide),fun t3 f3=>?_⟩
   have s3:Same H2 (upd H2 t3 (HO.tup [v,V.ref t2])):=same_new f3 _
   have s02:=Same.trans s0 (Same.trans s1 s2)
   exact q t3 v (.ref t2) _ (s02.free f3) (Same.trans s02 s3) upd_same (net1.kt (KT.same (Same.trans s2 s3) (KT.refl _))) (.one (s3 _ _ x2))
  |succ k =>
   have ps:=pw_succ k
   have pp:=pw_pos k
   have p8:=pw_le k3
   have bl:=(fold_all (k:=k) (by walk_at"q")).2
   obtain ⟨okf,f24⟩:=fold_all (k:=k+1) k3
   have fe:foldM (k+1)=(foldM k++(foldM k).map (lift (pw k)))++acrossM (pw (k+1))++gapsM k (pw (k+1)):=rfl
   have fl:(foldM k++(foldM k).map (lift (pw k))).length+(acrossM (pw (k+1))).length+(gapsM k (pw (k+1))).length≤24:=by rw [←List.length_append,←List.length_append,←fe];exact f24
   refine iteFd (by rw [decide_eq_true_iff];intro z;have:=V.int.inj z;walk_at"q") ?_
   refine ⟨_,rfl,_,_,rfl,rfl,⟨by decide,by decide⟩,?_⟩
   have eh:pw (k+1) / 2=pw k:=by walk_at"q"
   dsimp only
   rw [eh]
   refine ⟨_,rfl,.inl ⟨k,rfl,by walk_at"q", by walk_at"q", fun Ti vi pi H1 fT s1 xT neti papi=>?_⟩⟩
   obtain ⟨ni,ti,ri,rfl,hni,hti,hri⟩:=id neti
   refine ⟨_,rfl,Ti,_,_,_,rfl,rfl,SqT.of xT,rfl,ni,_,_,_,rfl,rfl,SqT.of hni,rfl,_,rfl,ti,_,pw k,rfl,⟨ri,.inr hti,hri⟩,by walk_at"q", fun lw H2 fw s2 ⟨rw2,xw,rrw⟩=>?_⟩
   have lw2:=rrw.len
   refine ⟨_,rfl,lw,_,rfl,.inl (SqL.of xw),?_⟩
   refine ⟨_,rfl,_,rfl,fun r3 f3=>?_⟩
   obtain ⟨H3,e_,s3,x3⟩:=nwz f3 (HO.rng 0 (pw k));rw [←e_];clear e_
   refine ⟨r3,0,pw k,rfl,x3,by decide,by decide,by walk_at"q", by walk_at"q", by walk_at"q", fun t4 f4=>?_⟩
   obtain ⟨H4,e_,s4,x4⟩:=nwz f4 (HO.tup ((rngL 0 (pw k)).map V.int));rw [←e_];clear e_
   refine ⟨_,rfl,_,rfl,_,_,rfl,fun r5 f5=>?_⟩
   obtain ⟨H5,e_,s5,x5⟩:=nwz f5 (HO.rng (pw k) (pw (k+1)));rw [←e_];clear e_
   refine ⟨r5,pw k,pw (k+1),rfl,x5,by walk_at"q", by walk_at"q", by walk_at"q", by walk_at"q", by walk_at"q", fun t6 f6=>?_⟩
   obtain ⟨H6,e_,s6,x6⟩:=nwz f6 (HO.tup ((rngL (pw k) (pw (k+1))).map V.int));rw [←e_];clear e_
   have s26:=Same.trans s3 (Same.trans s4 (Same.trans s5 s6))
   have s16:=Same.trans s2 s26
   refine ⟨_,rfl,Ti,_,_,_,rfl,rfl,SqT.of (s16 _ _ xT),rfl,_,rfl,Ti,_,_,_,rfl,rfl,SqT.of (s16 _ _ xT),rfl,lenLine (by show 6≤100000;decide),fun t7 f7=>?_⟩
   obtain ⟨H7,e_,s7,x7⟩:=nwz f7 (HO.tup [V.str "halves", V.int (rw2.length:Int),V.ref t4,V.ref t6,pi,pi]);rw [←e_];clear e_
   have s27:=Same.trans s26 s7
   refine ⟨_,rfl,_,rfl,_,rfl,pw (k+1),rfl,by walk_at"q", p8,fun la H8 fa s8 ⟨ra,xa,rra⟩=>?_⟩
   have la2:=rra.len
   refine ⟨lw,la,_,_,rfl,rfl,s8 _ _ (s27 _ _ xw),xa,lenLine (by walk_at"q"),fun lc fc=>?_⟩
   obtain ⟨H9,e_,s9,x9⟩:=nwz fc (HO.lst (rw2++ra));rw [←e_];clear e_
   have r9:=((rrw.same (Same.trans s27 s8)).app rra).same s9
   refine ⟨_,rfl,k,rfl,by walk_at"q", fun lg Ha fg sa ⟨rg,xg,rrg⟩=>?_⟩
   have lg2:=rrg.len
   refine ⟨lc,lg,_,_,rfl,rfl,sa _ _ x9,xg,lenLine (by rw [List.length_append];walk_at"q"),fun lz fz=>?_⟩
   have sb:Same Ha (upd Ha lz (HO.lst (rw2++ra++rg))):=same_new fz _
   have xb:(upd Ha lz (HO.lst (rw2++ra++rg))) lz=some (.lst (rw2++ra++rg)):=upd_same
   have rb:=((r9.same sa).app rrg).same sb
   generalize upd Ha lz (HO.lst (rw2++ra++rg))=Hb at sb xb rb
   rw [←fe] at rb
   refine ⟨pw (k+1),lz,foldM (k+1),rfl,⟨_,.inl xb,rb⟩,by walk_at"q", p8,okf,by walk_at"q", fun v Hc sc netc=>?_⟩
   have s7c:=Same.trans s8 (Same.trans s9 (Same.trans sa (Same.trans sb sc)))
   refine ⟨_,rfl,lenLine (by show 2≤100000;decide),fun td fd'=>?_⟩
   have sd:Same Hc (upd Hc td (HO.tup [v,V.ref t7])):=same_new fd' _
   have s0c:=Same.trans s1 (Same.trans s2 (Same.trans s27 s7c))
   have s7d:=Same.trans s7c sd
   have s6d:=Same.trans s7 s7d
   have s4d:=Same.trans s5 (Same.trans s6 s6d)
   have pp2:=papi.same (Same.trans s2 (Same.trans s27 s7d))
   rw [lw2] at x7
   exact q td v (.ref t7) _ (s0c.free fd') (Same.trans s0c sd) upd_same (netc.kt (KT.same sd (KT.refl _))) (.hlv (s7d _ _ x7) (s4d _ _ x4) (s6d _ _ x6) pp2 pp2)
theorem sc_block:FnScope ["wide", "half"] ["wide"] (defScope s_block):=⟨rfl,rfl,rfl,by decide +kernel,rfl,by decide +kernel,by decide +kernel⟩
theorem ok_block0:FnOk P w K mg base CX0 1 f fd ["wide"] (spBlk 0) :=
 ⟨fun vs H Q E ⟨k,_,h,_,_⟩=>absurd h (Nat.not_lt_zero _),fun A outer s H args us vs Q E _ _ _ _ ⟨k,_,h,_,_⟩=>absurd h (Nat.not_lt_zero _)⟩
theorem ok_block1 {n m:Nat} (T:Bn mg) (F:Here K mg "block" s_block f fd) (Cacross:Callee P w K mg base "across" 1 ["wide"] spAcross) (Cin_both_halves:Callee P w K mg base "in_both_halves" 1 ["wickets", "half"] spHalves)
  (Cblock:Callee P w K mg base "block" (m+1) ["wide"] (spBlk n)):FnOk P w K mg base CX0 (m+2) f fd ["wide"] (spBlk (n+1)):=by
 refine F.fn.ok sc_block (fun vs H Q E h=>?_) (fun cdv A outer s H vs Q E hr h=>?_)
 ·obtain ⟨k,rfl,_⟩:=h
  rfl
 ·obtain ⟨k,rfl,kn,k3,q⟩:=h
  refine ⟨_,(pss_cons (ps_if (pt_cmpR op_eq (pv 0) pe_int (nomark _))
  (pss_one (ps_ret (pe_lst pa_nil)))
  pss_nil)
  (pss_cons (ps_set (i:=1) sc_block.nd rfl (by walk_at"r") (pe_op op_fdiv (pv 0) pe_int))
  (pss_one (ps_ret (pe_op op_cat (pe_callC Cacross (hr.mono (by walk_at"d")) rfl (pa_cons (pv 0) pa_nil)) (pe_callC Cin_both_halves (hr.mono (by walk_at"d")) rfl (pa_cons (pe_callC Cblock (hr.mono (by walk_at"d")) rfl (pa_cons (pv 1) pa_nil)) (pa_cons (pv 1) pa_nil)))))))),?_⟩
  refine ⟨_,rfl,rfl,_,rfl,?_⟩
  cases k with
  |zero =>
   refine iteTd (by decide) ?_
   refine ⟨lenLine (by show 0≤100000;decide),fun l fl=>?_⟩
   exact q l _ fl (same_new fl _) ⟨[],upd_same,.nil⟩
  |succ k =>
   have ps:=pw_succ k
   have pp:=pw_pos k
   have p8:=pw_le k3
   have bl:=blk_len (k:=k) (by walk_at"q")
   refine iteFd (by rw [decide_eq_true_iff];intro z;have:=V.int.inj z;walk_at"q") ?_
   refine ⟨_,rfl,_,_,rfl,rfl,⟨by decide,by decide⟩,?_⟩
   have eh:pw (k+1) / 2=pw k:=by walk_at"q"
   dsimp only
   rw [eh]
   refine ⟨_,rfl,pw (k+1),rfl,by walk_at"q", p8,fun la H1 fa s1 ⟨ra,xa,rra⟩=>?_⟩
   refine ⟨_,rfl,k,rfl,by walk_at"q", by walk_at"q", fun lb H2 fb s2 wl2=>?_⟩
   refine ⟨_,rfl,lb,_,pw k,rfl,wl2,by walk_at"q", fun lc H3 fc s3 ⟨rc,xc,rrc⟩=>?_⟩
   have s13:=Same.trans s2 s3
   have l1:=rra.len
   have l2:=rrc.len
   have la':(acrossM (pw (k+1))).length≤4:=by unfold acrossM;rw [List.length_map,List.length_range];walk_at"q"
   rw [List.length_append,List.length_map] at l2
   refine ⟨la,lc,_,_,rfl,rfl,s13 _ _ xa,xc,lenLine (by walk_at"q"),fun lo fo=>?_⟩
   have s5:Same H3 (upd H3 lo (HO.lst (ra++rc))):=same_new fo _
   have s03:=Same.trans s1 s13
   exact q lo _ (s03.free fo) (Same.trans s03 s5) ⟨_,upd_same,((rra.same s13).app rrc).same s5⟩
theorem sc_rounds:FnScope ["wide", "wickets", "left"] ["wide"] (defScope s_rounds):=⟨rfl,rfl,rfl,by decide +kernel,rfl,by decide +kernel,by decide +kernel⟩
theorem ok_rounds {an:Addr} (T:Bn mg) (F:Here K mg "rounds" s_rounds f fd) (ER:NoNetT K mg an) (Crefuse_unless_halved:CalleeE P w K mg base "refuse_unless_halved" 2 ["wide"] (spRefuse an)) (Cblock:Callee P w K mg base "block" 6 ["wide"] (spBlk 4)) (Cnet_of:CalleeE P w K mg base "net_of" 6 ["wide", "wickets"] spNetOf):FnOk P w K mg base (CX1 P w) 7 f fd ["wide"] (spRoundsG an):=by
 refine F.fn.okE sc_rounds (fun vs H Q E h=>?_) (fun cdv A outer s H vs Q E hr h=>?_)
 ·rcases h with ⟨k,rfl,_⟩|⟨x,rfl,_⟩<;>rfl
 ·refine ⟨_,(pss_cons (ps_expr (pe_callE Crefuse_unless_halved (hr.mono (by walk_at"d")) rfl (pa_cons (pv 0) pa_nil)))
  (pss_cons (ps_set (i:=1) sc_rounds.nd rfl (by walk_at"r") (pe_lst pa_nil))
  (pss_cons (ps_set (i:=2) sc_rounds.nd rfl (by walk_at"r") (pv 0))
  (pss_cons (ps_while PassesOwn.leaving  (pt_cmpR op_gt (pv 2) pe_int (nomark _))
  (pss_cons (ps_expr (pe_bm PySem.F.plainAttrs_list PySem.F.slot_list_extend PySem.F.type_list_extend mt_extend (pv 1) (pa_cons (pe_callC Cblock (hr.mono (by walk_at"d")) rfl (pa_cons (pv 0) pa_nil)) pa_nil)))
  (pss_one (ps_aug (i:=2) sc_rounds.nd rfl (by walk_at"r") pe_int ip_fdiv))))
  (pss_one (ps_ret (pe_callE Cnet_of (hr.mono (by walk_at"d")) rfl (pa_cons (pv 0) (pa_cons (pv 1) pa_nil))))))))),?_⟩
  rcases h with ⟨k,rfl,k3,q⟩|⟨x,rfl,hx,q⟩
  ·obtain ⟨okr,lenr⟩:=rnd_all k3
   have p1:=pw_pos k
   have p8:=pw_le k3
   have bl:=blk_len k3
   have hv:halved (pw k):=by
    have:k=0∨k=1∨k=2∨k=3:=by walk_at"q"
    rcases this with z|z|z|z<;>subst z
    ·exact .inl rfl
    ·exact .inr (.inl rfl)
    ·exact .inr (.inr (.inl rfl))
    ·exact .inr (.inr (.inr rfl))
   refine ⟨_,rfl,_,rfl,.inl ⟨_,rfl,hv,?_⟩⟩
   refine ⟨lenLine (by show 0≤100000;decide),fun l fl=>?_⟩
   obtain ⟨H1,e_,s1,x1⟩:=nwz fl (HO.lst []);rw [←e_];clear e_
   refine ⟨_,rfl,?_⟩
   refine while_m (fun m σ Hd=>∃ ys,σ=[some (.int (pw k)),some (.ref l),some (.int (pw m))]∧m≤k∧Same H Hd∧Hd l=some (.lst ys)∧Refs Hd ys (List.replicate (k-m) (blkM k)).flatten)
    k ⟨[],rfl,Nat.le_refl _,s1,x1,by rw [Nat.sub_self];exact .nil⟩ ?_ ?_
   ·rintro m σ Hd ⟨ys,rfl,mk,sd,xd,rd⟩
    refine ⟨_,rfl,_,_,rfl,rfl,_,rfl,?_⟩
    cases m with
    |zero =>
     refine iteFd (by decide) ?_
     exact ⟨_,rfl,_,rfl,pw k,l,_,rfl,⟨ys,xd,rd⟩,p1,p8,okr,lenr,fun v H' s' net=>q v H' (Same.trans sd s') net⟩
    |succ m =>
     have ps:=pw_succ m
     have pp:=pw_pos m
     have ly:=rd.len
     rw [len_rep] at ly
     have lb':(k-(m+1))*(blkM k).length≤36:=Nat.le_trans (Nat.mul_le_mul (show k-(m+1)≤3 by walk_at"q") bl) (by decide)
     refine iteTd (decide_eq_true (by walk_at"q")) ?_
     refine ⟨_,rfl,.inl ⟨rfl,_,SqL.of xd⟩,?_⟩
     refine ⟨_,rfl,k,rfl,by walk_at"q", k3,fun lb H2 fb s2 ⟨rb,xb,rrb⟩=>?_⟩
     have lr:=rrb.len
     have xd2:=s2 _ _ xd
     refine ⟨l,lb,_,_,rfl,rfl,xd2,xb,lenLine (by walk_at"q"),?_⟩
     refine ⟨_,rfl,_,_,rfl,rfl,⟨by decide,by decide⟩,m,Nat.lt_succ_self _,ys++rb,?_,by walk_at"q", Same.put fl (Same.trans sd s2),upd_same,?_⟩
     ·have eh:pw (m+1) / 2=pw m:=by walk_at"q"
      show [some (V.int (pw k)),some (V.ref l),some (V.int (pw (m+1) / 2))]=_
      rw [eh]
     ·have k5:KT H2 (upd H2 l (HO.lst (ys++rb))):=KT.lst xd2 (KT.refl _)
      have e:(List.replicate (k-m) (blkM k)).flatten=(List.replicate (k-(m+1)) (blkM k)).flatten++blkM k:=by
       rw [show k-m=(k-(m+1))+1 by walk_at"q", List.replicate_succ',List.flatten_append]
       simp
      rw [e]
      exact ((rd.same s2).kt k5).app (rrb.kt k5)
   ·rintro σ Hd Q' Q'' hq ⟨y,f0,a1,a2,a3,a4,k',m1,h2⟩
    exact ⟨y,f0,a1,a2,a3,a4,k',m1,hq _ _ h2⟩
  ·exact ⟨_,rfl,_,rfl,.inr ⟨hx,q⟩⟩
theorem sc_let_through:FnScope ["net", "counts", "now", "odd", "number", "wicket", "both"] ["net", "counts"] (defScope s_let_through):=⟨rfl,rfl,rfl,by decide +kernel,rfl,by decide +kernel,by decide +kernel⟩
theorem ok_let_through (T:Bn mg) (F:Here K mg "let_through" s_let_through f fd):FnOk P w K mg base CX0 1 f fd ["net", "counts"] spThru:=by
 refine F.fn.ok sc_let_through (fun vs H Q E h=>?_) (fun cdv A outer s H vs Q E hr h=>?_)
 ·obtain ⟨v,wide,ws,c,cs,rfl,_⟩:=h
  rfl
 ·obtain ⟨v,wide,ws,c,cs,rfl,⟨n,t,rs,rfl,hn,ht,hrs⟩,ok,len,hc,lc,q⟩:=h
  have lrs:=hrs.len
  refine ⟨_,(pss_cons (ps_set (i:=2) sc_let_through.nd rfl (by walk_at"r") (pe_callTy call_list_of rfl T.n_list boot_listT (pa_cons (pv 1) pa_nil)))
  (pss_cons (ps_set (i:=3) sc_let_through.nd rfl (by walk_at"r") (pe_lst pa_nil))
  (pss_cons (ps_for PassesOwn.never rfl  (pi_enumT rfl T.n_enumerate (pa_cons (pe_ix ix_tup (pv 0) pe_int (fun _ _=>rfl)) pa_nil)) (pg_tup rfl (pgs_cons (pg_name (i:=4) sc_let_through.nd rfl (by walk_at"r")) (pgs_cons (pg_name (i:=5) sc_let_through.nd rfl (by walk_at"r")) pgs_nil)))
  (pss_cons (ps_set (i:=6) sc_let_through.nd rfl (by walk_at"r") (pe_op op_add (pe_ix ix_list (pv 2) (pe_ix ix_tup (pv 5) pe_int (fun _ _=>rfl)) (fun _ _=>rfl)) (pe_ix ix_list (pv 2) (pe_ix ix_tup (pv 5) pe_int (fun _ _=>rfl)) (fun _ _=>rfl))))
  (pss_cons (ps_asg (pe_op op_fdiv (pe_op op_add (pv 6) pe_int) pe_int) (pg_sub (pv 2) (pe_ix ix_tup (pv 5) pe_int (fun _ _=>rfl)) set_list))
  (pss_cons (ps_asg (pe_op op_fdiv (pv 6) pe_int) (pg_sub (pv 2) (pe_ix ix_tup (pv 5) pe_int (fun _ _=>rfl)) set_list))
  (pss_one (ps_if (pt_cmpR op_eq (pe_op op_mod (pv 6) pe_int) pe_int (nomark _))
  (pss_one (ps_expr (pe_bm PySem.F.plainAttrs_list PySem.F.slot_list_append PySem.F.type_list_append mt_append (pv 3) (pa_cons (pv 4) pa_nil))))
  pss_nil))))))
  (pss_one (ps_ret (pe_tup (pa_cons (pv 2) (pa_cons (pv 3) pa_nil)))))))),?_⟩
  refine ⟨_,rfl,c,_,rfl,.inl (SqL.of hc),fun ln fn=>?_⟩
  refine ⟨lenLine (by show 0≤100000;decide),fun lo fo=>?_⟩
  have fo':H lo=none:=(same_new fn _).free fo
  have nno:ln≠lo:=ne_of_none upd_same fo
  refine ⟨_,rfl,n,_,_,_,rfl,rfl,SqT.of (by walk_at "hh"),by rfl,?_⟩
  refine ⟨t,rfl,⟨rs,SqT.of (by walk_at "hh")⟩,?_⟩
  refine for_enum (xs:=rs) (fun i σ Hc=>∃ v4 v5 v6,σ=[some (.ref n),some (.ref c),some (.ref ln),some (.ref lo),v4,v5,v6]∧Same H Hc∧Hc ln=some (.lst ((thruM cs (ws.take i)).map V.int))∧Hc lo=some (.lst ((oddsM 0 cs (ws.take i)).map V.int)))
   ⟨none,none,none,rfl,by walk_at "sm", by walk_at "hh", upd_same⟩ (fun i σ Hc _ ⟨_,_,_,_,sc,_⟩=>SqT.of (sc _ _ ht)) ?_ ?_
  ·rintro i x T σ Hc hx fT ⟨v4,v5,v6,rfl,sc,xn,xo⟩
   obtain ⟨w0,t0,hw0,rfl,ht0⟩:=hrs.get hx
   obtain ⟨o1,o2,o3,o4,o5⟩:=WOk.mem ok hw0
   have il:i<ws.length:=(List.getElem?_eq_some_iff.mp hw0).1
   have lth:=thruM_len (ws.take i) cs
   have lod:=oddsM_len (ws.take i) 0 cs
   rw [List.length_take] at lod
   have ht1:(upd Hc T (HO.tup [V.int i,V.ref t0])) t0=some (.tup [.int w0.1,.int w0.2]):=(same_new fT _) _ _ (sc _ _ ht0)
   have xn1:(upd Hc T (HO.tup [V.int i,V.ref t0])) ln=some (.lst ((thruM cs (ws.take i)).map V.int)):=(same_new fT _) _ _ xn
   have xo1:(upd Hc T (HO.tup [V.int i,V.ref t0])) lo=some (.lst ((oddsM 0 cs (ws.take i)).map V.int)):=(same_new fT _) _ _ xo
   have sc1:Same H (upd Hc T (HO.tup [V.int i,V.ref t0])):=Same.trans sc (same_new fT _)
   refine ⟨T,_,rfl,SqT.of upd_same,rfl,?_⟩
   generalize upd Hc T (HO.tup [V.int i,V.ref t0])=H1 at ht1 xn1 xo1 sc1
   refine ⟨_,_,rfl,_,_,rfl,rfl,?_⟩
   refine ⟨_,rfl,_,rfl,t0,_,_,_,rfl,rfl,SqT.of ht1,rfl,ln,_,_,_,rfl,rfl,SqL.of xn1,atI_int o1 (by walk_at"q"),?_⟩
   refine ⟨_,rfl,_,rfl,t0,_,_,_,rfl,rfl,SqT.of ht1,rfl,ln,_,_,_,rfl,rfl,SqL.of xn1,atI_int o3 (by walk_at"q"),?_⟩
   refine ⟨_,_,rfl,rfl,?_⟩
   refine ⟨_,rfl,_,_,rfl,rfl,_,_,rfl,rfl,by walk_at "side", ?_⟩
   refine ⟨_,rfl,_,rfl,t0,_,_,_,rfl,rfl,SqT.of ht1,rfl,ln,_,w0.1,w0.1.toNat,rfl,rfl,xn1,ixN_of o1 (by rw [List.length_map];walk_at"q"),?_⟩
   refine ⟨_,rfl,_,_,rfl,rfl,by walk_at "side", ?_⟩
   have nt0:t0≠ln:=ne3 ht1 xn1
   refine ⟨_,rfl,_,rfl,t0,_,_,_,rfl,rfl,SqT.of ((upd_ne nt0).trans ht1),rfl,ln,_,w0.2,w0.2.toNat,rfl,rfl,upd_same,ixN_of o3 (by rw [List.length_set,List.length_map];walk_at"q"),?_⟩
   rw [upd_upd]
   have eL:((List.map V.int (thruM cs (ws.take i))).set w0.1.toNat (V.int (((thruM cs (ws.take i)).getD w0.1.toNat 0+(thruM cs (ws.take i)).getD w0.2.toNat 0+1) / 2))).set w0.2.toNat (V.int (((thruM cs (ws.take i)).getD w0.1.toNat 0+(thruM cs (ws.take i)).getD w0.2.toNat 0) / 2))=(thruM cs (ws.take (i+1))).map V.int:=by
    rw [take_snoc hw0,thruM_snoc,set_map,set_map]
    rfl
   have eO:=oddsM_snoc (ws.take i) w0 0 cs
   rw [←take_snoc hw0,List.length_take,Nat.min_eq_left (by walk_at"q"),Nat.zero_add] at eO
   refine ⟨_,rfl,_,_,rfl,rfl,by walk_at "side", rfl,_,rfl,?_⟩
   refine ite2 (fun g=>?_) (fun g=>?_)
   ·have g':both (thruM cs (ws.take i)) w0 % 2=1:=veq g
    rw [if_pos g'] at eO
    refine ⟨_,rfl,.inl ⟨rfl,_,SqL.of (by walk_at "hh")⟩,_,rfl,lo,_,_,rfl,rfl,by walk_at "hh", lenLt (by rw [List.length_map];walk_at"q"),?_⟩
    refine ⟨_,_,_,rfl,Same.put fo' (Same.put fn sc1),?_,?_⟩
    ·rw [upd_ne nno,upd_same]
     exact congrArg (fun z=>some (HO.lst z)) eL
    ·rw [upd_same,eO,List.map_append]
     rfl
   ·have g':¬ both (thruM cs (ws.take i)) w0 % 2=1:=vne g
    rw [if_neg g',List.append_nil] at eO
    refine ⟨_,_,_,rfl,Same.put fn sc1,?_,?_⟩
    ·rw [upd_same]
     exact congrArg (fun z=>some (HO.lst z)) eL
    ·rw [upd_ne (Ne.symm nno),eO]
     exact xo1
  ·rintro σ Hc ⟨v4,v5,v6,rfl,sc,xn,xo⟩
   rw [lrs,List.take_length] at xn xo
   refine ⟨_,rfl,_,rfl,lenLine (by show 2≤100000;decide),fun t9 f9=>?_⟩
   exact q t9 ln lo _ (sc.free f9) fn fo' nno (Same.trans sc (same_new f9 _)) upd_same ((same_new f9 _) _ _ xn) ((same_new f9 _) _ _ xo)
theorem sc_exits:FnScope ["net", "counts"] ["net", "counts"] (defScope s_exits):=⟨rfl,rfl,rfl,by decide +kernel,rfl,by decide +kernel,by decide +kernel⟩
theorem ok_exits (T:Bn mg) (F:Here K mg "exits" s_exits f fd) (Clet_through:Callee P w K mg base "let_through" 1 ["net", "counts"] spThru):FnOk P w K mg base CX0 2 f fd ["net", "counts"] spExits:=by
 refine F.fn.ok sc_exits (fun vs H Q E h=>?_) (fun cdv A outer s H vs Q E hr h=>?_)
 ·obtain ⟨v,wide,ws,c,cs,rfl,_⟩:=h
  rfl
 ·obtain ⟨v,wide,ws,c,cs,rfl,net,ok,len,hc,lc,q⟩:=h
  refine ⟨_,(pss_one (ps_ret (pe_ix ix_tup (pe_callC Clet_through (hr.mono (by walk_at"d")) rfl (pa_cons (pv 0) (pa_cons (pv 1) pa_nil))) pe_int (fun _ _=>rfl)))),?_⟩
  refine ⟨_,rfl,_,rfl,v,wide,ws,c,cs,rfl,net,ok,len,hc,lc,fun t a b H' ft fa fb nab sm ht ha hb=>?_⟩
  exact ⟨t,_,_,_,rfl,rfl,SqT.of ht,rfl,q a H' fa sm ha⟩
theorem sc_falls:FnScope ["values", "ahead", "value"] ["values"] (defScope s_falls):=⟨rfl,rfl,rfl,by decide +kernel,rfl,by decide +kernel,by decide +kernel⟩
theorem ok_falls (T:Bn mg) (F:Here K mg "falls" s_falls f fd):FnOk P w K mg base CX0 1 f fd ["values"] spFalls:=by
 refine F.fn.ok sc_falls (fun vs H Q E h=>?_) (fun cdv A outer s H vs Q E hr h=>?_)
 ·obtain ⟨c,cs,rfl,_⟩:=h
  rfl
 ·obtain ⟨c,cs,rfl,hc,l100,q⟩:=h
  refine ⟨_,(pss_cons (ps_for PassesOwn.never rfl  (pi_zipL rfl T.n_zip (pa_cons (pv 0) (pa_cons (pe_slice sl_list (pv 0) (po_some pe_int) po_none) pa_nil))) (pg_tup rfl (pgs_cons (pg_name (i:=1) sc_falls.nd rfl (by walk_at"r")) (pgs_cons (pg_name (i:=2) sc_falls.nd rfl (by walk_at"r")) pgs_nil)))
  (pss_one (ps_if (pt_cmpR op_gt (pv 2) (pv 1) (nomark _))
  (pss_one (ps_ret pe_bl))
  pss_nil)))
  (pss_one (ps_ret pe_bl))),?_⟩
  refine ⟨_,rfl,_,rfl,_,rfl,c,_,rfl,SqL.of hc,fun p fp=>?_⟩
  rw [cut1]
  obtain ⟨H1,e_,s1,xp⟩:=nwz fp (HO.lst ((cs.map V.int).drop 1));rw [←e_];clear e_
  have hc1:=s1 _ _ hc
  refine ⟨c,p,rfl,⟨_,SqL.of hc1⟩,⟨_,SqL.of xp⟩,?_⟩
  refine for_zipN (xs:=cs.map V.int) (ys:=(cs.map V.int).drop 1) (n:=cs.length-1) (by rw [List.length_map];walk_at"q") (by rw [List.length_drop,List.length_map];walk_at"q") (.inr (by rw [List.length_drop,List.length_map])) (fun i σ Hc=>∃ v1 v2,σ=[some (.ref c),v1,v2]∧Same H1 Hc∧∀ j,j<i→cs.getD (j+1) 0≤cs.getD j 0)
   ⟨none,none,rfl,Same.refl _,fun j hj=>absurd hj (by walk_at"q")⟩ (fun i σ Hc _ ⟨_,_,_,sc,_⟩=>⟨SqL.of (sc _ _ hc1),SqL.of (sc _ _ xp)⟩) ?_ ?_
  ·rintro i x y T σ Hc hi hx hy fT ⟨v1,v2,rfl,sc,fa⟩
   obtain ⟨z,hz,rfl⟩:=int_item hx
   rw [List.getElem?_drop,Nat.add_comm] at hy
   obtain ⟨u,hu,rfl⟩:=int_item hy
   refine ⟨T,_,rfl,SqT.of upd_same,rfl,?_⟩
   refine ⟨_,_,rfl,_,_,rfl,rfl,?_⟩
   have s2:Same H1 (upd Hc T (HO.tup [V.int z,V.int u])):=Same.trans sc (same_new fT _)
   refine ⟨_,rfl,_,rfl,_,_,rfl,rfl,_,rfl,?_⟩
   refine ite2 (fun g=>?_) (fun g=>?_)
   ·have g':z<u:=of_decide_eq_true g
    refine q false _ (Same.trans s1 s2) ⟨(fun h=>nomatch h),fun h=>?_⟩
    have:=h i (by walk_at"q")
    rw [getD_of hz,getD_of hu] at this
    walk_at"q"
   ·have g':¬ z<u:=not_dec g
    refine ⟨_,_,rfl,s2,fun j hj=>?_⟩
    by_cases c:j<i
    ·exact fa j c
    ·have:j=i:=by walk_at"q"
     subst this
     rw [getD_of hz,getD_of hu]
     walk_at"q"
  ·rintro σ Hc ⟨v1,v2,rfl,sc,fa⟩
   exact q true Hc (Same.trans s1 sc) ⟨fun _ i hi=>fa i (by walk_at"q"),fun _=>rfl⟩
theorem sc_is_level:FnScope ["counts"] ["counts"] (defScope s_is_level):=⟨rfl,rfl,rfl,by decide +kernel,rfl,by decide +kernel,by decide +kernel⟩
theorem ok_is_level (T:Bn mg) (F:Here K mg "is_level" s_is_level f fd) (Cfalls:Callee P w K mg base "falls" 1 ["values"] spFalls):FnOk P w K mg base CX0 2 f fd ["counts"] spLevel:=by
 refine F.fn.ok sc_is_level (fun vs H Q E h=>?_) (fun cdv A outer s H vs Q E hr h=>?_)
 ·obtain ⟨c,cs,rfl,_⟩:=h
  rfl
 ·obtain ⟨c,cs,rfl,hc,pos,l100,q⟩:=h
  refine ⟨_,(pss_one (ps_ret (pe_and (pe_callC Cfalls (hr.mono (by walk_at"d")) rfl (pa_cons (pv 0) pa_nil)) (pe_one (pe_or (pe_notT (pv 0)) (pe_one (pe_cmpR op_le (pe_op op_sub (pe_ix ix_list (pv 0) pe_int (fun _ _=>rfl)) (pe_ix ix_list (pv 0) (pe_un un_neg pe_int) (fun _ _=>rfl))) pe_int (nomark _)))))))),?_⟩
  refine ⟨_,rfl,c,cs,rfl,hc,l100,fun b H1 s1 hb=>?_⟩
  have hc1:=s1 _ _ hc
  refine ⟨b,rfl,?_⟩
  cases b with
  |false =>
   refine iteFd (by decide) (q false H1 s1 ⟨(fun h=>nomatch h),fun h=>?_⟩)
   exact hb.mpr ((level_falls pos).mp h).1
  |true =>
   have fa:=hb.mp rfl
   refine iteTd rfl ?_
   refine ⟨_,rfl,true,.inl ⟨_,SqL.of hc1,?_⟩,_,rfl,iteFd (by decide) ?_⟩
   ·cases cs with
    |nil=>simp at pos
    |cons _ _=>rfl
   have hlast:(cs.map V.int)[(cs.map V.int).length-1]?=some (.int (cs.getD (cs.length-1) 0)):=by
    rw [List.length_map,List.getElem?_map,getD_lt (show cs.length-1<cs.length by walk_at"q")]
    rfl
   refine ⟨_,rfl,c,_,_,_,rfl,rfl,SqL.of hc1,atI_int (i:=0) (by decide) (by walk_at"q"),?_⟩
   refine ⟨_,rfl,_,rfl,c,_,_,_,rfl,rfl,SqL.of hc1,atI_neg1 hlast,_,_,rfl,rfl,_,_,rfl,rfl,?_⟩
   refine q _ H1 s1 ?_
   rw [decide_eq_true_eq,level_falls pos]
   exact ⟨fun h=>⟨fa,h⟩,fun h=>h.2⟩
theorem sc_built_net:FnScope ["_law_pen_here", "_law_wide", "_law_net"] ["_law_pen_here"] (defScope s_built_net):=⟨rfl,rfl,rfl,by decide +kernel,rfl,by decide +kernel,by decide +kernel⟩
theorem ok_built_net (T:Bn mg) (F:Here K mg "_law_built_net" s_built_net f fd) (C_law_take:Callee P w K mg base "_law_take" 1 ["_law_pen_here", "_law_size"] spTake) (C_law_wickets:Callee P w K mg base "_law_wickets" 2 ["_law_pen_here", "_law_wide", "_law_many"] spWickets)
  (Cfolded1:Callee P w K mg base "folded" 11 ["wide"] spFoldedN) (Crounds1:Callee P w K mg base "rounds" 7 ["wide"] spRoundsN):FnOk P w K mg base CX0 12 f fd ["_law_pen_here"] spBuilt91:=by
 have Cfolded:=Cfolded1
 have Crounds:=Crounds1
 refine F.fn.ok sc_built_net (fun vs H Q E h=>?_) (fun cdv A outer s H vs Q E hr h=>?_)
 ·obtain ⟨p,rfl,_⟩:=h
  rfl
 ·obtain ⟨p,rfl,⟨pa,pb,pc,hp1⟩,q⟩:=h
  refine ⟨_,(pss_cons (ps_set (i:=1) sc_built_net.nd rfl (by walk_at"r") (pe_ix ix_list (pe_lst (pa_cons pe_int (pa_cons pe_int (pa_cons pe_int (pa_cons pe_int pa_nil))))) (pe_callC C_law_take (hr.mono (by walk_at"d")) rfl (pa_cons (pv 0) (pa_cons pe_int pa_nil))) (fun _ _=>rfl)))
  (pss_cons (ps_set (i:=2) sc_built_net.nd rfl (by walk_at"r") (pe_callC Crounds (hr.mono (by walk_at"d")) rfl (pa_cons (pv 1) pa_nil)))
  (pss_cons (ps_if (pt_cmpR op_eq (pe_callC C_law_take (hr.mono (by walk_at"d")) rfl (pa_cons (pv 0) (pa_cons pe_int pa_nil))) pe_int (nomark _))
  (pss_one (ps_set (i:=2) sc_built_net.nd rfl (by walk_at"r") (pe_ix ix_tup (pe_callC Cfolded (hr.mono (by walk_at"d")) rfl (pa_cons (pv 1) pa_nil)) pe_int (fun _ _=>rfl))))
  pss_nil)
  (pss_one (ps_ret (pe_tup (pa_cons (pv 1) (pa_cons (pe_op op_catA (pe_callTy call_tuple_of rfl T.n_tuple boot_tupleT (pa_cons (pe_callC C_law_wickets (hr.mono (by walk_at"d")) rfl (pa_cons (pv 0) (pa_cons (pv 1) (pa_cons (pe_callC C_law_take (hr.mono (by walk_at"d")) rfl (pa_cons (pv 0) (pa_cons pe_int pa_nil))) pa_nil)))) pa_nil)) (pe_ix ix_tup (pv 2) pe_int (fun _ _=>rfl))) pa_nil)))))))),?_⟩
  refine ⟨lenLine (by show 4≤100000;decide),fun l0 f0=>?_⟩
  obtain ⟨k2,hp2,x2,n2⟩:=fresh_step hp1 f0 (.lst [V.int 1,V.int 2,V.int 4,V.int 8])
  generalize upd H l0 (HO.lst [V.int 1,V.int 2,V.int 4,V.int 8])=H2 at k2 hp2 x2
  refine ⟨_,rfl,p,_,_,_,4,rfl,hp2,by decide,by decide,fun v a3 b3 c3 v0 v4'=>?_⟩
  have k3:Kp p H (upd H2 p (.lst [.int a3,.int b3,.int c3])):=Kp.trans k2 Kp.upd
  have hp3:(upd H2 p (.lst [.int a3,.int b3,.int c3])) p=some (.lst [.int a3,.int b3,.int c3]):=upd_same
  have x3:(upd H2 p (.lst [.int a3,.int b3,.int c3])) l0=some (.lst [V.int 1,V.int 2,V.int 4,V.int 8]):=(upd_ne n2).trans x2
  generalize upd H2 p (HO.lst [V.int a3,V.int b3,V.int c3])=H3 at k3 hp3 x3
  have ez:atI [V.int 1,V.int 2,V.int 4,V.int 8] v=some (.int (pw v.toNat))∧v.toNat≤3:=by
   have wc:v=0∨v=1∨v=2∨v=3:=by walk_at"q"
   rcases wc with h|h|h|h<;>subst h<;>exact ⟨rfl,by decide⟩
  obtain ⟨ez,kk3⟩:=ez
  generalize v.toNat=k at ez kk3
  have p1:=pw_pos k
  have p8:=pw_le kk3
  obtain ⟨okf,lenf⟩:=fold_all kk3
  obtain ⟨okr,_⟩:=rnd_all kk3
  have lenr:=rnd_36 kk3
  refine ⟨l0,_,_,_,rfl,rfl,SqL.of x3,ez,?_⟩
  refine ⟨_,rfl,k,rfl,kk3,fun vr H4 s4 netr=>?_⟩
  have hp4:=s4 _ _ hp3
  try dsimp only [gName]
  refine seq_by (fun σ Hc=>∃ vn us,σ=[some (.ref p),some (.int (pw k)),some vn]∧Kp p H Hc∧Pen Hc p∧Net Hc vn (pw k) us∧WOk (pw k) us∧us.length≤36∧Lvl (pw k) us) (fun N hN=>?_) ?_
  ·refine ⟨_,rfl,p,_,_,_,2,rfl,hp4,by decide,by decide,fun r5 a5 b5 c5 r50 r51=>?_⟩
   have k45:Kp p H4 (upd H4 p (.lst [.int a5,.int b5,.int c5])):=Kp.upd
   have k5:Kp p H (upd H4 p (.lst [.int a5,.int b5,.int c5])):=Kp.trans k3 (Kp.trans (Kp.same s4) Kp.upd)
   have kt5:KT H4 (upd H4 p (.lst [.int a5,.int b5,.int c5])):=KT.lst hp4 (KT.refl _)
   have hp5:(upd H4 p (.lst [.int a5,.int b5,.int c5])) p=some (.lst [.int a5,.int b5,.int c5]):=upd_same
   generalize upd H4 p (HO.lst [V.int a5,V.int b5,V.int c5])=H5 at k45 k5 kt5 hp5
   refine ⟨rfl,_,rfl,?_⟩
   refine ite2 (fun g=>?_) (fun g=>?_)
   ·refine ⟨_,rfl,k,rfl,by walk_at"q", kk3,fun Tf vf pf H6 fT s6 xT netf papf=>?_⟩
    refine ⟨Tf,_,_,_,rfl,rfl,SqT.of xT,rfl,?_⟩
    exact hN _ _ ⟨vf,_,rfl,Kp.trans k5 (Kp.same s6),⟨_,_,_,s6 _ _ hp5⟩,netf,okf,by walk_at"q", fold_lvl kk3⟩
   ·exact hN _ _ ⟨vr,_,rfl,k5,⟨_,_,_,hp5⟩,netr.kt kt5,okr,lenr,rnd_lvl kk3⟩
  ·rintro σ Hc ⟨vn,us,rfl,kc,⟨a6,b6,c6,hp6⟩,net6,oku,lenu,lvu⟩
   refine ⟨_,rfl,_,rfl,_,rfl,_,rfl,p,_,_,_,4,rfl,hp6,by decide,by decide,fun m a7 b7 c7 m0 m4=>?_⟩
   have k7:Kp p H (upd Hc p (.lst [.int a7,.int b7,.int c7])):=Kp.trans kc Kp.upd
   have hp7:(upd Hc p (.lst [.int a7,.int b7,.int c7])) p=some (.lst [.int a7,.int b7,.int c7]):=upd_same
   have net7:=net6.kt (KT.lst (o:=.lst [.int a7,.int b7,.int c7]) hp6 (KT.refl Hc))
   generalize upd Hc p (HO.lst [V.int a7,V.int b7,V.int c7])=H7 at k7 hp7 net7
   refine ⟨p,pw k,m,rfl,⟨_,_,_,hp7⟩,p1,p8,m0,by walk_at"q", fun l8 ws H8 f8 k8 ⟨a8,b8,c8,hp8⟩ ⟨rs8,x8,hr8⟩ okw lenw=>?_⟩
   have net8:=net7.kt (KT.kp k8 hp7 (KT.refl _))
   refine ⟨l8,rs8,rfl,.inl ⟨SqL.of x8,fun t9 f9=>?_⟩⟩
   obtain ⟨H9,e_,s9,x9⟩:=nwz f9 (HO.tup rs8);rw [←e_];clear e_
   have net9:=net8.kt (KT.same s9 (KT.refl _))
   obtain ⟨n,tn,rn,rfl,hn,htn,hrn⟩:=net9
   have l1:=hr8.len
   have l2:=hrn.len
   refine ⟨_,rfl,n,_,_,_,rfl,rfl,SqT.of hn,rfl,t9,tn,_,_,rfl,rfl,x9,htn,lenLine (by walk_at"q"),fun c H10 s10 x10=>?_⟩
   refine ⟨lenLine (by show 2≤100000;decide),fun t11 f11=>?_⟩
   obtain ⟨H11,e_,s11,x11⟩:=nwz f11 (HO.tup [V.int (pw k),V.ref c]);rw [←e_];clear e_
   have s911:=Same.trans s10 s11
   have s811:=Same.trans s9 s911
   refine q _ (pw k) (ws++us) H11 (Kp.trans k7 (Kp.trans k8 (Kp.same s811))) ⟨_,_,_,s811 _ _ hp8⟩ ⟨t11,c,_,rfl,x11,s11 _ _ x10,Refs.app (hr8.same s811) (hrn.same s911)⟩ p1 p8 (okw.app oku) (by rw [List.length_append];walk_at"q") (Lvl.ahead lvu)
theorem sc_in_between:FnScope ["_law_play", "_law_many", "_law_lacks", "_law_owes", "_law_standing", "_law_there", "_law_number", "_law_left"] ["_law_play", "_law_many"] (defScope s_in_between):=⟨rfl,rfl,rfl,by decide +kernel,rfl,by decide +kernel,by decide +kernel⟩
theorem ok_in_between {C:Addr} (T:Bn mg) (TP:PlayT K C) (F:Here K mg "_law_in_between" s_in_between f fd) (MPlay_lacking:MCal P w K mg base C "lacking" 3 ["self"] (spLackB C)) (MPlay_owed:MCal P w K mg base C "owed" 2 ["self"] (spOwedB C)) (MPlay_standing:MCal P w K mg base C "standing" 2 ["self"] (spStandB C)) (MPlay_inside:MCal P w K mg base C "inside" 1 ["self"] (spInside C)) :
  FnOk P w K mg base CX0 4 f fd ["_law_play", "_law_many"] (spInBet C):=by
 refine F.fn.ok sc_in_between (fun vs H Q E h=>?_) (fun cdv A outer s H vs Q E hr h=>?_)
 ·obtain ⟨p,v,wide,ws,L,st,cs,rfl,_⟩:=h
  rfl
 ·obtain ⟨p,v,wide,ws,L,st,cs,rfl,net,pa,go,lv,q⟩:=h
  have w1:=net.2.1
  have ok:=net.2.2.2.1
  have tl:=go.wf.tl
  have ab:=go.abs
  have ml:=go.wf.ml
  have nom:∀ (m:Str),(¬ m = "changes")→(¬ m = "places")→(¬ m = "tally")→(¬ m = "facing")→(¬ m = "net")→(pfl v L).lookup m=none:=fun m=>pfl_no _ _
  have ntk:∀ {Hc:Hp},Same H Hc→NetOk Hc v wide ws:=fun t=>net.kt (KT.same t (KT.refl _))
  refine ⟨_,(pss_cons (ps_set (i:=2) sc_in_between.nd rfl (by walk_at"r") (pe_methC0 (pv 0) TP.cl MPlay_lacking (hr.mono (by walk_at"d"))))
  (pss_cons (ps_set (i:=3) sc_in_between.nd rfl (by walk_at"r") (pe_methC0 (pv 0) TP.cl MPlay_owed (hr.mono (by walk_at"d"))))
  (pss_cons (ps_set (i:=4) sc_in_between.nd rfl (by walk_at"r") (pe_methC0 (pv 0) TP.cl MPlay_standing (hr.mono (by walk_at"d"))))
  (pss_cons (ps_set (i:=5) sc_in_between.nd rfl (by walk_at"r") pe_dnewK)
  (pss_cons (ps_for PassesOwn.never rfl  (pi_list (pv 4)) (pg_name (i:=6) sc_in_between.nd rfl (by walk_at"r"))
  (pss_one (ps_dput (hu_of hr) (pv 5) (pv 6) pe_bl rfl)))
  (pss_cons (ps_if (PW.pt (pw_or (pt_cmpR op_ne (pe_callB call_lenDk rfl T.n_len PySem.boot_len (pa_cons (pv 5) pa_nil)) (pe_callB call_len_seq rfl T.n_len PySem.boot_len (pa_cons (pv 4) pa_nil)) (nomark _)) (pw_or1 (pt_cmpR (op_neL hr.units) (pe_comp ["_law_number"] [("_law_many", 1)] rfl (pi_list (pv 4)) (fun _ _ _ _ _ _=>by exact (pg_name (i:=0) (show List.Nodup (["_law_number", "_law_many"]:List Str) by decide +kernel) rfl (by walk_at"r"))) (fun _ _ _ _ _ _=>by exact (pts_one (pt_not (pt_chain op_le op_lt pe_int (pv 0) (pv 1))))) (fun _ _ _ _ _ _=>by exact (pv 0))) (pe_lst pa_nil) (nomark _)))))
  (pss_one (ps_ret pe_bl))
  pss_nil)
  (pss_cons (ps_setComp (i:=7) sc_in_between.nd rfl (by walk_at"r") ["_law_number"] [("_law_there", 5)] rfl (pi_range1 rfl T.n_range (pa_cons (pv 1) pa_nil)) (fun _ _ _ _ _ _=>by exact (pg_name (i:=0) (show List.Nodup (["_law_number", "_law_there"]:List Str) by decide +kernel) rfl (by walk_at"r"))) (fun _ _ _ _ _ _=>by exact (pts_one (pt_cmp (pc_dnotin (hu_of hr) (pv 0) (pv 1)) (by with_unfolding_all rfl)))) (fun _ _ _ _ _ _=>by exact (pv 0)))
  (pss_cons (ps_if (PW.pt (pw_or (pt_cmpR op_ne (pe_callB call_len_seq rfl T.n_len PySem.boot_len (pa_cons (pv 7) pa_nil)) (pe_callB call_len_seq rfl T.n_len PySem.boot_len (pa_cons (pe_methC0 (pv 0) TP.cl MPlay_inside (hr.mono (by walk_at"d"))) pa_nil)) (nomark _)) (pw_or1 (pt_cmpR (op_neL hr.units) (pv 3) (pe_lst pa_nil) (nomark _)))))
  (pss_one (ps_ret pe_bl))
  pss_nil)
  (pss_one (ps_ret (pe_cmpR (op_eqL hr.units) (pv 2) (pe_comp ["_law_number"] [("_law_standing", 4)] rfl (pi_list (pv 7)) (fun _ _ _ _ _ _=>by exact (pg_name (i:=0) (show List.Nodup (["_law_number", "_law_standing"]:List Str) by decide +kernel) rfl (by walk_at"r"))) (fun _ _ _ _ _ _=>by exact (pts_one (PW.pt (pw_and (pt_cmpR (op_neLK K rfl hr.units) (pv 1) (pe_lst pa_nil) (nomark _)) (pw_and1 (pt_cmpR op_lt (pv 0) (pe_ix (ix_listK K rfl) (pv 1) (pe_un un_neg pe_int) (fun _ _=>rfl)) (nomark _))))))) (fun _ _ _ _ _ _=>by exact (pv 0))) (nomark _)))))))))))),?_⟩
  refine ⟨_,rfl,p,_,_,rfl,pa.ob,nom _ (by decide +kernel) (by decide +kernel) (by decide +kernel) (by decide +kernel) (by decide +kernel),p,v,wide,ws,L,st,rfl,net,pa,tl,ab,fun ll g H1 f1 s1 gr x1=>?_⟩
  refine ⟨_,rfl,p,_,_,rfl,(pa.same s1).ob,nom _ (by decide +kernel) (by decide +kernel) (by decide +kernel) (by decide +kernel) (by decide +kernel),p,v,wide,ws,L,st,rfl,ntk s1,pa.same s1,tl,ab,fun lo os H2 f2 s2 po pwo x2=>?_⟩
  have eo:os=[]:=by
   rw [owedG_none _ _ _ (go.fw rfl).nn] at po
   exact po.eq_nil
  subst eo
  have s02:=Same.trans s1 s2
  refine ⟨_,rfl,p,_,_,rfl,(pa.same s02).ob,nom _ (by decide +kernel) (by decide +kernel) (by decide +kernel) (by decide +kernel) (by decide +kernel),p,v,wide,ws,L,st,rfl,ntk s02,pa.same s02,tl,ab,fun ls ns H3 f3 s3 ps pws x3=>?_⟩
  have s03:=Same.trans s02 s3
  intro ld f4
  have s34:Same H3 (upd H3 ld (HO.dK [])):=same_new f4 _
  have x4:(upd H3 ld (HO.dK [])) ld=some (.dK (dictT (ns.take 0))):=upd_same
  generalize upd H3 ld (HO.dK [])=H4 at s34 x4
  have nd:ns.Nodup:=ps.nodup_iff.mpr (standG_nodup w1 0 st.tal (by walk_at"q"))
  have blw:∀ x∈ns,0≤x∧x<(st.pla.length:Int):=fun x hx=>stand_below ok w1 lv go (ps.mem_iff.mp hx)
  have nl:ns.length≤400:=by
   rw [ps.length_eq]
   have:=standG_len wide 0 st.tal
   walk_at"q"
  refine ⟨_,rfl,ls,rfl,⟨_,SqL.of (s34 _ _ x3)⟩,for_list (K:=K) (a:=ls) (xs:=ns.map V.int) (fun i σ Hc=>∃ v6,σ=[some (.ref p),some (.int (st.pla.length:Int)),some (.ref ll),some (.ref lo),some (.ref ls),some (.ref ld),v6,none]∧Same H3 Hc∧Hc ld=some (.dK (dictT (ns.take i))))
   ⟨none,rfl,s34,x4⟩ (fun i σ Hc _ ⟨_,_,sc,_⟩=>SqL.of (sc _ _ x3)) ?_ ?_⟩
  ·rintro i x σ Hc hx ⟨v6,rfl,sc,xc⟩
   obtain ⟨z,hz,rfl⟩:=int_item hx
   have dl:(dictT (ns.take i)).length≤400:=by unfold dictT;rw [List.length_map,List.length_take];walk_at"q"
   refine ⟨_,rfl,_,rfl,ld,_,rfl,DPut.k (k:=.inl z) xc (lenLt (by walk_at"q")),?_⟩
   refine ⟨_,rfl,Same.put f4 sc,?_⟩
   rw [upd_same,take_snoc hz,dictT_put (nodup_at nd hz)]
  rintro σ H5 ⟨v6,rfl,s35,x5⟩
  rw [List.length_map,List.take_length] at x5
  have l5:(dictT ns).length=ns.length:=by unfold dictT;rw [List.length_map]
  have y5:=s35 _ _ x3
  refine ⟨_,rfl,ld,_,rfl,.inl x5,_,rfl,ls,_,rfl,.inl (SqL.of y5),rfl,_,rfl,iteFd (neNo (by rw [l5,List.length_map])) ?_⟩
  refine ⟨_,rfl,ls,rfl,⟨_,SqL.of y5⟩,fun lc fc=>?_⟩
  refine comp_list (K:=K) (a:=ls) (xs:=ns.map V.int) (fun i ys Hd=>Same H5 Hd∧Hd lc=some (.lst ys)∧ys=[]) ⟨Same.put fc (Same.refl _),upd_same,rfl⟩ (lenLine (by rw [List.length_map];walk_at"q"))
   (fun i ys Hd _ ⟨a1,a2,a3⟩=>⟨SqL.of (a1 _ _ y5),a2,by rw [a3];exact Nat.zero_le _⟩) ?_ ?_
  ·rintro i x ys Hd hx ⟨sd,xd,rfl⟩
   obtain ⟨z,hz,rfl⟩:=int_item hx
   obtain ⟨z0,z1⟩:=blw z (List.mem_of_getElem? hz)
   refine ⟨⟨.inl rfl,.inr rfl,trivial⟩,?_⟩
   refine ⟨_,rfl,_,_,rfl,rfl,_,rfl,iteTd (decide_eq_true z0) ?_⟩
   refine ⟨_,rfl,_,_,rfl,rfl,_,rfl,?_⟩
   rw [decide_eq_true z1]
   exact iteFd (by decide) ⟨sd,xd,rfl⟩
  rintro ys H6 ⟨s56,x6,rfl⟩
  refine ⟨lenLine (by show 0≤100000;decide),fun l7 f7=>?_⟩
  have s67:Same H6 (upd H6 l7 (HO.lst [])):=same_new f7 _
  have x7:(upd H6 l7 (HO.lst [])) l7=some (.lst (([]:List Int).map V.int)):=upd_same
  generalize upd H6 l7 (HO.lst [])=H7 at s67 x7
  refine ⟨lc,l7,[],[],rfl,rfl,SqL.of (s67 _ _ x6),SqL.of x7,_,rfl,iteFd (by decide) ?_⟩
  have s57:=Same.trans s56 s67
  have s37:=Same.trans s35 s57
  have x57:=s57 _ _ x5
  have y7:=s57 _ _ y5
  -- those that are left
  refine ⟨_,rfl,_,rfl,by walk_at"q", by walk_at"q", fun lf ff=>?_⟩
  refine comp_range (n:=st.pla.length) (fun j ys Hd=>Same H7 Hd∧Hd lf=some (.lst ys)∧ys=((rngI j).filter fun x=>decide (x∉ns)).map V.int) ⟨Same.put ff (Same.refl _),upd_same,rfl⟩ (lenLine (by walk_at"q"))
   (fun j ys Hd ⟨a1,a2,a3⟩=>⟨a2,by rw [a3,List.length_map];exact Nat.le_trans (List.length_filter_le _ _) (Nat.le_of_eq (rngI_len j))⟩) ?_ ?_
  ·rintro j ys Hd hj ⟨sd,xd,rfl⟩
   have ej:(0:Int)+(j:Int)=(j:Int):=Int.zero_add _
   rw [ej]
   refine ⟨⟨.inl rfl,.inr rfl,trivial⟩,?_⟩
   refine ⟨_,rfl,_,rfl,ld,_,rfl,DGet.k (k:=.inl (j:Int)) (sd _ _ x57),_,rfl,?_⟩
   rw [dictT_val]
   by_cases c:(j:Int)∈ns
   ·refine iteFd (by simp [c]) ?_
    refine ⟨sd,xd,?_⟩
    rw [rngI_succ,List.filter_append,List.filter_cons,if_neg (by simp [c]),List.filter_nil,List.append_nil]
   ·refine iteTd (by simp [c]) ?_
    refine ⟨_,rfl,xd,Same.put ff sd,upd_same,?_⟩
    rw [rngI_succ,List.filter_append,List.filter_cons,if_pos (by simp [c]),List.filter_nil,List.map_append]
    rfl
  rintro ys H8 ⟨s78,x8,rfl⟩
  have gl:=go_left ok w1 lv go ps
  have s08:=Same.trans s03 (Same.trans s37 s78)
  refine ⟨_,rfl,lf,_,rfl,.inl (SqL.of x8),_,rfl,p,_,_,rfl,(pa.same s08).ob,nom _ (by decide +kernel) (by decide +kernel) (by decide +kernel) (by decide +kernel) (by decide +kernel),p,v,L,st,rfl,pa.same s08,by walk_at"q", fun li H9 fli s9 x9=>?_⟩
  refine ⟨li,_,rfl,.inl (SqL.of x9),rfl,_,rfl,iteFd (neNo (by rw [List.length_map,List.length_map,gl])) ?_⟩
  refine ⟨_,rfl,lenLine (by show 0≤100000;decide),fun l10 f10=>?_⟩
  have s910:Same H9 (upd H9 l10 (HO.lst [])):=same_new f10 _
  have x10:(upd H9 l10 (HO.lst [])) l10=some (.lst (([]:List Int).map V.int)):=upd_same
  generalize upd H9 l10 (HO.lst [])=H10 at s910 x10
  have s810:=Same.trans s9 s910
  have s310:=Same.trans s37 (Same.trans s78 s810)
  refine ⟨lo,l10,[],[],rfl,rfl,SqL.of (s310 _ _ (s3 _ _ x2)),SqL.of x10,_,rfl,iteFd (by decide) ?_⟩
  have z1:=s310 _ _ (s3 _ _ (s2 _ _ x1))
  have z4:=s310 _ _ x3
  have z7:=s810 _ _ x8
  obtain ⟨fl,efl⟩:∃ fl,fl=(rngI st.pla.length).filter fun x=>decide (x∉ns):=⟨_,rfl⟩
  rw [←efl] at z7
  have lfl:fl.length≤400:=by rw [efl];exact Nat.le_trans (List.length_filter_le _ _) (by rw [rngI_len];exact ml)
  have g0:=gr.nonneg
  -- the last
  have lst:ns≠[]→(ns.map V.int)[(ns.map V.int).length-1]?=some (.int g):=fun c=>by
   have pos:0<ns.length:=List.length_pos_iff.mpr c
   have e:ns.getLast?=some (ns.getLast c):=List.getLast?_eq_some_getLast c
   have e2:=last_gr w1 ps pws gr e
   rw [List.length_map,List.getElem?_map,←List.getLast?_eq_getElem?,e,e2]
   rfl
  refine ⟨_,rfl,_,rfl,lf,rfl,⟨_,SqL.of z7⟩,fun lr fr=>?_⟩
  refine comp_list (K:=K) (a:=lf) (xs:=fl.map V.int) (fun i ys Hd=>Same H10 Hd∧Hd lr=some (.lst ys)∧ys=((fl.take i).filter fun x=>decide (ns≠[]) && decide (x<g)).map V.int) ⟨Same.put fr (Same.refl _),upd_same,rfl⟩ (lenLine (by rw [List.length_map];walk_at"q"))
   (fun i ys Hd hi ⟨a1,a2,a3⟩=>⟨SqL.of (a1 _ _ z7),a2,by rw [a3,List.length_map];exact Nat.le_trans (List.length_filter_le _ _) (by rw [List.length_take];walk_at"q")⟩) ?_ ?_
  ·rintro i x ys Hd hx ⟨sd,xd,rfl⟩
   obtain ⟨z,hz,rfl⟩:=int_item hx
   refine ⟨⟨.inl rfl,.inr rfl,trivial⟩,?_⟩
   refine ⟨_,rfl,lenLine (by show 0≤100000;decide),fun l11 f11=>?_⟩
   have s11:Same Hd (upd Hd l11 (HO.lst [])):=same_new f11 _
   have x11:(upd Hd l11 (HO.lst [])) l11=some (.lst (([]:List Int).map V.int)):=upd_same
   generalize upd Hd l11 (HO.lst [])=H11 at s11 x11
   have z411:=s11 _ _ (sd _ _ z4)
   have xd11:=s11 _ _ xd
   have sd11:=Same.trans sd s11
   refine ⟨ls,l11,ns,[],rfl,rfl,SqL.of z411,SqL.of x11,_,rfl,?_⟩
   rw [take_snoc hz,List.filter_append,List.filter_cons,List.filter_nil]
   by_cases c:ns=[]
   ·refine iteFd (by simp [c]) (iteFd (by decide) ⟨sd11,xd11,?_⟩)
    rw [if_neg (by simp [c]),List.append_nil]
   ·refine iteTd (by simp [c]) ?_
    refine ⟨_,rfl,_,rfl,_,rfl,ls,_,_,_,rfl,rfl,SqL.of z411,atI_neg1 (lst c),_,_,rfl,rfl,_,rfl,?_⟩
    by_cases c2:z<g
    ·refine iteTd (decide_eq_true c2) ?_
     refine ⟨_,rfl,xd11,Same.put fr sd11,upd_same,?_⟩
     rw [if_pos (by simp [c,c2]),List.map_append]
     rfl
    ·refine iteFd (by simp [c2]) ⟨sd11,xd11,?_⟩
     rw [if_neg (by simp [c2]),List.append_nil]
  rintro ys H12 ⟨s12,x12,rfl⟩
  rw [List.length_map,List.take_length] at x12
  refine ⟨ll,lr,_,_,rfl,rfl,SqL.of (s12 _ _ z1),SqL.of x12,?_⟩
  have key:lackM wide st.tal g.toNat=fl.filter fun x=>decide (ns≠[]) && decide (x<g):=by
   rw [go_lack ok w1 lv go ps gr,efl,List.filter_filter]
   by_cases c:ns=[]
   ·have e0:g=0:=gr.eq (isGr_none ps c)
    subst e0
    rw [c]
    symm
    rw [List.filter_eq_nil_iff.mpr]
    ·rfl
    ·intro x hx
     simp
   ·have gm:g<(st.pla.length:Int):=by
     rcases List.mem_cons.mp gr.1 with e|e
     ·obtain ⟨x,hx⟩:=List.exists_mem_of_ne_nil ns c
      have:=blw x hx
      walk_at"q"
     ·exact (blw g (ps.mem_iff.mpr e)).2
    have b:=rngI_below (p:=fun x=>decide (x∉ns)) (g:=g.toNat) (st.pla.length-g.toNat)
    rw [show g.toNat+(st.pla.length-g.toNat)=st.pla.length by walk_at"q"] at b
    rw [←b]
    refine List.filter_congr fun x hx=>?_
    rw [show ((g.toNat:Nat):Int)=g by walk_at"q", decide_eq_true c,Bool.true_and,Bool.and_comm]
  have z:Q (.bl (decide (lackM wide st.tal g.toNat=fl.filter fun x=>decide (ns≠[]) && decide (x<g)))) H12:=by
   rw [decide_eq_true key]
   exact q _ (Same.trans s03 (Same.trans s310 s12))
  exact z
theorem sc_numbers_apart:FnScope ["_law_play", "_law_many", "_law_places"] ["_law_play", "_law_many"] (defScope s_numbers_apart):=⟨rfl,rfl,rfl,by decide +kernel,rfl,by decide +kernel,by decide +kernel⟩
theorem ok_numbers_apart {C:Addr} (T:Bn mg) (TP:PlayT K C) (F:Here K mg "_law_numbers_apart" s_numbers_apart f fd) (MPlay_where:MCal P w K mg base C "where" 2 ["self", "walker"] (spWhere C)) :
  FnOk P w K mg base CX0 3 f fd ["_law_play", "_law_many"] (spApart C):=by
 refine F.fn.ok sc_numbers_apart (fun vs H Q E h=>?_) (fun cdv A outer s H vs Q E hr h=>?_)
 ·obtain ⟨p,v,wide,ws,L,st,cs,rfl,_⟩:=h
  rfl
 ·obtain ⟨p,v,wide,ws,L,st,cs,rfl,net,pa,go,lv,outs,q⟩:=h
  have w1:=net.2.1
  have ok:=net.2.2.2.1
  have ml:=go.wf.ml
  have nom:∀ (m:Str),(¬ m = "changes")→(¬ m = "places")→(¬ m = "tally")→(¬ m = "facing")→(¬ m = "net")→(pfl v L).lookup m=none:=fun m=>pfl_no _ _
  refine ⟨_,(pss_cons (ps_setComp (i:=2) sc_numbers_apart.nd rfl (by walk_at"r") ["_law_walker"] [("_law_play", 0)] rfl (pi_range1 rfl T.n_range (pa_cons (pv 1) pa_nil)) (fun _ _ _ _ _ _=>by exact (pg_name (i:=0) (show List.Nodup (["_law_walker", "_law_play"]:List Str) by decide +kernel) rfl (by walk_at"r"))) (fun _ _ _ _ _ _=>by exact pts_nil) (fun _ _ _ _ _ _=>by exact (pe_methC (pv 1) TP.cl MPlay_where (hr.mono (by walk_at"d")) (pa_cons (pv 0) pa_nil))))
  (pss_cons (ps_if (pt_cmpR (op_neD hr.units) (pe_comp ["_law_place"] [] rfl (pi_list (pv 2)) (fun _ _ _ _ _ _=>by exact (pg_name (i:=0) (show List.Nodup (["_law_place"]:List Str) by decide +kernel) rfl (by walk_at"r"))) (fun _ _ _ _ _ _=>by exact (pts_one (pt_cmpR op_ne (pe_ix (ix_tupK K rfl) (pv 0) pe_int (fun _ _=>rfl)) pe_str (nomark _)))) (fun _ _ _ _ _ _=>by exact (pv 0))) (pe_lst pa_nil) (nomark _))
  (pss_one (ps_ret pe_bl))
  pss_nil)
  (pss_one (ps_ret (pe_cmpR (op_eqL hr.units) (pe_callB call_sortedB rfl T.n_sorted PyProof.Rows.boot_sorted (pa_cons (pe_comp ["_law_place"] [] rfl (pi_list (pv 2)) (fun _ _ _ _ _ _=>by exact (pg_name (i:=0) (show List.Nodup (["_law_place"]:List Str) by decide +kernel) rfl (by walk_at"r"))) (fun _ _ _ _ _ _=>by exact pts_nil) (fun _ _ _ _ _ _=>by exact (pe_ix (ix_tupK K rfl) (pv 0) pe_int (fun _ _=>rfl)))) pa_nil)) (pe_callTy (call_listRng rfl) rfl T.n_list boot_listT (pa_cons (pe_callTy call_rng1 rfl T.n_range boot_rangeT (pa_cons (pv 1) pa_nil)) pa_nil)) (nomark _)))))),?_⟩
  refine ⟨_,rfl,_,rfl,by walk_at"q", by walk_at"q", fun lp fp=>?_⟩
  refine comp_range (n:=st.pla.length) (fun j ys Hd=>Same H Hd∧Hd lp=some (.lst ys)∧j≤st.pla.length∧Paired (PlAt Hd) ys (st.pla.take j)) ⟨Same.put fp (Same.refl _),upd_same,Nat.zero_le _,.nil⟩ (lenLine (by walk_at"q"))
   (fun j ys Hd ⟨a1,a2,a4,a3⟩=>⟨a2,by have:=Paired.length a3;rw [List.length_take] at this;walk_at"q"⟩) ?_ ?_
  ·rintro j ys Hd hj ⟨sd,xd,_,pd⟩
   have ej:(0:Int)+(j:Int)=(j:Int):=Int.zero_add _
   rw [ej]
   have hj':st.pla[j]?=some st.pla[j]:=by simp [hj]
   refine ⟨⟨.inl rfl,.inr rfl,trivial⟩,tru_if ?_⟩
   refine ⟨_,rfl,p,_,_,rfl,(pa.same sd).ob,nom _ (by decide +kernel) (by decide +kernel) (by decide +kernel) (by decide +kernel) (by decide +kernel),_,rfl,p,v,L,st,j,_,rfl,pa.same sd,hj',fun t ht=>?_⟩
   have kt:KT Hd (upd Hd lp (HO.lst (ys++[V.ref t]))):=KT.lst xd (KT.refl _)
   refine ⟨xd,Same.put fp sd,upd_same,hj,?_⟩
   rw [take_snoc hj']
   exact Paired.appP (Paired.mapP pd fun _ _ z=>z.kt kt) (.cons ⟨t,rfl,kt _ _ ht⟩ .nil)
  rintro ys H1 ⟨s1,x1,_,pr⟩
  rw [List.take_length] at pr
  have lys:=Paired.length pr
  have item:∀ {i:Nat} {x:V},ys[i]?=some x→∃ t l n,x=.ref t∧H1 t=some (.tup [.str "out", .int l,.int n])∧st.pla[i]?=some (.out l n):=fun {i x} hx=>by
   have il:i<st.pla.length:=by rw [←lys];exact (List.getElem?_eq_some_iff.mp hx).1
   have hi':st.pla[i]?=some st.pla[i]:=by simp [il]
   obtain ⟨a,ea,t,et,ht⟩:=Paired.getP pr hi'
   rw [hx] at ea
   cases ea
   have o:=outs _ (List.mem_of_getElem? hi')
   generalize st.pla[i]=pl at hi' ht o
   cases pl with
   |out l n=>exact ⟨t,l,n,et,ht,hi'⟩
   |before k l=>simp [isOut] at o
   |exit l=>simp [isOut] at o
  refine ⟨_,rfl,lp,rfl,⟨_,SqL.of x1⟩,fun lc fc=>?_⟩
  refine comp_list (K:=K) (a:=lp) (xs:=ys) (fun i zs Hd=>Same H1 Hd∧Hd lc=some (.lst zs)∧zs=[]) ⟨Same.put fc (Same.refl _),upd_same,rfl⟩ (lenLine (by walk_at"q"))
   (fun i zs Hd _ ⟨a1,a2,a3⟩=>⟨SqL.of (a1 _ _ x1),a2,by rw [a3];exact Nat.zero_le _⟩) ?_ ?_
  ·rintro i x zs Hd hx ⟨sd,xd,rfl⟩
   obtain ⟨t,l,n,rfl,ht,_⟩:=item hx
   refine ⟨⟨.inl rfl,trivial⟩,?_⟩
   exact ⟨_,rfl,t,_,_,_,rfl,rfl,SqT.of (sd _ _ ht),rfl,rfl,_,rfl,iteFd (by decide) ⟨sd,xd,rfl⟩⟩
  rintro zs H2 ⟨s2,x2,rfl⟩
  refine ⟨lenLine (by show 0≤100000;decide),fun l3 f3=>?_⟩
  obtain ⟨H3,e_,s3,x3⟩:=nwz f3 (HO.lst []);rw [←e_];clear e_
  refine ⟨.list [],.list [],.lst (s3 _ _ x2) .nil,.lst x3 .nil,by decide +kernel,by decide +kernel,by decide +kernel,_,rfl,iteFd (by decide +kernel) ?_⟩
  have s13:=Same.trans s2 s3
  have y3:=s13 _ _ x1
  refine ⟨_,rfl,lp,rfl,⟨_,SqL.of y3⟩,fun ln fn=>?_⟩
  refine comp_list (K:=K) (a:=lp) (xs:=ys) (fun i zs Hd=>Same H3 Hd∧Hd ln=some (.lst zs)∧zs=(outNs (st.pla.take i)).map V.int∧zs.length≤i) ⟨Same.put fn (Same.refl _),upd_same,rfl,Nat.le_refl _⟩ (lenLine (by walk_at"q"))
   (fun i zs Hd _ ⟨a1,a2,a3,a4⟩=>⟨SqL.of (a1 _ _ y3),a2,a4⟩) ?_ ?_
  ·rintro i x zs Hd hx ⟨sd,xd,ez,lz⟩
   obtain ⟨t,l,n,rfl,ht,hp⟩:=item hx
   refine ⟨⟨.inl rfl,trivial⟩,tru_if ?_⟩
   refine ⟨_,rfl,t,_,_,_,rfl,rfl,SqT.of (sd _ _ (s13 _ _ ht)),rfl,?_⟩
   refine ⟨xd,Same.put fn sd,upd_same,?_,by rw [List.length_append,List.length_singleton];walk_at"q"⟩
   rw [ez,take_snoc hp,outNs_out,List.map_append]
   rfl
  rintro zs H4 ⟨s4,x4,ez,lz⟩
  rw [lys,List.take_length] at ez
  subst ez
  rw [List.length_map] at lz
  refine ⟨ln,_,rfl,SqL.of x4,by walk_at"q", fun l5 ns f5 pm pw=>?_⟩
  obtain ⟨H5,e_,s5,x5⟩:=nwz f5 (HO.lst (ns.map V.int));rw [←e_];clear e_
  refine ⟨_,rfl,_,rfl,fun r6 f6=>?_⟩
  obtain ⟨H6,e_,s6,x6⟩:=nwz f6 (HO.rng 0 (st.pla.length:Int));rw [←e_];clear e_
  refine ⟨r6,0,_,rfl,x6,by decide,by decide,by walk_at"q", by walk_at"q", by walk_at"q", fun l7 f7=>?_⟩
  obtain ⟨H7,e_,s7,x7⟩:=nwz f7 (HO.lst ((rngL 0 (st.pla.length:Int)).map V.int));rw [←e_];clear e_
  refine ⟨l5,l7,_,_,rfl,rfl,SqL.of (s7 _ _ (s6 _ _ x5)),SqL.of x7,?_⟩
  have X:=go.fw rfl
  have key:ns=rngL 0 (st.pla.length:Int):=by
   have e:=(go_rest ok w1 lv go outs).2
   have p2:=pm.trans X.pm
   rw [e] at p2
   rw [rest_stand w1 p2 pw,X.sm,rngL_zero,Int.toNat_natCast]
  have z:Q (.bl (decide (ns=rngL 0 (st.pla.length:Int)))) H7:=by
   rw [decide_eq_true key]
   exact q _ (Same.trans s1 (Same.trans s13 (Same.trans s4 (Same.trans s5 (Same.trans s6 s7)))))
  exact z
theorem sc_steps:FnScope ["_law_pen_here", "_law_play", "_law_turn", "_law_inside"] ["_law_pen_here", "_law_play"] (defScope s_steps):=⟨rfl,rfl,rfl,by decide +kernel,rfl,by decide +kernel,by decide +kernel⟩
theorem ok_steps {C:Addr} (T:Bn mg) (TP:PlayT K C) (F:Here K mg "_law_steps" s_steps f fd) (C_law_take:Callee P w K mg base "_law_take" 1 ["_law_pen_here", "_law_size"] spTake) (MPlay_inside:MCal P w K mg base C "inside" 1 ["self"] (spInside C)) (MPlay_step:MCal P w K mg base C "step" 4 ["self", "walker"] (spStep C)) :
  FnOk P w K mg base CX0 5 f fd ["_law_pen_here", "_law_play"] (spSteps91 C):=by
 refine F.fn.ok sc_steps (fun vs H Q E h=>?_) (fun cdv A outer s H vs Q E hr h=>?_)
 ·obtain ⟨b,pn,p,v,wide,ws,L,st,cs,rfl,_⟩:=h
  rfl
 ·obtain ⟨b,pn,p,v,wide,ws,L,st0,cs,rfl,net,pa0,go0,⟨p1,p2,p3,hp0⟩,npn,q⟩:=h
  have ok:=net.2.2.2.1
  have nom:∀ (m:Str),(¬ m = "changes")→(¬ m = "places")→(¬ m = "tally")→(¬ m = "facing")→(¬ m = "net")→(pfl v L).lookup m=none:=fun m=>pfl_no _ _
  have pen:∀ {Hc:Hp} {st:PlS} {xs:List V} {i j k:Int},PlayAt C Hc p v L st→Hc pn=some (.lst xs)→PlayAt C (upd Hc pn (.lst [.int i,.int j,.int k])) p v L st:=fun {Hc st xs i j k} pl hp=>pl.keep (KpS.upd (S:=[pn]) (by simp)) (KT.lst hp (KT.refl _)) (one_dj npn)
  refine ⟨_,(pss_one (ps_for PassesOwn.never rfl  (pi_range1 rfl T.n_range (pa_cons (pe_callC C_law_take (hr.mono (by walk_at"d")) rfl (pa_cons (pv 0) (pa_cons pe_int pa_nil))) pa_nil)) (pg_name (i:=2) sc_steps.nd rfl (by walk_at"r"))
  (pss_cons (ps_set (i:=3) sc_steps.nd rfl (by walk_at"r") (pe_methC0 (pv 1) TP.cl MPlay_inside (hr.mono (by walk_at"d"))))
  (pss_one (ps_if (pt_cmpR (op_neL hr.units) (pv 3) (pe_lst pa_nil) (nomark _))
  (pss_one (ps_expr (pe_methC (pv 1) TP.cl MPlay_step (hr.mono (by walk_at"d")) (pa_cons (pe_ix ix_list (pv 3) (pe_callC C_law_take (hr.mono (by walk_at"d")) rfl (pa_cons (pv 0) (pa_cons (pe_callB call_len_seq rfl T.n_len PySem.boot_len (pa_cons (pv 3) pa_nil)) pa_nil))) (fun _ _=>rfl)) pa_nil))))
  pss_nil))))),?_⟩
  refine ⟨_,rfl,pn,_,_,_,9,rfl,hp0,by decide,by decide,fun m a1 b1 c1 m0 m9=>?_⟩
  have pl1:=pen (i:=a1) (j:=b1) (k:=c1) pa0 hp0
  have k1:KpS (pn::L.own p) H (upd H pn (HO.lst [V.int a1,V.int b1,V.int c1])):=KpS.upd (by simp)
  have kt1:KT H (upd H pn (HO.lst [V.int a1,V.int b1,V.int c1])):=KT.lst hp0 (KT.refl _)
  have hp1:(upd H pn (HO.lst [V.int a1,V.int b1,V.int c1])) pn=some (.lst [V.int a1,V.int b1,V.int c1]):=upd_same
  generalize upd H pn (HO.lst [V.int a1,V.int b1,V.int c1])=H1 at pl1 k1 kt1 hp1
  refine ⟨m,rfl,by walk_at"q", by walk_at"q", ?_⟩
  refine for_range (n:=m.toNat) (fun i σ Hc=>∃ (v2 v3:Option V) (st:PlS),σ=[some (.ref pn),some (.ref p),v2,v3]∧PlayAt C Hc p v L st∧Go b wide ws st cs∧st.pla.length=st0.pla.length∧Pen Hc pn∧KpS (pn::L.own p) H Hc∧KT H Hc)
   ⟨none,none,st0,rfl,pl1,go0,rfl,⟨_,_,_,hp1⟩,k1,kt1⟩ ?_ ?_
  ·rintro i σ Hc hi ⟨v2,v3,st,rfl,pa,go,len,⟨e1,e2,e3,hp⟩,kc,ktc⟩
   have ml:=go.wf.ml
   refine ⟨_,rfl,p,_,_,rfl,pa.ob,nom _ (by decide +kernel) (by decide +kernel) (by decide +kernel) (by decide +kernel) (by decide +kernel),p,v,L,st,rfl,pa,by walk_at"q", fun li H2 fli s2 xli=>?_⟩
   have pa2:=pa.same s2
   have hp2:=s2 _ _ hp
   have nli:li≠pn:=Ne.symm (ne_of_none hp fli)
   refine ⟨_,rfl,lenLine (by show 0≤100000;decide),fun l3 f3=>?_⟩
   have s3:Same H2 (upd H2 l3 (HO.lst [])):=same_new f3 _
   have x3:(upd H2 l3 (HO.lst [])) l3=some (.lst (([]:List Int).map V.int)):=upd_same
   generalize upd H2 l3 (HO.lst [])=H3 at s3 x3
   have s23:=Same.trans s2 s3
   have pa3:=pa2.same s3
   have hp3:=s3 _ _ hp2
   have xli3:=s3 _ _ xli
   have k3:KpS (pn::L.own p) H H3:=KpS.trans kc (KpS.same s23)
   have kt3:KT H H3:=KT.same s23 ktc
   refine ⟨li,l3,_,_,rfl,rfl,SqL.of xli3,SqL.of x3,_,rfl,?_⟩
   by_cases c:insideM 0 st.pla=[]
   ·refine iteFd (by simp [c]) ?_
    exact ⟨_,_,st,rfl,pa3,go,len,⟨_,_,_,hp3⟩,k3,kt3⟩
   ·refine iteTd (by simp [c]) ?_
    have lpos:0<(insideM 0 st.pla).length:=List.length_pos_iff.mpr c
    have lins:=insideM_len st.pla 0
    refine ⟨_,rfl,p,_,_,rfl,pa3.ob,nom _ (by decide +kernel) (by decide +kernel) (by decide +kernel) (by decide +kernel) (by decide +kernel),_,rfl,_,rfl,_,rfl,_,_,rfl,.inl (SqL.of xli3),pn,_,_,_,_,rfl,hp3,by rw [List.length_map];walk_at"q", by rw [List.length_map];walk_at"q", fun y a4 b4 c4 y0 yl=>?_⟩
    rw [List.length_map] at yl
    have pa4:=pen (i:=a4) (j:=b4) (k:=c4) pa3 hp3
    have k4:KpS (pn::L.own p) H (upd H3 pn (HO.lst [V.int a4,V.int b4,V.int c4])):=KpS.trans k3 (KpS.upd (by simp))
    have kt4:KT H (upd H3 pn (HO.lst [V.int a4,V.int b4,V.int c4])):=KT.lst hp3 kt3
    have hp4:(upd H3 pn (HO.lst [V.int a4,V.int b4,V.int c4])) pn=some (.lst [V.int a4,V.int b4,V.int c4]):=upd_same
    have xli4:(upd H3 pn (HO.lst [V.int a4,V.int b4,V.int c4])) li=_:=(upd_ne nli).trans xli3
    generalize upd H3 pn (HO.lst [V.int a4,V.int b4,V.int c4])=H4 at pa4 k4 kt4 hp4 xli4
    have hy:(insideM 0 st.pla)[y.toNat]?=some ((insideM 0 st.pla).getD y.toNat 0):=getD_lt (by walk_at"q")
    obtain ⟨iw,pl1,ei,hi1,no⟩:=insideM_mem st.pla 0 (List.mem_of_getElem? hy)
    rw [Nat.zero_add] at ei
    refine ⟨li,_,_,_,rfl,rfl,SqL.of xli4,atI_int y0 yl,?_⟩
    rw [ei]
    refine ⟨p,v,wide,ws,L,st,iw,pl1,rfl,net.kt kt4,pa4,go.wf,hi1,no,fun t5 H5 pl5 kl5 x5=>?_⟩
    have kt45:KT H4 H5:=KpL.kt pa4 kl5
    have ks5:KpS (L.own p) H4 H5:=kl5.own
    exact ⟨_,_,_,rfl,pl5,go.step ok hi1,by rw [step_len];exact len,⟨_,_,_,ks5 _ _ hp4 npn⟩,KpS.trans k4 (ks5.mono (fun x h=>by simp [h])),KT.trans kt4 kt45⟩
  ·rintro σ Hc ⟨v2,v3,st,rfl,pa,go,len,hp,kc,ktc⟩
   exact q st Hc pa go len hp kc ktc
theorem sc_at_rest:FnScope ["_law_play", "_law_net", "_law_came", "_law_total"] ["_law_play", "_law_net", "_law_came"] (defScope s_at_rest):=⟨rfl,rfl,rfl,by decide +kernel,rfl,by decide +kernel,by decide +kernel⟩
theorem ok_at_rest {C:Addr} (T:Bn mg) (TP:PlayT K C) (F:Here K mg "_law_at_rest" s_at_rest f fd) (MPlay_inside:MCal P w K mg base C "inside" 1 ["self"] (spInside C)) (MPlay_standing:MCal P w K mg base C "standing" 2 ["self"] (spStandB C)) (MPlay_owed:MCal P w K mg base C "owed" 2 ["self"] (spOwedB C)) (MPlay_lacking:MCal P w K mg base C "lacking" 3 ["self"] (spLackB C)) (MPlay_counts:MCal P w K mg base C "counts" 1 ["self"] (spCountsP C)) (Cis_level:Callee P w K mg base "is_level" 2 ["counts"] spLevel) (Cexits:Callee P w K mg base "exits" 2 ["net", "counts"] spExits) :
  FnOk P w K mg base CX0 4 f fd ["_law_play", "_law_net", "_law_came"] (spAtR91 C):=by
 refine F.fn.ok sc_at_rest (fun vs H Q E h=>?_) (fun cdv A outer s H vs Q E hr h=>?_)
 ·obtain ⟨b,p,v,wide,ws,L,st,en,cs,rfl,_⟩:=h
  rfl
 ·obtain ⟨b,p,v,wide,ws,L,st,en,cs,rfl,net,pa,go,lv,outs,hen,q⟩:=h
  have w1:=net.2.1
  have w8:=net.2.2.1
  have ok:=net.2.2.2.1
  have len:=net.2.2.2.2
  have tl:=go.wf.tl
  have ab:=go.abs
  have ml:=go.wf.ml
  obtain ⟨et,el⟩:=go_rest ok w1 lv go outs
  have inE:insideM 0 st.pla=[]:=insideM_none _ _ outs
  have nom:∀ (m:Str),(¬ m = "changes")→(¬ m = "places")→(¬ m = "tally")→(¬ m = "facing")→(¬ m = "net")→(pfl v L).lookup m=none:=fun m=>pfl_no _ _
  have ntk:∀ {Hc:Hp},Same H Hc→NetOk Hc v wide ws:=fun t=>net.kt (KT.same t (KT.refl _))
  -- how many numbers stand or are owed
  have tb:cs.sum≤400∧-400≤cs.sum:=by
   have e:st.tal.sum=cs.sum:=by rw [el,levelM_sum (by walk_at"q")]
   have:∀ t:List Int,t.sum≤(absS t:Int)∧-(absS t:Int)≤t.sum:=fun t=>by
    induction t with
    |nil=>exact ⟨Int.le_refl _,Int.le_refl _⟩
    |cons c r ih =>
     rw [List.sum_cons]
     show _≤((c.natAbs+absS r:Nat):Int)∧-((c.natAbs+absS r:Nat):Int)≤_
     walk_at"q"
   have:=this st.tal
   walk_at"q"
  refine ⟨_,(pss_cons (ps_set (i:=3) sc_at_rest.nd rfl (by walk_at"r") (pe_callB (call_sumL rfl) rfl T.n_sum PyProof.Rows.boot_sum (pa_cons (pv 2) pa_nil)))
  (pss_cons (ps_if (PW.pt (pw_or (pt_cmpR (op_neL hr.units) (pe_methC0 (pv 0) TP.cl MPlay_inside (hr.mono (by walk_at"d"))) (pe_lst pa_nil) (nomark _)) (pw_or (pt_cmpR (op_neL hr.units) (pe_methC0 (pv 0) TP.cl MPlay_standing (hr.mono (by walk_at"d"))) (pe_callTy (call_listRng rfl) rfl T.n_list boot_listT (pa_cons (pe_callTy call_rng1 rfl T.n_range boot_rangeT (pa_cons (pv 3) pa_nil)) pa_nil)) (nomark _)) (pw_or1 (pt_cmpR (op_neL hr.units) (pe_methC0 (pv 0) TP.cl MPlay_owed (hr.mono (by walk_at"d"))) (pe_callTy (call_listRng rfl) rfl T.n_list boot_listT (pa_cons (pe_callTy call_rng2 rfl T.n_range boot_rangeT (pa_cons (pv 3) (pa_cons pe_int pa_nil))) pa_nil)) (nomark _))))))
  (pss_one (ps_ret pe_bl))
  pss_nil)
  (pss_one (ps_ret (pe_and (pe_cmpR (op_eqL hr.units) (pe_methC0 (pv 0) TP.cl MPlay_lacking (hr.mono (by walk_at"d"))) (pe_lst pa_nil) (nomark _)) (pe_and (pe_callC Cis_level (hr.mono (by walk_at"d")) rfl (pa_cons (pe_methC0 (pv 0) TP.cl MPlay_counts (hr.mono (by walk_at"d"))) pa_nil)) (pe_one (pe_cmpR (op_eqL hr.units) (pe_methC0 (pv 0) TP.cl MPlay_counts (hr.mono (by walk_at"d"))) (pe_callC Cexits (hr.mono (by walk_at"d")) rfl (pa_cons (pv 1) (pa_cons (pv 2) pa_nil))) (nomark _))))))))),?_⟩
  refine ⟨_,rfl,en,cs,rfl,SqL.of hen,?_⟩
  refine ⟨_,rfl,p,_,_,rfl,pa.ob,nom _ (by decide +kernel) (by decide +kernel) (by decide +kernel) (by decide +kernel) (by decide +kernel),p,v,L,st,rfl,pa,by walk_at"q", fun li H1 f1 s1 x1=>?_⟩
  rw [inE] at x1
  refine ⟨lenLine (by show 0≤100000;decide),fun l2 f2=>?_⟩
  have s2:Same H1 (upd H1 l2 (HO.lst [])):=same_new f2 _
  have x2:(upd H1 l2 (HO.lst [])) l2=some (.lst (([]:List Int).map V.int)):=upd_same
  generalize upd H1 l2 (HO.lst [])=H2 at s2 x2
  refine ⟨li,l2,[],[],rfl,rfl,SqL.of (s2 _ _ x1),SqL.of x2,_,rfl,iteFd (by decide) ?_⟩
  have s02:=Same.trans s1 s2
  -- standing
  refine ⟨_,rfl,p,_,_,rfl,(pa.same s02).ob,nom _ (by decide +kernel) (by decide +kernel) (by decide +kernel) (by decide +kernel) (by decide +kernel),p,v,wide,ws,L,st,rfl,ntk s02,pa.same s02,tl,ab,fun l3 ns H3 f3 s3 pm pw x3=>?_⟩
  rw [el] at pm
  have e3:=rest_stand w1 pm pw
  refine ⟨_,rfl,_,rfl,fun r4 f4=>?_⟩
  obtain ⟨H4,e_,s4,x4⟩:=nwz f4 (HO.rng 0 cs.sum);rw [←e_];clear e_
  refine ⟨r4,0,_,rfl,x4,by decide,by decide,by walk_at"q", by walk_at"q", by walk_at"q", fun l5 f5=>?_⟩
  obtain ⟨H5,e_,s5,x5⟩:=nwz f5 (HO.lst ((rngL 0 cs.sum).map V.int));rw [←e_];clear e_
  refine ⟨l3,l5,_,_,rfl,rfl,SqL.of (s5 _ _ (s4 _ _ x3)),SqL.of x5,_,rfl,iteFd (by rw [e3,rngL_up];simp) ?_⟩
  have s05:=Same.trans s02 (Same.trans s3 (Same.trans s4 s5))
  -- owed
  refine ⟨_,rfl,p,_,_,rfl,(pa.same s05).ob,nom _ (by decide +kernel) (by decide +kernel) (by decide +kernel) (by decide +kernel) (by decide +kernel),p,v,wide,ws,L,st,rfl,ntk s05,pa.same s05,tl,ab,fun l6 os H6 f6 s6 pmo pwo x6=>?_⟩
  rw [el] at pmo
  have e6:=rest_owed w1 pmo pwo
  refine ⟨_,rfl,_,_,rfl,fun r7 f7=>?_⟩
  obtain ⟨H7,e_,s7,x7⟩:=nwz f7 (HO.rng cs.sum 0);rw [←e_];clear e_
  refine ⟨r7,_,0,rfl,x7,by walk_at"q", by walk_at"q", by decide,by decide,by walk_at"q", fun l8 f8=>?_⟩
  obtain ⟨H8,e_,s8,x8⟩:=nwz f8 (HO.lst ((rngL cs.sum 0).map V.int));rw [←e_];clear e_
  refine ⟨l6,l8,_,_,rfl,rfl,SqL.of (s8 _ _ (s7 _ _ x6)),SqL.of x8,_,rfl,iteFd (by rw [e6,rngL_down];simp) ?_⟩
  have s08:=Same.trans s05 (Same.trans s6 (Same.trans s7 s8))
  -- lacking
  refine ⟨_,rfl,p,_,_,rfl,(pa.same s08).ob,nom _ (by decide +kernel) (by decide +kernel) (by decide +kernel) (by decide +kernel) (by decide +kernel),p,v,wide,ws,L,st,rfl,ntk s08,pa.same s08,tl,ab,fun l9 g H9 f9 s9 gr x9=>?_⟩
  rw [el] at gr
  rw [el,rest_lack w1 gr] at x9
  refine ⟨lenLine (by show 0≤100000;decide),fun l10 f10=>?_⟩
  have s10:Same H9 (upd H9 l10 (HO.lst [])):=same_new f10 _
  have x10:(upd H9 l10 (HO.lst [])) l10=some (.lst (([]:List Int).map V.int)):=upd_same
  generalize upd H9 l10 (HO.lst [])=H10 at s10 x10
  refine ⟨l9,l10,[],[],rfl,rfl,SqL.of (s10 _ _ x9),SqL.of x10,_,rfl,iteTd (by decide) ?_⟩
  have s010:=Same.trans s08 (Same.trans s9 s10)
  refine ⟨_,rfl,p,_,_,rfl,(pa.same s010).ob,nom _ (by decide +kernel) (by decide +kernel) (by decide +kernel) (by decide +kernel) (by decide +kernel),p,v,L,st,rfl,pa.same s010,fun c11 H11 f11 s11 x11=>?_⟩
  refine ⟨c11,_,rfl,x11,by walk_at"q", by walk_at"q", fun bl H12 s12 hbl=>?_⟩
  have eb:bl=true:=hbl.mpr (by rw [el];exact isLevel_levelM w1)
  subst eb
  refine ⟨_,rfl,iteTd rfl ?_⟩
  have s012:=Same.trans s010 (Same.trans s11 s12)
  refine ⟨_,rfl,p,_,_,rfl,(pa.same s012).ob,nom _ (by decide +kernel) (by decide +kernel) (by decide +kernel) (by decide +kernel) (by decide +kernel),p,v,L,st,rfl,pa.same s012,fun c13 H13 f13 s13 x13=>?_⟩
  have s013:=Same.trans s012 s13
  refine ⟨_,rfl,_,rfl,v,wide,ws,en,cs,rfl,(ntk s013).1,ok,by walk_at"q", s013 _ _ hen,go.cl,fun c14 H14 f14 s14 x14=>?_⟩
  refine ⟨c13,c14,_,_,rfl,rfl,SqL.of (s14 _ _ x13),SqL.of x14,?_⟩
  have z:Q (.bl (decide (st.tal=thruM cs ws))) H14:=by
   rw [decide_eq_true et]
   exact q _ (Same.trans s013 s14)
  exact z
theorem sc_law:FnScope ["_law_script", "_law_pen_here", "_law_net", "_law_play", "_law_came", "_law_many", "_law_k", "_law_lane", "_law_turn"] ["_law_script"] (defScope s_law):=⟨rfl,rfl,rfl,by decide +kernel,rfl,by decide +kernel,by decide +kernel⟩
theorem ok_law {C:Addr} (T:Bn mg) (TP:PlayT K C) (F:Here K mg "law" s_law f fd) (C_law_pen:Callee P w K mg base "_law_pen" 1 ["_law_script", "_law_k"] (spPenB K)) (C_law_take:Callee P w K mg base "_law_take" 1 ["_law_pen_here", "_law_size"] spTake) (C_law_built_net:Callee P w K mg base "_law_built_net" 12 ["_law_pen_here"] spBuilt91)
  (MkPlay:Maker P w K mg base "Play" C 1 ["self", "net"] (spPInit C)) (MPlay_enter:MCal P w K mg base C "enter" 4 ["self", "lane"] (spEnter C 1)) (MPlay_enter_back:MCal P w K mg base C "enter_back" 4 ["self", "lane"] (spEnter C (-1))) (MPlay_rest:MCal P w K mg base C "rest" 5 ["self"] (spRest C))
  (C_law_steps:Callee P w K mg base "_law_steps" 5 ["_law_pen_here", "_law_play"] (spSteps91 C)) (C_law_in_between:Callee P w K mg base "_law_in_between" 4 ["_law_play", "_law_many"] (spInBet C)) (C_law_at_rest:Callee P w K mg base "_law_at_rest" 4 ["_law_play", "_law_net", "_law_came"] (spAtR91 C)) (C_law_numbers_apart:Callee P w K mg base "_law_numbers_apart" 3 ["_law_play", "_law_many"] (spApart C)) :
  FnOk P w K mg base CX0 13 f fd ["_law_script"] (spLaw K):=by
 refine F.fn.ok sc_law (fun vs H Q E h=>?_) (fun cdv A outer s H vs Q E hr h=>?_)
 ·obtain ⟨a,ns,rfl,_⟩:=h
  rfl
 ·obtain ⟨a,ns,rfl,hS,h63,q⟩:=h
  refine ⟨_,(pss_cons (ps_set (i:=1) sc_law.nd rfl (by walk_at"r") (pe_callC C_law_pen (hr.mono (by walk_at"d")) rfl (pa_cons (pv 0) (pa_cons pe_int pa_nil))))
  (pss_cons (ps_set (i:=2) sc_law.nd rfl (by walk_at"r") (pe_callC C_law_built_net (hr.mono (by walk_at"d")) rfl (pa_cons (pv 1) pa_nil)))
  (pss_cons (ps_set (i:=3) sc_law.nd rfl (by walk_at"r") (pe_makeC MkPlay (hr.mono (by walk_at"d")) rfl (pa_cons (pv 2) pa_nil)))
  (pss_cons (ps_set (i:=4) sc_law.nd rfl (by walk_at"r") (pe_op op_rep (pe_lst (pa_cons pe_int pa_nil)) (pe_ix ix_tup (pv 2) pe_int (fun _ _=>rfl))))
  (pss_cons (ps_set (i:=5) sc_law.nd rfl (by walk_at"r") (pe_ix ix_list (pe_lst (pa_cons (pe_callC C_law_take (hr.mono (by walk_at"d")) rfl (pa_cons (pv 1) (pa_cons pe_int pa_nil))) (pa_cons (pe_op op_add pe_int (pe_callC C_law_take (hr.mono (by walk_at"d")) rfl (pa_cons (pv 1) (pa_cons pe_int pa_nil)))) pa_nil))) (pe_op op_fdiv (pe_callC C_law_take (hr.mono (by walk_at"d")) rfl (pa_cons (pv 1) (pa_cons pe_int pa_nil))) pe_int) (fun _ _=>rfl)))
  (pss_cons (ps_for PassesOwn.never rfl  (pi_range1 rfl T.n_range (pa_cons (pv 5) pa_nil)) (pg_name (i:=6) sc_law.nd rfl (by walk_at"r"))
  (pss_cons (ps_set (i:=1) sc_law.nd rfl (by walk_at"r") (pe_callC C_law_pen (hr.mono (by walk_at"d")) rfl (pa_cons (pv 0) (pa_cons (pe_op op_add pe_int (pv 6)) pa_nil))))
  (pss_cons (ps_set (i:=7) sc_law.nd rfl (by walk_at"r") (pe_callC C_law_take (hr.mono (by walk_at"d")) rfl (pa_cons (pv 1) (pa_cons (pe_ix ix_tup (pv 2) pe_int (fun _ _=>rfl)) pa_nil))))
  (pss_cons (ps_if (pt_cmpR op_ne (pe_methC (pv 3) TP.cl MPlay_enter (hr.mono (by walk_at"d")) (pa_cons (pv 7) pa_nil)) (pv 6) (nomark _))
  (pss_one (ps_ret pe_bl))
  pss_nil)
  (pss_cons (ps_asg (pe_op op_add (pe_ix ix_list (pv 4) (pv 7) (fun _ _=>rfl)) pe_int) (pg_sub (pv 4) (pv 7) set_list))
  (pss_cons (ps_expr (pe_callC C_law_steps (hr.mono (by walk_at"d")) rfl (pa_cons (pv 1) (pa_cons (pv 3) pa_nil))))
  (pss_one (ps_if (PW.pt (pw_and (PW.pt (pw_or (pt_cmpR op_lt (pv 6) pe_int (nomark _)) (pw_or1 (pt_cmpR op_eq (pe_op op_mod (pv 6) pe_int) pe_int (nomark _))))) (pw_and1 (pt_not (pt_val (pe_callC C_law_in_between (hr.mono (by walk_at"d")) rfl (pa_cons (pv 3) (pa_cons (pe_op op_add (pv 6) pe_int) pa_nil))))))))
  (pss_one (ps_ret pe_bl))
  pss_nil))))))))
  (pss_cons (ps_expr (pe_methC0 (pv 3) TP.cl MPlay_rest (hr.mono (by walk_at"d"))))
  (pss_cons (ps_if (PW.pt (pw_or (pt_not (pt_val (pe_callC C_law_at_rest (hr.mono (by walk_at"d")) rfl (pa_cons (pv 3) (pa_cons (pv 2) (pa_cons (pv 4) pa_nil)))))) (pw_or1 (pt_not (pt_val (pe_callC C_law_numbers_apart (hr.mono (by walk_at"d")) rfl (pa_cons (pv 3) (pa_cons (pv 5) pa_nil))))))))
  (pss_one (ps_ret pe_bl))
  pss_nil)
  (pss_cons (ps_for PassesOwn.never rfl  (pi_range1 rfl T.n_range (pa_cons (pe_op op_mul (pe_callC C_law_take (hr.mono (by walk_at"d")) rfl (pa_cons (pv 1) (pa_cons pe_int pa_nil))) (pe_callC C_law_take (hr.mono (by walk_at"d")) rfl (pa_cons (pv 1) (pa_cons pe_int pa_nil)))) pa_nil)) (pg_name (i:=8) sc_law.nd rfl (by walk_at"r"))
  (pss_cons (ps_set (i:=7) sc_law.nd rfl (by walk_at"r") (pe_callC C_law_take (hr.mono (by walk_at"d")) rfl (pa_cons (pv 1) (pa_cons (pe_ix ix_tup (pv 2) pe_int (fun _ _=>rfl)) pa_nil))))
  (pss_cons (ps_expr (pe_methC (pv 3) TP.cl MPlay_enter_back (hr.mono (by walk_at"d")) (pa_cons (pv 7) pa_nil)))
  (pss_cons (ps_asg (pe_op op_sub (pe_ix ix_list (pv 4) (pv 7) (fun _ _=>rfl)) pe_int) (pg_sub (pv 4) (pv 7) set_list))
  (pss_one (ps_expr (pe_callC C_law_steps (hr.mono (by walk_at"d")) rfl (pa_cons (pv 1) (pa_cons (pv 3) pa_nil)))))))))
  (pss_cons (ps_expr (pe_methC0 (pv 3) TP.cl MPlay_rest (hr.mono (by walk_at"d"))))
  (pss_one (ps_ret (pe_callC C_law_at_rest (hr.mono (by walk_at"d")) rfl (pa_cons (pv 3) (pa_cons (pv 2) (pa_cons (pv 4) pa_nil)))))))))))))))),?_⟩
  refine ⟨_,rfl,a,ns,0,rfl,hS,h63,by walk_at"q", by walk_at"q", fun p0 pa pb pc fp=>?_⟩
  refine ⟨_,rfl,p0,rfl,⟨_,_,_,upd_same⟩,fun v wide ws H1 k1 ⟨a1,b1,c1,hp1⟩ net w1 w8 ok len lv=>?_⟩
  have s1:Same H H1:=Kp.fresh fp k1
  obtain ⟨n,tn,rns,ev,hn,htn,hrs⟩:=id net
  subst ev
  have nt1:NetOk H1 (.ref n) wide ws:=⟨net,w1,w8,ok,len⟩
  -- the play
  refine ⟨_,rfl,fun x dx fx fdx ndx=>?_⟩
  refine mk_play nt1 x dx fx fdx fun L H2 frL pl2 s12=>?_
  have nom:∀ (m:Str),(¬ m = "changes")→(¬ m = "places")→(¬ m = "tally")→(¬ m = "facing")→(¬ m = "net")→(pfl (.ref n) L).lookup m=none:=fun m=>pfl_no _ _
  have hn2:=s12 _ _ hn
  have hp2:=s12 _ _ hp1
  -- what came
  refine ⟨lenLine (by show 1≤100000;decide),fun l3 f3=>?_⟩
  refine ⟨_,rfl,n,_,_,_,rfl,rfl,SqT.of ((same_new f3 _) _ _ hn2),rfl,l3,wide,_,rfl,rfl,upd_same,by walk_at"q", by walk_at"q", lenLine (by show 1*wide.toNat≤100000;walk_at"q"),fun en f4=>?_⟩
  have er:(List.replicate wide.toNat [V.int 0]).flatten=(List.replicate wide.toNat (0:Int)).map V.int:=by
   generalize wide.toNat=k
   induction k with
   |zero=>rfl
   |succ k ih=>rw [List.replicate_succ,List.flatten_cons,ih,List.replicate_succ,List.map_cons];rfl
  rw [er]
  have s4:Same H2 (upd (upd H2 l3 (HO.lst [V.int 0])) en (HO.lst ((List.replicate wide.toNat (0:Int)).map V.int))):=Same.trans (same_new f3 _) (same_new f4 _)
  have x4:(upd (upd H2 l3 (HO.lst [V.int 0])) en (HO.lst ((List.replicate wide.toNat (0:Int)).map V.int))) en=some (.lst ((List.replicate wide.toNat (0:Int)).map V.int)):=upd_same
  have f4':H2 en=none:=(same_new f3 _).free f4
  generalize upd (upd H2 l3 (HO.lst [V.int 0])) en (HO.lst ((List.replicate wide.toNat (0:Int)).map V.int))=H4 at s4 x4
  have s14:=Same.trans s12 s4
  have W4:W91 true C H H1 H4 x (.ref n) wide ws L (startM wide ws) en (List.replicate wide.toNat 0) p0 :=
   ⟨Same.trans s1 s14,KT.same s14 (KT.refl _),pl2.same s4,Go.start w1,x4,⟨_,_,_,s4 _ _ hp2⟩,(fun z=>by have:=frL _ z;rw [hp1] at this;cases this),Ne.symm (ne_of_none hp2 f4'),fun z=>pl2.live _ z f4',fun b hb=>s1.free (frL b hb),(Same.trans s1 s12).free f4',fp⟩
  have e4:(startM wide ws).pla.length=0:=rfl
  generalize startM wide ws=st4 at W4 e4
  generalize List.replicate wide.toNat (0:Int)=cs4 at W4
  clear s4 x4 f4 f4' f3 er s14 hn2 hp2 pl2
  -- how many
  obtain ⟨_,_,_,hp4⟩:=id W4.pe
  refine ⟨_,rfl,p0,_,_,_,31,rfl,hp4,by decide,by decide,fun r5 a5 b5 c5 r50 r51=>?_⟩
  have W5:=W4.take a5 b5 c5
  have hp5:(upd H4 p0 (HO.lst [V.int a5,V.int b5,V.int c5])) p0=some (.lst [V.int a5,V.int b5,V.int c5]):=upd_same
  generalize upd H4 p0 (HO.lst [V.int a5,V.int b5,V.int c5])=H5 at W5 hp5
  refine ⟨_,rfl,p0,_,_,_,101,rfl,hp5,by decide,by decide,fun r6 a6 b6 c6 r60 r61=>?_⟩
  have W6:=W5.take a6 b6 c6
  have hp6:(upd H5 p0 (HO.lst [V.int a6,V.int b6,V.int c6])) p0=some (.lst [V.int a6,V.int b6,V.int c6]):=upd_same
  generalize upd H5 p0 (HO.lst [V.int a6,V.int b6,V.int c6])=H6 at W6 hp6
  refine ⟨_,_,rfl,rfl,lenLine (by show 2≤100000;decide),fun l7 f7=>?_⟩
  have s7:Same H6 (upd H6 l7 (HO.lst [V.int r5,V.int (100+r6)])):=same_new f7 _
  have x7:(upd H6 l7 (HO.lst [V.int r5,V.int (100+r6)])) l7=some (.lst [V.int r5,V.int (100+r6)]):=upd_same
  have n7:l7≠p0:=Ne.symm (ne_of_none hp6 f7)
  generalize upd H6 l7 (HO.lst [V.int r5,V.int (100+r6)])=H7 at s7 x7
  have W7:=W6.same s7
  refine ⟨_,rfl,p0,_,_,_,8,rfl,s7 _ _ hp6,by decide,by decide,fun r8 a8 b8 c8 r80 r81=>?_⟩
  have W8:=W7.take a8 b8 c8
  have x8:(upd H7 p0 (HO.lst [V.int a8,V.int b8,V.int c8])) l7=some (.lst [V.int r5,V.int (100+r6)]):=(upd_ne n7).trans x7
  generalize upd H7 p0 (HO.lst [V.int a8,V.int b8,V.int c8])=H8 at W8 x8
  obtain ⟨m,em,m0,m200⟩:∃ m:Int,atI [V.int r5,V.int (100+r6)] (r8 / 7)=some (.int m)∧0≤m∧m≤200:=by
   have h:r8 / 7=0∨r8 / 7=1:=by walk_at"q"
   rcases h with h|h
   ·rw [h];exact ⟨r5,rfl,r50,by walk_at"q"⟩
   ·rw [h];exact ⟨100+r6,rfl,by walk_at"q", by walk_at"q"⟩
  refine ⟨_,_,rfl,rfl,⟨by decide,by decide⟩,l7,_,_,_,rfl,rfl,SqL.of x8,em,?_⟩
  clear em x8 x7 s7 hp6 hp5 hp4 W4 W5 W6 W7
  -- they come in
  refine ⟨_,rfl,m,rfl,by walk_at"q", by walk_at"q", ?_⟩
  refine for_range (n:=m.toNat) (fun i σ Hc=>∃ (v6 v7:Option V) (pn:Addr) (st:PlS) (cs:List Int),σ=[some (.ref a),some (.ref pn),some (.ref n),some (.ref x),some (.ref en),some (.int m),v6,v7,none]∧W91 true C H H1 Hc x (.ref n) wide ws L st en cs pn∧st.pla.length=i)
   ⟨none,none,p0,st4,cs4,rfl,W8,e4⟩ ?_ ?_
  ·rintro i σ Hc hi ⟨v6,v7,pn0,st,cs,rfl,Wc,leni⟩
   have i200:i<200:=by walk_at"q"
   refine ⟨_,rfl,_,rfl,_,_,rfl,rfl,a,ns,1+(0+(i:Int)),rfl,Wc.sm.seq hS,h63,by walk_at"q", by walk_at"q", fun pn ea eb ec fpn=>?_⟩
   have Wd:=Wc.pen fpn ea eb ec
   have hpd:(upd Hc pn (HO.lst [V.int ea,V.int eb,V.int ec])) pn=some (.lst [V.int ea,V.int eb,V.int ec]):=upd_same
   generalize upd Hc pn (HO.lst [V.int ea,V.int eb,V.int ec])=Hd at Wd hpd
   refine ⟨_,rfl,_,rfl,n,_,_,_,rfl,rfl,SqT.of (Wd.kt _ _ hn),rfl,pn,_,_,_,wide,rfl,hpd,by walk_at"q", by walk_at"q", fun lane q1 q2 q3 l0 l1=>?_⟩
   have We:=Wd.take q1 q2 q3
   generalize upd Hd pn (HO.lst [V.int q1,V.int q2,V.int q3])=He at We
   have ml:st.pla.length<400:=by walk_at"q"
   refine ⟨_,rfl,x,_,_,rfl,We.pl.ob,nom _ (by decide +kernel) (by decide +kernel) (by decide +kernel) (by decide +kernel) (by decide +kernel),_,rfl,x,.ref n,wide,ws,L,st,lane,rfl,nt1.kt We.kt,We.pl,We.go.wf,l0,l1,fun H9 pl9 kl9=>?_⟩
   refine ⟨_,rfl,rfl,_,rfl,iteFd (neNo (by congr 1;walk_at"q")) ?_⟩
   have lcs:=We.go.cl
   have he9:=(KpL.own (p:=x) kl9) _ _ We.he We.n3
   refine ⟨_,rfl,_,rfl,en,_,_,_,rfl,rfl,SqL.of he9,atI_int l0 (by walk_at"q"),_,_,rfl,rfl,_,rfl,_,rfl,en,_,lane,lane.toNat,rfl,rfl,he9,ixN_of l0 (by rw [List.length_map];walk_at"q"),?_⟩
   have Wf:=We.enter ok l0 l1 (.inl rfl) (fun _=>rfl) ml pl9 kl9 (ys:=(cs.map V.int).set lane.toNat (V.int (cs.getD lane.toNat 0+1))) ((List.map_set).symm)
   generalize upd H9 en (HO.lst ((cs.map V.int).set lane.toNat (V.int (cs.getD lane.toNat 0+1))))=Hf at Wf
   have lenf:(enterM ws st lane 1).pla.length=i+1:=by simp [enterM];walk_at"q"
   generalize (cs.set lane.toNat (cs.getD lane.toNat 0+1))=cs1 at Wf
   generalize enterM ws st lane 1=st1 at Wf lenf
   refine ⟨_,rfl,_,rfl,true,pn,x,.ref n,wide,ws,L,st1,cs1,rfl,nt1.kt Wf.kt,Wf.pl,Wf.go,Wf.pe,Wf.n1,fun st2 H10 pl10 go10 len10 pe10 k10 kt10=>?_⟩
   have Wg:=Wf.keep k10 kt10 pl10 go10 pe10
   rw [lenf] at len10
   have bet:∀ (H':Hp),Same H10 H'→∃ (v6 v7:Option V) (pn':Addr) (st':PlS) (cs':List Int),([some (.ref a),some (.ref pn),some (.ref n),some (.ref x),some (.ref en),some (.int m),some (.int (0+(i:Int))),some (.int lane),none]:St)=[some (.ref a),some (.ref pn'),some (.ref n),some (.ref x),some (.ref en),some (.int m),v6,v7,none]∧W91 true C H H1 H' x (.ref n) wide ws L st' en cs' pn'∧st'.pla.length=i+1:=fun H' s'=>⟨_,_,pn,st2,cs1,rfl,Wg.same s',len10⟩
   have ev:([.ref x,.int (0+(i:Int)+1)]:List V)=[.ref x,.int (st2.pla.length:Int)]:=by rw [len10,Int.zero_add];rfl
   refine ⟨_,rfl,_,_,rfl,rfl,_,rfl,?_⟩
   by_cases c1:(0+(i:Int))<31
   ·refine iteTd (decide_eq_true c1) (iteTd rfl ?_)
    refine ⟨_,rfl,_,rfl,_,_,rfl,rfl,x,.ref n,wide,ws,L,st2,cs1,ev,nt1.kt Wg.kt,Wg.pl,Wg.go,lv,fun H11 s11=>?_⟩
    exact ⟨_,rfl,iteFd (by decide) (bet _ s11)⟩
   ·refine iteFd (by rw [decide_eq_false c1];decide) ?_
    refine ⟨_,rfl,_,_,rfl,rfl,by decide,rfl,_,rfl,?_⟩
    refine ite2 (fun g=>?_) (fun g=>?_)
    ·refine ⟨_,rfl,_,rfl,_,_,rfl,rfl,x,.ref n,wide,ws,L,st2,cs1,ev,nt1.kt Wg.kt,Wg.pl,Wg.go,lv,fun H11 s11=>?_⟩
     exact ⟨_,rfl,iteFd (by decide) (bet _ s11)⟩
    ·exact iteFd (by decide) (bet _ (Same.refl _))
  rintro σ H9 ⟨v6,v7,pn,st,cs,rfl,W9,len9⟩
  -- all go out
  refine ⟨_,rfl,x,_,_,rfl,W9.pl.ob,nom _ (by decide +kernel) (by decide +kernel) (by decide +kernel) (by decide +kernel) (by decide +kernel),x,.ref n,wide,ws,L,st,rfl,nt1.kt W9.kt,W9.pl,W9.go.wf,fun st10 H10 rst10 pl10 kl10=>?_⟩
  have W10:=W9.rest ok rst10 pl10 kl10
  have out10:=rst10.all
  have len10:st10.pla.length=m.toNat:=by rw [rst10.len];exact len9
  refine ⟨_,rfl,_,rfl,_,rfl,true,x,.ref n,wide,ws,L,st10,en,cs,rfl,nt1.kt W10.kt,W10.pl,W10.go,lv,out10,W10.he,fun H11 s11=>?_⟩
  have W11:=W10.same s11
  refine ⟨_,rfl,iteFd (by decide) ?_⟩
  refine ⟨_,rfl,_,rfl,x,.ref n,wide,ws,L,st10,cs,(by rw [len10,Int.toNat_of_nonneg m0];rfl),nt1.kt W11.kt,W11.pl,W11.go,lv,out10,fun H12 s12'=>?_⟩
  have W12:=(W11.same s12').back
  refine ⟨_,rfl,iteFd (by decide) ?_⟩
  -- and back
  obtain ⟨_,_,_,hp12⟩:=id W12.pe
  refine ⟨_,rfl,pn,_,_,_,2,rfl,hp12,by decide,by decide,fun r13 a13 b13 c13 r130 r131=>?_⟩
  have W13:=W12.take a13 b13 c13
  have hp13:(upd H12 pn (HO.lst [V.int a13,V.int b13,V.int c13])) pn=some (.lst [V.int a13,V.int b13,V.int c13]):=upd_same
  generalize upd H12 pn (HO.lst [V.int a13,V.int b13,V.int c13])=H13 at W13 hp13
  refine ⟨_,rfl,pn,_,_,_,41,rfl,hp13,by decide,by decide,fun r14 a14 b14 c14 r140 r141=>?_⟩
  have W14:=W13.take a14 b14 c14
  generalize upd H13 pn (HO.lst [V.int a14,V.int b14,V.int c14])=H14 at W14
  obtain ⟨m2,em2,m20,m240⟩:∃ m2:Int,r13*r14=m2∧0≤m2∧m2≤40:=by
   have h:r13=0∨r13=1:=by walk_at"q"
   rcases h with h|h
   ·subst h;exact ⟨0,by walk_at"q", by walk_at"q", by walk_at"q"⟩
   ·subst h;exact ⟨r14,by walk_at"q", by walk_at"q", by walk_at"q"⟩
  refine ⟨_,_,rfl,rfl,.inl ⟨by walk_at"q", by walk_at"q"⟩,?_⟩
  refine ⟨m2,congrArg (fun z=>[V.int z]) em2,by walk_at"q", by walk_at"q", ?_⟩
  refine for_range (n:=m2.toNat) (fun i σ Hc=>∃ (v7 v8:Option V) (st:PlS) (cs:List Int),σ=[some (.ref a),some (.ref pn),some (.ref n),some (.ref x),some (.ref en),some (.int m),v6,v7,v8]∧W91 false C H H1 Hc x (.ref n) wide ws L st en cs pn∧st.pla.length=m.toNat+i)
   ⟨v7,none,st10,cs,rfl,W14,len10⟩ ?_ ?_
  ·rintro i σ Hc hi ⟨v7',v8,stc,csc,rfl,Wc,leni⟩
   obtain ⟨_,_,_,hpc⟩:=id Wc.pe
   refine ⟨_,rfl,_,rfl,n,_,_,_,rfl,rfl,SqT.of (Wc.kt _ _ hn),rfl,pn,_,_,_,wide,rfl,hpc,by walk_at"q", by walk_at"q", fun lane q1 q2 q3 l0 l1=>?_⟩
   have We:=Wc.take q1 q2 q3
   generalize upd Hc pn (HO.lst [V.int q1,V.int q2,V.int q3])=He at We
   have ml:stc.pla.length<400:=by walk_at"q"
   refine ⟨_,rfl,x,_,_,rfl,We.pl.ob,nom _ (by decide +kernel) (by decide +kernel) (by decide +kernel) (by decide +kernel) (by decide +kernel),_,rfl,x,.ref n,wide,ws,L,stc,lane,rfl,nt1.kt We.kt,We.pl,We.go.wf,l0,l1,fun H9 pl9 kl9=>?_⟩
   have lcs:=We.go.cl
   have he9:=(KpL.own (p:=x) kl9) _ _ We.he We.n3
   refine ⟨_,rfl,_,rfl,en,_,_,_,rfl,rfl,SqL.of he9,atI_int l0 (by walk_at"q"),_,_,rfl,rfl,_,rfl,_,rfl,en,_,lane,lane.toNat,rfl,rfl,he9,ixN_of l0 (by rw [List.length_map];walk_at"q"),?_⟩
   have Wf:=We.enter ok l0 l1 (.inr rfl) (fun h=>(nomatch h)) ml pl9 kl9 (ys:=(csc.map V.int).set lane.toNat (V.int (csc.getD lane.toNat 0-1))) ((List.map_set).symm)
   generalize upd H9 en (HO.lst ((csc.map V.int).set lane.toNat (V.int (csc.getD lane.toNat 0-1))))=Hf at Wf
   have lenf:(enterM ws stc lane (-1)).pla.length=m.toNat+(i+1):=by simp [enterM];walk_at"q"
   generalize (csc.set lane.toNat (csc.getD lane.toNat 0+-1))=cs1 at Wf
   generalize enterM ws stc lane (-1)=st1 at Wf lenf
   refine ⟨_,rfl,_,rfl,false,pn,x,.ref n,wide,ws,L,st1,cs1,rfl,nt1.kt Wf.kt,Wf.pl,Wf.go,Wf.pe,Wf.n1,fun st2 H10 pl10 go10 len10 pe10 k10 kt10=>?_⟩
   exact ⟨_,_,st2,cs1,rfl,Wf.keep k10 kt10 pl10 go10 pe10,by rw [len10,lenf]⟩
  rintro σ H15 ⟨v7',v8,st15,cs15,rfl,W15,len15⟩
  refine ⟨_,rfl,x,_,_,rfl,W15.pl.ob,nom _ (by decide +kernel) (by decide +kernel) (by decide +kernel) (by decide +kernel) (by decide +kernel),x,.ref n,wide,ws,L,st15,rfl,nt1.kt W15.kt,W15.pl,W15.go.wf,fun st16 H16 rst16 pl16 kl16=>?_⟩
  have W16:=W15.rest ok rst16 pl16 kl16
  refine ⟨_,rfl,_,rfl,_,rfl,false,x,.ref n,wide,ws,L,st16,en,cs15,rfl,nt1.kt W16.kt,W16.pl,W16.go,lv,rst16.all,W16.he,fun H17 s17=>?_⟩
  exact q _
end
end
section
theorem us1 {us:List Value} (h:us.length=1):∃ a,us=[a]:=by
 cases us with
 |nil=>cases h
 |cons a r=>cases r with
  |nil=>exact ⟨a,rfl⟩
  |cons b r=>simp at h
theorem us2 {us:List Value} (h:us.length=2):∃ a b,us=[a,b]:=by
 cases us with
 |nil=>cases h
 |cons x r =>
  obtain ⟨a,rfl⟩:=us1 (us:=r) (by simpa using h)
  exact ⟨x,a,rfl⟩
theorem us3 {us:List Value} (h:us.length=3):∃ a b c,us=[a,b,c]:=by
 cases us with
 |nil=>cases h
 |cons x r =>
  obtain ⟨a,b,rfl⟩:=us2 (us:=r) (by simpa using h)
  exact ⟨x,a,b,rfl⟩
theorem us4 {us:List Value} (h:us.length=4):∃ a b c d,us=[a,b,c,d]:=by
 cases us with
 |nil=>cases h
 |cons x r =>
  obtain ⟨a,b,c,rfl⟩:=us3 (us:=r) (by simpa using h)
  exact ⟨x,a,b,c,rfl⟩
theorem us5 {us:List Value} (h:us.length=5):∃ a b c d e,us=[a,b,c,d,e]:=by
 cases us with
 |nil=>cases h
 |cons x r =>
  obtain ⟨a,b,c,d,rfl⟩:=us4 (us:=r) (by simpa using h)
  exact ⟨x,a,b,c,d,rfl⟩
theorem us6 {us:List Value} (h:us.length=6):∃ a b c d e f,us=[a,b,c,d,e,f]:=by
 cases us with
 |nil=>cases h
 |cons x r =>
  obtain ⟨a,b,c,d,e,rfl⟩:=us5 (us:=r) (by simpa using h)
  exact ⟨x,a,b,c,d,e,rfl⟩
theorem us7 {us:List Value} (h:us.length=7):∃ a b c d e f g,us=[a,b,c,d,e,f,g]:=by
 cases us with
 |nil=>cases h
 |cons x r =>
  obtain ⟨a,b,c,d,e,f,rfl⟩:=us6 (us:=r) (by simpa using h)
  exact ⟨x,a,b,c,d,e,f,rfl⟩
theorem all_mk {l:PySem.W.OpenLaw} {w:World} {K:PySem.W.Frag} {h:Heap} {mg:Str→Option Value} {fa:Addr} (X:K.In h) (G:h.Ns mainGlobals mg) (hfa:mg "law" = some (.ref fa))
  {C:Addr} (aC:PySem.W.nsIn K mainGlobals "Play" = some (some (.ref C))) (pg:PySem.W.plainGet K C Str.empty=true) (hd:PySem.W.hasDictIn K C=true) (po:PySem.W.plainOver K C=true) (sa:PySem.W.findIn K (.ref C) "__setattr__" = some (some (.builtin "object.__setattr__"))) (mk:PySem.W.makesIn K C=true) (kc:PySem.W.keepIn K (.ref C)=true) (n_net:PySem.W.findIn K (.ref C) "net" = some none) (n_facing:PySem.W.findIn K (.ref C) "facing" = some none) (n_tally:PySem.W.findIn K (.ref C) "tally" = some none) (n_places:PySem.W.findIn K (.ref C) "places" = some none) (n_changes:PySem.W.findIn K (.ref C) "changes" = some none)
  {e_nonet:Addr} (ae_nonet:PySem.W.nsIn K mainGlobals "NoNet" = some (some (.ref e_nonet))) (qe_nonet:PySem.W.excIn K e_nonet veB "ValueError.__new__" = true)
  {aH:Addr} {odH:Option Addr} {nH:Nat} {slH:Array (Option Value)} {tH1 tH2 tH3 tH4:Tok} (gH:PySem.W.nsIn K mainGlobals "HALVED_WIDES" = some (some (.ref aH))) (lH:K.lookup aH=some ⟨.type "tuple", odH,.seq #[.int 1 tH1,.int 2 tH2,.int 4 tH3,.int 8 tH4] nH,slH⟩)
  {k_MOST_LANES:Tok} (g_MOST_LANES:PySem.W.nsIn K mainGlobals "MOST_LANES" = some (some (.int 8 k_MOST_LANES)))
  {k_MOST_WICKETS:Tok} (g_MOST_WICKETS:PySem.W.nsIn K mainGlobals "MOST_WICKETS" = some (some (.int 40 k_MOST_WICKETS)))
  {f1:Addr} {od1 an1:Option Addr} {sl1:Array (Option Value)} {oc1 kV1 dc1 pm1 cd1 ct1:Value}
  (a1:PySem.W.nsIn K mainGlobals "_law_take" = some (some (.ref f1))) (l1:K.lookup f1=some ⟨oc1,od1,.func (PySem.W.fnOf "_law_take" "_law_take" (defArgs s_take) (defBody s_take) (defScope s_take) .none kV1 dc1 pm1 an1 cd1 ct1),sl1⟩) (c1:PySem.W.codeIn K cd1 "_law_take" = true) (k1:PySem.W.keepIn K (.ref f1)=true)
  {f2:Addr} {od2 an2:Option Addr} {sl2:Array (Option Value)} {oc2 kV2 dc2 pm2 cd2 ct2:Value}
  (a2:PySem.W.nsIn K mainGlobals "_law_pen" = some (some (.ref f2))) (l2:K.lookup f2=some ⟨oc2,od2,.func (PySem.W.fnOf "_law_pen" "_law_pen" (defArgs s_pen) (defBody s_pen) (defScope s_pen) .none kV2 dc2 pm2 an2 cd2 ct2),sl2⟩) (c2:PySem.W.codeIn K cd2 "_law_pen" = true) (k2:PySem.W.keepIn K (.ref f2)=true)
  {f3:Addr} {od3 an3:Option Addr} {sl3:Array (Option Value)} {oc3 kV3 dc3 pm3 cd3 ct3:Value}
  (a3:PySem.W.nsIn K mainGlobals "_law_wickets" = some (some (.ref f3))) (l3:K.lookup f3=some ⟨oc3,od3,.func (PySem.W.fnOf "_law_wickets" "_law_wickets" (defArgs s_wickets) (defBody s_wickets) (defScope s_wickets) .none kV3 dc3 pm3 an3 cd3 ct3),sl3⟩) (c3:PySem.W.codeIn K cd3 "_law_wickets" = true) (k3:PySem.W.keepIn K (.ref f3)=true)
  {f4:Addr} {od4 an4:Option Addr} {sl4:Array (Option Value)} {oc4 kV4 dc4 pm4 cd4 ct4:Value}
  (a4:PySem.W.nsIn K mainGlobals "is_whole" = some (some (.ref f4))) (l4:K.lookup f4=some ⟨oc4,od4,.func (PySem.W.fnOf "is_whole" "is_whole" (defArgs s_is_whole) (defBody s_is_whole) (defScope s_is_whole) .none kV4 dc4 pm4 an4 cd4 ct4),sl4⟩) (c4:PySem.W.codeIn K cd4 "is_whole" = true) (k4:PySem.W.keepIn K (.ref f4)=true)
  {f5:Addr} {od5 an5:Option Addr} {sl5:Array (Option Value)} {oc5 kV5 dc5 pm5 cd5 ct5:Value}
  (a5:PySem.W.nsIn K mainGlobals "is_lane" = some (some (.ref f5))) (l5:K.lookup f5=some ⟨oc5,od5,.func (PySem.W.fnOf "is_lane" "is_lane" (defArgs s_is_lane) (defBody s_is_lane) (defScope s_is_lane) .none kV5 dc5 pm5 an5 cd5 ct5),sl5⟩) (c5:PySem.W.codeIn K cd5 "is_lane" = true) (k5:PySem.W.keepIn K (.ref f5)=true)
  {f6:Addr} {od6 an6:Option Addr} {sl6:Array (Option Value)} {oc6 kV6 dc6 pm6 cd6 ct6:Value}
  (a6:PySem.W.nsIn K mainGlobals "is_wicket" = some (some (.ref f6))) (l6:K.lookup f6=some ⟨oc6,od6,.func (PySem.W.fnOf "is_wicket" "is_wicket" (defArgs s_is_wicket) (defBody s_is_wicket) (defScope s_is_wicket) .none kV6 dc6 pm6 an6 cd6 ct6),sl6⟩) (c6:PySem.W.codeIn K cd6 "is_wicket" = true) (k6:PySem.W.keepIn K (.ref f6)=true)
  {f7:Addr} {od7 an7:Option Addr} {sl7:Array (Option Value)} {oc7 kV7 dc7 pm7 cd7 ct7:Value}
  (a7:PySem.W.nsIn K mainGlobals "are_wickets" = some (some (.ref f7))) (l7:K.lookup f7=some ⟨oc7,od7,.func (PySem.W.fnOf "are_wickets" "are_wickets" (defArgs s_are_wickets) (defBody s_are_wickets) (defScope s_are_wickets) .none kV7 dc7 pm7 an7 cd7 ct7),sl7⟩) (c7:PySem.W.codeIn K cd7 "are_wickets" = true) (k7:PySem.W.keepIn K (.ref f7)=true)
  {f8:Addr} {od8 an8:Option Addr} {sl8:Array (Option Value)} {oc8 kV8 dc8 pm8 cd8 ct8:Value}
  (a8:PySem.W.nsIn K mainGlobals "makes_net" = some (some (.ref f8))) (l8:K.lookup f8=some ⟨oc8,od8,.func (PySem.W.fnOf "makes_net" "makes_net" (defArgs s_makes_net) (defBody s_makes_net) (defScope s_makes_net) .none kV8 dc8 pm8 an8 cd8 ct8),sl8⟩) (c8:PySem.W.codeIn K cd8 "makes_net" = true) (k8:PySem.W.keepIn K (.ref f8)=true)
  {f9:Addr} {od9 an9:Option Addr} {sl9:Array (Option Value)} {oc9 kV9 dc9 pm9 cd9 ct9:Value}
  (a9:PySem.W.nsIn K mainGlobals "net_of" = some (some (.ref f9))) (l9:K.lookup f9=some ⟨oc9,od9,.func (PySem.W.fnOf "net_of" "net_of" (defArgs s_net_of) (defBody s_net_of) (defScope s_net_of) .none kV9 dc9 pm9 an9 cd9 ct9),sl9⟩) (c9:PySem.W.codeIn K cd9 "net_of" = true) (k9:PySem.W.keepIn K (.ref f9)=true)
  {f10:Addr} {od10 an10:Option Addr} {sl10:Array (Option Value)} {oc10 kV10 dc10 pm10 cd10 ct10:Value}
  (a10:PySem.W.nsIn K mainGlobals "place_on" = some (some (.ref f10))) (l10:K.lookup f10=some ⟨oc10,od10,.func (PySem.W.fnOf "place_on" "place_on" (defArgs s_place_on) (defBody s_place_on) (defScope s_place_on) .none kV10 dc10 pm10 an10 cd10 ct10),sl10⟩) (c10:PySem.W.codeIn K cd10 "place_on" = true) (k10:PySem.W.keepIn K (.ref f10)=true)
  {f11:Addr} {od11 an11:Option Addr} {sl11:Array (Option Value)} {oc11 kV11 dc11 pm11 cd11 ct11:Value}
  (a11:PySem.W.nsIn K mainGlobals "numbers_of" = some (some (.ref f11))) (l11:K.lookup f11=some ⟨oc11,od11,.func (PySem.W.fnOf "numbers_of" "numbers_of" (defArgs s_numbers_of) (defBody s_numbers_of) (defScope s_numbers_of) .none kV11 dc11 pm11 an11 cd11 ct11),sl11⟩) (c11:PySem.W.codeIn K cd11 "numbers_of" = true) (k11:PySem.W.keepIn K (.ref f11)=true)
  {f12:Addr} {od12 an12:Option Addr} {sl12:Array (Option Value)} {oc12 kV12 dc12 pm12 cd12 ct12:Value}
  (a12:PySem.W.findIn K (.ref C) "__init__" = some (some (.ref f12))) (i12:PySem.W.isFn K (.ref f12)=true) (l12:K.lookup f12=some ⟨oc12,od12,.func (PySem.W.fnOf "__init__" "Play.__init__" (defArgs s_Play_init) (defBody s_Play_init) (defScope s_Play_init) .none kV12 dc12 pm12 an12 cd12 ct12),sl12⟩) (c12:PySem.W.codeIn K cd12 "Play.__init__" = true) (k12:PySem.W.keepIn K (.ref f12)=true)
  {f13:Addr} {od13 an13:Option Addr} {sl13:Array (Option Value)} {oc13 kV13 dc13 pm13 cd13 ct13:Value}
  (a13:PySem.W.findIn K (.ref C) "come_in" = some (some (.ref f13))) (i13:PySem.W.isFn K (.ref f13)=true) (l13:K.lookup f13=some ⟨oc13,od13,.func (PySem.W.fnOf "come_in" "Play.come_in" (defArgs s_Play_come_in) (defBody s_Play_come_in) (defScope s_Play_come_in) .none kV13 dc13 pm13 an13 cd13 ct13),sl13⟩) (c13:PySem.W.codeIn K cd13 "Play.come_in" = true) (k13:PySem.W.keepIn K (.ref f13)=true)
  {f14:Addr} {od14 an14:Option Addr} {sl14:Array (Option Value)} {oc14 kV14 dc14 pm14 cd14 ct14:Value}
  (a14:PySem.W.findIn K (.ref C) "enter" = some (some (.ref f14))) (i14:PySem.W.isFn K (.ref f14)=true) (l14:K.lookup f14=some ⟨oc14,od14,.func (PySem.W.fnOf "enter" "Play.enter" (defArgs s_Play_enter) (defBody s_Play_enter) (defScope s_Play_enter) .none kV14 dc14 pm14 an14 cd14 ct14),sl14⟩) (c14:PySem.W.codeIn K cd14 "Play.enter" = true) (k14:PySem.W.keepIn K (.ref f14)=true)
  {f15:Addr} {od15 an15:Option Addr} {sl15:Array (Option Value)} {oc15 kV15 dc15 pm15 cd15 ct15:Value}
  (a15:PySem.W.findIn K (.ref C) "enter_back" = some (some (.ref f15))) (i15:PySem.W.isFn K (.ref f15)=true) (l15:K.lookup f15=some ⟨oc15,od15,.func (PySem.W.fnOf "enter_back" "Play.enter_back" (defArgs s_Play_enter_back) (defBody s_Play_enter_back) (defScope s_Play_enter_back) .none kV15 dc15 pm15 an15 cd15 ct15),sl15⟩) (c15:PySem.W.codeIn K cd15 "Play.enter_back" = true) (k15:PySem.W.keepIn K (.ref f15)=true)
  {f16:Addr} {od16 an16:Option Addr} {sl16:Array (Option Value)} {oc16 kV16 dc16 pm16 cd16 ct16:Value}
  (a16:PySem.W.findIn K (.ref C) "where" = some (some (.ref f16))) (i16:PySem.W.isFn K (.ref f16)=true) (l16:K.lookup f16=some ⟨oc16,od16,.func (PySem.W.fnOf "where" "Play.where" (defArgs s_Play_where) (defBody s_Play_where) (defScope s_Play_where) .none kV16 dc16 pm16 an16 cd16 ct16),sl16⟩) (c16:PySem.W.codeIn K cd16 "Play.where" = true) (k16:PySem.W.keepIn K (.ref f16)=true)
  {f17:Addr} {od17 an17:Option Addr} {sl17:Array (Option Value)} {oc17 kV17 dc17 pm17 cd17 ct17:Value}
  (a17:PySem.W.findIn K (.ref C) "turn" = some (some (.ref f17))) (i17:PySem.W.isFn K (.ref f17)=true) (l17:K.lookup f17=some ⟨oc17,od17,.func (PySem.W.fnOf "turn" "Play.turn" (defArgs s_Play_turn) (defBody s_Play_turn) (defScope s_Play_turn) .none kV17 dc17 pm17 an17 cd17 ct17),sl17⟩) (c17:PySem.W.codeIn K cd17 "Play.turn" = true) (k17:PySem.W.keepIn K (.ref f17)=true)
  {f18:Addr} {od18 an18:Option Addr} {sl18:Array (Option Value)} {oc18 kV18 dc18 pm18 cd18 ct18:Value}
  (a18:PySem.W.findIn K (.ref C) "pass_wicket" = some (some (.ref f18))) (i18:PySem.W.isFn K (.ref f18)=true) (l18:K.lookup f18=some ⟨oc18,od18,.func (PySem.W.fnOf "pass_wicket" "Play.pass_wicket" (defArgs s_Play_pass_wicket) (defBody s_Play_pass_wicket) (defScope s_Play_pass_wicket) .none kV18 dc18 pm18 an18 cd18 ct18),sl18⟩) (c18:PySem.W.codeIn K cd18 "Play.pass_wicket" = true) (k18:PySem.W.keepIn K (.ref f18)=true)
  {f19:Addr} {od19 an19:Option Addr} {sl19:Array (Option Value)} {oc19 kV19 dc19 pm19 cd19 ct19:Value}
  (a19:PySem.W.findIn K (.ref C) "leave" = some (some (.ref f19))) (i19:PySem.W.isFn K (.ref f19)=true) (l19:K.lookup f19=some ⟨oc19,od19,.func (PySem.W.fnOf "leave" "Play.leave" (defArgs s_Play_leave) (defBody s_Play_leave) (defScope s_Play_leave) .none kV19 dc19 pm19 an19 cd19 ct19),sl19⟩) (c19:PySem.W.codeIn K cd19 "Play.leave" = true) (k19:PySem.W.keepIn K (.ref f19)=true)
  {f20:Addr} {od20 an20:Option Addr} {sl20:Array (Option Value)} {oc20 kV20 dc20 pm20 cd20 ct20:Value}
  (a20:PySem.W.findIn K (.ref C) "step" = some (some (.ref f20))) (i20:PySem.W.isFn K (.ref f20)=true) (l20:K.lookup f20=some ⟨oc20,od20,.func (PySem.W.fnOf "step" "Play.step" (defArgs s_Play_step) (defBody s_Play_step) (defScope s_Play_step) .none kV20 dc20 pm20 an20 cd20 ct20),sl20⟩) (c20:PySem.W.codeIn K cd20 "Play.step" = true) (k20:PySem.W.keepIn K (.ref f20)=true)
  {f21:Addr} {od21 an21:Option Addr} {sl21:Array (Option Value)} {oc21 kV21 dc21 pm21 cd21 ct21:Value}
  (a21:PySem.W.findIn K (.ref C) "inside" = some (some (.ref f21))) (i21:PySem.W.isFn K (.ref f21)=true) (l21:K.lookup f21=some ⟨oc21,od21,.func (PySem.W.fnOf "inside" "Play.inside" (defArgs s_Play_inside) (defBody s_Play_inside) (defScope s_Play_inside) .none kV21 dc21 pm21 an21 cd21 ct21),sl21⟩) (c21:PySem.W.codeIn K cd21 "Play.inside" = true) (k21:PySem.W.keepIn K (.ref f21)=true)
  {f22:Addr} {od22 an22:Option Addr} {sl22:Array (Option Value)} {oc22 kV22 dc22 pm22 cd22 ct22:Value}
  (a22:PySem.W.findIn K (.ref C) "counts" = some (some (.ref f22))) (i22:PySem.W.isFn K (.ref f22)=true) (l22:K.lookup f22=some ⟨oc22,od22,.func (PySem.W.fnOf "counts" "Play.counts" (defArgs s_Play_counts) (defBody s_Play_counts) (defScope s_Play_counts) .none kV22 dc22 pm22 an22 cd22 ct22),sl22⟩) (c22:PySem.W.codeIn K cd22 "Play.counts" = true) (k22:PySem.W.keepIn K (.ref f22)=true)
  {f23:Addr} {od23 an23:Option Addr} {sl23:Array (Option Value)} {oc23 kV23 dc23 pm23 cd23 ct23:Value}
  (a23:PySem.W.findIn K (.ref C) "standing" = some (some (.ref f23))) (i23:PySem.W.isFn K (.ref f23)=true) (l23:K.lookup f23=some ⟨oc23,od23,.func (PySem.W.fnOf "standing" "Play.standing" (defArgs s_Play_standing) (defBody s_Play_standing) (defScope s_Play_standing) .none kV23 dc23 pm23 an23 cd23 ct23),sl23⟩) (c23:PySem.W.codeIn K cd23 "Play.standing" = true) (k23:PySem.W.keepIn K (.ref f23)=true)
  {f24:Addr} {od24 an24:Option Addr} {sl24:Array (Option Value)} {oc24 kV24 dc24 pm24 cd24 ct24:Value}
  (a24:PySem.W.findIn K (.ref C) "owed" = some (some (.ref f24))) (i24:PySem.W.isFn K (.ref f24)=true) (l24:K.lookup f24=some ⟨oc24,od24,.func (PySem.W.fnOf "owed" "Play.owed" (defArgs s_Play_owed) (defBody s_Play_owed) (defScope s_Play_owed) .none kV24 dc24 pm24 an24 cd24 ct24),sl24⟩) (c24:PySem.W.codeIn K cd24 "Play.owed" = true) (k24:PySem.W.keepIn K (.ref f24)=true)
  {f25:Addr} {od25 an25:Option Addr} {sl25:Array (Option Value)} {oc25 kV25 dc25 pm25 cd25 ct25:Value}
  (a25:PySem.W.findIn K (.ref C) "lacking" = some (some (.ref f25))) (i25:PySem.W.isFn K (.ref f25)=true) (l25:K.lookup f25=some ⟨oc25,od25,.func (PySem.W.fnOf "lacking" "Play.lacking" (defArgs s_Play_lacking) (defBody s_Play_lacking) (defScope s_Play_lacking) .none kV25 dc25 pm25 an25 cd25 ct25),sl25⟩) (c25:PySem.W.codeIn K cd25 "Play.lacking" = true) (k25:PySem.W.keepIn K (.ref f25)=true)
  {f26:Addr} {od26 an26:Option Addr} {sl26:Array (Option Value)} {oc26 kV26 dc26 pm26 cd26 ct26:Value}
  (a26:PySem.W.findIn K (.ref C) "rest" = some (some (.ref f26))) (i26:PySem.W.isFn K (.ref f26)=true) (l26:K.lookup f26=some ⟨oc26,od26,.func (PySem.W.fnOf "rest" "Play.rest" (defArgs s_Play_rest) (defBody s_Play_rest) (defScope s_Play_rest) .none kV26 dc26 pm26 an26 cd26 ct26),sl26⟩) (c26:PySem.W.codeIn K cd26 "Play.rest" = true) (k26:PySem.W.keepIn K (.ref f26)=true)
  {f27:Addr} {od27 an27:Option Addr} {sl27:Array (Option Value)} {oc27 kV27 dc27 pm27 cd27 ct27:Value}
  (a27:PySem.W.nsIn K mainGlobals "refuse_unless_halved" = some (some (.ref f27))) (l27:K.lookup f27=some ⟨oc27,od27,.func (PySem.W.fnOf "refuse_unless_halved" "refuse_unless_halved" (defArgs s_refuse_unless_halved) (defBody s_refuse_unless_halved) (defScope s_refuse_unless_halved) .none kV27 dc27 pm27 an27 cd27 ct27),sl27⟩) (c27:PySem.W.codeIn K cd27 "refuse_unless_halved" = true) (k27:PySem.W.keepIn K (.ref f27)=true)
  {f28:Addr} {od28 an28:Option Addr} {sl28:Array (Option Value)} {oc28 kV28 dc28 pm28 cd28 ct28:Value}
  (a28:PySem.W.nsIn K mainGlobals "in_both_halves" = some (some (.ref f28))) (l28:K.lookup f28=some ⟨oc28,od28,.func (PySem.W.fnOf "in_both_halves" "in_both_halves" (defArgs s_in_both_halves) (defBody s_in_both_halves) (defScope s_in_both_halves) .none kV28 dc28 pm28 an28 cd28 ct28),sl28⟩) (c28:PySem.W.codeIn K cd28 "in_both_halves" = true) (k28:PySem.W.keepIn K (.ref f28)=true)
  {f29:Addr} {od29 an29:Option Addr} {sl29:Array (Option Value)} {oc29 kV29 dc29 pm29 cd29 ct29:Value}
  (a29:PySem.W.nsIn K mainGlobals "across" = some (some (.ref f29))) (l29:K.lookup f29=some ⟨oc29,od29,.func (PySem.W.fnOf "across" "across" (defArgs s_across) (defBody s_across) (defScope s_across) .none kV29 dc29 pm29 an29 cd29 ct29),sl29⟩) (c29:PySem.W.codeIn K cd29 "across" = true) (k29:PySem.W.keepIn K (.ref f29)=true)
  {f30:Addr} {od30 an30:Option Addr} {sl30:Array (Option Value)} {oc30 kV30 dc30 pm30 cd30 ct30:Value}
  (a30:PySem.W.nsIn K mainGlobals "by_falling_gaps" = some (some (.ref f30))) (l30:K.lookup f30=some ⟨oc30,od30,.func (PySem.W.fnOf "by_falling_gaps" "by_falling_gaps" (defArgs s_by_falling_gaps) (defBody s_by_falling_gaps) (defScope s_by_falling_gaps) .none kV30 dc30 pm30 an30 cd30 ct30),sl30⟩) (c30:PySem.W.codeIn K cd30 "by_falling_gaps" = true) (k30:PySem.W.keepIn K (.ref f30)=true)
  {f31:Addr} {od31 an31:Option Addr} {sl31:Array (Option Value)} {oc31 kV31 dc31 pm31 cd31 ct31:Value}
  (a31:PySem.W.nsIn K mainGlobals "folded" = some (some (.ref f31))) (l31:K.lookup f31=some ⟨oc31,od31,.func (PySem.W.fnOf "folded" "folded" (defArgs s_folded) (defBody s_folded) (defScope s_folded) .none kV31 dc31 pm31 an31 cd31 ct31),sl31⟩) (c31:PySem.W.codeIn K cd31 "folded" = true) (k31:PySem.W.keepIn K (.ref f31)=true)
  {f32:Addr} {od32 an32:Option Addr} {sl32:Array (Option Value)} {oc32 kV32 dc32 pm32 cd32 ct32:Value}
  (a32:PySem.W.nsIn K mainGlobals "block" = some (some (.ref f32))) (l32:K.lookup f32=some ⟨oc32,od32,.func (PySem.W.fnOf "block" "block" (defArgs s_block) (defBody s_block) (defScope s_block) .none kV32 dc32 pm32 an32 cd32 ct32),sl32⟩) (c32:PySem.W.codeIn K cd32 "block" = true) (k32:PySem.W.keepIn K (.ref f32)=true)
  {f33:Addr} {od33 an33:Option Addr} {sl33:Array (Option Value)} {oc33 kV33 dc33 pm33 cd33 ct33:Value}
  (a33:PySem.W.nsIn K mainGlobals "rounds" = some (some (.ref f33))) (l33:K.lookup f33=some ⟨oc33,od33,.func (PySem.W.fnOf "rounds" "rounds" (defArgs s_rounds) (defBody s_rounds) (defScope s_rounds) .none kV33 dc33 pm33 an33 cd33 ct33),sl33⟩) (c33:PySem.W.codeIn K cd33 "rounds" = true) (k33:PySem.W.keepIn K (.ref f33)=true)
  {f34:Addr} {od34 an34:Option Addr} {sl34:Array (Option Value)} {oc34 kV34 dc34 pm34 cd34 ct34:Value}
  (a34:PySem.W.nsIn K mainGlobals "let_through" = some (some (.ref f34))) (l34:K.lookup f34=some ⟨oc34,od34,.func (PySem.W.fnOf "let_through" "let_through" (defArgs s_let_through) (defBody s_let_through) (defScope s_let_through) .none kV34 dc34 pm34 an34 cd34 ct34),sl34⟩) (c34:PySem.W.codeIn K cd34 "let_through" = true) (k34:PySem.W.keepIn K (.ref f34)=true)
  {f35:Addr} {od35 an35:Option Addr} {sl35:Array (Option Value)} {oc35 kV35 dc35 pm35 cd35 ct35:Value}
  (a35:PySem.W.nsIn K mainGlobals "exits" = some (some (.ref f35))) (l35:K.lookup f35=some ⟨oc35,od35,.func (PySem.W.fnOf "exits" "exits" (defArgs s_exits) (defBody s_exits) (defScope s_exits) .none kV35 dc35 pm35 an35 cd35 ct35),sl35⟩) (c35:PySem.W.codeIn K cd35 "exits" = true) (k35:PySem.W.keepIn K (.ref f35)=true)
  {f36:Addr} {od36 an36:Option Addr} {sl36:Array (Option Value)} {oc36 kV36 dc36 pm36 cd36 ct36:Value}
  (a36:PySem.W.nsIn K mainGlobals "falls" = some (some (.ref f36))) (l36:K.lookup f36=some ⟨oc36,od36,.func (PySem.W.fnOf "falls" "falls" (defArgs s_falls) (defBody s_falls) (defScope s_falls) .none kV36 dc36 pm36 an36 cd36 ct36),sl36⟩) (c36:PySem.W.codeIn K cd36 "falls" = true) (k36:PySem.W.keepIn K (.ref f36)=true)
  {f37:Addr} {od37 an37:Option Addr} {sl37:Array (Option Value)} {oc37 kV37 dc37 pm37 cd37 ct37:Value}
  (a37:PySem.W.nsIn K mainGlobals "is_level" = some (some (.ref f37))) (l37:K.lookup f37=some ⟨oc37,od37,.func (PySem.W.fnOf "is_level" "is_level" (defArgs s_is_level) (defBody s_is_level) (defScope s_is_level) .none kV37 dc37 pm37 an37 cd37 ct37),sl37⟩) (c37:PySem.W.codeIn K cd37 "is_level" = true) (k37:PySem.W.keepIn K (.ref f37)=true)
  {f38:Addr} {od38 an38:Option Addr} {sl38:Array (Option Value)} {oc38 kV38 dc38 pm38 cd38 ct38:Value}
  (a38:PySem.W.nsIn K mainGlobals "_law_built_net" = some (some (.ref f38))) (l38:K.lookup f38=some ⟨oc38,od38,.func (PySem.W.fnOf "_law_built_net" "_law_built_net" (defArgs s_built_net) (defBody s_built_net) (defScope s_built_net) .none kV38 dc38 pm38 an38 cd38 ct38),sl38⟩) (c38:PySem.W.codeIn K cd38 "_law_built_net" = true) (k38:PySem.W.keepIn K (.ref f38)=true)
  {f39:Addr} {od39 an39:Option Addr} {sl39:Array (Option Value)} {oc39 kV39 dc39 pm39 cd39 ct39:Value}
  (a39:PySem.W.nsIn K mainGlobals "_law_in_between" = some (some (.ref f39))) (l39:K.lookup f39=some ⟨oc39,od39,.func (PySem.W.fnOf "_law_in_between" "_law_in_between" (defArgs s_in_between) (defBody s_in_between) (defScope s_in_between) .none kV39 dc39 pm39 an39 cd39 ct39),sl39⟩) (c39:PySem.W.codeIn K cd39 "_law_in_between" = true) (k39:PySem.W.keepIn K (.ref f39)=true)
  {f40:Addr} {od40 an40:Option Addr} {sl40:Array (Option Value)} {oc40 kV40 dc40 pm40 cd40 ct40:Value}
  (a40:PySem.W.nsIn K mainGlobals "_law_numbers_apart" = some (some (.ref f40))) (l40:K.lookup f40=some ⟨oc40,od40,.func (PySem.W.fnOf "_law_numbers_apart" "_law_numbers_apart" (defArgs s_numbers_apart) (defBody s_numbers_apart) (defScope s_numbers_apart) .none kV40 dc40 pm40 an40 cd40 ct40),sl40⟩) (c40:PySem.W.codeIn K cd40 "_law_numbers_apart" = true) (k40:PySem.W.keepIn K (.ref f40)=true)
  {f41:Addr} {od41 an41:Option Addr} {sl41:Array (Option Value)} {oc41 kV41 dc41 pm41 cd41 ct41:Value}
  (a41:PySem.W.nsIn K mainGlobals "_law_steps" = some (some (.ref f41))) (l41:K.lookup f41=some ⟨oc41,od41,.func (PySem.W.fnOf "_law_steps" "_law_steps" (defArgs s_steps) (defBody s_steps) (defScope s_steps) .none kV41 dc41 pm41 an41 cd41 ct41),sl41⟩) (c41:PySem.W.codeIn K cd41 "_law_steps" = true) (k41:PySem.W.keepIn K (.ref f41)=true)
  {f42:Addr} {od42 an42:Option Addr} {sl42:Array (Option Value)} {oc42 kV42 dc42 pm42 cd42 ct42:Value}
  (a42:PySem.W.nsIn K mainGlobals "_law_at_rest" = some (some (.ref f42))) (l42:K.lookup f42=some ⟨oc42,od42,.func (PySem.W.fnOf "_law_at_rest" "_law_at_rest" (defArgs s_at_rest) (defBody s_at_rest) (defScope s_at_rest) .none kV42 dc42 pm42 an42 cd42 ct42),sl42⟩) (c42:PySem.W.codeIn K cd42 "_law_at_rest" = true) (k42:PySem.W.keepIn K (.ref f42)=true)
  {f43:Addr} {od43 an43:Option Addr} {sl43:Array (Option Value)} {oc43 kV43 dc43 pm43 cd43 ct43:Value}
  (a43:PySem.W.nsIn K mainGlobals "law" = some (some (.ref f43))) (l43:K.lookup f43=some ⟨oc43,od43,.func (PySem.W.fnOf "law" "law" (defArgs s_law) (defBody s_law) (defScope s_law) .none kV43 dc43 pm43 an43 cd43 ct43),sl43⟩) (c43:PySem.W.codeIn K cd43 "law" = true) (k43:PySem.W.keepIn K (.ref f43)=true)
  (z1:PySem.W.nsIn K mainGlobals "len" = some none) (z2:PySem.W.nsIn K mainGlobals "max" = some none) (z3:PySem.W.nsIn K mainGlobals "min" = some none) (z4:PySem.W.nsIn K mainGlobals "int" = some none) (z5:PySem.W.nsIn K mainGlobals "bool" = some none) (z6:PySem.W.nsIn K mainGlobals "list" = some none) (z7:PySem.W.nsIn K mainGlobals "tuple" = some none) (z8:PySem.W.nsIn K mainGlobals "str" = some none) (z9:PySem.W.nsIn K mainGlobals "dict" = some none) (z10:PySem.W.nsIn K mainGlobals "range" = some none) (z11:PySem.W.nsIn K mainGlobals "isinstance" = some none) (z12:PySem.W.nsIn K mainGlobals "all" = some none) (z13:PySem.W.nsIn K mainGlobals "any" = some none) (z14:PySem.W.nsIn K mainGlobals "enumerate" = some none) (z15:PySem.W.nsIn K mainGlobals "sum" = some none) (z16:PySem.W.nsIn K mainGlobals "abs" = some none) (z17:PySem.W.nsIn K mainGlobals "sorted" = some none) (z18:PySem.W.nsIn K mainGlobals "reversed" = some none) (z19:PySem.W.nsIn K mainGlobals "zip" = some none) (z20:PySem.W.nsIn K mainGlobals "ord" = some none) (z21:PySem.W.nsIn K mainGlobals "repr" = some none) (z22:PySem.W.nsIn K mainGlobals "set" = some none) (z23:PySem.W.nsIn K mainGlobals "divmod" = some none) (z24:PySem.W.nsIn K mainGlobals "ValueError" = some none) (z25:PySem.W.nsIn K mainGlobals "KeyError" = some none) :
  ∃ fd:FuncData,(∀ (s:Shared) (v:Value),BindsTo s fd ⟨[v],[]⟩ [("_law_script", v)])∧∀ base:Heap,K.In base→base.Ns mainGlobals mg→FnOk l.prog w K mg base CX0 13 fa fd ["_law_script"] (spLaw K):=by
 have e:=hfa.symm.trans (PySem.W.mg_of X G a43)
 cases e
 have TP:PlayT K C:=⟨⟨pg,hd,po,sa⟩,n_net,n_facing,n_tally,n_places,n_changes⟩
 have ERN:NoNetT K mg e_nonet:=⟨qe_nonet,PySem.W.mg_of X G ae_nonet⟩
 have GH:HalvT K mg:=⟨aH,PySem.W.mg_of X G gH,fun H=>.inr ⟨_,_,_,lH,rfl,rfl,lenLine (by show 4≤100000;decide),.cons ⟨tH1,rfl⟩ (.cons ⟨tH2,rfl⟩ (.cons ⟨tH3,rfl⟩ (.cons ⟨tH4,rfl⟩ .nil)))⟩⟩
 have GMOST_LANES:∃ t,mg "MOST_LANES" = some (.int 8 t):=⟨_,PySem.W.mg_of X G g_MOST_LANES⟩
 have GMOST_WICKETS:∃ t,mg "MOST_WICKETS" = some (.int 40 t):=⟨_,PySem.W.mg_of X G g_MOST_WICKETS⟩
 have H_take:Here K mg "_law_take" s_take _ _:=⟨fun_mk l1 c1 k1,PySem.W.mg_of X G a1⟩
 have H_pen:Here K mg "_law_pen" s_pen _ _:=⟨fun_mk l2 c2 k2,PySem.W.mg_of X G a2⟩
 have H_wickets:Here K mg "_law_wickets" s_wickets _ _:=⟨fun_mk l3 c3 k3,PySem.W.mg_of X G a3⟩
 have H_is_whole:Here K mg "is_whole" s_is_whole _ _:=⟨fun_mk l4 c4 k4,PySem.W.mg_of X G a4⟩
 have H_is_lane:Here K mg "is_lane" s_is_lane _ _:=⟨fun_mk l5 c5 k5,PySem.W.mg_of X G a5⟩
 have H_is_wicket:Here K mg "is_wicket" s_is_wicket _ _:=⟨fun_mk l6 c6 k6,PySem.W.mg_of X G a6⟩
 have H_are_wickets:Here K mg "are_wickets" s_are_wickets _ _:=⟨fun_mk l7 c7 k7,PySem.W.mg_of X G a7⟩
 have H_makes_net:Here K mg "makes_net" s_makes_net _ _:=⟨fun_mk l8 c8 k8,PySem.W.mg_of X G a8⟩
 have H_net_of:Here K mg "net_of" s_net_of _ _:=⟨fun_mk l9 c9 k9,PySem.W.mg_of X G a9⟩
 have H_place_on:Here K mg "place_on" s_place_on _ _:=⟨fun_mk l10 c10 k10,PySem.W.mg_of X G a10⟩
 have H_numbers_of:Here K mg "numbers_of" s_numbers_of _ _:=⟨fun_mk l11 c11 k11,PySem.W.mg_of X G a11⟩
 have H_Play_init:HereM K mg C "__init__" "Play.__init__" s_Play_init _ _:=⟨fun_mk l12 c12 k12,⟨a12,i12,k12⟩⟩
 have H_Play_come_in:HereM K mg C "come_in" "Play.come_in" s_Play_come_in _ _:=⟨fun_mk l13 c13 k13,⟨a13,i13,k13⟩⟩
 have H_Play_enter:HereM K mg C "enter" "Play.enter" s_Play_enter _ _:=⟨fun_mk l14 c14 k14,⟨a14,i14,k14⟩⟩
 have H_Play_enter_back:HereM K mg C "enter_back" "Play.enter_back" s_Play_enter_back _ _:=⟨fun_mk l15 c15 k15,⟨a15,i15,k15⟩⟩
 have H_Play_where:HereM K mg C "where" "Play.where" s_Play_where _ _:=⟨fun_mk l16 c16 k16,⟨a16,i16,k16⟩⟩
 have H_Play_turn:HereM K mg C "turn" "Play.turn" s_Play_turn _ _:=⟨fun_mk l17 c17 k17,⟨a17,i17,k17⟩⟩
 have H_Play_pass_wicket:HereM K mg C "pass_wicket" "Play.pass_wicket" s_Play_pass_wicket _ _:=⟨fun_mk l18 c18 k18,⟨a18,i18,k18⟩⟩
 have H_Play_leave:HereM K mg C "leave" "Play.leave" s_Play_leave _ _:=⟨fun_mk l19 c19 k19,⟨a19,i19,k19⟩⟩
 have H_Play_step:HereM K mg C "step" "Play.step" s_Play_step _ _:=⟨fun_mk l20 c20 k20,⟨a20,i20,k20⟩⟩
 have H_Play_inside:HereM K mg C "inside" "Play.inside" s_Play_inside _ _:=⟨fun_mk l21 c21 k21,⟨a21,i21,k21⟩⟩
 have H_Play_counts:HereM K mg C "counts" "Play.counts" s_Play_counts _ _:=⟨fun_mk l22 c22 k22,⟨a22,i22,k22⟩⟩
 have H_Play_standing:HereM K mg C "standing" "Play.standing" s_Play_standing _ _:=⟨fun_mk l23 c23 k23,⟨a23,i23,k23⟩⟩
 have H_Play_owed:HereM K mg C "owed" "Play.owed" s_Play_owed _ _:=⟨fun_mk l24 c24 k24,⟨a24,i24,k24⟩⟩
 have H_Play_lacking:HereM K mg C "lacking" "Play.lacking" s_Play_lacking _ _:=⟨fun_mk l25 c25 k25,⟨a25,i25,k25⟩⟩
 have H_Play_rest:HereM K mg C "rest" "Play.rest" s_Play_rest _ _:=⟨fun_mk l26 c26 k26,⟨a26,i26,k26⟩⟩
 have H_refuse_unless_halved:Here K mg "refuse_unless_halved" s_refuse_unless_halved _ _:=⟨fun_mk l27 c27 k27,PySem.W.mg_of X G a27⟩
 have H_in_both_halves:Here K mg "in_both_halves" s_in_both_halves _ _:=⟨fun_mk l28 c28 k28,PySem.W.mg_of X G a28⟩
 have H_across:Here K mg "across" s_across _ _:=⟨fun_mk l29 c29 k29,PySem.W.mg_of X G a29⟩
 have H_by_falling_gaps:Here K mg "by_falling_gaps" s_by_falling_gaps _ _:=⟨fun_mk l30 c30 k30,PySem.W.mg_of X G a30⟩
 have H_folded:Here K mg "folded" s_folded _ _:=⟨fun_mk l31 c31 k31,PySem.W.mg_of X G a31⟩
 have H_block:Here K mg "block" s_block _ _:=⟨fun_mk l32 c32 k32,PySem.W.mg_of X G a32⟩
 have H_rounds:Here K mg "rounds" s_rounds _ _:=⟨fun_mk l33 c33 k33,PySem.W.mg_of X G a33⟩
 have H_let_through:Here K mg "let_through" s_let_through _ _:=⟨fun_mk l34 c34 k34,PySem.W.mg_of X G a34⟩
 have H_exits:Here K mg "exits" s_exits _ _:=⟨fun_mk l35 c35 k35,PySem.W.mg_of X G a35⟩
 have H_falls:Here K mg "falls" s_falls _ _:=⟨fun_mk l36 c36 k36,PySem.W.mg_of X G a36⟩
 have H_is_level:Here K mg "is_level" s_is_level _ _:=⟨fun_mk l37 c37 k37,PySem.W.mg_of X G a37⟩
 have H_built_net:Here K mg "_law_built_net" s_built_net _ _:=⟨fun_mk l38 c38 k38,PySem.W.mg_of X G a38⟩
 have H_in_between:Here K mg "_law_in_between" s_in_between _ _:=⟨fun_mk l39 c39 k39,PySem.W.mg_of X G a39⟩
 have H_numbers_apart:Here K mg "_law_numbers_apart" s_numbers_apart _ _:=⟨fun_mk l40 c40 k40,PySem.W.mg_of X G a40⟩
 have H_steps:Here K mg "_law_steps" s_steps _ _:=⟨fun_mk l41 c41 k41,PySem.W.mg_of X G a41⟩
 have H_at_rest:Here K mg "_law_at_rest" s_at_rest _ _:=⟨fun_mk l42 c42 k42,PySem.W.mg_of X G a42⟩
 have H_law:Here K mg "law" s_law _ _:=⟨fun_mk l43 c43 k43,PySem.W.mg_of X G a43⟩
 have T:Bn mg:=⟨PySem.W.mg_none_of X G z1,PySem.W.mg_none_of X G z2,PySem.W.mg_none_of X G z3,PySem.W.mg_none_of X G z4,PySem.W.mg_none_of X G z5,PySem.W.mg_none_of X G z6,PySem.W.mg_none_of X G z7,PySem.W.mg_none_of X G z8,PySem.W.mg_none_of X G z9,PySem.W.mg_none_of X G z10,PySem.W.mg_none_of X G z11,PySem.W.mg_none_of X G z12,PySem.W.mg_none_of X G z13,PySem.W.mg_none_of X G z14,PySem.W.mg_none_of X G z15,PySem.W.mg_none_of X G z16,PySem.W.mg_none_of X G z17,PySem.W.mg_none_of X G z18,PySem.W.mg_none_of X G z19,PySem.W.mg_none_of X G z20,PySem.W.mg_none_of X G z21,PySem.W.mg_none_of X G z22,PySem.W.mg_none_of X G z23,PySem.W.mg_none_of X G z24,PySem.W.mg_none_of X G z25⟩
 refine ⟨PySem.W.fnOf "law" "law" (defArgs s_law) (defBody s_law) (defScope s_law) .none kV43 dc43 pm43 an43 cd43 ct43,fun s v=>.of_eq rfl,fun base _ _=>?_⟩
 have C_law_take:Callee l.prog w K mg base "_law_take" 1 ["_law_pen_here", "_law_size"] spTake:=H_take.callee (ok_take H_take) (fun _ _ _ _ _ _ u h=>by obtain⟨x0,x1,rfl⟩:=us2 h;rfl)
 have C_law_pen:Callee l.prog w K mg base "_law_pen" 1 ["_law_script", "_law_k"] (spPenB K):=H_pen.callee (ok_pen T H_pen) (fun _ _ _ _ _ _ u h=>by obtain⟨x0,x1,rfl⟩:=us2 h;rfl)
 have C_law_wickets:Callee l.prog w K mg base "_law_wickets" 2 ["_law_pen_here", "_law_wide", "_law_many"] spWickets:=H_wickets.callee (ok_wickets T H_wickets C_law_take) (fun _ _ _ _ _ _ u h=>by obtain⟨x0,x1,x2,rfl⟩:=us3 h;rfl)
 have Cis_wholeS:Callee l.prog w K mg base "is_whole" 1 ["thing"] spWholeG:=H_is_whole.callee (ok_is_whole T H_is_whole) (fun _ _ _ _ _ _ u h=>by obtain⟨x0,rfl⟩:=us1 h;rfl)
 have Cis_whole:Callee l.prog w K mg base "is_whole" 1 ["thing"] spIsWhole:=Cis_wholeS.imp whole_of
 have Cis_lane:Callee l.prog w K mg base "is_lane" 2 ["wide", "thing"] spIsLane:=H_is_lane.callee (ok_is_lane T H_is_lane Cis_whole) (fun _ _ _ _ _ _ u h=>by obtain⟨x0,x1,rfl⟩:=us2 h;rfl)
 have Cis_wicket:Callee l.prog w K mg base "is_wicket" 3 ["wide", "thing"] spIsWicket:=H_is_wicket.callee (ok_is_wicket T H_is_wicket Cis_lane) (fun _ _ _ _ _ _ u h=>by obtain⟨x0,x1,rfl⟩:=us2 h;rfl)
 have Care_wickets:Callee l.prog w K mg base "are_wickets" 4 ["wide", "things"] spAreWG:=H_are_wickets.callee (ok_are_wickets T H_are_wickets GMOST_WICKETS Cis_wicket) (fun _ _ _ _ _ _ u h=>by obtain⟨x0,x1,rfl⟩:=us2 h;rfl)
 have Cmakes_netS:Callee l.prog w K mg base "makes_net" 5 ["wide", "wickets"] spMakesG:=H_makes_net.callee (ok_makes_net T H_makes_net GMOST_LANES Cis_whole Care_wickets) (fun _ _ _ _ _ _ u h=>by obtain⟨x0,x1,rfl⟩:=us2 h;rfl)
 have Cmakes_net:Callee l.prog w K mg base "makes_net" 5 ["wide", "wickets"] spMakes:=Cmakes_netS.imp makes_of
 have Cnet_ofS:CalleeE l.prog w K mg base "net_of" 6 ["wide", "wickets"] spNetN:=H_net_of.calleeE (ok_net_of T H_net_of ERN Cmakes_netS) (fun _ _ _ _ _ _ u h=>by obtain⟨x0,x1,rfl⟩:=us2 h;rfl)
 have Cnet_of:CalleeE l.prog w K mg base "net_of" 6 ["wide", "wickets"] spNetOf:=H_net_of.calleeE ((ok_net_of T H_net_of ERN Cmakes_netS:FnOk l.prog w K mg base (CX1 l.prog w) 6 _ _ ["wide", "wickets"] spNetN).imp netof_n) (fun _ _ _ _ _ _ u h=>by obtain⟨x0,x1,rfl⟩:=us2 h;rfl)
 have Cplace_on:Callee l.prog w K mg base "place_on" 1 ["net", "lane", "start"] spPlaceOn:=H_place_on.callee (ok_place_on T H_place_on) (fun _ _ _ _ _ _ u h=>by obtain⟨x0,x1,x2,rfl⟩:=us3 h;rfl)
 have Cnumbers_of:Callee l.prog w K mg base "numbers_of" 1 ["wide", "lane", "low", "high"] spNums:=H_numbers_of.callee (ok_numbers_of T H_numbers_of) (fun _ _ _ _ _ _ u h=>by obtain⟨x0,x1,x2,x3,rfl⟩:=us4 h;rfl)
 have MkPlay:Maker l.prog w K mg base "Play" C 1 ["self", "net"] (spPInit C):=⟨⟨_,_,ok_Play_init T TP H_Play_init,H_Play_init.fn.binds (fun _ _ _ _ _ _ u h=>by obtain⟨x0,x1,rfl⟩:=us2 h;rfl),⟨mk,a12,i12,kc⟩⟩,PySem.W.mg_of X G aC⟩
 have MPlay_come_in:MCal l.prog w K mg base C "come_in" 3 ["self", "lane", "change"] (spComeIn C):=H_Play_come_in.mcal (ok_Play_come_in T TP H_Play_come_in Cis_lane Cplace_on) (fun _ _ _ _ _ _ u h=>by obtain⟨x0,x1,x2,rfl⟩:=us3 h;rfl)
 have MPlay_enter:MCal l.prog w K mg base C "enter" 4 ["self", "lane"] (spEnter C 1):=H_Play_enter.mcal (ok_Play_enter T TP H_Play_enter MPlay_come_in) (fun _ _ _ _ _ _ u h=>by obtain⟨x0,x1,rfl⟩:=us2 h;rfl)
 have MPlay_enter_back:MCal l.prog w K mg base C "enter_back" 4 ["self", "lane"] (spEnter C (-1)):=H_Play_enter_back.mcal (ok_Play_enter_back T TP H_Play_enter_back MPlay_come_in) (fun _ _ _ _ _ _ u h=>by obtain⟨x0,x1,rfl⟩:=us2 h;rfl)
 have MPlay_where:MCal l.prog w K mg base C "where" 2 ["self", "walker"] (spWhere C):=H_Play_where.mcal (ok_Play_where T TP H_Play_where Cis_whole) (fun _ _ _ _ _ _ u h=>by obtain⟨x0,x1,rfl⟩:=us2 h;rfl)
 have MPlay_turn:MCal l.prog w K mg base C "turn" 1 ["self", "wicket"] (spTurn C):=H_Play_turn.mcal (ok_Play_turn T TP H_Play_turn) (fun _ _ _ _ _ _ u h=>by obtain⟨x0,x1,rfl⟩:=us2 h;rfl)
 have MPlay_pass_wicket:MCal l.prog w K mg base C "pass_wicket" 2 ["self", "wicket", "change"] (spPass C):=H_Play_pass_wicket.mcal (ok_Play_pass_wicket T TP H_Play_pass_wicket MPlay_turn Cplace_on) (fun _ _ _ _ _ _ u h=>by obtain⟨x0,x1,x2,rfl⟩:=us3 h;rfl)
 have MPlay_leave:MCal l.prog w K mg base C "leave" 1 ["self", "lane", "change"] (spLeave C):=H_Play_leave.mcal (ok_Play_leave T TP H_Play_leave) (fun _ _ _ _ _ _ u h=>by obtain⟨x0,x1,x2,rfl⟩:=us3 h;rfl)
 have MPlay_step:MCal l.prog w K mg base C "step" 4 ["self", "walker"] (spStep C):=H_Play_step.mcal (ok_Play_step T TP H_Play_step MPlay_where MPlay_leave MPlay_pass_wicket) (fun _ _ _ _ _ _ u h=>by obtain⟨x0,x1,rfl⟩:=us2 h;rfl)
 have MPlay_inside:MCal l.prog w K mg base C "inside" 1 ["self"] (spInside C):=H_Play_inside.mcal (ok_Play_inside T TP H_Play_inside) (fun _ _ _ _ _ _ u h=>by obtain⟨x0,rfl⟩:=us1 h;rfl)
 have MPlay_counts:MCal l.prog w K mg base C "counts" 1 ["self"] (spCountsP C):=H_Play_counts.mcal (ok_Play_counts T TP H_Play_counts) (fun _ _ _ _ _ _ u h=>by obtain⟨x0,rfl⟩:=us1 h;rfl)
 have MPlay_standing:MCal l.prog w K mg base C "standing" 2 ["self"] (spStandB C):=H_Play_standing.mcal (ok_Play_standing T TP H_Play_standing Cnumbers_of) (fun _ _ _ _ _ _ u h=>by obtain⟨x0,rfl⟩:=us1 h;rfl)
 have MPlay_owed:MCal l.prog w K mg base C "owed" 2 ["self"] (spOwedB C):=H_Play_owed.mcal (ok_Play_owed T TP H_Play_owed Cnumbers_of) (fun _ _ _ _ _ _ u h=>by obtain⟨x0,rfl⟩:=us1 h;rfl)
 have MPlay_lacking:MCal l.prog w K mg base C "lacking" 3 ["self"] (spLackB C):=H_Play_lacking.mcal (ok_Play_lacking T TP H_Play_lacking MPlay_standing) (fun _ _ _ _ _ _ u h=>by obtain⟨x0,rfl⟩:=us1 h;rfl)
 have MPlay_rest:MCal l.prog w K mg base C "rest" 5 ["self"] (spRest C):=H_Play_rest.mcal (ok_Play_rest T TP H_Play_rest MPlay_inside MPlay_step) (fun _ _ _ _ _ _ u h=>by obtain⟨x0,rfl⟩:=us1 h;rfl)
 have Crefuse_unless_halved:CalleeE l.prog w K mg base "refuse_unless_halved" 2 ["wide"] (spRefuse e_nonet):=H_refuse_unless_halved.calleeE (ok_refuse_unless_halved T H_refuse_unless_halved ERN GH Cis_wholeS) (fun _ _ _ _ _ _ u h=>by obtain⟨x0,rfl⟩:=us1 h;rfl)
 have Cin_both_halvesS:Callee l.prog w K mg base "in_both_halves" 1 ["wickets", "half"] spHalvesS:=H_in_both_halves.callee (ok_in_both_halves T H_in_both_halves) (fun _ _ _ _ _ _ u h=>by obtain⟨x0,x1,rfl⟩:=us2 h;rfl)
 have Cin_both_halves:Callee l.prog w K mg base "in_both_halves" 1 ["wickets", "half"] spHalves:=Cin_both_halvesS.imp halves_s
 have Cacross:Callee l.prog w K mg base "across" 1 ["wide"] spAcross:=H_across.callee (ok_across T H_across) (fun _ _ _ _ _ _ u h=>by obtain⟨x0,rfl⟩:=us1 h;rfl)
 have Cby_falling_gaps:Callee l.prog w K mg base "by_falling_gaps" 1 ["wide"] spGaps:=H_by_falling_gaps.callee (ok_by_falling_gaps T H_by_falling_gaps) (fun _ _ _ _ _ _ u h=>by obtain⟨x0,rfl⟩:=us1 h;rfl)
 have R_folded:∀ n:Nat,CalleeE l.prog w K mg base "folded" (n+7) ["wide"] (spFolded e_nonet n):=fun n=>by
   induction n with
   |zero=>exact H_folded.calleeE ok_folded0 (fun _ _ _ _ _ _ u h=>by obtain⟨x0,rfl⟩:=us1 h;rfl)
   |succ n ih=>exact H_folded.calleeE (ok_folded1 T H_folded Crefuse_unless_halved Cnet_ofS Cin_both_halvesS Cacross Cby_falling_gaps ih) (fun _ _ _ _ _ _ u h=>by obtain⟨x0,rfl⟩:=us1 h;rfl)
 have Cfolded:CalleeE l.prog w K mg base "folded" 11 ["wide"] (spFolded e_nonet 4):=R_folded 4
 have Cfolded1:Callee l.prog w K mg base "folded" 11 ["wide"] spFoldedN:=H_folded.callee (((ok_folded1 T H_folded Crefuse_unless_halved Cnet_ofS Cin_both_halvesS Cacross Cby_falling_gaps (R_folded 3):FnOk l.prog w K mg base (CX1 l.prog w) 11 _ _ ["wide"] (spFolded e_nonet 4)).imp folded_n).down fun _ _ _ _ h=>h) (fun _ _ _ _ _ _ u h=>by obtain⟨x0,rfl⟩:=us1 h;rfl)
 have R_block:∀ n:Nat,Callee l.prog w K mg base "block" (n+1) ["wide"] (spBlk n):=fun n=>by
   induction n with
   |zero=>exact H_block.callee ok_block0 (fun _ _ _ _ _ _ u h=>by obtain⟨x0,rfl⟩:=us1 h;rfl)
   |succ n ih=>exact H_block.callee (ok_block1 T H_block Cacross Cin_both_halves ih) (fun _ _ _ _ _ _ u h=>by obtain⟨x0,rfl⟩:=us1 h;rfl)
 have Cblock:Callee l.prog w K mg base "block" 6 ["wide"] (spBlk 4):=(R_block 4).mono (by decide)
 have Crounds:CalleeE l.prog w K mg base "rounds" 7 ["wide"] (spRoundsG e_nonet):=H_rounds.calleeE (ok_rounds T H_rounds ERN Crefuse_unless_halved Cblock Cnet_of) (fun _ _ _ _ _ _ u h=>by obtain⟨x0,rfl⟩:=us1 h;rfl)
 have Crounds1:Callee l.prog w K mg base "rounds" 7 ["wide"] spRoundsN:=H_rounds.callee (((ok_rounds T H_rounds ERN Crefuse_unless_halved Cblock Cnet_of:FnOk l.prog w K mg base (CX1 l.prog w) 7 _ _ ["wide"] (spRoundsG e_nonet)).imp rounds_n).down fun _ _ _ _ h=>h) (fun _ _ _ _ _ _ u h=>by obtain⟨x0,rfl⟩:=us1 h;rfl)
 have Clet_through:Callee l.prog w K mg base "let_through" 1 ["net", "counts"] spThru:=H_let_through.callee (ok_let_through T H_let_through) (fun _ _ _ _ _ _ u h=>by obtain⟨x0,x1,rfl⟩:=us2 h;rfl)
 have Cexits:Callee l.prog w K mg base "exits" 2 ["net", "counts"] spExits:=H_exits.callee (ok_exits T H_exits Clet_through) (fun _ _ _ _ _ _ u h=>by obtain⟨x0,x1,rfl⟩:=us2 h;rfl)
 have Cfalls:Callee l.prog w K mg base "falls" 1 ["values"] spFalls:=H_falls.callee (ok_falls T H_falls) (fun _ _ _ _ _ _ u h=>by obtain⟨x0,rfl⟩:=us1 h;rfl)
 have Cis_level:Callee l.prog w K mg base "is_level" 2 ["counts"] spLevel:=H_is_level.callee (ok_is_level T H_is_level Cfalls) (fun _ _ _ _ _ _ u h=>by obtain⟨x0,rfl⟩:=us1 h;rfl)
 have C_law_built_net:Callee l.prog w K mg base "_law_built_net" 12 ["_law_pen_here"] spBuilt91:=H_built_net.callee (ok_built_net T H_built_net C_law_take C_law_wickets Cfolded1 Crounds1) (fun _ _ _ _ _ _ u h=>by obtain⟨x0,rfl⟩:=us1 h;rfl)
 have C_law_in_between:Callee l.prog w K mg base "_law_in_between" 4 ["_law_play", "_law_many"] (spInBet C):=H_in_between.callee (ok_in_between T TP H_in_between MPlay_lacking MPlay_owed MPlay_standing MPlay_inside) (fun _ _ _ _ _ _ u h=>by obtain⟨x0,x1,rfl⟩:=us2 h;rfl)
 have C_law_numbers_apart:Callee l.prog w K mg base "_law_numbers_apart" 3 ["_law_play", "_law_many"] (spApart C):=H_numbers_apart.callee (ok_numbers_apart T TP H_numbers_apart MPlay_where) (fun _ _ _ _ _ _ u h=>by obtain⟨x0,x1,rfl⟩:=us2 h;rfl)
 have C_law_steps:Callee l.prog w K mg base "_law_steps" 5 ["_law_pen_here", "_law_play"] (spSteps91 C):=H_steps.callee (ok_steps T TP H_steps C_law_take MPlay_inside MPlay_step) (fun _ _ _ _ _ _ u h=>by obtain⟨x0,x1,rfl⟩:=us2 h;rfl)
 have C_law_at_rest:Callee l.prog w K mg base "_law_at_rest" 4 ["_law_play", "_law_net", "_law_came"] (spAtR91 C):=H_at_rest.callee (ok_at_rest T TP H_at_rest MPlay_inside MPlay_standing MPlay_owed MPlay_lacking MPlay_counts Cis_level Cexits) (fun _ _ _ _ _ _ u h=>by obtain⟨x0,x1,x2,rfl⟩:=us3 h;rfl)
 exact ok_law T TP H_law C_law_pen C_law_take C_law_built_net MkPlay MPlay_enter MPlay_enter_back MPlay_rest C_law_steps C_law_in_between C_law_at_rest C_law_numbers_apart
theorem walk {l:PySem.W.OpenLaw} {q:Program} {loose:List Str} {XP:(Str→Option Value)→Heap→Prop} {YP:World→Heap→Prop} {d:DefRec} {K:Params→PySem.W.Frag} (hn:l.most=some 63) (hdf:d.params.defaults=[])
  (hY:∀ (w:World) (h:Heap),YP w h→(K w.params).In h)
  (F:∀ (w:World) (mg:Str→Option Value) (fa:Addr) (h:Heap),(K w.params).In h→h.Ns mainGlobals mg→mg d.name=some (.ref fa) →
   ∃ fd:FuncData,(∀ (s:Shared) (u:Value),BindsTo s fd ⟨[u],[]⟩ [("_law_script", u)])∧∀ base:Heap,(K w.params).In base→base.Ns mainGlobals mg→FnOk l.prog w (K w.params) mg base CX0 13 fa fd ["_law_script"] (spLaw (K w.params))) :
  PySem.W.WalkO q loose XP YP l.row.toRowW d [] (fun f vs=>PySem.call f vs) :=
 L2.walk_of (n:=63) (k:=13) (x := "_law_script") (CX:=fun _=>CX0) (sp:=fun w=>spLaw (K w.params)) hn (by decide) hdf ⟨rfl,by decide,by decide,rfl⟩ hY F (fun _ _ a ns hl _ hS=>⟨a,ns,rfl,hS,hl,fun _=>rfl⟩) fun _ _ _ _ _ z=>z
end
end Ep
open PySem PySem.W PyProof.Rows
set_option maxRecDepth 100000 in
set_option maxHeartbeats 0 in
theorem PySem.Challenge.cw_evenpass_k91_whole_numbers_of_nets_that_holds : PySem.Challenge.rw_evenpass_k91_whole_numbers_of_nets_that.Holds := by
 w_on;o_law;k_head;(case hw=>w_witness2)
 k_fill
 refine Ep.walk (l:=PySem.Challenge.rw_evenpass_k91_whole_numbers_of_nets_that) rfl rfl (fun w h Y=>PySem.W.kIn_of Y) ?F
 case F =>
  intro w mg fa h KX G hmg
  refine' Ep.all_mk KX G hmg ?aC ?pg ?hd ?po ?sa ?mk ?kc ?n_net ?n_facing ?n_tally ?n_places ?n_changes ?ae_nonet ?qe_nonet ?gH ?lH ?g_MOST_LANES ?g_MOST_WICKETS ?a1 ?l1 ?c1 ?k1 ?a2 ?l2 ?c2 ?k2 ?a3 ?l3 ?c3 ?k3 ?a4 ?l4 ?c4 ?k4 ?a5 ?l5 ?c5 ?k5 ?a6 ?l6 ?c6 ?k6 ?a7 ?l7 ?c7 ?k7 ?a8 ?l8 ?c8 ?k8 ?a9 ?l9 ?c9 ?k9 ?a10 ?l10 ?c10 ?k10 ?a11 ?l11 ?c11 ?k11 ?a12 ?i12 ?l12 ?c12 ?k12 ?a13 ?i13 ?l13 ?c13 ?k13 ?a14 ?i14 ?l14 ?c14 ?k14 ?a15 ?i15 ?l15 ?c15 ?k15 ?a16 ?i16 ?l16 ?c16 ?k16 ?a17 ?i17 ?l17 ?c17 ?k17 ?a18 ?i18 ?l18 ?c18 ?k18 ?a19 ?i19 ?l19 ?c19 ?k19 ?a20 ?i20 ?l20 ?c20 ?k20 ?a21 ?i21 ?l21 ?c21 ?k21 ?a22 ?i22 ?l22 ?c22 ?k22 ?a23 ?i23 ?l23 ?c23 ?k23 ?a24 ?i24 ?l24 ?c24 ?k24 ?a25 ?i25 ?l25 ?c25 ?k25 ?a26 ?i26 ?l26 ?c26 ?k26 ?a27 ?l27 ?c27 ?k27 ?a28 ?l28 ?c28 ?k28 ?a29 ?l29 ?c29 ?k29 ?a30 ?l30 ?c30 ?k30 ?a31 ?l31 ?c31 ?k31 ?a32 ?l32 ?c32 ?k32 ?a33 ?l33 ?c33 ?k33 ?a34 ?l34 ?c34 ?k34 ?a35 ?l35 ?c35 ?k35 ?a36 ?l36 ?c36 ?k36 ?a37 ?l37 ?c37 ?k37 ?a38 ?l38 ?c38 ?k38 ?a39 ?l39 ?c39 ?k39 ?a40 ?l40 ?c40 ?k40 ?a41 ?l41 ?c41 ?k41 ?a42 ?l42 ?c42 ?k42 ?a43 ?l43 ?c43 ?k43 ?z1 ?z2 ?z3 ?z4 ?z5 ?z6 ?z7 ?z8 ?z9 ?z10 ?z11 ?z12 ?z13 ?z14 ?z15 ?z16 ?z17 ?z18 ?z19 ?z20 ?z21 ?z22 ?z23 ?z24 ?z25
  (case aC=>k_is);(case pg=>k_is);(case hd=>k_is);(case po=>k_is);(case sa=>k_is);(case mk=>k_is);(case kc=>k_is);(case n_net=>k_is);(case n_facing=>k_is);(case n_tally=>k_is);(case n_places=>k_is);(case n_changes=>k_is)
  (case ae_nonet=>k_is);(case qe_nonet=>k_exc)
  (case gH=>k_is);(case lH=>k_is)
  (case g_MOST_LANES=>k_is)
  (case g_MOST_WICKETS=>k_is)
  (case a1=>k_is);(case l1=>k_is);(case c1=>k_is);(case k1=>k_is)
  (case a2=>k_is);(case l2=>k_is);(case c2=>k_is);(case k2=>k_is)
  (case a3=>k_is);(case l3=>k_is);(case c3=>k_is);(case k3=>k_is)
  (case a4=>k_is);(case l4=>k_is);(case c4=>k_is);(case k4=>k_is)
  (case a5=>k_is);(case l5=>k_is);(case c5=>k_is);(case k5=>k_is)
  (case a6=>k_is);(case l6=>k_is);(case c6=>k_is);(case k6=>k_is)
  (case a7=>k_is);(case l7=>k_is);(case c7=>k_is);(case k7=>k_is)
  (case a8=>k_is);(case l8=>k_is);(case c8=>k_is);(case k8=>k_is)
  (case a9=>k_is);(case l9=>k_is);(case c9=>k_is);(case k9=>k_is)
  (case a10=>k_is);(case l10=>k_is);(case c10=>k_is);(case k10=>k_is)
  (case a11=>k_is);(case l11=>k_is);(case c11=>k_is);(case k11=>k_is)
  (case a12=>k_is);(case i12=>k_is);(case l12=>k_is);(case c12=>k_is);(case k12=>k_is)
  (case a13=>k_is);(case i13=>k_is);(case l13=>k_is);(case c13=>k_is);(case k13=>k_is)
  (case a14=>k_is);(case i14=>k_is);(case l14=>k_is);(case c14=>k_is);(case k14=>k_is)
  (case a15=>k_is);(case i15=>k_is);(case l15=>k_is);(case c15=>k_is);(case k15=>k_is)
  (case a16=>k_is);(case i16=>k_is);(case l16=>k_is);(case c16=>k_is);(case k16=>k_is)
  (case a17=>k_is);(case i17=>k_is);(case l17=>k_is);(case c17=>k_is);(case k17=>k_is)
  (case a18=>k_is);(case i18=>k_is);(case l18=>k_is);(case c18=>k_is);(case k18=>k_is)
  (case a19=>k_is);(case i19=>k_is);(case l19=>k_is);(case c19=>k_is);(case k19=>k_is)
  (case a20=>k_is);(case i20=>k_is);(case l20=>k_is);(case c20=>k_is);(case k20=>k_is)
  (case a21=>k_is);(case i21=>k_is);(case l21=>k_is);(case c21=>k_is);(case k21=>k_is)
  (case a22=>k_is);(case i22=>k_is);(case l22=>k_is);(case c22=>k_is);(case k22=>k_is)
  (case a23=>k_is);(case i23=>k_is);(case l23=>k_is);(case c23=>k_is);(case k23=>k_is)
  (case a24=>k_is);(case i24=>k_is);(case l24=>k_is);(case c24=>k_is);(case k24=>k_is)
  (case a25=>k_is);(case i25=>k_is);(case l25=>k_is);(case c25=>k_is);(case k25=>k_is)
  (case a26=>k_is);(case i26=>k_is);(case l26=>k_is);(case c26=>k_is);(case k26=>k_is)
  (case a27=>k_is);(case l27=>k_is);(case c27=>k_is);(case k27=>k_is)
  (case a28=>k_is);(case l28=>k_is);(case c28=>k_is);(case k28=>k_is)
  (case a29=>k_is);(case l29=>k_is);(case c29=>k_is);(case k29=>k_is)
  (case a30=>k_is);(case l30=>k_is);(case c30=>k_is);(case k30=>k_is)
  (case a31=>k_is);(case l31=>k_is);(case c31=>k_is);(case k31=>k_is)
  (case a32=>k_is);(case l32=>k_is);(case c32=>k_is);(case k32=>k_is)
  (case a33=>k_is);(case l33=>k_is);(case c33=>k_is);(case k33=>k_is)
  (case a34=>k_is);(case l34=>k_is);(case c34=>k_is);(case k34=>k_is)
  (case a35=>k_is);(case l35=>k_is);(case c35=>k_is);(case k35=>k_is)
  (case a36=>k_is);(case l36=>k_is);(case c36=>k_is);(case k36=>k_is)
  (case a37=>k_is);(case l37=>k_is);(case c37=>k_is);(case k37=>k_is)
  (case a38=>k_is);(case l38=>k_is);(case c38=>k_is);(case k38=>k_is)
  (case a39=>k_is);(case l39=>k_is);(case c39=>k_is);(case k39=>k_is)
  (case a40=>k_is);(case l40=>k_is);(case c40=>k_is);(case k40=>k_is)
  (case a41=>k_is);(case l41=>k_is);(case c41=>k_is);(case k41=>k_is)
  (case a42=>k_is);(case l42=>k_is);(case c42=>k_is);(case k42=>k_is)
  (case a43=>k_is);(case l43=>k_is);(case c43=>k_is);(case k43=>k_is)
  (case z1=>k_is)
  (case z2=>k_is)
  (case z3=>k_is)
  (case z4=>k_is)
  (case z5=>k_is)
  (case z6=>k_is)
  (case z7=>k_is)
  (case z8=>k_is)
  (case z9=>k_is)
  (case z10=>k_is)
  (case z11=>k_is)
  (case z12=>k_is)
  (case z13=>k_is)
  (case z14=>k_is)
  (case z15=>k_is)
  (case z16=>k_is)
  (case z17=>k_is)
  (case z18=>k_is)
  (case z19=>k_is)
  (case z20=>k_is)
  (case z21=>k_is)
  (case z22=>k_is)
  (case z23=>k_is)
  (case z24=>k_is)
  (case z25=>k_is)
