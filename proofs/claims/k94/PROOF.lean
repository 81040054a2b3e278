import PyProof.Rows.All
import KE.KIntText
import OpenK.KEqL
import KE.KNestM
import KE.KRevSl
import KE.KTryMore
import KE.KMinKey
import KE.KLam
import PySem.Challenge.RW_evenpass_k94_whole_from_text_to_numbers
set_option Elab.async false
set_option linter.all false
set_option genSizeOf false
set_option maxRecDepth 100000
set_option maxHeartbeats 4000000
structure PySem.W.Fast:Prop where (tw8113273786160777390 tw16628083636350937546 tw109800509317521822 tw17899531663627380158 tw7743737379919376081 tw5406746679727406258 tw6133615397794671033 tw4512474284374892170 tw4164077489922588387 tw12946868965032491553 tw12948913935003872828 tw9805683490869170522 tw9897661020353225178 tw9703920848342755785 tw12919163103537291381 tw13405984617077649329 tw4508039481078349631 tw2473157334620003096 tw15046186973424590263 tw9019382780164897308 tw3521949741644641697 tw9467833686791873957 tw11568564008147010612 tw2070699695554878610 tw7805971660186496442 tw10741250200931768246 tw5760082140279365804 tw2013494761211525119 tw10511883764175723557 tw3340934034637183905 tw12799813921917950498 tw12348472677120920604 tw7584468557395237266 tw11724745220692499517 tw4653718057378917050 tw12883120686938615099 tw10752338895602072662 tw15892338077614126110 tw11959023348361946263 tw783706510056803533 tw6175220365293508794 tw7938723601658154402 tw4697721544609452960 tw9944819140681923830 tw577813913048506528 tw15771589873842965519 tw1053763812420080707 tw15260865720280037475 tw2906325493107904274 tw13129710850134774751 tw2254612923022767011 tw18186008704269021696 tw12730904655084121063 tw17610413991970532887 tw8294707146989012853 tw4898997648372611293 tw13089820577277841435 tw2478732322326699134 tw3469598054256333782 tw11072995191272623085 tw1448730403997411074 tw11506677694689025798 tw9376813082822690115 tw8873191180589440825 tw3004082193210696504 tw11653443516521204505 tw6746176918220574132 tw14543796750418486720 tw16202823986731439044 tw13821424042418274895 tw14484255601997504656 tw2076144359084023791 tw3268885054756736566 tw8400996375012469388 tw7974133583205614427 tw15227081424415254156 tw16097318478857097388 tw3034100160596377380 tw15578636810730780539 tw17650383770323217602 tw13074568647065132292 tw16899565518999149098 tw478707780647321737 tw8617609351142311612 tw751338265239976133 tw11850451991193612190 tw8756087306363403112 tw11012154215826096481 tw4580040522934583371 tw1782378624655347667 tw17328222487134235697 tw838932179857019601 tw14142709849332874304 tw149568174769296934 tw12188395352530587068 tw8310466244074013518 tw12899126240425385737 tw13315591476456706101 tw5799047127601913464 tw13999011236653365558 tw3402677808192906489 tw13320691113061482844 tw17792336741411918838 tw3365405074828829188 tw17668750679563936279 tw9613434492315573585 tw12898804544686190258 tw9673587047905384468 tw17939696792909934224 tw13824259450218148250 tw6226661304370455630 tw16511890628874167352 tw1940107118332277698 tw7107926626422220190 tw9065524162011259086 tw11987900462640126599 tw2915591947840180073 tw2558272557887067317 tw18191202425229626683 tw8058640733494811626 tw13160986874771320376 tw6245783573516104503 tw10947021105990432552 tw9607516299059387678 tw7017124861456655600 tw17695263057684915596 tw12685931242231653579 tw15430516683880912014 tw2917316501116983315 tw18078193569008693751 tw1589325012799448976 tw15420731026777604562 tw5213374256374760187 tw13405942379468965345 tw8869280334419029547 tw10370737290983049137 tw8661627061573597287 tw16369464379537402433 tw15207391140889358251 tw5905709282842458525 tw7518260035631257285 tw11255186402040291988 tw18382910852053426153 tw12088111667528860959 tw6813077314563060285 tw668470592429728399 tw14519351984879296446 tw15650784334497535155 tw2884438116693209464 tw14836732718539111215 tw15676992188694087296 tw6781999612954212946 tw9370681078602134592 tw6087340541687969313 tw9770226771443215478 tw16516339843447509274 tw13538933096612735743 tw12628216296128163992 tw5855164581570746108 tw9699994999547584223 tw6725274364181130614 tw13256063133841125151 tw3136417378481297553 tw8920880475025890489 tw2209635219715317534 tw14794826271910212646 tw651776789918279546 tw18207395627624531518 tw16015019855741496110 tw10856209408700309833 tw12360700837667753858 tw3836012832358018112 tw11980799880842311200 tw3442387294760508655 tw5658942342032988014 tw15125781222663361598 tw11698713583798398012 tw648558814737197784 tw7206234376002137488 tw16254151330652656700 tw4147913697601380349 tw5782508225137990682 tw17853754307363825586 tw1533300202114528603 tw13130673878779289895 tw12223347544889068341 tw13997908096689789258 tw3618752601262255264 tw14674484329103474222 tw7251851927726103816 tw17694040757592283330 tw2422337418995783630 tw15326310534219859249 tw15670743983130984216 tw5055851865079562906 tw9083087519514311685 tw14335116929915598597 tw18380284550436752206 tw16640059777652848223 tw17745927458864540476 tw17548961786750971655 tw7813646435553452070 tw11482803592078905665 tw16063613715288363060 tw3369348724832720839 tw5979239486261125542 tw12664733192800383152 tw9195610542431784853 tw4671351005403922729 tw12884201014705662288 tw8177908525234479442 tw15532708590721085188 tw3403594079839877431 tw4503006703558307018 tw18299015752260004082 tw12044941811837926510 tw2245485905128957100 tw13355658201053726556 tw13332128584444167690 tw5804989788935365144 tw5832760877842493304 tw9986548711583881751 tw15638680793130842843 tw11482544638182956723 tw9036197188123047529 tw3899166523794646368 tw12002636348728440344 tw171417685070395098 tw15508369148960530301 tw13648319322414437453 tw547906983121195516 tw9934520255328425802 tw2354356280043237696 tw7900457811298333351 tw8130551660387090352 tw12904917901321251779 tw329138802102769954 tw6583331179305590444 tw3103642244013902905 tw13388584294942196642 tw11215166344515257875 tw3006365527011506628 tw9314658504866884849 tw5454517636569469906 tw17143723364303302718 tw10541263013252864936 tw15560055623775991929 tw15149593968477042379 tw1462234319269369955 tw6026355524523166462 tw4760398370763564987 tw11975886097025654642 tw4021819461910494791 tw3061404531846742200 tw10284159498236316548 tw7957756672976235417 tw15593581923741259823 tw16227056045863160239 tw2975453251659260108 tw15725673211881569441 tw14137985277689342554 tw16550499358723780479 tw16983289390932033117 tw17387813056724002644 tw3828125818463972671 tw1814551578503227964 tw9783709125401359861 tw15354044984476282320 tw5164215524491258266 tw14611670924931657812 tw1733996142565840804 tw497447721633145395 tw2695789516959301968 tw13801552009156960154 tw11272433420476492302 tw14158120855772662412 tw3180876010170053498 tw13452030225605058289 tw1509480990921052186 tw10230696714201511873 tw765206706805920673 tw2506658117967575914 tw18207439118664799526 tw11265122772276440219 tw14624646857688429094 tw11314886826442396557 tw6972260052322413943 tw7583909195315918030 tw11953693681810692752 tw14964265739437948647 tw1942090762191370805 tw7194405789030922291 tw9688574236005289028 tw7447977848497025743 tw6484705236779280638 tw5680791808745173403 tw11969237246408539010 tw6616084360440119235 tw7631551095494023871 tw339408123387551743 tw18294437162839127482 tw1305686958210040859 tw5217518960495532670 tw3297464399680667792 tw13431086425507167033 tw2643706818879768255 tw4550498421076603884 tw2594638419790535256 tw17165195209652220366 tw10781486905746633995 tw12470598310671056492 tw1835327745527038676 tw9180712900990778196 tw2093880194292302092 tw17926948503076452756 tw9923157134503132589 tw6976935286312285609 tw5013489475452923387 tw2571215974749795676 tw9139189632138981536 tw2080445002579868779 tw14237578266230343878 tw17816490496982367180 tw12312915190596847377 tw9973159913781427362 tw14293469390866543990 tw17352983714905627896 tw18044361458251989890 tw16789091540314836481 tw7715908396216666389 tw662245035478339831 tw7710982887401153881 tw7855108357910996039 tw15231430442777500435 tw13074327389388103761 tw12678213546772274287 tw168541928253181024 tw9261851418609840562 tw15946711306335660833 tw1828956984964259750 tw13827582768209784606 tw7073756339473751555 tw13944250993605255336 tw10726897734905081370 tw4050669128219063347 tw5729358327721182954 tw5297762930240032676 tw16728576586487958382 tw2815998619486566422 tw1465145676027683829 tw3479089668834007240 tw17695487053590752342 tw8246126132495047596 tw7037414042667926685 tw16303428951720660561 tw15561546235869056854 tw5342685176693907808 tw271785697654354038 tw6329546633679296587 tw10653983304721781739 tw6730894576424526869 tw7228548522460786380 tw3733352808012475342 tw16157905592694801390 tw2435352283339193806 tw14683098104310953557 tw7907622088485815261 tw1695424522464464268 tw12758279246924465867 tw15693678753568230624 tw15382921060266827752 tw10856507756783218299 tw6756370489208334770 tw17099560428122254853 tw7056938373396267955 tw10364882527916031581 tw17470018943499814173 tw14202034229975822476 tw4281805370492185804 tw4580009731134496973 tw14363459960635273977 tw8246776673388929257 tw17388345547851312583 tw12660161652973013648 tw9490133681682922796 tw15471390602179489712 tw12541876685343437407 tw4766981134598018236 tw1810454673732757353 tw905352652064877487 tw1548505227294398907 tw13643458218992313180 tw6778947501014732942 tw5869442957823294551 tw12598509936793692197 tw9531426998622939565 tw14363354387675140991 tw11425115509018789405 tw7317738905834068090 tw423274549781524093 tw7130627031395670682 tw13999588442160132590 tw5757413137067298410 tw14472424758814102544 tw16190708373876921871 tw4503942920060156440 tw7385968509397504903 tw1282699005294444152 tw14814045572861993834 tw14379312714889272354 tw17577663242088547847 tw16778712825589692778 tw9811032289012288769 tw6267966863092300005 tw15984711291671408980 tw14991090259989457899 tw17181515486361200817 tw1191161139929158880 tw16919903364642643630 tw18396709654380679346 tw5619646108633366037 tw6273895243558922185 tw18344272608622916300 tw15863887813859758166 tw17511412047547784906 tw1887863285064669018 tw1406553943004778226 tw8101529675766789252 tw9576186221207779845 tw9123101446888318899 tw1440306666602085822 tw14031862488427808684 tw11230445487601078382 tw9132708093520148482 tw6827772912389292822 tw17731792081677056265 tw13911379162423011872 tw8167039172327650781 tw9494355118689199192 tw12235724175319226371 tw3908467022709289763 tw8253406374701927419 tw2951786592858614303 tw8240009389330051197 tw1631774500354748052 tw17741899722821680222 tw14684139093886989152 tw7579395697967884063 tw4179977857921681883 tw7942777382466430826 tw6766320164290333274 tw17990887466146852073 tw17642049980324397968 tw8490640558337008683 tw2452464026371102846 tw6699369852623741205 tw4508450951546856435 tw15493239893709489311 tw11622431877583132293 tw6705017558364495697 tw4680526155138504336 tw2981302397957245994 tw2123910142171321065 tw4719881698967854684 tw13347677904468637879 tw9486158874534134736 tw7177390283236199734 tw7786497674886263482 tw1442793220991381332 tw14621178612305553968 tw2700165004017959634 tw3549559248093001308 tw1328842929120307405 tw15807275512414961154 tw2109666692147588580 tw2161878725886732467 tw15838675510016158868 tw11427395274482396201 tw15088070309542053171 tw12198343514548764923 tw6307501249213534555 tw702407595819335733 tw3114172877810704627 tw6606294770063212294 tw14529493494346877092 tw1263038630424014261 tw983695882947224021 tw18157170937233711036 tw6116493899000353221 tw12823766365505861452 tw7552490939705405328 tw5551416993733976173 tw17675106266754987562 tw15462036530265933197 tw12034334193696080370 tw8321695349921063362 tw7739993082212448635 tw5691661769863823167 tw9079904420828998662 tw8421898824524825155 tw8357111289903426257 tw798627164723147155 tw17002078936163217098 tw7567059340477032627 tw17180069657853111120 tw14862080778764015102 tw11522302377905019972 tw12131474411589588249 tw3301993445681614614 tw6195783482700710662 tw1644259455908905891 tw10975810263467627441 tw3048203369459675477 tw10273758097116455137 tw11230682209632405107 tw17461120647877483491 tw2553840026522633604 tw7829733488448926073 tw17997632469275305185 tw9819053107994387642 tw13272311456457819057 tw8005575004657068543 tw6149963137012404271 tw8372622415723758780 tw3711269444354669485 tw1916215725299310514 tw8815977477115082736 tw18169381892710895442 tw16065652069062217853 tw11936853565940910505 tw11204792002288545217 tw9684941254351148362 tw10412607578850312986 tw9768042394695686717 tw1304534205233908277 tw17869444510489166698 tw8246394129381697184 tw1912302371830204864 tw13304480941901402180 tw11330733607066924678 tw1910039970769732415 tw9464039837261274861 tw14764898507942107753 tw9230044637271368910 tw8736882959745096761 tw7862160438068834785 tw9907052668128295201 tw17067531821361849226 tw15184295977824222019 tw14182228177812124734 tw6941221344331966217 tw15109436575159480516 tw11696354652761727347 tw8705154306569316645 tw3298129138768048043 tw5568480721582612547 tw15577184425509486433 tw489852636124251862 tw12714407924700227325 tw5793408851674823670 tw7864393535993168095 tw5306032452402835389 tw2073401896552513071 tw5079463203446717566 tw7762679049226832986 tw691759967423328092 tw10583954968659439633 tw4286893661620508969 tw922573253855194271 tw1666575188038135967 tw727163517151093174 tw7932069205274154356 tw17417320301934778111 tw16713877749793302273 tw11568182217200184193 tw16960243230774169174 tw18199727484189323403 tw4498769131779461077 tw13356473037240231434 tw8601681807410030872 tw1521071810207644051 tw1918578475911179219 tw13594572088621700920 tw13550351797778096674 tw12004741644163410522 tw10116117460053436045 tw1888050638974288908 tw12100749022381431010 tw12971087854049861640 tw13248380845818836289 tw11578338556217929377 tw11446480624009632537 tw9599920582712518805 tw13832876753903627441 tw3211751967806491360 tw11403832156399053818 tw13744089059583172202 tw15041499175388092491 tw15825180752871298437 tw14930372784086826127 tw1974684111337499158 tw3815251983933925463 tw16882384125848114688 tw15164902271820133791 tw14882035705540584024 tw11625946831943536152 tw13571734241873941816 tw1428319614667058585 tw246440716584370047 tw239214371706672504 tw8816118615980965973 tw4663811442703230315 tw5271420599511994202 tw84083082989682546 tw3587200255243905427 tw7577724109123413341 tw9219634907011158763 tw15463359702128976894 tw17569194407044113222 tw17751789979599756190:True)
open PySem
variable {us aJ vs:List Value} {u cd pm ct oc:Value} {a b it C f:Addr} {h au:Heap} {eZ:Array Value} {α β:Type} {P prog:Program} {w:World} {g':Array GenState} {t' i j n:Nat} {ch fp:List Addr} {N ps:List Str} {x bZ:Str} {A:Around} {E Q:Value->Shared->Prop} {e tg:Expr} {s:Shared} {pos pos':Pos} {ak:List (Addr×Obj)} {op:CmpOp} {K:PySem.W.Frag} {es:List Expr} {body:List Stmt} {lo:Int} {mA mg:Str->Option Value} {R:Result->Shared->Prop} {kw:List (Str×Value)} {env:Env} {fd:FuncData} {outer:List Env} {kindOf:Str->Option NameKind} {scope:Scope} {an od:Option Addr} {osl:Array (Option Value)}
section
local macro_rules | `(tactic| lk) => `(tactic| first | lia | omega)
local macro_rules | `(tactic| k_in) => `(tactic| first | exact Or.inl rfl | exact Or.inr rfl)
local macro_rules | `(tactic| k_ne) => `(tactic| first | decide | lia | omega)
local macro_rules | `(tactic| k_go) => `(tactic| decide +kernel)
local macro_rules | `(tactic| k_dec) => `(tactic| walk_at "b1")
local macro_rules | `(tactic| k_sub) => `(tactic| walk_at "b2")
def T7:=@Sum.inl.inj
def lJ:=@decide_eq_false
def Df:=@beq_eq_false_iff_ne
def La:=@Sum.inr.inj
def o7:=@PySem.Paired.length
def aQ:=@if_pos
def aK:=@if_neg
def iB:=@Option.some.inj
def cF:=@PySem.Heap.lt_size
def fU:=@PySem.Heap.get?_push_size
def mL:=@Nat.lt_of_lt_of_le
def uf:=@Nat.lt_irrefl
def fP:=@Nat.ne_of_lt
def SQ:=@PySem.W.hideAll_get
def CJ:=@List.mem_filter
def pL:=@List.mem_range
def gU:=@Nat.le_trans
def CK:=@Nat.le_of_lt
def SX:=@List.filterMap_cons
def iz:=@List.mem_cons_self
def fH:=@List.mem_cons_of_mem
def fX:=@List.mem_cons
def bF:=@Ne.symm
def nM:=@List.mem_append
def S5:=@List.mem_append_left
def dY:=@List.getElem?_eq_some_iff
def zJ:=@List.getElem?_set_self
def zK:=@List.getElem?_set_ne
def lE:=@PySem.wpAny_mono
def adi:=@PySem.Calls.Name_function_global
def qH:=@PySem.wpAny_truthy_bool
def xQ:=@Array.length_toList
def je:=@congrArg
def CN:=@PySem.wpAny_execs_nil
def S6:=@PySem.wpAny_execs_cons
def bf:=@PySem.wpAny_bind
def zL:=@PySem.wpAny_holding
def zM:=@PySem.wpAny_passesOwn
def iQ:=@Bool.false_ne_true
def vB:=@Nat.ne_of_gt
def cY:=@PySem.wpAny_pure
def S7:=@PySem.wpAny_pyNext_list_item
def S8:=@PySem.wpAny_pyNext_list_end
def S9:=@Int.mul_one
def FZ:=@PySem.wpAny_pyIter_list
def dF:=@PySem.Heap.get?_push_of_some
def bI:=@Nat.le_refl
def K1:=@PySem.wpAny_pyIter_tuple
def xR:=@PyProof.Rows.callWith_type1
def S_:=@List.mem_filterMap
def pN:=@List.mem_append_right
def fQ:=@Nat.zero_le
def Tc:=@Int.fdiv_eq_ediv_of_nonneg
def adk:=@PyProof.noPylong_small
def ug:=@Bool.eq_iff_iff
def vC:=@PySem.sizeLine_eq
def gV:=@List.size_toArray
def K3:=@Array.mem_toList_iff
def Td:=@PySem.W.plainGet_of
def zN:=@beq_iff_eq
def gA:=@List.length_cons
def gj:=@List.map_cons
def bh:=@List.length_map
def rY:=@True.intro
def pO:=@PySem.Heap.size_push
def Te:=@Nat.le_of_eq
def CP:=@Nat.lt_succ_self
def rZ:=@PySem.W.kia_one
def Tf:=@PySem.W.kitx_list
def Tg:=@PySem.Calls.spliced_nil
def Tj:=@PySem.Calls.spliced_cons
def nO:=@List.append_nil
def K4:=@PySem.wpAny_call
def su:=@PySem.codeAny_mono
def xU:=@PySem.wpAny_Call_Name_kw
def Ga:=@PySem.W.callWith_K
def Tn:=@PySem.W.methodCall_KW
def vD:=@Nat.le_succ
def sE:=@List.nodup_cons
def Tp:=@List.of_mem_zip
def adl:=@PySem.W.cellsFrom_some
def adn:=@Option.isSome_iff_exists
def gW:=@List.length_take
def Gb:=@PySem.mem_of_lookup
def xV:=@List.getElem?_append_right
def uh:=@List.getElem?_replicate
def qI:=@List.getElem?_append_left
def jP:=@List.getElem?_map
def fj:=@List.mem_of_getElem?
def dJ:=@List.length_append
def vG:=@List.length_replicate
def ado:=@PyProof.Rows.callWith_builtin1
def CQ:=@PySem.wpAny_loadPart'
def Tq:=@PySem.noFill_tuple_add
def Tr:=@PySem.F.slot_tuple_add
def Tt:=@PySem.F.entry_tuple_add
def Tv:=@PySem.F.args_tuple_add_2
def kO:=@Int.toNat_natCast
def zO:=@List.map_nil
def xW:=@List.length_drop
def Rc:=@PySem.slot_list_getitem
def tW:=@PySem.typeIs_str
def Rf:=@Bool.or_false
def Jt:=@PySem.Heap.get?_update_self
def u_:=@PySem.Heap.get?_update_other
def fV:=@List.length_set
def tX:=@if_true
def rK:=@if_false
def Rg:=@List.all_cons
def Bu:=@Bool.and_eq_true
def yN:=@List.any_cons
def vf:=@PySem.typeIs_int
def ju:=@List.replicate_succ
def vg:=@List.flatten_cons
def vh:=@List.append_assoc
def jG:=@List.foldl_cons
def lX:=@PySem.call_meets
def yO:=@List.length_singleton
def Rh:=@Nat.add_comm
def Ju:=@PySem.wpAny_binaryOp_repeat_ref
def Jv:=@PySem.F.fills_int_mul
def wY:=@PySem.F.slot_int_rmul
def Jw:=@PySem.F.slot_int_index
def Jx:=@PySem.F.entry_int_rmul
def Jy:=@PySem.F.args_int_rmul_2
def Jz:=@Nat.mul_comm
def fO:=@decide_eq_true
def Ri:=@Nat.lt_of_le_of_lt
def Bv:=@Or.inr
def Bw:=@List.forIn_cons
def Bx:=@List.lookup_cons
def BJ:=@Option.map_some
def wZ:=@List.all_eq_true
def yP:=@PySem.wpAny_newObj_type
def BK:=@List.getElem?_eq_none_iff
def JB:=@List.mem_iff_getElem
def Rj:=@List.getElem_mem
def w5:=@PySem.codeAny_builtin
def Rk:=@PySem.F.entry_max_loop
def yQ:=@PySem.Around.under_plainId
def yR:=@PySem.F.plain_max_loop
def rM:=@PySem.wpAny_seqItems
def Fg:=@PySem.wpAny_tryCatch
def Rm:=@PySem.wpAny_updateSeq
def yS:=@PySem.wpAny_letGo
def gw:=@List.take_length
def JC:=@List.take_add_one
def BL:=@PySem.plainId_quiet
def yU:=@List.mem_singleton
def yV:=@Bool.false_eq_true
def JD:=@PySem.wpAny_rule
def Rn:=@Nat.succ_ne_self
def Fi:=@Nat.lt_succ_of_lt
def JF:=@PyProof.Rows.boot_max
def jH:=@of_decide_eq_true
def yW:=@List.foldl_append
def Fj:=@List.map_set
def cX:=@List.map_append
def Ro:=@Int.le_trans
def JG:=@Bool.or_eq_true
def Fl:=@decide_eq_true_eq
def yX:=@Int.le_refl
def JH:=@PySem.wpAny_callSpecial?_slot
def JK:=@PySem.F.slot_tuple_iterator_next
def JL:=@PySem.wpAny_call_entry
def abP:=@PySem.F.entry_tuple_iterator_next
def abQ:=@PySem.F.args_tuple_iterator_next_1
def qz:=@PySem.wpAny_field
def Rp:=@PySem.AutoSeq1.wpAny_loadPart'
def BP:=@PySem.Value.type.inj
def abR:=@PySem.wpAny_letOwnedTupleGo_enum
def JM:=@PySem.wpAny_pyIter_enum
def JN:=@List.getElem?_toArray
def JQ:=@PySem.wpAny_pyIter_zip
def vm:=@Nat.le_add_right
def qC:=@List.sum_cons
def rN:=@List.range_succ
def yZ:=@List.getElem?_eq_none
def JR:=@List.getElem?_range
def tY:=@Nat.min_eq_left
def zc:=@List.take_of_length_le
def Rq:=@List.length_eq_zero_iff
def JT:=@List.set_eq_of_length_le
def tZ:=@List.not_mem_nil
def JV:=@or_false
def JW:=@Nat.add_zero
def Rr:=@Int.add_zero
def rO:=@Int.zero_add
def Fo:=@Int.sub_zero
def Rt:=@List.ext_getElem?
def abS:=@List.getElem?_of_mem
def oM:=@Nat.zero_add
def JX:=@Array.toArray_toList
def fW:=@List.mem_map
def xq:=@List.map_map
def xu:=@List.map_congr_left
def Fp:=@List.getElem?_eq_getElem
def abT:=@PySem.F.excBase_ValueError
def BR:=@Int.mul_neg
def zj:=@Int.add_mul_ediv_left
def Fq:=@Int.ediv_eq_zero_of_lt
def rP:=@Int.emod_nonneg
def rQ:=@Int.emod_lt_of_pos
def Ru:=@Nat.add_mul
def abU:=@List.dropLast_concat_getLast
def Rv:=@Nat.sub_self
def Ft:=@List.replicate_succ'
def Rw:=@List.getElem?_zip_eq_some
def abV:=@List.pairwise_iff_getElem
def BW:=@PySem.wpAny_setField_rec
def JZ:=@PySem.wpAny_onRaise
def Rx:=@PySem.wpAny_updateSeq_pair
def J0:=@PySem.F.slot_zip_next
def abW:=@List.range_eq_range'
def BX:=@List.length_range
def zm:=@Nat.not_lt_zero
def abX:=@List.length_erase_of_mem
def abY:=@List.mem_of_mem_erase
def zp:=@List.Pairwise.map
def abZ:=@List.Pairwise.imp_of_mem
def zq:=@List.filter_append
def Ry:=@List.filter_cons
def J1:=@Nat.pow_le_pow_right
def ab0:=@List.set_append_left
def ab1:=@List.set_append_right
def Rz:=@Nat.pow_pos
def xG:=@List.find?_cons
def RB:=@List.cons_append
def ab2:=@Option.map_eq_some_iff
def RD:=@PySem.tupleKind_room_in1
def ab3:=@PySem.F.slot_dict_getitem
def J2:=@List.foldl_nil
def RG:=@Nat.zero_lt_succ
def ab4:=@List.take_append_drop
def Fv:=@PySem.F.slot_tuple_mul
def xH:=@Int.toNat_of_nonneg
def RJ:=@PySem.F.entry_tuple_mul
def RK:=@PySem.F.args_tuple_mul_2
def BZ:=@ne_true_of_eq_false
def B_:=@PySem.F.slot_str_split
def Ca:=@PySem.F.entry_str_split
def RL:=@PySem.F.args_str_split_2
def J3:=@PySem.sizeLine_eq
def RM:=@PySem.F.args_str_split_3
def RN:=@PySem.StrLaws.subAt_one
def ab5:=@Nat.mul_le_mul_right
def RP:=@Nat.mul_le_mul
def J4:=@List.cons.inj
def rR:=@decide_eq_true_iff
def Fw:=@Int.ediv_nonneg
def J6:=@Int.emod_add_mul_ediv
def ab6:=@Int.add_mul_emod_self_left
def J7:=@Int.emod_eq_of_lt
def RQ:=@Int.mul_le_mul
def ab7:=@List.length_filter_le
def J8:=@Int.ediv_neg_of_neg_of_pos
def RV:=@List.pairwise_lt_range
def J9:=@List.nodup_nil
def J_:=@List.range'_append_1
def ab8:=@List.getElem?_cons_succ
def ab9:=@List.extract_toArray
def ab_:=@List.extract_eq_drop_take'
def Ka:=@List.drop_drop
def RX:=@List.drop_left
def Fx:=@List.getD_eq_getElem?_getD
def RZ:=@Option.getD_some
def ab':=@Int.mul_nonpos_of_nonneg_of_nonpos
def Kc:=@Int.mul_le_mul_of_nonneg_left
def acd:=@List.perm_ext_iff_of_nodup
def R0:=@PyProof.Rows.F.plain_set_update_loop
def xJ:=@PySem.F.called_set
def Kd:=@Array.getElem?_toList
def zu:=@PySem.boot_len
def R3:=@Nat.min_le_left
def kj:=@PySem.W.mg_of
def jj:=@PySem.PassesOwn.never
def oN:=@PySem.F.plainAttrs_list
def vo:=@PySem.F.slot_list_append
def vp:=@PySem.F.type_list_append
def qD:=@PySem.F.plainAttrs_str
def ace:=@PySem.F.slot_str_startswith
def acf:=@PySem.F.type_str_startswith
def acg:=@PySem.F.slot_str_partition
def ach:=@PySem.F.type_str_partition
def Ke:=@PySem.F.slot_str_split
def Kf:=@PySem.F.type_str_split
def Kg:=@PySem.F.slot_str_join
def Kh:=@PySem.F.type_str_join
def Kl:=@PySem.F.slot_list_extend
def Km:=@PySem.F.type_list_extend
def aci:=@PyProof.Rows.boot_sorted
open False (elim)
open ForInStep (yield)
open Lean (mkIdent)
open List (Nodup Pairwise Perm Sublist foldl getD map range range' replicate)
open PySem.Builtin.List (listTooLong)
open PySem.Builtin.Range (rangeSize)
open PySem.Builtin.SmallTypes (nextOf ownedTupleHandOut ownedTupleIsFree)
open PySem.Builtin.Str (occurrences partsBetween strSliceIndices strSub subAt)
open PySem.Builtin.Tuple (tupleExact)
open PySem.Heap (ExtBut FlyingW IsList IsTuple SameBut)
open PySem.PyData (canLay0 canLayAll0 depthAll strOk)
open PySem.Str (empty ofString)
open PySem.StrLaws (occBody)
open PySem.Txt (partition splitMax startswith)
open PySem.Value (bytes float type)
open PySem.W (Looks codeIn emptyDict excIn exmOne findIn fnOf handedIn hasDictIn hideAll instObj isFn keepIn kitAny kitOne lookIn makesIn methodObj nsIn plainGet plainOver takerIn)
namespace L2
abbrev sG:=Option Value
abbrev nQ:=List Env
abbrev gB:=List Nat
abbrev asH:=List (List Int)
abbrev um:=List (Str×Addr)
abbrev CT:=Unit->Shared->Prop
abbrev lF:=Value->Shared->Prop
abbrev bK:=List Str
abbrev aF:=List Int
abbrev jk:=List Addr
abbrev jy:=Option Addr
abbrev bV:=List Value
abbrev h_:=Array Value
abbrev uy:=Array sG
abbrev dR:=Str->sG
abbrev bG:=PySem.W.Frag
abbrev aP:=List (Int×Int)
section
open PySem.Spec PyProof.Rows
abbrev eF:=Sum Int Str
abbrev iT:=List (eF×Value)
def Dg:eF->Value->Bool
 |.inl k,v=>Value.isInt k v
 |.inr x,v=>Value.isStrOf x v
def aq4 (w:World):eF->Int
 |.inl k=>hashInt k
 |.inr x=>hashStr w x
def uX:∀ {k:eF} {v:Value},Dg k v=true->(∃ i t,k=Sum.inl i/\v=Value.int i t)\/(∃ x t,k=Sum.inr x/\v=Value.str x t)
 |.inl i,v,h=>by obtain ⟨t,e⟩:=Value.isInt_shape (k:=i) (v:=v) h;exact .inl ⟨i,t,rfl,e⟩
 |.inr x,v,h=>by obtain ⟨t,e⟩:=Value.isStrOf_shape (x:=x) (v:=v) h;exact .inr ⟨x,t,rfl,e⟩
def aix (i:Int) (t:Tok):Dg (.inl i) (.int i t)=true:=by simp [Dg,Value.isInt]
def aiy (x:Str) (t:Tok):Dg (.inr x) (.str x t)=true:=by simp [Dg,Value.isStrOf]
def aoT (a b:Int):decide ((Sum.inl a:eF)=Sum.inl b)=(a == b):=by
 by_cases e:a=b
 ·subst e;simp
 ·have h:¬ (Sum.inl a:eF)=Sum.inl b:=λq=>e (T7 q);rw [lJ h];exact (Df.mpr e).symm
def aoU (a b:Str):decide ((Sum.inr a:eF)=Sum.inr b)=decide (a=b):=by
 by_cases e:a=b
 ·subst e;simp
 ·have h:¬ (Sum.inr a:eF)=Sum.inr b:=λq=>e (La q);rw [lJ h,lJ e]
def aoV (a:Int) (b:Str):decide ((Sum.inl a:eF)=Sum.inr b)=false:=lJ (λq=>nomatch q)
def aoW (a:Str) (b:Int):decide ((Sum.inr a:eF)=Sum.inl b)=false:=lJ (λq=>nomatch q)
def kE (prog:Program) (w:World):PySem.KeyKind prog w eF where
 is:=Dg
 hash:=aq4 w
 inj:=λv a b l d=>by
  rcases uX l with ⟨i,t,rfl,rfl⟩|⟨x,t,rfl,rfl⟩
  ·rcases uX d with ⟨j,u,rfl,e⟩|⟨y,u,rfl,e⟩
   ·injection e with e1 _;rw [e1]
   ·exact nomatch e
  ·rcases uX d with ⟨j,u,rfl,e⟩|⟨y,u,rfl,e⟩
   ·exact nomatch e
   ·injection e with e1 _;rw [e1]
 byValue:=λk v h=>by
  rcases uX h with ⟨i,t,rfl,rfl⟩|⟨x,t,rfl,rfl⟩<;>rfl
 pyHash:=λc h=>by
  rcases uX c with ⟨i,t,rfl,rfl⟩|⟨x,t,rfl,rfl⟩
  ·exact wpAny_pyHash_int h
  ·exact wpAny_pyHash_str h
 eqBool:=λg c h=>by
  rcases uX g with ⟨i,t,rfl,rfl⟩|⟨x,t,rfl,rfl⟩
  ·rcases uX c with ⟨j,u,rfl,rfl⟩|⟨y,u,rfl,rfl⟩
   ·rw [aoT] at h;exact wpAny_eqBool_int h
   ·rw [aoV] at h;exact SeqAt.EqAt.int_str i t y u _ _ _ _ h
  ·rcases uX c with ⟨j,u,rfl,rfl⟩|⟨y,u,rfl,rfl⟩
   ·rw [aoW] at h;exact SeqAt.EqAt.str_int x t j u _ _ _ _ h
   ·rw [aoU] at h;exact wpAny_eqBool_str h
 «strs»:=λk x t v h=>by
  rcases uX h with ⟨i,u,rfl,e⟩|⟨y,u,rfl,e⟩
  ·exact nomatch e
  ·injection e with e1 _
   subst e1
   cases v<;>rfl
def agy (prog:Program) (w:World) (i:Int) (t:Tok):(kE prog w).is (.inl i) (.int i t)=true:=aix i t
def O6 (prog:Program) (w:World) (x:Str) (t:Tok):(kE prog w).is (.inr x) (.str x t)=true:=aiy x t
inductive V where
 |non|bl (b:Bool)|int (i:Int)|str (x:Str)|pG (b:Array UInt8)|flt (b:UInt64)|ref (a:Addr)|ty (n:String)
 deriving DecidableEq
abbrev aA:=List V
abbrev dU:=List (eF×V)
def cA:V->Value->Prop
 |.non,u=>u=Value.none
 |.bl b,u=>u=Value.bool b
 |.int i,u=>∃ t,u=Value.int i t
 |.str x,u=>∃ t,u=Value.str x t
 |.pG b,u=>∃ t,u=bytes b t
 |.flt b,u=>∃ t,u=float b t
 |.ref a,u=>u=Value.ref a
 |.ty n,u=>u=type n
abbrev bO:aA->bV->Prop:=Paired cA
def bO.length {xs:aA} (r:bO xs us):xs.length=us.length:=o7 r
def bO.get:∀ {xs:aA} {us:bV} {i:Nat} {x:V},bO xs us->xs[i]?=some x->∃ u,us[i]?=some u/\cA x u
 |_,_,_,_,.nil,e=>by simp at e
 |_,_,0,_,.cons r _,e=>by simp at e;subst e;exact ⟨_,rfl,r⟩
 |_,_,i+1,x,.cons _ t,e=>by obtain ⟨u,h1,h2⟩:=bO.get (i:=i) (x:=x) t (by simpa using e);exact ⟨u,by simpa using h1,h2⟩
def bO.set {x:V} (r:cA x u):∀ {xs:aA} {us:bV} (i:Nat),bO xs us->bO (xs.set i x) (us.set i u)
 |_,_,_,.nil=>.nil
 |_,_,0,.cons _ t=>.cons r t
 |_,_,i+1,.cons q t=>.cons q (bO.set r i t)
def bO.append:∀ {xs ys:aA} {us ws:bV},bO xs us->bO ys ws->bO (xs++ys) (us++ws)
 |_,_,_,_,.nil,s=>s
 |_,_,_,_,.cons r t,s=>.cons r (bO.append t s)
def bO.take:∀ {xs:aA} {us:bV} (n:Nat),bO xs us->bO (xs.take n) (us.take n)
 |_,_,0,_=>.nil
 |_,_,_+1,.nil=>.nil
 |_,_,n+1,.cons r t=>.cons r (bO.take n t)
def bO.drop:∀ {xs:aA} {us:bV} (n:Nat),bO xs us->bO (xs.drop n) (us.drop n)
 |_,_,0,r=>r
 |_,_,_+1,.nil=>.nil
 |_,_,n+1,.cons _ t=>bO.drop n t
def mW:Option V->sG->Prop
 |some v,some u=>cA v u
 |none,none=>True
 |_,_=>False
def KV {κ:Type}:List (κ×V)->List (κ×Value)->Prop:=Paired λ(p:κ×V) (q:κ×Value)=>p.1=q.1/\cA p.2 q.2
def kV:eF->V
 |.inl i=>.int i
 |.inr x=>.str x
inductive HO where
  |lst (xs:aA)
  |tup (xs:aA)
  |dK (aY:dU)|dT (aY:List (List eF×V))
  |set (S:Int->Bool) (n:Nat)
  |ins (C dx:Addr) (fs:List (Str×V))
  |own (x:Addr)
  |xd (fs:List (Str×V))
  |met (f x:Addr)
  |rng (lo hi:Int)
  |oE (o:Obj) (u:HO)
  |yt (q:Str×Int×Int)
  |ext (φ:Heap->Prop)
abbrev Hp:=Addr->Option HO
abbrev asI:=Nat->aA->Hp->Prop
def upd (H:Hp) (a:Addr) (o:HO):Hp:=λb=>if b=a then some o else H b
def aM {H:Hp} {o:HO}:upd H a o a=some o:=by unfold upd;rw [aQ rfl]
def aV {H:Hp} {o:HO} (h:b≠a):upd H a o b=H b:=by unfold upd;rw [aK h]
def Ko {H:Hp} {o u:HO}:upd (upd H a o) a u=upd H a u:=by
 funext b;unfold upd;split<;>rfl
def kY {H:Hp} {o u:HO} (h:H a=some o) (h':H b=some u) (d:o≠u):a≠b:=by intro e;subst e;rw [h] at h';exact d (iB h')
def cV {H:Hp} {o:HO} (h:H a=some o) (h':H b=none):a≠b:=by intro e;subst e;rw [h] at h';cases h'
def oU (h:Heap) (a:Addr) (eZ:h_):Prop:=∃ o,h.get? a=some o/\o.cls=.type "tuple"/\∃ n,o.data=.seq eZ n/\o.dict=none
def oU.tup {h:Heap} {a:Addr} {eZ:h_} (x:oU h a eZ):IsTup h a eZ:=let ⟨o,e,c,n,d,_⟩:=x;⟨o,e,c,n,d⟩
def oU.lt (x:oU h a eZ):a<h.objs.size:=let ⟨_,e,_⟩:=x;cF e
def oU.new (h:Heap) (eZ:h_):oU (h.push { cls:=.type "tuple",data:=.seq eZ }) h.objs.size eZ:=⟨_,fU _ rfl,rfl,_,rfl,rfl⟩
section
variable (P:Program) (w:World)
def dZ (H:Hp) (h:Heap) (a:Addr):HO->Prop
 |.lst xs=>xs.length<=sizeLine/\∃ (aJ:bV) (n:Nat),bO xs aJ/\h.get? a=some { cls:=.type "list",data:=.seq aJ.toArray n }
 |.tup xs=>xs.length<=sizeLine/\∃ aJ:bV,bO xs aJ/\oU h a aJ.toArray
 |.dK aY=>aY.length<=sizeLine/\(a == sysModules)=false/\∃ vs,KV aY vs/\h.DictOf (kE P w) a vs
 |.dT aY=>aY.length<=sizeLine/\(a == sysModules)=false/\∃ xs:List (List eF×Addr×Value),
   Paired (λ(p:List eF×V) (q:List eF×Addr×Value)=>p.1=q.1/\H q.2.1=some (.tup (p.1.map kV))/\cA p.2 q.2.2) aY xs /\
   ∃ o es b,h.get? a=some o/\o.ExactDict/\o.data=.dict es b/\es.toList=xs.map (entryOfKey (tupleKind (kE P w)))/\(xs.map (·.1)).Nodup
 |.set S n=>h.SetOf (intKind P w) a S n
 |.ins C dx fs=>H dx=some (.own a)/\fs.length<=1000/\dx≠a/\h.get? a=some (instObj C dx) /\
   ∃ mA,h.Ns1 dx mA/\(∀ f,mW (fs.lookup f) (mA f))/\PySem.Within mA (fs.map (·.1))
 |.own _=>∃ o,h.get? a=some o
 |.xd fs=>∃ mA,h.Ns1 a mA/\∀ f,mW (fs.lookup f) (mA f)
 |.rng lo hi=>∃ t u v,h.get? a=some { cls:=.type "range",data:=.fields #[.int lo t,.int hi u,.int 1 v] }
 |.oE o u=>h.get? a=some o/\dZ H h a u
 |.yt q=>h.get? a=some { cls:=.none,data:=.fields #[] }\/∃ c,h.get? a=some { cls:=.none,data:=.fields #[rawInt q.2.1,rawInt q.2.2,.ref c] }/\H c=some (.own a)/\h.CodeRec (.ref c) q.1
 |.met f x=>h.get? a=some (methodObj (.ref f) (.ref x))
 |.ext φ=>φ h/\(∃ o,h.get? a=some o)/\∀ h1 h2:Heap,φ h1->(∀ o,h1.get? a=some o->h2.get? a=some o)->φ h2
def gP (H:Hp) (h:Heap):Prop:=∀ a o,H a=some o->dZ P w H h a o
end
section
variable {H H':Hp} {h':Heap} {o:HO}
def dZ.lt (x:dZ P w H h a o):a<h.objs.size:=by
 cases o with
 |lst xs=>obtain ⟨_,_,_,_,e⟩:=x;exact cF e
 |tup xs=>obtain ⟨_,_,_,p⟩:=x;exact p.lt
 |dK aY=>obtain ⟨_,_,_,_,o,_,_,e,_⟩:=x;exact cF e
 |dT aY=>obtain ⟨_,_,_,_,o,_,_,e,_⟩:=x;exact cF e
 |set S n=>obtain ⟨o,_,_,_,e,_⟩:=x;exact cF e
 |ins C dx fs=>obtain ⟨_,_,_,e,_⟩:=x;exact cF e
 |own y=>obtain ⟨_,e⟩:=x;exact cF e
 |xd fs=>obtain ⟨_,⟨_,_,_,e,_⟩,_⟩:=x;exact cF e
 |rng lo hi=>obtain ⟨_,_,_,e⟩:=x;exact cF e
 |oE b u=>obtain ⟨e,_⟩:=x;exact cF e
 |yt q =>
  rcases (show h.get? a=some { cls:=.none,data:=.fields #[] }\/∃ c,h.get? a=some { cls:=.none,data:=.fields #[rawInt q.2.1,rawInt q.2.2,.ref c] }/\H c=some (.own a)/\h.CodeRec (.ref c) q.1 from x) with e|⟨_,e,_⟩
  ·exact cF e
  ·exact cF e
 |met f y=>exact cF (show h.get? a=some _ from x)
 |ext φ=>obtain ⟨_,⟨_,e⟩,_⟩:=x;exact cF e
def Paired.aeg {F G:α->β->Prop}:∀ {l₁:List α} {l₂:List β},Paired F l₁ l₂->(∀ a b,F a b->G a b)->Paired G l₁ l₂
 |_,_,.nil,_=>.nil
 |_,_,.cons r t,f=>.cons (f _ _ r) (Paired.aeg t f)
def vO:=@Paired.aeg
def dZ.stay (x:dZ P w H h a o) (k:∀ b u,(b=a\/H b=some (.own a))->h.get? b=some u->h'.get? b=some u) (ho:∀ b,H b=some (.own a)->H' b=some (.own a)) (ht:∀ b xs,H b=some (.tup xs)->H' b=some (.tup xs)):dZ P w H' h' a o:=by
 induction o with
 |lst xs=>obtain ⟨z,aJ,n,r,e⟩:=x;exact ⟨z,aJ,n,r,k _ _ (.inl rfl) e⟩
 |tup xs=>obtain ⟨z,aJ,r,g,e,c⟩:=x;exact ⟨z,aJ,r,g,k _ _ (.inl rfl) e,c⟩
 |dK aY=>obtain ⟨z,y,vs,r,g,es,i,e,c⟩:=x;exact ⟨z,y,vs,r,g,es,i,k _ _ (.inl rfl) e,c⟩
 |dT aY =>obtain ⟨z,y,xs,r,g,es,i,e,c⟩:=x;exact ⟨z,y,xs,vO r λp q z=>⟨z.1,ht _ _ z.2.1,z.2.2⟩,g,es,i,k _ _ (.inl rfl) e,c⟩
 |set S n=>obtain ⟨g,es,i,t,e,c⟩:=x;exact ⟨g,es,i,t,k _ _ (.inl rfl) e,c⟩
 |ins C dx fs =>obtain ⟨d,z,B,e,mA,⟨od,es,i,m,c⟩,r⟩:=x;exact ⟨ho _ d,z,B,k _ _ (.inl rfl) e,mA,⟨od,es,i,k _ _ (.inr d) m,c⟩,r⟩
 |own y=>obtain ⟨g,e⟩:=x;exact ⟨g,k _ _ (.inl rfl) e⟩
 |xd fs=>obtain ⟨mA,⟨od,es,i,e,c⟩,r⟩:=x;exact ⟨mA,⟨od,es,i,k _ _ (.inl rfl) e,c⟩,r⟩
 |rng lo hi=>obtain ⟨t,u,v,e⟩:=x;exact ⟨t,u,v,k _ _ (.inl rfl) e⟩
 |oE g u D=>obtain ⟨e,q⟩:=x;exact ⟨k _ _ (.inl rfl) e,D q⟩
 |yt q =>
  rcases (show h.get? a=some { cls:=.none,data:=.fields #[] }\/∃ c,h.get? a=some { cls:=.none,data:=.fields #[rawInt q.2.1,rawInt q.2.2,.ref c] }/\H c=some (.own a)/\h.CodeRec (.ref c) q.1 from x) with e|⟨c,e,l,J,oc,vs,t,I,j,rest⟩
  ·exact .inl (k a _ (.inl rfl) e)
  ·cases I;exact .inr ⟨c,k a _ (.inl rfl) e,ho c l,c,oc,vs,t,rfl,k c _ (.inr l) j,rest⟩
 |met f y =>have e:h.get? a=some (methodObj (.ref f) (.ref y)):=x;show h'.get? a=some (methodObj (.ref f) (.ref y));exact k a _ (.inl rfl) e
 |ext φ=>obtain ⟨p,⟨o,e⟩,st⟩:=x;exact ⟨st _ _ p λo q=>k _ _ (.inl rfl) q,⟨o,k _ _ (.inl rfl) e⟩,st⟩
def gP.lt (x:gP P w H h) (e:H a=some o):a<h.objs.size:=(x a o e).lt
def gP.fresh (x:gP P w H h) (e:h.objs.size<=a):H a=none:=by
 cases q:H a with
 |none=>rfl
 |some u=>exact absurd (mL (x.lt q) e) (uf _)
def gP.kept (x:gP P w H h) (k:∀ b u,h.get? b=some u->h'.get? b=some u):gP P w H h':=λa o e =>
 (x a o e).stay (λb u _ q=>k b u q) (λ_ q=>q) λ_ _ q=>q
def gP.laid (x:gP P w H h) (k:∀ b u,h.get? b=some u->h'.get? b=some u) (hp:h.objs.size<=a) (new:dZ P w (upd H a o) h' a o):gP P w (upd H a o) h':=λb u e=>by
 have g:=x.fresh hp;by_cases d:b=a
 ·subst d;rw [aM] at e;cases e;exact new
 ·rw [aV d] at e;exact (x b u e).stay (λc v _ q=>k c v q) (λc q=>by rw [aV (cV q g)];exact q) λc xs q=>by rw [aV (cV q g)];exact q
end
def Rd (H:Hp) (a:Addr) (u:HO):Prop:=H a=some u\/∃ o,H a=some (.oE o u)
def Rd.ok {H:Hp} {u:HO} (r:Rd H a u) (x:gP P w H h):dZ P w H h a u:=by
 rcases r with r|⟨o,r⟩
 ·exact x a u r
 ·obtain ⟨_,q⟩:=x a _ r;exact q
def GX:Option HO->Prop
 |some (.lst _)=>True
 |some (.dK _)=>True
 |some (.dT _)=>True
 |some (.set _ _)=>True
 |some (.ins _ _ _)=>True
 |some (.ext _)=>True
 |_=>False
section
variable {H:Hp} {h':Heap} {x e:Addr} {o':HO}
def gP.write (ok:gP P w H h) (mu:GX (H x)) (he:e=x\/H e=some (.own x)) (k:∀ b u,b≠e->h.get? b=some u->h'.get? b=some u) (heo:∃ u,h'.get? e=some u) (new:dZ P w (upd H x o') h' x o'):gP P w (upd H x o') h':=λb u q=>by
 have d:∀ c y,H c=some (.own y)->c≠x:=λc y r z=>by subst z;rw [r] at mu;exact mu
 have j:∀ c xs,H c=some (.tup xs)->c≠x:=λc xs r z=>by subst z;rw [r] at mu;exact mu
 by_cases i:b=x
 ·subst i;rw [aM] at q;cases q;exact new
 ·rw [aV i] at q;by_cases a:b=e
  ·have l:H b=some (.own x):=by
    rcases he with z|z
    ·exact absurd (a.trans z) i
    ·rw [a];exact z
   rw [q] at l;cases l;obtain ⟨v,m⟩:=heo;exact ⟨v,by rw [a];exact m⟩
  ·refine (ok b u q).stay (λc v g r=>k c v ?_ r) (λc r=>by rw [aV (d c b r)];exact r) λc xs r=>by rw [aV (j c xs r)];exact r
   rcases g with rfl|g
   ·exact a
   ·rintro rfl;rcases he with z|z
    ·exact d c b g z
    ·rw [g] at z;cases z;exact i rfl
end
structure Un (fs ex:jk) (H H':Hp) (h h':Heap):Prop where
 keep:∀ b o,h.get? b=some o->H b=none->b∉fs->b∉ex->h'.get? b=some o
 slot:∀ b o,h.get? b=some o->H b=none->b∈fs->b∉ex->∃ sl,h'.get? b=some { o with slots:=sl }
 free:∀ b o,h.get? b=some o->H b=none->b∉ex->H' b=none
 there:∀ b o,h.get? b=some o->b∉ex->∃ o',h'.get? b=some o'
 tups:∀ b xs,H b=some (.tup xs)->H' b=some (.tup xs)
 mq:∀ b o u,H b=some (.oE o u)->H' b=some (.oE o u)
 jf:∀ b ps,H b=some (.yt ps)->H' b=some (.yt ps)/\∀ c o,H c=some (.own b)->h.get? c=some o->H' c=some (.own b)/\h'.get? c=some o
section
variable {fs fs' ex ex':jk} {H H1 H2:Hp} {h1 h2 h':Heap} {x e:Addr} {o:HO}
def Un.any (u:Un fs ex H H1 h h1) {ob:Obj} (q:h.get? b=some ob) (n:H b=none) (hx:b∉ex):∃ sl,h1.get? b=some { ob with slots:=sl }:=by
 by_cases a:b∈fs
 ·exact u.slot b ob q n a hx
 ·exact ⟨ob.slots,u.keep b ob q n a hx⟩
def Un.trans (a:Un fs ex H H1 h h1) (b:Un fs ex H1 H2 h1 h2):Un fs ex H H2 h h2 where
 keep:=λc g q n j i=>b.keep c g (a.keep c g q n j i) (a.free c g q n i) j i
 slot:=λc g q n j i=>by obtain ⟨sl,k⟩:=a.slot c g q n j i;obtain ⟨l,m⟩:=b.slot c _ k (a.free c g q n i) j i;exact ⟨l,m⟩
 free:=λc g q n i=>by obtain ⟨o',k⟩:=a.there c g q i;exact b.free c o' k (a.free c g q n i) i
 there:=λc g q i=>by obtain ⟨o',k⟩:=a.there c g q i;exact b.there c o' k i
 tups:=λc xs q=>b.tups c xs (a.tups c xs q)
 mq:=λc g xs q=>b.mq c g xs (a.mq c g xs q)
 jf:=λc ps q=>⟨(b.jf c ps (a.jf c ps q).1).1,λd o e x=>let z:=(a.jf c ps q).2 d o e x;(b.jf c ps (a.jf c ps q).1).2 d o z.1 z.2⟩
def Un.kept (k:∀ b u,h.get? b=some u->h'.get? b=some u):Un fs ex H H h h':=⟨λb a q _ _ _=>k b a q,λb a q _ _ _=>⟨a.slots,k b a q⟩,λ_ _ _ n _=>n,λb a q _=>⟨a,k b a q⟩,λ_ _ q=>q,λ_ _ _ q=>q,λ_ _ q=>⟨q,λc o e x=>⟨e,k c o x⟩⟩⟩
def Un.refl:Un fs ex H H h h:=Un.kept λ_ _ q=>q
def Un.laid (k:∀ b u,h.get? b=some u->h'.get? b=some u) (hp:h.objs.size<=a) (hn:H a=none):Un fs ex H (upd H a o) h h' where
 keep:=λb u q _ _ _=>k b u q
 slot:=λb u q _ _ _=>⟨u.slots,k b u q⟩
 free:=λb u q n _=>by rw [aV (fP (mL (cF q) hp))];exact n
 there:=λb u q _=>⟨u,k b u q⟩
 tups:=λb xs q=>by rw [aV (cV q hn)];exact q
 mq:=λb u xs q=>by rw [aV (cV q hn)];exact q
 jf:=λb ps q=>⟨by rw [aV (cV q hn)];exact q,λc u e x=>⟨by rw [aV (cV e hn)];exact e,k c u x⟩⟩
def Un.write (mu:GX (H x)) (he:e=x\/H e=some (.own x)) (k:∀ b u,b≠e->h.get? b=some u->h'.get? b=some u) (heo:∃ u,h'.get? e=some u):Un fs ex H (upd H x o) h h':=by
 have i:∀ b,H b=none->b≠x:=λb n z=>by subst z;rw [n] at mu;exact mu
 have j:∀ b,H b=none->b≠e:=λb n z=>by
  subst z;rcases he with r|r
  ·exact i b n r
  ·rw [n] at r;cases r
 have d:∀ b u,H b=some u->¬ GX (some u)->b≠x:=λb u q nm z=>by subst z;rw [q] at mu;exact nm mu
 refine ⟨λb u q n _ _=>k b u (j b n) q,λb u q n _ _=>⟨u.slots,k b u (j b n) q⟩,λb u q n _=>by rw [aV (i b n)];exact n,λb u q _=>?_,
  λb xs q=>by rw [aV (d b _ q λz=>z)];exact q,λb u xs q=>by rw [aV (d b _ q λz=>z)];exact q,λb ps q=>⟨by rw [aV (d b _ q λz=>z)];exact q,λc u g x=>⟨by rw [aV (d c _ g λz=>z)];exact g,k c u (λz=>he.elim (λr=>d c _ g (λz=>z) (z.trans r)) λr=>by rw [<-z,g] at r;cases r;rw [q] at mu;exact mu) x⟩⟩⟩
 by_cases a:b=e
 ·subst a;exact heo
 ·exact ⟨u,k b u a q⟩
def Un.mono (u:Un fs ex H H1 h h1) (hs:∀ b∈fs,b∈fs') (hx:∀ b∈ex,b∈ex'):Un fs' ex' H H1 h h1:=⟨λb c q n d a=>u.keep b c q n (λz=>d (hs b z)) λz=>a (hx b z),λ_ _ q n _ a=>u.any q n λz=>a (hx _ z),λb c q n a=>u.free b c q n λz=>a (hx b z),λb c q a=>u.there b c q λz=>a (hx b z),u.tups,u.mq,u.jf⟩
end
def mZ (h:Heap) (H:Hp):jk:=(range h.objs.size).filter λa=>(H a).isSome
def wA (h:Heap) (H:Hp):Heap:=hideAll h (mZ h H)
def aiz (h:Heap) (H:Hp):(wA h H).objs.size=h.objs.size:=PySem.W.hideAll_size _ _
def akG {H:Hp} {o:Obj} (e:h.get? b=some o) (n:H b=none):(wA h H).get? b=some o:=SQ _ e λa=>by have q:(H b).isSome=true:=(CJ.mp a).2;rw [n] at q;simp at q
def amS {H:Hp} {o:Obj} (e:(wA h H).get? b=some o):h.get? b=some o/\H b=none:=by
 have a:h.get? b=some o:=PySem.W.of_hideAll (mZ h H) e;refine ⟨a,?_⟩;cases q:H b with
 |none=>rfl
 |some x =>have c:b∈mZ h H:=CJ.mpr ⟨pL.mpr (cF a),by simp [q]⟩;have z:(wA h H).get? b=none:=PySem.W.hideAll_none (mZ h H) c;rw [z] at e;cases e
structure Mod (K:bG) (mg:dR) (au:Heap):Prop where
 yu:K.In au
 glob:au.Ns mainGlobals mg
 blt:∃ mb,au.Ns builtinsNs mb/\∀ x:Str,x≠"__name__"->mb x=bootBuiltins x
 nolimit:au.NoLimit
structure Cx where
 prog:Program
 w:World
 K:bG
 mg:Str->sG
 au:Heap
 A:Around
 N:bK
 s₀:Shared
 H₀:Hp
 env:Env
 outer:nQ
 stack:nQ
 ex:jk
 fn:Str->Bool
 calm:Bool
 pn:List (Addr×Obj)
 xe:Value->Shared->Prop
def d7 (l:nQ):jk:=l.filterMap (·.frame)
abbrev Cx.fs (X:Cx):jk:=d7 X.outer
def Mu (sc:Scope) (x:Str):Prop:=sc.names.lookup x=some .local\/sc.names.lookup x=some .cell\/sc.names.lookup x=some .free
def vP (sc:Scope) (x:Str):Prop:=sc.names.lookup x=some .local\/sc.names.lookup x=some .cell
def Look (env:Env) (h:Heap) (m:dR) (x:Str) (u:Value):Prop :=
 (env.kindOf x=some .local/\m x=some u)\/((env.kindOf x=some .cell\/env.kindOf x=some .free)/\∃ c,env.cells.lookup x=some c/\h.IsCell c (some u))
structure Cx.Ok (X:Cx):Prop where
 mod:Mod X.K X.mg X.au
 kind:X.env.scope.kind=.function
 glob:X.env.globals=mainGlobals
 blt:X.env.builtins=builtinsNs
 above:X.s₀.heap.objs.size<=X.env.locals
 inj:∀ x y c,X.env.cells.lookup x=some c->X.env.cells.lookup y=some c->x=y
 has:∀ x,(X.env.kindOf x=some .cell\/X.env.kindOf x=some .free)->∃ c,X.env.cells.lookup x=some c
 cab:∀ x c,X.fn x=true->X.env.cells.lookup x=some c->X.s₀.heap.objs.size<=c
 hd:X.calm=true->X.A.handled=none
 frames:X.A.frames=some X.stack
 stk:X.stack=X.outer\/(X.stack=X.env::X.outer/\X.env.frame=some X.env.locals)
 Mv:∀ b∈X.ex,b≠X.env.locals/\∀ x c,X.env.cells.lookup x=some c->c≠b
 bs:∀ b o,X.au.get? b=some o->X.s₀.heap.get? b=some o/\X.H₀ b=none
 uK:X.au.objs.size<=X.s₀.heap.objs.size
 Dn:∀ b o,X.au.get? b=some o->b∉X.ex
 Dp:∀ b∈X.ex,b∉X.fs
 pZ:X.s₀.heap.FunFrames X.au X.outer
 uL:∀ b∈X.fs,X.H₀ b=none
structure aD (X:Cx) (ak:List (Addr×Obj)) (σ:List (Option V)) (H:Hp) (s:Shared):Prop where
 ok:X.Ok
 os:s.os=X.s₀.os
 bare:AllBare s.gens
 au:Un X.fs X.ex X.H₀ H X.s₀.heap s.heap
 loc:∃ m,s.heap.Ns X.env.locals m/\∀ (i:Nat) (x:Str) (v:V),X.N[i]?=some x->σ[i]?=some (some v)->Mu X.env.scope x->∃ u,cA v u/\Look X.env s.heap m x u
 cell:∀ x c,X.env.cells.lookup x=some c->∃ v,s.heap.IsCell c v
 free:H X.env.locals=none
 o8:∀ x c,X.env.cells.lookup x=some c->H c=none
 pin:∀ p∈X.pn++ak,s.heap.get? p.1=some p.2/\H p.1=none/\p.1≠X.env.locals/\p.1∉X.fs/\∀ v,p.2.data≠.cell v
 hok:gP X.prog X.w H s.heap
 len:σ.length=X.N.length
section
variable {X:Cx} {σ:List (Option V)} {H H':Hp} {h':Heap}
def Cx.Ok.aq6 (ok:X.Ok) {o:Obj} (e:X.au.get? b=some o):b∉X.fs:=λa=>by have:=(ok.pZ.mem a).1;rw [e] at this;cases this
def aD.bs (I:aD X ak σ H s):∀ b o,X.au.get? b=some o->s.heap.get? b=some o/\H b=none:=λb o e =>
 ⟨I.au.keep b o (I.ok.bs b o e).1 (I.ok.bs b o e).2 (I.ok.aq6 e) (I.ok.Dn b o e),I.au.free b o (I.ok.bs b o e).1 (I.ok.bs b o e).2 (I.ok.Dn b o e)⟩
def aD.bk (I:aD X ak σ H s):∀ b o,X.au.get? b=some o->s.heap.get? b=some o:=λb o e=>(I.bs b o e).1
def aD.mod (I:aD X ak σ H s):Mod X.K X.mg X.au:=I.ok.mod
def aD.gq (I:aD X ak σ H s):X.K.In s.heap:=I.ok.mod.yu.keeps I.bk
def aD.lt (I:aD X ak σ H s):X.env.locals<s.heap.objs.size:=let ⟨_,a,_⟩:=I.loc;a.lt
def aD.sz (I:aD X ak σ H s):X.s₀.heap.objs.size<=s.heap.objs.size:=gU I.ok.above (CK I.lt)
def aD.aq7 (I:aD X ak σ H s) (h:s.heap.objs.size<=a):a∉X.fs:=λc=>by obtain ⟨_,o,b,_⟩:=I.ok.pZ.mem c;exact absurd (mL (cF b) (gU I.sz h)) (uf _)
def aD.uM (I:aD X ak σ H s):∀ x c,X.env.cells.lookup x=some c->c≠X.env.locals:=λx c e z=>by obtain ⟨v,o,d,g⟩:=I.cell x c e;obtain ⟨m,⟨o',es,i,a,b,_⟩,_⟩:=I.loc;rw [z,a] at d;cases d;rw [b] at g;cases g
def aD.pZ (I:aD X ak σ H s):s.heap.FunFrames X.au X.outer:=by
 have all:∀ (l:nQ),(∀ b∈d7 l,b∈X.fs)->X.s₀.heap.FunFrames X.au l->s.heap.FunFrames X.au l:=by
  intro l;induction l with
  |nil=>intro _ _;trivial
  |cons env r m =>rintro g ⟨i,⟨L,o,a,k,j,n⟩,hr⟩;have d:L∈X.fs:=g L (by unfold d7;rw [SX,a];exact iz);obtain ⟨sl,e⟩:=I.au.slot L o j (I.ok.uL L d) d λz=>I.ok.Dp L z d;exact ⟨i,⟨L,_,a,k,e,n⟩,m (λb c=>g b (by unfold d7;rw [SX,a];exact fH _ c)) hr⟩
 exact all X.outer (λ_ c=>c) I.ok.pZ
def aD.stack (I:aD X ak σ H s):s.heap.FunFrames X.au X.stack:=by
 rcases I.ok.stk with e|⟨e,a⟩
 ·rw [e];exact I.pZ
 ·rw [e];obtain ⟨m,b,_⟩:=I.loc;refine .cons (by rw [I.ok.kind];decide) a b ?_ I.pZ;exact Heap.get?_none_of_le (gU I.ok.uK I.ok.above)
def aD.K5 (I:aD X ak σ H s):∀ b∈d7 X.stack,b∈X.env.locals::X.fs:=λb a=>by
 rcases I.ok.stk with e|⟨e,c⟩
 ·rw [e] at a;exact fH _ a
 ·rw [e] at a;unfold d7 at a;rw [SX,c] at a;exact a
def aD.Fy (I:aD X ak σ H s):∀ b∈d7 X.stack,H b=none:=λb a=>by
 rcases fX.mp (I.K5 b a) with e|a
 ·rw [e];exact I.free
 ·obtain ⟨_,o,c,_⟩:=I.ok.pZ.mem a;exact I.au.free b o c (I.ok.uL b a) λz=>I.ok.Dp b z a
def aD.step {d':Drawn} (I:aD X ak σ H s) (hch:∀ b∈ch,(b∈X.ex\/X.s₀.heap.objs.size<=b)/\b≠X.env.locals/\(∀ x c,X.env.cells.lookup x=some c->c≠b)/\∀ p∈X.pn++ak,p.1≠b) (keep:∀ b o,b≠X.env.locals->b∉X.fs->b∉ch->s.heap.get? b=some o->H b=none->h'.get? b=some o) (slot:∀ b o,b≠X.env.locals->b∈X.fs->b∉ch->s.heap.get? b=some o->H b=none->∃ sl,h'.get? b=some { o with slots:=sl }) (free:∀ b o,b∉ch->s.heap.get? b=some o->H b=none->H' b=none) (there:∀ b o,b∉ch->s.heap.get? b=some o->∃ o',h'.get? b=some o') (tups:∀ b xs,H b=some (.tup xs)->H' b=some (.tup xs)) (mq:∀ b o u,H b=some (.oE o u)->H' b=some (.oE o u)) (jf:∀ b ps,H b=some (.yt ps)->H' b=some (.yt ps)/\∀ c o,H c=some (.own b)->s.heap.get? c=some o->H' c=some (.own b)/\h'.get? c=some o) (ns:∀ m,s.heap.Ns X.env.locals m->h'.Ns X.env.locals m) (hok:gP X.prog X.w H' h') (hg:AllBare g') : aD X ak σ H' { s with heap:=h',gens:=g',drawn:=d',toks:=t' }:=by
 have B:∀ b o,X.s₀.heap.get? b=some o->b≠X.env.locals:=λb o e=>fP (mL (cF e) I.ok.above);have D:∀ b o,X.s₀.heap.get? b=some o->b∉X.ex->b∉ch:=λb o e a t=>by
  rcases (hch b t).1 with z|z
  ·exact a z
  ·exact absurd (mL (cF e) z) (uf _)
 have g:∀ x c,X.env.cells.lookup x=some c->∀ v,s.heap.IsCell c v->h'.IsCell c v:=λx c e v ⟨o,y,M⟩=>by
  have C:c∉ch:=λz=>(hch c z).2.2.1 x c e rfl;by_cases S:c∈X.fs
  ·obtain ⟨sl,q⟩:=slot c o (I.uM x c e) S C y (I.o8 x c e);exact ⟨_,q,M⟩
  ·exact ⟨o,keep c o (I.uM x c e) S C y (I.o8 x c e),M⟩
 refine ⟨I.ok,I.os,hg,⟨λb o e n t a=>?_,λb o e n t a=>?_,λb o e n a=>?_,λb o e a=>?_,λb xs e=>tups b xs (I.au.tups b xs e),λb o xs e=>mq b o xs (I.au.mq b o xs e),λb ps e=>?_⟩,?_,λx c e=>?_,?_,λx c e=>?_,λp O=>?_,hok,I.len⟩
 ·exact keep b o (B b o e) t (D b o e a) (I.au.keep b o e n t a) (I.au.free b o e n a)
 ·obtain ⟨sl,j⟩:=I.au.slot b o e n t a;obtain ⟨J,L⟩:=slot b _ (B b o e) t (D b o e a) j (I.au.free b o e n a);exact ⟨J,L⟩
 ·obtain ⟨o',j⟩:=I.au.there b o e a;exact free b o' (D b o e a) j (I.au.free b o e n a)
 ·obtain ⟨o',j⟩:=I.au.there b o e a;exact there b o' (D b o e a) j
 ·exact ⟨(jf b ps (I.au.jf b ps e).1).1,λc o j x=>let z:=(I.au.jf b ps e).2 c o j x;(jf b ps (I.au.jf b ps e).1).2 c o z.1 z.2⟩
 ·obtain ⟨m,V,U⟩:=I.loc;refine ⟨m,ns m V,λi x v j L W=>?_⟩;obtain ⟨u,r,l⟩:=U i x v j L W;refine ⟨u,r,?_⟩;rcases l with l|⟨k,c,e,z⟩
  ·exact .inl l
  ·exact .inr ⟨k,c,e,g x c e _ z⟩
 ·obtain ⟨v,z⟩:=I.cell x c e;exact ⟨v,g x c e v z⟩
 ·obtain ⟨m,⟨o,_,_,y,_⟩,_⟩:=I.loc;exact free _ o (λz=>(hch _ z).2.1 rfl) y I.free
 ·obtain ⟨v,o,y,M⟩:=I.cell x c e;exact free c o (λz=>(hch c z).2.2.1 x c e rfl) y (I.o8 x c e)
 ·obtain ⟨e,n,R,N,d⟩:=I.pin p O;have C:p.1∉ch:=λz=>(hch p.1 z).2.2.2 p O rfl;exact ⟨keep p.1 p.2 R N C e n,free p.1 p.2 C e n,R,N,d⟩
def aD.un (I:aD X ak σ H s) (u:Un X.fs [] H H' s.heap h') (hok:gP X.prog X.w H' h'):aD X ak σ H' { s with heap:=h',toks:=t' }:=by obtain ⟨m,⟨o,es,q,i,r⟩,_⟩:=id I.loc;obtain ⟨sl,k⟩:=u.any i I.free (by simp);exact I.step (g':=s.gens) (d':=s.drawn) (ch:=[]) (λ_ z=>nomatch z) (λb o _ c _ e n=>u.keep b o e n c (by simp)) (λb o _ c _ e n=>u.slot b o e n c (by simp)) (λb o _ e n=>u.free b o e n (by simp)) (λb o _ e=>u.there b o e (by simp)) u.tups u.mq u.jf (λp j=>by obtain ⟨o',d,g,a,l⟩:=j;rw [i] at a;cases a;exact ⟨_,d,g,k,l⟩) hok I.bare
def aD.call {d':Drawn} (I:aD X ak σ H s) (u:Un (d7 X.stack) ch H H' s.heap h') (hok:gP X.prog X.w H' h') (hg:AllBare g') (hch:∀ b∈ch,(b∈X.ex\/X.s₀.heap.objs.size<=b)/\b≠X.env.locals/\(∀ x c,X.env.cells.lookup x=some c->c≠b)/\∀ p∈X.pn++ak,p.1≠b) : aD X ak σ H' { s with heap:=h',gens:=g',drawn:=d',toks:=t' }:=by obtain ⟨m,⟨o,es,y,k,r⟩,_⟩:=id I.loc;obtain ⟨sl,g⟩:=u.any k I.free λz=>(hch _ z).2.1 rfl;exact I.step (ch:=ch) hch (λb o g l a e n=>u.keep b o e n (λz=>(fX.mp (I.K5 b z)).elim g l) a) (λb o _ _ a e n=>u.any e n a) (λb o a e n=>u.free b o e n a) (λb o a e=>u.there b o e a) u.tups u.mq u.jf (λv q=>by obtain ⟨o',i,j,d,t⟩:=q;rw [k] at d;cases d;exact ⟨_,i,j,g,t⟩) hok hg
def aD.turned (I:aD X ak σ H s) (k:∀ b o,b≠it->s.heap.get? b=some o->h'.get? b=some o) (hn:H it=none) (hL:it≠X.env.locals) (h1:it∈X.ex\/X.s₀.heap.objs.size<=it) (h2:∀ x c,X.env.cells.lookup x=some c->c≠it) (h3:∀ p∈X.pn++ak,p.1≠it):aD X ak σ H { s with heap:=h',toks:=t' }:=by
 have d:∀ b u,H b=some u->b≠it:=λb u e z=>by rw [z,hn] at e;cases e
 refine I.step (g':=s.gens) (d':=s.drawn) (ch:=[it]) (λb i=>?_) (λb o _ _ a e _=>k b o (λz=>a (by simp [z])) e) (λb o _ _ a e _=>⟨o.slots,k b o (λz=>a (by simp [z])) e⟩) (λ_ _ _ _ n=>n) (λb o a e=>⟨o,k b o (λz=>a (by simp [z])) e⟩) (λ_ _ e=>e) (λ_ _ _ e=>e) (λb ps e=>⟨e,λc o g x=>⟨g,k c o (d c _ g) x⟩⟩) (λm j=>?_) (λb u e=>?_) I.bare
 ·have e:b=it:=by simpa using i
  subst e;exact ⟨h1,hL,h2,h3⟩
 ·obtain ⟨o,es,t,l,r⟩:=j;exact ⟨o,es,t,k _ o (bF hL) l,r⟩
 ·refine (I.hok b u e).stay (λc v a q=>k c v ?_ q) (λ_ q=>q) λ_ _ q=>q;rcases a with z|z
  ·rw [z];exact d b u e
  ·exact d c _ z
def aD.tok (I:aD X ak σ H s) (t:Nat):aD X ak σ H { s with toks:=t }:=I.un (h':=s.heap) (t':=t) Un.refl I.hok
def aD.kept (I:aD X ak σ H s) (k:∀ b u,s.heap.get? b=some u->h'.get? b=some u):aD X ak σ H { s with heap:=h',toks:=t' }:=I.un (Un.kept k) (I.hok.kept k)
def aD.laid {o:HO} (I:aD X ak σ H s) (k:∀ b u,s.heap.get? b=some u->h'.get? b=some u) (hp:s.heap.objs.size<=a) (new:dZ X.prog X.w (upd H a o) h' a o) : aD X ak σ (upd H a o) { s with heap:=h',toks:=t' }:=I.un (Un.laid k hp (I.hok.fresh hp)) (I.hok.laid k hp new)
def aD.write {x e:Addr} {o:HO} (I:aD X ak σ H s) (mu:GX (H x)) (he:e=x\/H e=some (.own x)) (k:∀ b u,b≠e->s.heap.get? b=some u->h'.get? b=some u) (heo:∃ u,h'.get? e=some u) (new:dZ X.prog X.w (upd H x o) h' x o):aD X ak σ (upd H x o) { s with heap:=h',toks:=t' }:=I.un (Un.write mu he k heo) (I.hok.write mu he k heo new)
def aD.weak {σ':List (Option V)} (I:aD X ak σ H s) (hl:σ'.length=σ.length) (w:∀ (i:Nat) v,σ'[i]?=some (some v)->σ[i]?=some (some v)):aD X ak σ' H s:=⟨I.ok,I.os,I.bare,I.au,let ⟨m,e,a⟩:=I.loc;⟨m,e,λi x v c d b=>a i x v c (w i v d) b⟩,I.cell,I.free,I.o8,I.pin,I.hok,hl.trans I.len⟩
def aD.acj {adX:List (Addr×Obj)} (I:aD X ak σ H s) (h:∀ p∈adX,s.heap.get? p.1=some p.2/\H p.1=none/\p.1≠X.env.locals/\p.1∉X.fs/\∀ v,p.2.data≠.cell v):aD X adX σ H s:=⟨I.ok,I.os,I.bare,I.au,I.loc,I.cell,I.free,I.o8,λp a=>(nM.mp a).elim (λz=>I.pin p (S5 _ z)) (h p),I.hok,I.len⟩
def aa' (hN:N.Nodup) (a:N[i]?=some x) (b:N[j]?=some x):i=j:=by obtain ⟨h1,d⟩:=dY.mp a;obtain ⟨h2,c⟩:=dY.mp b;exact (List.getElem_inj hN).mp (d.trans c.symm)
def aav {M:Model} {v:V} {Q:CT} (I:aD X ak σ H s) (hN:X.N.Nodup) (hi:X.N[i]?=some x) (hx:vP X.env.scope x) (r:cA v u) (h:∀ s',aD X ak (σ.set i (some v)) H s'->(∃ a,SameBut a s.heap s'.heap/\(a=X.env.locals\/X.env.cells.lookup x=some a))->Q () s') (hf:X.fn x=true\/X.env.scope.names.lookup x=some .local:=by first|exact .inl rfl|exact .inr rfl|assumption):wpAny M A (storeName X.env x u) Q E s:=by
 obtain ⟨m,hn,hl⟩:=id I.loc;have S:(X.env.scope.kind == .class || (X.env.scope.kind == .module && X.env.locals != X.env.globals))=false:=by rw [I.ok.kind];rfl
 have hiσ:i<σ.length:=by rw [I.len];exact (dY.mp hi).1
 have uM:=I.uM;have tracked:∀ {a:Addr} {h':Heap},(∃ o,s.heap.get? a=some o/\H a=none)->SameBut a s.heap h'->gP X.prog X.w H h':=λ{a h'} ha g b ob e=>by
  obtain ⟨_,_,B⟩:=ha;refine (I.hok b ob e).stay (λc Y t q=>(g.2 c ?_).trans q) (λ_ q=>q) λ_ _ q=>q;rintro rfl;rcases t with rfl|t
  ·rw [B] at e;cases e
  ·rw [B] at t;cases t
 rcases hx with D|D
 ·refine wpAny_storeName_local D hn (λh' hn' g=>?_) S;obtain ⟨oL,_,_,hoL,_⟩:=id hn;refine h _ ⟨I.ok,I.os,I.bare,⟨λb o e n J hx=>?_,λb o e n J hx=>?_,I.au.free,λb o e hx=>?_,I.au.tups,I.au.mq,λb ps e=>⟨(I.au.jf b ps e).1,λd o l x1=>let z:=(I.au.jf b ps e).2 d o l x1;⟨z.1,(g.2 d (cV z.1 I.free)).trans z.2⟩⟩⟩,⟨_,hn',λj y v' l C e3=>?_⟩,λy c e=>?_,I.free,I.o8,λp hp=>?_,tracked ⟨oL,hoL,I.free⟩ g,by simpa using I.len⟩ ⟨_,g,.inl rfl⟩
  ·exact (g.2 b (fP (mL (cF e) I.ok.above))).trans (I.au.keep b o e n J hx)
  ·obtain ⟨sl,l⟩:=I.au.slot b o e n J hx;exact ⟨sl,(g.2 b (fP (mL (cF e) I.ok.above))).trans l⟩
  ·obtain ⟨o',l⟩:=I.au.there b o e hx;exact ⟨o',(g.2 b (fP (mL (cF e) I.ok.above))).trans l⟩
  ·by_cases O:j=i
   ·subst O;rw [hi] at l;cases l;rw [zJ hiσ] at C;cases C;exact ⟨u,r,.inl ⟨D,by simp⟩⟩
   ·rw [zK (bF O)] at C;obtain ⟨u',r',q⟩:=hl j y v' l C e3;refine ⟨u',r',?_⟩;rcases q with ⟨k,e⟩|⟨k,c,e,z⟩
    ·refine .inl ⟨k,?_⟩;have:y≠x:=λe=>O (aa' hN l (e ▸ hi));simp [this,e]
    ·exact .inr ⟨k,c,e,z.sameBut g (uM y c e)⟩
  ·obtain ⟨Y,z⟩:=I.cell y c e;exact ⟨Y,z.sameBut g (uM y c e)⟩
  ·obtain ⟨e,n,ne,nf,d⟩:=I.pin p hp;exact ⟨(g.2 p.1 ne).trans e,n,ne,nf,d⟩
 ·have L:X.fn x=true:=by
   rcases hf with z|z
   ·exact z
   ·rw [z] at D;cases D
  obtain ⟨c,t⟩:=I.ok.has x (.inl D);obtain ⟨Y,z⟩:=I.cell x c t;refine wpAny_storeName_cell I.ok.kind D t z (λh' U g=>?_);obtain ⟨oc,W,aq8⟩:=id z;refine h { s with heap:=h' } ⟨I.ok,I.os,I.bare,⟨λb o e n J hx=>?_,λb o e n J hx=>?_,I.au.free,λb o e hx=>?_,I.au.tups,I.au.mq,λb ps e=>⟨(I.au.jf b ps e).1,λd o l x1=>let z:=(I.au.jf b ps e).2 d o l x1;⟨z.1,(g.2 d (cV z.1 (I.o8 x c t))).trans z.2⟩⟩⟩,⟨m,hn.sameBut g (bF (uM x c t)),λj y v' l C e3=>?_⟩,λy c' e=>?_,I.free,I.o8,λp hp=>?_,tracked ⟨oc,W,I.o8 x c t⟩ g,by simpa using I.len⟩ ⟨c,g,.inr t⟩
  ·exact (g.2 b (fP (mL (cF e) (I.ok.cab x c L t)))).trans (I.au.keep b o e n J hx)
  ·obtain ⟨sl,l⟩:=I.au.slot b o e n J hx;exact ⟨sl,(g.2 b (fP (mL (cF e) (I.ok.cab x c L t)))).trans l⟩
  ·obtain ⟨o',l⟩:=I.au.there b o e hx;exact ⟨o',(g.2 b (fP (mL (cF e) (I.ok.cab x c L t)))).trans l⟩
  ·by_cases O:j=i
   ·subst O;rw [hi] at l;cases l;rw [zJ hiσ] at C;cases C;exact ⟨u,r,.inr ⟨.inl D,c,t,U⟩⟩
   ·rw [zK (bF O)] at C;obtain ⟨u',r',q⟩:=hl j y v' l C e3;refine ⟨u',r',?_⟩;rcases q with q|⟨k,c',e,z'⟩
    ·exact .inl q
    ·refine .inr ⟨k,c',e,z'.sameBut g ?_⟩;rintro rfl;exact O (aa' hN l (I.ok.inj _ _ _ e t ▸ hi))
  ·by_cases R:c'=c
   ·subst R;exact ⟨_,U⟩
   ·obtain ⟨w2,z2⟩:=I.cell y c' e;exact ⟨w2,z2.sameBut g R⟩
  ·obtain ⟨e,n,ne,nf,d⟩:=I.pin p hp;refine ⟨(g.2 p.1 ?_).trans e,n,ne,nf,d⟩;intro q;rw [q,W] at e;have q':oc=p.2:=iB e;exact d Y (by rw [<-q'];exact aq8)
def Jj {M:Model} {v:V} {Q:CT} (I:aD X ak σ H s) (hN:X.N.Nodup) (hi:X.N[i]?=some x) (hx:vP X.env.scope x) (r:cA v u) (h:∀ s',aD X ak (σ.set i (some v)) H s'->Q () s') (hf:X.fn x=true\/X.env.scope.names.lookup x=some .local:=by first|exact .inl rfl|exact .inr rfl|assumption):wpAny M A (storeName X.env x u) Q E s:=aav I hN hi hx r (λs' a _=>h s' a) hf
def aD.call' {s':Shared} (I:aD X ak σ H s) (ho:s'.os=s.os) (u:Un (d7 X.stack) ch H H' s.heap s'.heap) (hok:gP X.prog X.w H' s'.heap) (hg:AllBare s'.gens) (hch:∀ b∈ch,(b∈X.ex\/X.s₀.heap.objs.size<=b)/\b≠X.env.locals/\(∀ x c,X.env.cells.lookup x=some c->c≠b)/\∀ p∈X.pn++ak,p.1≠b):aD X ak σ H' s':=by obtain ⟨h',g',d',t',o'⟩:=s';have e:o'=s.os:=ho;subst e;exact I.call (g':=g') (t':=t') (d':=d') u hok hg hch
end
abbrev XK:=Value->jy->Hp->Prop
abbrev St:=List (Option V)
abbrev VK:=V->Hp->Prop
abbrev TE:=St->Hp->VK->Prop
abbrev TT:=St->Hp->(Bool->Hp->Prop)->Prop
abbrev TA:=St->Hp->(aA->Hp->Prop)->Prop
structure qJ where
 nx:St->Hp->Prop
 rt:VK
 bk:St->Hp->Prop:=λ_ _=>False
 ct:St->Hp->Prop:=λ_ _=>False
abbrev TS:=qJ->St->Hp->Prop
def EP (X:Cx) (ak:List (Addr×Obj)) (σ:St) (Q:VK) (u:Value) (s':Shared):Prop:=∃ v H',aD X ak σ H' s'/\cA v u/\Q v H'
def TP (X:Cx) (ak:List (Addr×Obj)) (σ:St) (Q:Bool->Hp->Prop) (b:Bool) (s':Shared):Prop:=∃ H',aD X ak σ H' s'/\Q b H'
def AP (X:Cx) (ak:List (Addr×Obj)) (σ:St) (Q:aA->Hp->Prop) (us:bV) (s':Shared):Prop:=∃ vs H',aD X ak σ H' s'/\bO vs us/\Q vs H'
def SP (X:Cx) (ak:List (Addr×Obj)) (D:qJ) (f:Flow) (s':Shared):Prop :=
 match f with
 |.next=>∃ σ' H',aD X ak σ' H' s'/\D.nx σ' H'
 |.brk=>∃ σ' H',aD X ak σ' H' s'/\D.bk σ' H'
 |.cont=>∃ σ' H',aD X ak σ' H' s'/\D.ct σ' H'
 |.ret u=>∃ v σ' H',aD X ak σ' H' s'/\cA v u/\D.rt v H'
def PE (X:Cx) (e:Expr) (t:TE):Prop :=
 ∀ (ak:List (Addr×Obj)) (s:Shared) (σ:St) (H:Hp) (Q:VK),aD X ak σ H s->t σ H Q->wpAny (model X.prog X.w) X.A (eval e X.env) (EP X ak σ Q) X.xe s
def PT (X:Cx) (e:Expr) (t:TT):Prop :=
 ∀ (ak:List (Addr×Obj)) (s:Shared) (σ:St) (H:Hp) (Q:Bool->Hp->Prop),aD X ak σ H s->t σ H Q->wpAny (model X.prog X.w) X.A (isTrue e X.env (eval e X.env)) (TP X ak σ Q) X.xe s
def PW (X:Cx) (e:Expr) (t:TT):Prop :=
 ∀ (whole:Sem Value) (ak:List (Addr×Obj)) (s:Shared) (σ:St) (H:Hp) (Q:Bool->Hp->Prop),aD X ak σ H s->t σ H Q->wpAny (model X.prog X.w) X.A (isTrue e X.env whole) (TP X ak σ Q) X.xe s
def PW.pt {X:Cx} {t:TT} (h:PW X e t):PT X e t:=h _
def PA (X:Cx) (es:List Expr) (t:TA):Prop :=
 ∀ (pos:Pos) (ak:List (Addr×Obj)) (s:Shared) (σ:St) (H:Hp) (Q:aA->Hp->Prop),aD X ak σ H s->t σ H Q->wpAny (model X.prog X.w) X.A (spliced (backTo pos (starEach es X.env))) (AP X ak σ Q) X.xe s
def PS (X:Cx) (st:Stmt) (t:TS):Prop :=
 ∀ (ak:List (Addr×Obj)) (s:Shared) (σ:St) (H:Hp) (D:qJ),aD X ak σ H s->t D σ H->wpAny (model X.prog X.w) X.A (exec st X.env) (SP X ak D) X.xe s
def oF (X:Cx) (st:List Stmt) (t:TS):Prop :=
 ∀ (ak:List (Addr×Obj)) (s:Shared) (σ:St) (H:Hp) (D:qJ),aD X ak σ H s->t D σ H->wpAny (model X.prog X.w) X.A (execs st X.env) (SP X ak D) X.xe s
def bA {t:Sem α} {Q Q':α->Shared->Prop} {M:Model} (h:wpAny M A t Q E s) (hQ:∀ a s,Q a s->Q' a s):wpAny M A t Q' E s:=lE h hQ λ_ _ x=>x
section
variable {X:Cx}
inductive aei (i:Nat) (σ:St) (H:Hp) (Q:VK):Prop
 |mk (v:V) (e:σ[i]?=some (some v)) (q:Q v H)
def mX (i:Nat):TE:=aei i
def tC (v:V):TE:=λ_ H Q=>Q v H
def aoX (hN:X.N[i]?=some x) (hv:Mu X.env.scope x) (hd:(x == ("__debug__":Str))=false:=by decide) (hcd:(x == ("__classdict__":Str))=false:=by decide):PE X (.Name x pos) (mX i):=by
 rintro ak s σ H Q I ⟨v,e,h⟩;obtain ⟨m,n,j⟩:=I.loc;obtain ⟨u,r,l⟩:=j i x v hN e hv;have d:EP X ak σ Q u s:=⟨v,H,I,r,h⟩;rcases l with ⟨b,k⟩|⟨b,c,g,a⟩
 ·exact wpAny_Name (wpAny_loadName_local I.ok.kind b n k d) hd
 ·rcases b with b|b
  ·exact wpAny_Name (wpAny_loadName_cell I.ok.kind b g a d) hd
  ·exact wpAny_Name (wpAny_loadName_free I.ok.kind b g a d hcd) hd
def aL {i j pos}:PE X (.Constant (.int i) j pos) (tC (.int i)):=λ_ _ _ H _ I h=>wpAny_Constant_int ⟨.int i,H,I.tok _,⟨_,rfl⟩,h⟩
def pU {b j pos}:PE X (.Constant (.bool b) j pos) (tC (.bl b)):=λ_ _ _ H _ I h=>Constant_bool ⟨.bl b,H,I,rfl,h⟩
def zP {j pos}:PE X (.Constant .none j pos) (tC .non):=λ_ _ _ H _ I h=>Constant_none ⟨.non,H,I,rfl,h⟩
def bN {x j pos}:PE X (.Constant (.str x) j pos) (tC (.str x)):=λ_ _ _ H _ I h=>Calls.Constant_str ⟨.str x,H,I.tok _,⟨_,rfl⟩,h⟩
def Gl (X:Cx) (x:Str):Prop:=X.env.kindOf x=some .globalImplicit
def Ce {σ:St} {H:Hp} (I:aD X ak σ H s) (hg:Gl X x) (hm:X.mg x=some u) (h:Q u s) (hd:(x == ("__debug__":Str))=false:=by decide):wpAny (model X.prog X.w) X.A (eval (.Name x pos) X.env) Q E s:=adi I.ok.kind hg (Calls.loadGlobal_global (by rw [I.ok.glob];exact I.mod.glob.keeps I.bk) hm h) hd
def qK {σ:St} {H:Hp} (I:aD X ak σ H s) (hg:Gl X x) (hm:X.mg x=none) (hv:bootBuiltins x=some u) (h:Q u s) (hn:x≠"__name__":=by decide) (hd:(x == ("__debug__":Str))=false:=by decide):wpAny (model X.prog X.w) X.A (eval (.Name x pos) X.env) Q E s:=by obtain ⟨a,h1,h2⟩:=I.mod.blt;exact adi I.ok.kind hg (Calls.loadGlobal_builtin (by rw [I.ok.glob];exact I.mod.glob.keeps I.bk) hm (by rw [I.ok.blt];exact h1.keeps I.bk) ((h2 x hn).trans hv) h) hd
def Cg {v:V} (hg:Gl X x) (hm:X.mg x=some u) (r:cA v u) (hd:(x == ("__debug__":Str))=false:=by decide):PE X (.Name x pos) (tC v):=λ_ _ _ H _ I h=>Ce I hg hm ⟨v,H,I,r,h⟩ hd
def zx {v:V} (hg:Gl X x) (hm:X.mg x=none) (hv:bootBuiltins x=some u) (r:cA v u) (hn:x≠"__name__":=by decide) (hd:(x == ("__debug__":Str))=false:=by decide):PE X (.Name x pos) (tC v):=λ_ _ _ H _ I h=>qK I hg hm hv ⟨v,H,I,r,h⟩ hn hd
inductive GC (x:V) (H:Hp) (Q:Bool->Hp->Prop):Prop
 |mk (c:Bool) (e:x=.bl c) (q:Q c H)
inductive OfI (x:V) (H:Hp) (Q:Int->Hp->Prop):Prop
 |mk (i:Int) (e:x=.int i) (q:Q i H)
inductive T8 (n:Nat) (o:HO) (H:Hp) (Q:VK):Prop
 |mk (l:n<=sizeLine) (q:∀ p,H p=none->Q (.ref p) (upd H p o))
variable {a b:Expr} {ta tb:TE}
def PC (X:Cx) (op:CmpOp) (a b:Expr) (t:TE):Prop :=
 ∀ (ak:List (Addr×Obj)) (s:Shared) (σ:St) (H:Hp) (Q:VK),aD X ak σ H s->t σ H Q ->
  wpAny (model X.prog X.w) X.A (eval a X.env) (λv c=>wpAny (model X.prog X.w) X.A (eval b X.env) (λu d=>wpAny (model X.prog X.w) X.A (compareOp op v u) (EP X ak σ Q) X.xe d) X.xe c) X.xe s
def tB (t:TE):TT:=λσ H Q=>t σ H λx H1=>GC x H1 Q
def Tw {t:TE} (h:PC X op a b t) (h1:behindInMarks op b=false:=by first|exact asv _ (by decide) (by decide)|rfl):PT X (.Compare a [op] [b] pos) (tB t):=by intro ak s σ H Q I j;refine wpAny_isTrue_Compare1 (bA (h ak s σ H _ I j) λv m h1=>bA h1 λu l h2=>bA h2 λc k ⟨x,H1,i,e,g⟩=>?_) h1;obtain ⟨d,rfl,q⟩:=g;cases e;exact qH ⟨H1,i,q⟩
def lG {t:TE} (h:PE X e t) (he:∀ whole,isTrue e X.env whole=(do let v <-whole;standAt e.pos;holding [v] (truthy v)):=by intro _;rfl):PT X e (tB t):=by intro ak s σ H Q I b;refine isTrue_plain (bA (h ak s σ H _ I b) λv i ⟨x,H1,g,c,a⟩=>?_) (he _);obtain ⟨d,rfl,q⟩:=a;cases c;exact qH ⟨H1,g,q⟩
variable {tA tB':TT} {rest:List Expr}
def tOr (t u:TT):TT:=λσ H Q=>t σ H λc H1=>if c=true then Q true H1 else u σ H1 Q
def aq9 (t:TT):TT:=λσ H Q=>t σ H λc H1=>Q (!c) H1
def vH (ha:PT X a tA):PW X (.BoolOp .Or [a] pos) tA:=by
 intro d ak s σ H Q I h;refine isTrue_or (bA (ha ak s σ H Q I h) λc b e=>?_);cases c with
 |false=>exact isTrue_or_nil e
 |true=>exact e
def uz (ha:PT X a tA) (hb:PW X (.BoolOp .Or (b::rest) pos) tB'):PW X (.BoolOp .Or (a::b::rest) pos) (tOr tA tB'):=by
 intro i ak s σ H Q I h;refine isTrue_or (bA (ha ak s σ H _ I h) λc g ⟨H1,d,e⟩=>?_);cases c with
 |true=>exact ⟨H1,d,e⟩
 |false=>exact hb i ak g σ H1 Q d e
def j4 (ha:PT X a tA):PT X (.UnaryOp .Not a pos) (aq9 tA):=by intro ak s σ H Q I h;exact isTrue_not (ha ak s σ H (λc H1=>Q (!c) H1) I h)
def ap1 (ta tb:TE):TE:=λσ H Q=>ta σ H λx H1=>GC x H1 λc H1=>if c=true then tb σ H1 Q else Q (.bl false) H1
def aq_ (ta tb:TE):TE:=λσ H Q=>ta σ H λx H1=>GC x H1 λc H1=>if c=true then Q (.bl true) H1 else tb σ H1 Q
def ap3 (ta:TE):TE:=λσ H Q=>ta σ H λx H1=>GC x H1 λc H1=>Q (.bl (!c)) H1
def uo {op} {t:TE} (h:PE X a t):PE X (.BoolOp op [a] pos) t:=λak s σ H Q I b=>BoolOp_one (h ak s σ H Q I b)
def vI (ha:PE X a ta) (hb:PE X (.BoolOp .And (b::rest) pos) tb):PE X (.BoolOp .And (a::b::rest) pos) (ap1 ta tb):=by
 intro ak s σ H Q I h;refine BoolOp_and (bA (ha ak s σ H _ I h) λv g ⟨x,H1,e,i,d⟩=>?_);obtain ⟨c,rfl,d⟩:=d;cases i;refine qH ?_;cases c with
 |true=>exact hb ak g σ H1 Q e d
 |false=>exact ⟨.bl false,H1,e,rfl,d⟩
def adY (ha:PE X a ta) (hb:PE X (.BoolOp .Or (b::rest) pos) tb):PE X (.BoolOp .Or (a::b::rest) pos) (aq_ ta tb):=by
 intro ak s σ H Q I h;refine BoolOp_or (bA (ha ak s σ H _ I h) λv g ⟨x,H1,e,i,d⟩=>?_);obtain ⟨c,rfl,d⟩:=d;cases i;refine qH ?_;cases c with
 |false=>exact hb ak g σ H1 Q e d
 |true=>exact ⟨.bl true,H1,e,rfl,d⟩
def aoY (ha:PE X a ta):PE X (.UnaryOp .Not a pos) (ap3 ta):=by intro ak s σ H Q I h;refine UnaryOp_ (bA (ha ak s σ H _ I h) λv g ⟨x,H1,e,d,b⟩=>?_);obtain ⟨c,rfl,b⟩:=b;cases d;exact not_of (qH ⟨.bl (!c),H1,e,rfl,b⟩)
def tIf (t:TT) (ta tb:TE):TE:=λσ H Q=>t σ H λc H1=>if c=true then ta σ H1 Q else tb σ H1 Q
def qx {c:Expr} (hc:PT X c tA) (ha:PE X a ta) (hb:PE X b tb):PE X (.IfExp c a b pos) (tIf tA ta tb):=by
 intro ak s σ H Q I h;refine wpAny_IfExp (bA (hc ak s σ H _ I h) λd g ⟨H1,e,i⟩=>?_);cases d with
 |true=>exact ha ak g σ H1 Q e i
 |false=>exact hb ak g σ H1 Q e i
end
def dH (K:bG) (H:Hp) (a:Addr) (xs:aA):Prop :=
 Rd H a (.lst xs) \/
  ∃ (o:Obj) (aJ:h_) (n:Nat),K.lookup a=some o/\o.cls=.type "list"/\o.dict=none/\o.data=.seq aJ n/\aJ.size<=sizeLine/\bO xs aJ.toList
def gG (K:bG) (H:Hp) (a:Addr) (xs:aA):Prop :=
 Rd H a (.tup xs) \/
  ∃ (o:Obj) (aJ:h_) (n:Nat),K.lookup a=some o/\o.cls=.type "tuple"/\o.data=.seq aJ n/\aJ.size<=sizeLine/\bO xs aJ.toList
def aq':Value->Option V
 |.none=>some .non
 |.bool b=>some (.bl b)
 |.int i _=>some (.int i)
 |.str x _=>some (.str x)
 |.bytes b _=>some (.pG b)
 |.float b _=>some (.flt b)
 |.ref a=>some (.ref a)
 |.type n=>some (.ty n)
 |_=>none
def cA.abs {x:V} (r:cA x u):aq' u=some x:=by
 cases x with
 |non=>cases r;rfl
 |bl _=>cases r;rfl
 |int _=>obtain ⟨t,rfl⟩:=r;rfl
 |str _=>obtain ⟨t,rfl⟩:=r;rfl
 |pG _=>obtain ⟨t,rfl⟩:=r;rfl
 |flt _=>obtain ⟨t,rfl⟩:=r;rfl
 |ref _=>cases r;rfl
 |ty _=>cases r;rfl
def cA.inj {x y:V} (r:cA x u) (q:cA y u):x=y:=iB (r.abs.symm.trans q.abs)
def bO.inj:∀ {xs ys:aA} {us:bV},bO xs us->bO ys us->xs=ys
 |_,_,_,.nil,.nil=>rfl
 |_,_,_,.cons r t,.cons r' t'=>by rw [r.inj r',bO.inj t t']
section
variable {X:Cx} {σ:St} {H:Hp} {xs ys:aA}
def dH.of (h:H a=some (.lst xs)):dH K H a xs:=.inl (.inl h)
def aN:=@dH.of
def gG.of (h:H a=some (.tup xs)):gG K H a xs:=.inl (.inl h)
def aZ:=@gG.of
def aD.list (I:aD X ak σ H s) (h:dH X.K H a xs):∃ aJ:bV,bO xs aJ/\PlainL s.heap a aJ.toArray/\xs.length<=sizeLine:=by
 rcases h with h|⟨o,aJ,n,b,c,g,d,i,r⟩
 ·obtain ⟨z,aJ,n,r,e⟩:=h.ok I.hok;exact ⟨aJ,r,⟨_,n,e,rfl,rfl,rfl⟩,z⟩
 ·refine ⟨aJ.toList,r,⟨o,n,I.gq a o b,c,g,by simpa using d⟩,?_⟩;have e:=r.length;simp only [xQ] at e;lk
def aD.tuple (I:aD X ak σ H s) (h:gG X.K H a xs):∃ aJ:bV,bO xs aJ/\IsTup s.heap a aJ.toArray/\xs.length<=sizeLine:=by
 rcases h with h|⟨o,aJ,n,b,c,d,g,r⟩
 ·obtain ⟨z,aJ,r,p⟩:=h.ok I.hok;exact ⟨aJ,r,p.tup,z⟩
 ·refine ⟨aJ.toList,r,⟨o,I.gq a o b,c,n,by simpa using d⟩,?_⟩;have e:=r.length;simp only [xQ] at e;lk
def aD.Et (I:aD X ak σ H s) (h:dH X.K H a xs) (h':dH X.K H a ys):xs=ys:=by
 obtain ⟨aJ,r,⟨o,n,e,_,_,d⟩,_⟩:=I.list h;obtain ⟨its',g,⟨o',i,b,_,_,c⟩,_⟩:=I.list h';rw [e] at b;cases b;rw [d] at c;injection c with d1 _;have:aJ=its':=by simpa using je Array.toList d1
 subst this;exact r.inj g
def aD.P0 (I:aD X ak σ H s) (h:gG X.K H a xs) (h':gG X.K H a ys):xs=ys:=by
 obtain ⟨aJ,r,⟨o,e,_,n,d⟩,_⟩:=I.tuple h;obtain ⟨its',g,⟨o',b,_,i,c⟩,_⟩:=I.tuple h';rw [e] at b;cases b;rw [d] at c;injection c with d1 _;have:aJ=its':=by simpa using je Array.toList d1
 subst this;exact r.inj g
end
abbrev Cx.wish (X:Cx) (E:lF):Cx:={ X with xe:=E }
abbrev Cx.yw (X:Cx):Cx:=X.wish λ_ _=>False
def Cx.Ok.wish {X:Cx} (ok:X.Ok) (E:lF):(X.wish E).Ok:=⟨ok.mod,ok.kind,ok.glob,ok.blt,ok.above,ok.inj,ok.has,ok.cab,ok.hd,ok.frames,ok.stk,ok.Mv,ok.bs,ok.uK,ok.Dn,ok.Dp,ok.pZ,ok.uL⟩
def Cx.Ok.sH {X:Cx} (ok:(X.wish E).Ok):X.Ok:=⟨ok.mod,ok.kind,ok.glob,ok.blt,ok.above,ok.inj,ok.has,ok.cab,ok.hd,ok.frames,ok.stk,ok.Mv,ok.bs,ok.uK,ok.Dn,ok.Dp,ok.pZ,ok.uL⟩
section
variable {X:Cx} {σ:St} {H:Hp}
def aD.wish (I:aD X ak σ H s) (E:lF):aD (X.wish E) ak σ H s:=⟨I.ok.wish E,I.os,I.bare,I.au,I.loc,I.cell,I.free,I.o8,I.pin,I.hok,I.len⟩
def aD.sH (I:aD (X.wish E) ak σ H s):aD X ak σ H s:=⟨I.ok.sH,I.os,I.bare,I.au,I.loc,I.cell,I.free,I.o8,I.pin,I.hok,I.len⟩
def SP.sH {D:qJ} {f:Flow} {s':Shared} (h:SP (X.wish E) ak D f s'):SP X ak D f s':=by
 cases f with
 |next=>obtain ⟨σ',H',I,q⟩:=h;exact ⟨σ',H',I.sH,q⟩
 |brk=>obtain ⟨σ',H',I,q⟩:=h;exact ⟨σ',H',I.sH,q⟩
 |cont=>obtain ⟨σ',H',I,q⟩:=h;exact ⟨σ',H',I.sH,q⟩
 |ret u=>obtain ⟨v,σ',H',I,r,q⟩:=h;exact ⟨v,σ',H',I.sH,r,q⟩
def oF.yw {st:List Stmt} {t:TS} (h:oF X.yw st t):oF X st t:=λak s σ H D I a =>
 lE (h ak s σ H D (I.wish _) a) (λ_ _ q=>q.sH) λ_ _ z=>elim z
end
section
variable {X:Cx} {st:Stmt} {rest:List Stmt} {t u:TS} {te:TE}
def ap4:TS:=λD σ H=>D.nx σ H
def Uu (t u:TS):TS:=λD σ H=>t { D with nx:=u D } σ H
def cT:oF X [] ap4:=λ_ _ σ H _ I h=>CN ⟨σ,H,I,h⟩
def aU (h1:PS X st t) (h2:oF X rest u):oF X (st::rest) (Uu t u):=by
 intro ak s σ H D I h;refine S6 (bA (h1 ak s σ H { D with nx:=u D } I h) λf b q=>?_);cases f with
 |next =>obtain ⟨σ',H',a,q⟩:=q;exact h2 ak b σ' H' D a q
 |ret v=>exact q
 |brk=>exact q
 |cont=>exact q
def aO (h1:PS X st t):oF X [st] t:=by
 intro ak s σ H D I h;refine S6 (bA (h1 ak s σ H D I h) λf a q=>?_);cases f with
 |next=>exact CN q
 |ret v=>exact q
 |brk=>exact q
 |cont=>exact q
def aD.quiet {σ:St} {H:Hp} (I:aD X ak σ H s):interactive X.env=false:=by simp [interactive,I.ok.kind]
def ap5 (te:TE):TS:=λD σ H=>te σ H λ_ H1=>D.nx σ H1
def kI (he:PE X e te) (hs:swapsWith e none pos.line X.env=pure false:=by rfl):PS X (.Expr e pos) (ap5 te):=by intro ak s σ H D I h;exact wpAny_Expr_any (bA (he ak s σ H _ I h) λv c ⟨x,H1,b,d,a⟩=>⟨σ,H1,b,a⟩) I.quiet hs
def Lx (te:TE):TS:=λD σ H=>te σ H D.rt
def bw (he:PE X e te):PS X (.Return (some e) pos) (Lx te):=by intro ak s σ H D I h;exact wpAny_Return_some (bA (he ak s σ H _ I h) λv d ⟨x,H1,c,b,a⟩=>⟨x,σ,H1,c,b,a⟩)
def ara (c:TT) (t u:TS):TS:=λD σ H=>c σ H λb H1=>if b=true then t D σ H1 else u D σ H1
def cP {c:Expr} {a b:List Stmt} {tc:TT} (hc:PT X c tc) (ha:oF X a t) (hb:oF X b u):PS X (.If c a b pos) (ara tc t u):=by
 intro ak s σ H D I h;refine wpAny_If (bA (hc ak s σ H _ I h) λd g ⟨H1,e,i⟩=>?_);cases d with
 |true=>exact ha ak g σ H1 D e i
 |false=>exact hb ak g σ H1 D e i
def aoZ:TS:=λ_ _ _=>False
def oK:PS X st aoZ:=λ_ _ _ _ _ _ h=>h.elim
end
abbrev TG:=V->St->Hp->(St->Hp->Prop)->Prop
abbrev yx:=aA->St->Hp->(St->Hp->Prop)->Prop
def PG (X:Cx) (target:Expr) (t:TG):Prop :=
 ∀ (ak:List (Addr×Obj)) (s:Shared) (σ:St) (H:Hp) (v:V) (u:Value) (Q:St->Hp->Prop),aD X ak σ H s->cA v u->t v σ H Q ->
  wpAny (model X.prog X.w) X.A (assign target X.env u) (λ_ s'=>∃ σ' H',aD X ak σ' H' s'/\Q σ' H') X.xe s
def G3 (X:Cx) (ts:List Expr) (t:yx):Prop :=
 ∀ (ak:List (Addr×Obj)) (s:Shared) (σ:St) (H:Hp) (vs:aA) (us:bV) (Q:St->Hp->Prop),aD X ak σ H s->bO vs us->t vs σ H Q ->
  wpAny (model X.prog X.w) X.A (assignInOrder ((assignEach ts X.env).map (·.2)) us) (λ_ s'=>∃ σ' H',aD X ak σ' H' s'/\Q σ' H') X.xe s
abbrev GD:=V->V->V->Hp->(Hp->Prop)->Prop
def Uv (X:Cx) (t:GD):Prop :=
 ∀ (ak:List (Addr×Obj)) (s:Shared) (σ:St) (H:Hp) (o i v:V) (b a u:Value) (Q:Hp->Prop),aD X ak σ H s->cA o b->cA i a->cA v u->t o i v H Q ->
  wpAny (model X.prog X.w) X.A (setItem b a u) (λ_ s'=>∃ H',aD X ak σ H' s'/\Q H') X.xe s
abbrev Ad:=V->V->Hp->VK->Prop
def G4 (X:Cx) (op:Operator) (t:Ad):Prop :=
 ∀ (ak:List (Addr×Obj)) (s:Shared) (σ:St) (H:Hp) (x y:V) (v u:Value) (Q:VK),aD X ak σ H s->cA x v->cA y u->t x y H Q ->
  wpAny (model X.prog X.w) X.A (inplaceOp op v u) (EP X ak σ Q) X.xe s
section
variable {X:Cx}
def lK (i:Nat):TG:=λv σ H Q=>Q (σ.set i (some v)) H
def amT (hN:X.N.Nodup) (hi:X.N[i]?=some x) (hx:vP X.env.scope x) (hf:X.fn x=true\/X.env.scope.names.lookup x=some .local:=by first|exact .inl rfl|exact .inr rfl|assumption):PG X (.Name x pos) (lK i):=by intro ak s σ H v u Q I r h;exact wpAny_assign_Name (Jj I hN hi hx r (λs' a=>⟨_,H,a,h⟩) hf)
def arb:yx:=λvs σ H Q=>vs=[]/\Q σ H
def ap6 (t:TG) (u:yx):yx:=λvs σ H Q=>∃ v r,vs=v::r/\t v σ H λσ' H'=>u r σ' H' Q
def qF:G3 X [] arb:=by rintro ak s σ H vs us Q I r ⟨e,h⟩;subst e;cases r;exact assignInOrder_nil ⟨σ,H,I,h⟩
def ji {t:TG} {u:yx} (h1:PG X e t) (h2:G3 X es u) (hs:(assignEach (e::es) X.env).map (·.2)=assign e X.env::(assignEach es X.env).map (·.2):=by rfl):G3 X (e::es) (ap6 t u):=by
 rintro ak s σ H vs us Q I r ⟨v,i,g,h⟩;subst g;cases r with
 |cons r a =>rw [hs];refine assignInOrder_cons (bA (h1 ak s σ H _ _ _ I r h) λ_ d ⟨σ1,H1,c,b⟩=>?_);exact h2 ak d σ1 H1 _ _ Q c a b
def aej (K:bG) (n:Nat) (t:yx):TG:=λv σ H Q=>∃ a xs,v=.ref a/\gG K H a xs/\xs.length=n/\t xs σ H Q
def qM {k:Nat} {t:yx} (hc:X.calm=true) (h:G3 X es t) (hn:(assignEach es X.env).length=n:=by rfl) (hst:(assignEach es X.env).findIdx? (·.1)=none:=by rfl):PG X (.Tuple es k pos) (aej X.K n t):=by rintro ak s σ H v u Q I r ⟨a,xs,l,m,g,j⟩;subst l;cases r;obtain ⟨aJ,c,i,q⟩:=I.tuple m;refine assign_Tuple_tuple (I.ok.hd hc) i (by simp [hn,<-g,c.length]) hst λh' p=>?_;have d:aD X ak σ H { s with heap:=h' }:=I.kept (t':=s.toks) λb o e=>p b o (fP (cF e)) e;exact h ak _ σ H xs _ Q d (by simpa using c) j
def aek (to ti:TE) (t:GD):TG:=λv σ H Q=>to σ H λo H1=>ti σ H1 λi H2=>t o i v H2 λa=>Q σ a
def qN {o i:Expr} {to ti:TE} {t:GD} (ho:PE X o to) (hi:PE X i ti) (hs:Uv X t) (ha:∀ v,assign (.Subscript o i pos) X.env v=(do
   let ov <-holding [v] (eval o X.env);let iv <-holding [v,ov] (eval i X.env)
   standAt pos
   holding [v,ov,iv] (setItem ov iv v)
   release [v,ov,iv] []):=by intro _;rfl):PG X (.Subscript o i pos) (aek to ti t):=by
 intro ak s σ H v u Q I r h;rw [ha];exact bf (zL (bA (ho ak s σ H _ I h) λov k ⟨x,H1,g,c,e⟩=>bf (zL (bA (hi ak k σ H1 _ g e) λiv j ⟨y,H2,a,b,l⟩=>bf (wpAny_standAt (bf (zL (bA (hs ak j σ H2 x y v ov iv u _ a c b r l) λ_ p ⟨d,m,n⟩=>wpAny_release ⟨σ,d,m,n⟩))))))))
def qW (te:TE) (g:TG):TS:=λD σ H=>te σ H λx H1=>g x σ H1 D.nx
def qO {te:TE} {g:TG} (he:PE X e te) (hg:PG X tg g) (hs:swapsWithSole [tg] e pos.line X.env=pure false:=by rfl) (hw:swappedStores [tg] e X.env=pure none:=by rfl) (h1:(assignEach [tg] X.env).map (·.2)=[assign tg X.env]:=by rfl):PS X (.Assign [tg] e pos) (qW te g):=by intro ak s σ H D I h;refine wpAny_Assign_stores (bA (he ak s σ H _ I h) λv b ⟨x,H1,d,c,a⟩=>?_) hs hw;rw [h1];exact bA (hg ak b σ H1 x v _ d c a) λ_ i q=>q
def ao0 {te:TE} (hN:X.N.Nodup) (hi:X.N[i]?=some x) (hx:vP X.env.scope x) (he:PE X e te) (hs:swapsWith e (some (.Name x pos')) pos.line X.env=pure false:=by rfl) (hf:X.fn x=true\/X.env.scope.names.lookup x=some .local:=by first|exact .inl rfl|exact .inr rfl|assumption) : PS X (.Assign [.Name x pos'] e pos) (qW te (lK i)):=by intro ak s σ H D I h;refine wpAny_Assign_Name (bA (he ak s σ H _ I h) λv j ⟨y,H1,d,c,b⟩=>?_) hs;exact Jj d hN hi hx c (λg a=>⟨_,H1,a,b⟩) hf
def ard (i:Nat) (te:TE) (ti:Ad):TS:=λD σ H=>aei i σ H λx H=>te σ H λy H1=>ti x y H1 λz H2=>D.nx (σ.set i (some z)) H2
def Tz {te:TE} {op:Operator} {ti:Ad} (hN:X.N.Nodup) (hi:X.N[i]?=some x) (hx:vP X.env.scope x) (he:PE X e te) (ho:G4 X op ti) (hf:X.fn x=true\/X.env.scope.names.lookup x=some .local:=by first|exact .inl rfl|exact .inr rfl|assumption) : PS X (.AugAssign (.Name x pos') op e pos) (ard i te ti):=by
 rintro ak s σ H D I ⟨v,S,h⟩;obtain ⟨m,J,B⟩:=I.loc;have d:Mu X.env.scope x:=by rcases hx with k|k;exact .inl k;exact .inr (.inl k)
 obtain ⟨u,r,l⟩:=B i x v hi S d;refine wpAny_AugAssign_Name ?_;have g:wpAny (model X.prog X.w) X.A (eval e X.env) (λw U=>wpAny (model X.prog X.w) X.A (inplaceOp op u w) (λr n=>wpAny (model X.prog X.w) X.A (storeName X.env x r) (λ_=>SP X ak D .next) X.xe n) X.xe U) X.xe s:=by refine bA (he ak s σ H _ I h) λw L ⟨y,H1,t,p,q⟩=>?_;refine bA (ho ak L σ H1 v y u w _ t r p q) λz Y ⟨W,H2,j,o,M⟩=>?_;exact Jj j hN hi hx o (λV R=>⟨_,H2,R,M⟩) hf
 rcases l with ⟨a,C⟩|⟨a,c,O,b⟩
 ·exact wpAny_loadName_local I.ok.kind a J C g
 ·rcases a with a|a
  ·exact wpAny_loadName_cell I.ok.kind a O b g
  ·rcases hx with k|k
   ·have:X.env.scope.names.lookup x=some .free:=a;rw [k] at this;cases this
   ·have:X.env.scope.names.lookup x=some .free:=a;rw [k] at this;cases this
def ap7 (to ti te:TE) (Ly:V->V->Hp->VK->Prop) (Mz:Ad) (Lz:GD):TS:=λD σ H=>to σ H λo H1=>ti σ H1 λi H2=>Ly o i H2 λx d=>te σ d λy b=>Mz x y b λz a=>Lz o i z a λc=>D.nx σ c
def ael (X:Cx) (t:V->V->Hp->VK->Prop):Prop :=
 ∀ (ak:List (Addr×Obj)) (s:Shared) (σ:St) (H:Hp) (o i:V) (b a:Value) (Q:VK),aD X ak σ H s->cA o b->cA i a->t o i H Q ->
  wpAny (model X.prog X.w) X.A (getItem b a) (EP X ak σ Q) X.xe s
def amU {o i:Expr} {to ti te:TE} {Ly:V->V->Hp->VK->Prop} {Mz:Ad} {Lz:GD} {op:Operator} {tpos:Pos} (ho:PE X o to) (hi:PE X i ti) (hg:ael X Ly) (he:PE X e te) (hp:G4 X op Mz) (hs:Uv X Lz) (ha:∀ ov iv new,augStore i ov iv new=(do holding [new,ov,iv] (setItem ov iv new);release [new,ov,iv] [];pure .next):=by intros;rfl):PS X (.AugAssign (.Subscript o i tpos) op e pos) (ap7 to ti te Ly Mz Lz):=by intro ak s σ H D I h;refine wpAny_AugAssign_SubscriptAny (bA (ho ak s σ H _ I h) λov L ⟨d,H1,p,b,n⟩=>?_) ha;refine bA (hi ak L σ H1 _ p n) λiv J ⟨c,H2,g,a,M⟩=>?_;refine bA (hg ak J σ H2 d c ov iv _ g b a M) λold k ⟨x3,m,R,W,Y⟩=>?_;refine bA (he ak k σ m _ R Y) λv B ⟨S,u,C,O,N⟩=>?_;refine bA (hp ak B σ u x3 S old v _ C W O N) λnew z ⟨r,t,l,q,U⟩=>?_;exact bA (hs ak z σ t d c r ov iv new _ l b a q U) λ_ s6 ⟨y,x,j⟩=>⟨σ,y,x,j⟩
def ipI (f:Int->Int->Int):Ad:=λx y H Q=>∃ i j,x=.int i/\y=.int j/\Q (.int (f i j)) H
def ao1:G4 X .Add (ipI λi j=>i+j):=by rintro ak s σ H x y v u Q I b a ⟨i,j,d,c,q⟩;subst d;subst c;obtain ⟨t,rfl⟩:=b;obtain ⟨t',rfl⟩:=a;exact iadd_int ⟨.int _,H,I.tok _,⟨_,rfl⟩,q⟩
end
section
variable {X:Cx}
def adp (c:TT) (tb:TS):TS:=λD σ H=>∃ W:Nat->St->Hp->Prop,(∃ m,W m σ H)/\∀ m σ H,W m σ H ->
 c σ H λb H1=>if b=true then ∃ N:St->Hp->Prop,(∀ σ' H',N σ' H'->∃ a,a<m/\W a σ' H')/\tb { D with nx:=N,ct:=N,bk:=D.nx } σ H1 else D.nx σ H1
def QC {c:Expr} {tc:TT} {tb:TS} (hp:PassesOwn (model X.prog X.w) X.A X.env X.xe) (hc:PT X c tc) (hb:oF X body tb):PS X (.While c body [] pos) (adp tc tb):=by
 rintro ak s σ H D I ⟨W,⟨r,w0⟩,d⟩;refine wpAny_While (codeAny_whileLoop (λn s'=>∃ σ' H',aD X ak σ' H' s'/\W n σ' H') ?_ r ⟨σ,H,I,w0⟩);rintro n x ⟨σ1,H1,t,q⟩;refine zM hp (bA (hc ak x σ1 H1 _ t (d n σ1 H1 q)) λb u ⟨H2,o,e⟩=>?_);cases b with
 |true =>
  obtain ⟨N,p,e⟩:=e;rw [aQ rfl];refine zM hp (bA (hb ak u σ1 H2 _ o e) λf y g=>?_);cases f with
  |next =>obtain ⟨σ3,a,m,j⟩:=g;obtain ⟨l,i,k⟩:=p σ3 a j;exact ⟨l,i,σ3,a,m,k⟩
  |cont =>obtain ⟨σ3,a,m,j⟩:=g;obtain ⟨l,i,k⟩:=p σ3 a j;exact ⟨l,i,σ3,a,m,k⟩
  |brk=>exact g
  |ret v=>exact g
 |false =>rw [aK iQ];exact CN ⟨σ1,H2,o,e⟩
end
structure It where
 go:Nat->Hp->Prop
 oG:Nat->Hp->V->Hp->Prop
 stop:Nat->Hp->Prop
def n_ (X:Cx) (ak:List (Addr×Obj)) (H:Hp) (b:Addr):Prop :=
 H b=none/\b≠X.env.locals/\b∉X.fs/\(b∈X.ex\/X.s₀.heap.objs.size<=b)/\(∀ x c,X.env.cells.lookup x=some c->c≠b)/\∀ p∈X.pn++ak,p.1≠b
def aD.sW {X:Cx} {σ:St} {H H':Hp} (I:aD X ak σ H s) (hb:s.heap.objs.size<=b) (hn:H' b=none):n_ X ak H' b:=by
 refine ⟨hn,vB (mL I.lt hb),I.aq7 hb,.inr (gU I.sz hb),λx c e z=>?_,λp a z=>?_⟩
 ·obtain ⟨v,q⟩:=I.cell x c e;exact absurd (mL q.lt (by rw [z];exact hb)) (uf _)
 ·exact absurd (mL (cF (I.pin p a).1) (by rw [z];exact hb)) (uf _)
structure uq (P:Program) (w:World) (K:bG) (tg:Expr) (J:It) (fp:jk) (it:Addr) (tn:Nat->Heap->Prop):Prop where
 mem:it∈fp
 obj:∀ i h,tn i h->∀ b∈fp,∃ o,h.get? b=some o/\∀ v,o.data≠.cell v
 keep:∀ i h h',tn i h->(∀ b∈fp,∀ o,h.get? b=some o->h'.get? b=some o)->tn i h'
 item:∀ (X:Cx),X.prog=P->X.w=w->X.K=K->X.calm=true->∀ (i:Nat) (ak:List (Addr×Obj)) (s:Shared) (σ:St) (H:Hp) (E:lF),aD X ak σ H s->(∀ b∈fp,n_ X ak H b)->tn i s.heap->J.go i H ->
  wpAny (model P w) X.A (pyNext (.ref it)) (λr s1=>∃ u,r=some u /\
   wpAny (model P w) X.A (letOwnedTupleGo tg (.ref it) u) (λ_ s2=>∃ x H',aD X ak σ H' s2/\cA x u/\J.oG i H x H'/\tn (i+1) s2.heap/\∀ b∈fp,H' b=none) E s1) E s
 done:∀ (X:Cx),X.prog=P->X.w=w->X.K=K->X.calm=true->∀ (i:Nat) (ak:List (Addr×Obj)) (s:Shared) (σ:St) (H:Hp) (E:lF),aD X ak σ H s->(∀ b∈fp,n_ X ak H b)->tn i s.heap->J.stop i H ->
  wpAny (model P w) X.A (pyNext (.ref it)) (λr s1=>r=none/\aD X ak σ H s1) E s
 self:∀ (A:Around) (i:Nat) (s:Shared) (Q:lF) (E:lF),tn i s.heap->Q (.ref it) s->wpAny (model P w) A (pyIter (.ref it)) Q E s
abbrev TI:=St->Hp->(It->Hp->Prop)->Prop
def PIE (X:Cx) (ak:List (Addr×Obj)) (σ:St) (tg:Expr) (R:It->Hp->Prop) (itv:Value) (s2:Shared):Prop :=
 ∃ (it:Addr) (fp:jk) (a:Nat->Heap->Prop) (J:It) (H':Hp),itv=.ref it/\aD X ak σ H' s2/\uq X.prog X.w X.K tg J fp it a/\a 0 s2.heap/\(∀ b∈fp,n_ X ak H' b)/\R J H'
def PI (X:Cx) (tg jo:Expr) (wi:TI):Prop :=
 ∀ (ak:List (Addr×Obj)) (s:Shared) (σ:St) (H:Hp) (R:It->Hp->Prop),aD X ak σ H s->wi σ H R ->
  wpAny (model X.prog X.w) X.A (eval jo X.env) (λv a=>wpAny (model X.prog X.w) X.A (pyIter v) (PIE X ak σ tg R) X.xe a) X.xe s
def Gp {M:Model} {o:Obj} {n:String} {vs:h_} {Q:CT} (ho:s.heap.get? it=some o) (hc:o.cls=.type n) (hd:o.data=.fields vs) (hn:["enumerate","zip","dict_itemiterator","dict_reverseitemiterator","odict_iterator","itertools.zip_longest","itertools.pairwise"].contains n=false) (hQ:Q () s):wpAny M A (letOwnedTupleGo tg (.ref it) u) Q E s:=by
 unfold letOwnedTupleGo;cases tg<;>first
  |exact cY hQ
  |(cases u<;>first
    |exact cY hQ
    |(refine bf (wpAny_load ho ?_)
      rw [hc,hd];show wpAny M A (if (["enumerate","zip","dict_itemiterator","dict_reverseitemiterator","odict_iterator","itertools.zip_longest","itertools.pairwise"].contains n && vs[0]? == some (rawInt _))=true then _ else _) Q E s;rw [aK (by intro h;rw [hn,Bool.false_and] at h;cases h)];exact cY hQ))
def yC (K:bG) (a:Addr):It :=
 ⟨λi H=>∃ xs x,dH K H a xs/\xs[i]?=some x,λi H x H'=>H'=H/\∀ xs,dH K H a xs->xs[i]?=some x,λi H=>∃ xs,dH K H a xs/\xs.length<=i⟩
def yD (K:bG) (a:Addr):It :=
 ⟨λi H=>∃ xs x,gG K H a xs/\xs[i]?=some x,λi H x H'=>H'=H/\∀ xs,gG K H a xs->xs[i]?=some x,λi H=>∃ xs,gG K H a xs/\xs.length<=i⟩
def uN (lo:Int) (n:Nat):It:=⟨λi _=>i<n,λi H x H'=>H'=H/\x=.int (lo+i),λi _=>n<=i⟩
def aiA (a it:Addr):uq P w K tg (yC K a) [it] it (λi h=>h.IsListIter it a i) where
 mem:=by simp
 obj:=λi h st b g=>by
  have e:b=it:=by simpa using g
  subst e;obtain ⟨o,e,c,d⟩:=st;exact ⟨o,e,λv z=>by rw [d] at z;cases z⟩
 keep:=λi h h' st k=>st.at λo e=>k it (by simp) o e
 item:=by intro X m r hK L i ak s σ H E I j st C;subst m r hK;obtain ⟨xs,x,l,D⟩:=C;obtain ⟨aJ,y,p,W⟩:=I.list l;obtain ⟨u,O,R⟩:=y.get D;obtain ⟨f0,t,M,q,n,B⟩:=j it (by simp);refine S7 st p.isList (x:=u) (by simpa using O) λh' J N=>?_;have S:aD X ak σ H { s with heap:=h' }:=I.turned (t':=s.toks) (λb o g e=>(N.2 b g).trans e) f0 t q n B;obtain ⟨o,e,c,d⟩:=id J;exact ⟨u,rfl,Gp (s:={ s with heap:=h' }) e c d (by decide) ⟨x,H,S,R,⟨rfl,λys U=>by rw [I.Et U l];exact D⟩,J,λb g=>(j b g).1⟩⟩
 done:=by intro X m r hK L i ak s σ H E I j st C;subst m r hK;obtain ⟨xs,l,D⟩:=C;obtain ⟨aJ,y,p,W⟩:=I.list l;obtain ⟨f0,t,M,q,n,B⟩:=j it (by simp);have Y:=y.length;exact S8 (I.ok.hd L) st p.isList (by simp;lk) λh' V=>⟨rfl,I.turned (t':=s.toks) (λb o g e=>V b o g e) f0 t q n B⟩
 self:=λ_ _ _ _ _ st h=>wpAny_pyIter_listiter st h
def ahg (a it:Addr):uq P w K tg (yD K a) [it] it (λi h=>h.IsTupleIter it a i) where
 mem:=by simp
 obj:=λi h st b g=>by
  have e:b=it:=by simpa using g
  subst e;obtain ⟨o,e,c,d⟩:=st;exact ⟨o,e,λv z=>by rw [d] at z;cases z⟩
 keep:=λi h h' st k=>st.at λo e=>k it (by simp) o e
 item:=by intro X m r hK L i ak s σ H E I j st C;subst m r hK;obtain ⟨xs,x,l,D⟩:=C;obtain ⟨aJ,y,p,W⟩:=I.tuple l;obtain ⟨u,O,R⟩:=y.get D;obtain ⟨f0,t,M,q,n,B⟩:=j it (by simp);refine wpAny_pyNext_tuple_item st (show s.heap.IsTuple a aJ.toArray from p) (x:=u) (by simpa using O) λh' J N=>?_;have S:aD X ak σ H { s with heap:=h' }:=I.turned (t':=s.toks) (λb o g e=>(N.2 b g).trans e) f0 t q n B;obtain ⟨o,e,c,d⟩:=id J;exact ⟨u,rfl,Gp (s:={ s with heap:=h' }) e c d (by decide) ⟨x,H,S,R,⟨rfl,λys U=>by rw [I.P0 U l];exact D⟩,J,λb g=>(j b g).1⟩⟩
 done:=by intro X m r hK L i ak s σ H E I j st C;subst m r hK;obtain ⟨xs,l,D⟩:=C;obtain ⟨aJ,y,p,W⟩:=I.tuple l;obtain ⟨f0,t,M,q,n,B⟩:=j it (by simp);have Y:=y.length;exact wpAny_pyNext_tuple_end (I.ok.hd L) st (show s.heap.IsTuple a aJ.toArray from p) (by simp;lk) λh' V=>⟨rfl,I.turned (t':=s.toks) (λb o g e=>V b o g e) f0 t q n B⟩
 self:=λ_ _ _ _ _ st h=>wpAny_pyIter_tupleiter st h
def ahh (it:Addr) (lo:Int) (n:Nat):uq P w K tg (uN lo n) [it] it (λi h=>IsRangeIter h it (lo+(i:Nat)*1) ((n:Int)-(i:Nat)) 1) where
 mem:=by simp
 obj:=λi h st b a=>by
  have e:b=it:=by simpa using a
  subst e;exact ⟨_,st,λv z=>by have D:Data.fields _=Data.cell v:=z;cases D⟩
 keep:=λi h h' st k=>k it (by simp) _ st
 item:=by intro X d m hK j i ak s σ H E I c st r;subst d m hK;obtain ⟨f0,p,y,l,g,q⟩:=c it (by simp);have W:=Walks.range (prog:=X.prog) (w:=X.w) (I.ok.hd j) it lo 1 n;refine W.item i s _ _ r st λv h' x B u kk=>?_;obtain ⟨t,rfl⟩:=B;have C:aD X ak σ H { s with heap:=h',toks:=x }:=I.turned (λb o a e=>kk b o (by simpa using a) e) f0 p l g q;refine ⟨_,rfl,Gp (s:={ s with heap:=h',toks:=x }) (n:="range_iterator") u rfl rfl (by decide) ⟨.int (lo+i),H,C,⟨t,?_⟩,⟨rfl,rfl⟩,u,λb a=>(c b a).1⟩⟩;rw [S9]
 done:=by intro X d m hK j i ak s σ H E I c st r;subst d m hK;obtain ⟨f0,p,y,l,g,q⟩:=c it (by simp);exact wpAny_pyNext_range_end (I.ok.hd j) st (by have:n<=i:=r;lk) λh' J=>⟨rfl,I.turned (t':=s.toks) (λb o a e=>J b o a e) f0 p l g q⟩
 self:=λ_ _ _ _ _ st h=>wpAny_pyIter_rangeiter st h
section
variable {X:Cx}
def ap8 (K:bG) (tl:TE):TI:=λσ H R=>tl σ H λx H1=>∃ a,x=.ref a/\(∃ xs,dH K H1 a xs)/\R (yC K a) H1
def arf (K:bG) (tl:TE):TI:=λσ H R=>tl σ H λx H1=>∃ a,x=.ref a/\(∃ xs,gG K H1 a xs)/\R (yD K a) H1
def jZ {l:Expr} {tl:TE} (hl:PE X l tl):PI X tg l (ap8 X.K tl):=by
 intro ak s σ H R I h;refine bA (hl ak s σ H _ I h) λv d ⟨x,H1,c,g,j⟩=>?_;obtain ⟨a,e,⟨xs,k⟩,q⟩:=j;subst e;cases g;obtain ⟨aJ,n,p,m⟩:=c.list k;refine FZ p.isList ⟨d.heap.objs.size,[d.heap.objs.size],_,_,H1,rfl,c.kept (t':=d.toks) λb o e=>dF _ e,aiA a _,⟨_,fU _ rfl,rfl,rfl⟩,λb i=>?_,q⟩;have e:b=d.heap.objs.size:=by simpa using i
 subst e;exact c.sW (bI _) (c.hok.fresh (bI _))
def vJ {l:Expr} {tl:TE} (hl:PE X l tl):PI X tg l (arf X.K tl):=by
 intro ak s σ H R I h;refine bA (hl ak s σ H _ I h) λv c ⟨x,H1,d,g,j⟩=>?_;obtain ⟨a,e,⟨xs,k⟩,q⟩:=j;subst e;cases g;obtain ⟨aJ,n,p,m⟩:=d.tuple k;refine K1 (show c.heap.IsTuple a aJ.toArray from p) ⟨c.heap.objs.size,[c.heap.objs.size],_,_,H1,rfl,d.kept (t':=c.toks) λb o e=>dF _ e,ahg a _,⟨_,fU _ rfl,rfl,rfl⟩,λb i=>?_,q⟩;have e:b=c.heap.objs.size:=by simpa using i
 subst e;exact d.sW (bI _) (d.hok.fresh (bI _))
def abb {σ:St} {H:Hp} {R:It->Hp->Prop} {hi:Int} {t u v:Tok} {tk:Nat} (I:aD X ak σ H s) (h1:-(2 ^ 62)<=lo) (h2:lo<2 ^ 62) (h3:-(2 ^ 62)<=hi) (h4:hi<2 ^ 62) (q:R (uN lo (hi-lo).toNat) H):wpAny (model X.prog X.w) X.A (pyIter (.ref s.heap.objs.size)) (PIE X ak σ tg R) E { s with heap:=s.heap.push { cls:=.type "range",data:=.fields #[.int lo t,.int hi u,.int 1 v] },toks:=tk }:=by
 refine wpAny_pyIter_range (IsRange.new ..) (small_one h1 h2 h3 h4) ?_;have a:aD X ak σ H { s with heap:=s.heap.push { cls:=.type "range",data:=.fields #[.int lo t,.int hi u,.int 1 v] },toks:=tk }:=I.kept λb o e=>dF _ e;refine ⟨(s.heap.push { cls:=.type "range",data:=.fields #[.int lo t,.int hi u,.int 1 v] }).objs.size,[(s.heap.push { cls:=.type "range",data:=.fields #[.int lo t,.int hi u,.int 1 v] }).objs.size],_,_,H,rfl,a.kept (t':=tk) λb o e=>dF _ e,ahh _ lo (hi-lo).toNat,?_,λb g=>?_,q⟩
 ·have c:lo+((0:Nat):Int)*1=lo:=by simp
  have d:(((hi-lo).toNat:Nat):Int)-((0:Nat):Int)=rangeSize lo hi 1:=by rw [rangeSize_one];split<;>lk
  show IsRangeIter _ _ (lo+((0:Nat):Int)*1) ((((hi-lo).toNat:Nat):Int)-((0:Nat):Int)) 1;rw [c,d];exact fU _ rfl
 ·have e:b=(s.heap.push { cls:=.type "range",data:=.fields #[.int lo t,.int hi u,.int 1 v] }).objs.size:=by simpa using g
  subst e;exact a.sW (bI _) (a.hok.fresh (bI _))
def ap9 (ta:TA):TI:=λσ H R=>ta σ H λvs H1=>∃ j:Int,vs=[.int j]/\-(2 ^ 62)<=j/\j<2 ^ 62/\R (uN 0 j.toNat) H1
def ap_ (ta:TA):TI:=λσ H R=>ta σ H λvs H1=>∃ i j:Int,vs=[.int i,.int j]/\(-(2 ^ 62)<=i/\i<2 ^ 62/\-(2 ^ 62)<=j/\j<2 ^ 62)/\R (uN i (j-i).toNat) H1
def qt {a:Expr} {ta:TA} {p:Pos} (hg:Gl X "range") (hm:X.mg "range"=none) (ha:PA X [a] ta) (hs:starEach [a] X.env=[(false,eval a X.env)]:=by rfl):PI X tg (.Call (.Name "range" p) [a] [] pos) (ap9 ta):=by
 intro ak s σ H R I h;refine Call_ (qK I hg hm boot_range (xR (bA (ha pos ak s σ H _ I h) λus k ⟨vs,H1,g,d,b⟩=>?_) hs rfl));obtain ⟨j,e,b,i,q⟩:=b;subst e;cases d with
 |cons r c =>cases c;obtain ⟨t,rfl⟩:=r;exact call_range_1 (abb g (by lk) (by lk) b i (by simpa using q))
def aaw {a b:Expr} {ta:TA} {p:Pos} (hg:Gl X "range") (hm:X.mg "range"=none) (ha:PA X [a,b] ta) (hs:starEach [a,b] X.env=[(false,eval a X.env),(false,eval b X.env)]:=by rfl) (hs2:starEach [b] X.env=[(false,eval b X.env)]:=by rfl) : PI X tg (.Call (.Name "range" p) [a,b] [] pos) (ap_ ta):=by
 intro ak s σ H R I h;refine Call_ (qK I hg hm boot_range (xR (bA (ha pos ak s σ H _ I h) λus u ⟨vs,H1,k,g,d⟩=>?_) (by rw [hs,hs2]) (by rw [hs2];rfl)));obtain ⟨i,j,e,⟨d,l,o,m⟩,q⟩:=d;subst e;cases g with
 |cons r c =>
  cases c with
  |cons n c =>cases c;obtain ⟨t,rfl⟩:=r;obtain ⟨t',rfl⟩:=n;exact call_range_2 (abb k d l o m q)
def arh (wi:TI) (g:TG) (tb:TS):TS:=λD σ H=>wi σ H λJ H1=>∃ W:Nat->Nat->St->Hp->Prop,(∃ m,W 0 m σ H1)/\∀ i m σ H,W i m σ H ->
 (J.stop i H/\D.nx σ H)\/(J.go i H/\∃ N:St->Hp->Prop,(∀ σ' H',N σ' H'->∃ a,a<m/\W (i+1) a σ' H')/\∀ x H',J.oG i H x H'->g x σ H' λσ2 H2=>tb { D with nx:=N,ct:=N,bk:=D.nx } σ2 H2)
def CV (fp:jk) (h:Heap):List (Addr×Obj):=fp.filterMap λb=>(h.get? b).map λo=>(b,o)
def Iu {o:Obj} (hb:b∈fp) (e:h.get? b=some o):(b,o)∈CV fp h:=S_.mpr ⟨b,hb,by rw [e];rfl⟩
def aiB {p:Addr×Obj} (hp:p∈CV fp h):p.1∈fp/\h.get? p.1=some p.2:=by
 obtain ⟨b,c,e⟩:=S_.mp hp;cases q:h.get? b with
 |none=>rw [q] at e;cases e
 |some o =>rw [q] at e;have a:(b,o)=p:=iB e;subst a;exact ⟨c,q⟩
def aD.pinned {σ:St} {H:Hp} (I:aD X ak σ H s) (hf:∀ b∈fp,n_ X ak H b) (ho:∀ b∈fp,∃ o,s.heap.get? b=some o/\∀ v,o.data≠.cell v):aD X (ak++CV fp s.heap) σ H s:=I.acj λp j=>(nM.mp j).elim (λz=>I.pin p (pN _ z)) λz=>by obtain ⟨c,e⟩:=aiB z;obtain ⟨f0,i,g,_⟩:=hf p.1 c;obtain ⟨o,a,d⟩:=ho p.1 c;rw [e] at a;cases a;exact ⟨e,f0,i,g,d⟩
def aD.Eu {pl:List (Addr×Obj)} {σ:St} {H:Hp} (I:aD X (ak++pl) σ H s):aD X ak σ H s:=I.acj λp a=>I.pin p (pN _ (S5 _ a))
def jx {jo:Expr} {wi:TI} {g:TG} {tb:TS} (hp:PassesOwn (model X.prog X.w) X.A X.env X.xe) (hc:X.calm=true) (hi:PI X tg jo wi) (hg:PG X tg g) (hb:oF X body tb) (hs:∀ x,foldedSetIterable jo X.env x=pure x:=by intro _;rfl):PS X (.For tg jo body [] pos) (arh wi g tb):=by
 intro ak s σ H D I h;refine wpAny_For (bA (hi ak s σ H _ I h) λv s1 h1=>bA h1 λitv s2 h2=>?_) hs;obtain ⟨it,fp,V,J,H2,e,I2,T,B,f2,W,⟨m0,w0⟩,p⟩:=h2;subst e
 -- what stays true of the iterator's objects through the loop
 have k:∀ {H':Hp},(∀ b∈fp,H' b=none)->∀ b∈fp,n_ X ak H' b:=λhn b hb=>⟨hn b hb,(f2 b hb).2⟩;refine codeAny_forLoop_any (λn s'=>∃ i σ' H',aD X ak σ' H' s'/\V i s'.heap/\(∀ b∈fp,H' b=none)/\W i n σ' H') ?_ m0 ⟨0,σ,H2,I2,B,λb hb=>(f2 b hb).1,w0⟩;rintro n s3 ⟨i,σ3,z,U,y,Y,w3⟩;rcases p i n σ3 z w3 with ⟨q,qn⟩|⟨go,N,hN,step⟩
 ·refine zM hp (bA (T.done X rfl rfl rfl hc i ak s3 σ3 z X.xe U (k Y) y q) λr s4 ⟨hr,I4⟩=>?_);subst hr;exact CN ⟨σ3,z,I4,qn⟩
 ·refine zM hp (bA (T.item X rfl rfl rfl hc i ak s3 σ3 z X.xe U (k Y) y go) λr s4 ⟨u,hr,h4⟩=>?_);subst hr;refine zM hp (bA h4 λ_ S ⟨x,R,I5,r5,y5,O,C⟩=>?_);have M:=I5.pinned (k C) (T.obj _ _ O);refine zM hp (bA (hg _ S σ3 R x u _ M r5 (step x R y5)) λ_ s6 ⟨σ6,H6,I6,q6⟩=>zM hp (bA (hb _ s6 σ6 H6 _ I6 q6) λf L l=>?_));have c:∀ {σ7:St} {a:Hp},aD X (ak++CV fp S.heap) σ7 a L->N σ7 a->∃ m,m<n/\∃ i σ' H',aD X ak σ' H' L/\V i L.heap/\(∀ b∈fp,H' b=none)/\W i m σ' H':=λ{σ7 a} j t=>by obtain ⟨m',hm,w7⟩:=hN σ7 a t;refine ⟨m',hm,i+1,σ7,a,j.Eu,T.keep _ _ _ O λb hb o e=>(j.pin (b,o) (pN _ (pN _ (Iu hb e)))).1,λb hb=>?_,w7⟩;obtain ⟨o,e,d⟩:=T.obj _ _ O b hb;exact (j.pin (b,o) (pN _ (pN _ (Iu hb e)))).2.1
  cases f with
  |next=>obtain ⟨σ7,a,j,t⟩:=l;exact c j t
  |cont=>obtain ⟨σ7,a,j,t⟩:=l;exact c j t
  |brk=>obtain ⟨σ7,a,j,l⟩:=l;exact ⟨σ7,a,j.Eu,l⟩
  |ret v=>obtain ⟨x7,σ7,a,j,r7,l⟩:=l;exact ⟨x7,σ7,a,j.Eu,r7,l⟩
end
def uY {xs:aA} {g:TG} {tb:TS} {D:qJ} {σ:St} {H:Hp} (Pv:Nat->St->Hp->Prop) (h0:Pv 0 σ H) (hl:∀ i σ H,i<=xs.length->Pv i σ H->dH K H a xs) (hs:∀ i x σ H,xs[i]?=some x->Pv i σ H->g x σ H λσ2 H2=>tb { D with nx:=Pv (i+1),ct:=Pv (i+1),bk:=D.nx } σ2 H2) (hd:∀ σ H,Pv xs.length σ H->D.nx σ H) : ∃ W:Nat->Nat->St->Hp->Prop,(∃ m,W 0 m σ H)/\∀ i m σ H,W i m σ H ->((yC K a).stop i H/\D.nx σ H)\/((yC K a).go i H/\∃ N:St->Hp->Prop,(∀ σ' H',N σ' H'->∃ m',m'<m/\W (i+1) m' σ' H')/\∀ x H',(yC K a).oG i H x H'->g x σ H' λσ2 H2=>tb { D with nx:=N,ct:=N,bk:=D.nx } σ2 H2):=by
 refine ⟨λi m σ H=>m=xs.length-i/\i<=xs.length/\Pv i σ H,⟨xs.length,by simp,fQ _,h0⟩,?_⟩;rintro i m σ H ⟨rfl,hi,p⟩;have q:=hl i σ H hi p;by_cases b:i<xs.length
 ·refine .inr ⟨⟨xs,xs[i],q,by simp [b]⟩,Pv (i+1),λσ' H' c=>⟨xs.length-(i+1),by lk, rfl,b,c⟩,λx H' y=>?_⟩;obtain ⟨e,y⟩:=y;subst e;exact hs i x σ _ (y xs q) p
 ·have e:i=xs.length:=by lk
  subst e;exact .inl ⟨⟨xs,q,bI _⟩,hd σ H p⟩
def acn {xs:aA} {g:TG} {tb:TS} {D:qJ} {σ:St} {H:Hp} (Pv:Nat->St->Hp->Prop) (h0:Pv 0 σ H) (hl:∀ i σ H,i<=xs.length->Pv i σ H->gG K H a xs) (hs:∀ i x σ H,xs[i]?=some x->Pv i σ H->g x σ H λσ2 H2=>tb { D with nx:=Pv (i+1),ct:=Pv (i+1),bk:=D.nx } σ2 H2) (hd:∀ σ H,Pv xs.length σ H->D.nx σ H) : ∃ W:Nat->Nat->St->Hp->Prop,(∃ m,W 0 m σ H)/\∀ i m σ H,W i m σ H ->((yD K a).stop i H/\D.nx σ H)\/((yD K a).go i H/\∃ N:St->Hp->Prop,(∀ σ' H',N σ' H'->∃ m',m'<m/\W (i+1) m' σ' H')/\∀ x H',(yD K a).oG i H x H'->g x σ H' λσ2 H2=>tb { D with nx:=N,ct:=N,bk:=D.nx } σ2 H2):=by
 refine ⟨λi m σ H=>m=xs.length-i/\i<=xs.length/\Pv i σ H,⟨xs.length,by simp,fQ _,h0⟩,?_⟩;rintro i m σ H ⟨rfl,hi,p⟩;have q:=hl i σ H hi p;by_cases b:i<xs.length
 ·refine .inr ⟨⟨xs,xs[i],q,by simp [b]⟩,Pv (i+1),λσ' H' c=>⟨xs.length-(i+1),by lk, rfl,b,c⟩,λx H' y=>?_⟩;obtain ⟨e,y⟩:=y;subst e;exact hs i x σ _ (y xs q) p
 ·have e:i=xs.length:=by lk
  subst e;exact .inl ⟨⟨xs,q,bI _⟩,hd σ H p⟩
def IK {g:TG} {tb:TS} {D:qJ} {σ:St} {H:Hp} (Pv:Nat->St->Hp->Prop) (h0:Pv 0 σ H) (hs:∀ i σ H,i<n->Pv i σ H->g (.int (lo+i)) σ H λσ2 H2=>tb { D with nx:=Pv (i+1),ct:=Pv (i+1),bk:=D.nx } σ2 H2) (hd:∀ σ H,Pv n σ H->D.nx σ H) : ∃ W:Nat->Nat->St->Hp->Prop,(∃ m,W 0 m σ H)/\∀ i m σ H,W i m σ H ->((uN lo n).stop i H/\D.nx σ H)\/((uN lo n).go i H/\∃ N:St->Hp->Prop,(∀ σ' H',N σ' H'->∃ m',m'<m/\W (i+1) m' σ' H')/\∀ x H',(uN lo n).oG i H x H'->g x σ H' λσ2 H2=>tb { D with nx:=N,ct:=N,bk:=D.nx } σ2 H2):=by
 refine ⟨λi m σ H=>m=n-i/\i<=n/\Pv i σ H,⟨n,by simp,fQ _,h0⟩,?_⟩;rintro i m σ H ⟨rfl,hi,p⟩;by_cases a:i<n
 ·refine .inr ⟨a,Pv (i+1),λσ' H' b=>⟨n-(i+1),by lk, rfl,a,b⟩,λx H' y=>?_⟩;obtain ⟨e,y⟩:=y;subst e y;exact hs i σ _ a p
 ·have e:i=n:=by lk
  subst e;exact .inl ⟨bI _,hd σ H p⟩
abbrev R2:=V->V->Hp->VK->Prop
def dO (X:Cx) (f:Value->Value->Sem Value) (r:R2):Prop :=
 ∀ (ak:List (Addr×Obj)) (s:Shared) (σ:St) (H:Hp) (x y:V) (v u:Value) (Q:VK),aD X ak σ H s->cA x v->cA y u->r x y H Q ->
  wpAny (model X.prog X.w) X.A (f v u) (EP X ak σ Q) X.xe s
def Vc (X:Cx) (f:Value->Sem Value) (r:V->Hp->VK->Prop):Prop :=
 ∀ (ak:List (Addr×Obj)) (s:Shared) (σ:St) (H:Hp) (x:V) (v:Value) (Q:VK),aD X ak σ H s->cA x v->r x H Q ->
  wpAny (model X.prog X.w) X.A (f v) (EP X ak σ Q) X.xe s
def jz (X:Cx) (f:Value) (r:aA->Hp->VK->Prop):Prop :=
 ∀ (ak:List (Addr×Obj)) (s:Shared) (σ:St) (H:Hp) (xs:aA) (us:bV) (Q:VK),aD X ak σ H s->bO xs us->r xs H Q ->
  wpAny (model X.prog X.w) X.A (call f us) (EP X ak σ Q) X.xe s
def ari (X:Cx) (r:V->Hp->(Bool->Hp->Prop)->Prop):Prop :=
 ∀ (ak:List (Addr×Obj)) (s:Shared) (σ:St) (H:Hp) (x:V) (v:Value) (Q:Bool->Hp->Prop),aD X ak σ H s->cA x v->r x H Q ->
  wpAny (model X.prog X.w) X.A (truthy v) (TP X ak σ Q) X.xe s
def lO (r:R2) (ta tb:TE):TE:=λσ H Q=>ta σ H λx H1=>tb σ H1 λy H2=>r x y H2 Q
def tUn (r:V->Hp->VK->Prop) (ta:TE):TE:=λσ H Q=>ta σ H λx H1=>r x H1 Q
inductive RIP (C:Int->Int->Prop) (g:Int->Int->V) (x:V) (y:V) (H:Hp) (Q:VK):Prop
 |mk (i:_) (j:_) (h1:x=.int i) (h2:y=.int j) (h3:C i j) (h4:Q (g i j) H)
def rI (C:Int->Int->Prop) (g:Int->Int->V):R2:=λx y H Q=>RIP C g x y H Q
inductive arj (g:Int->Int->V) (x:V) (y:V) (H:Hp) (Q:VK):Prop
 |mk (i:_) (j:_) (h1:x=.int i) (h2:y=.int j) (h3:Q (g i j) H)
def uO (g:Int->Int->V):R2:=λx y H Q=>arj g x y H Q
inductive RUP (g:Int->V) (x:V) (H:Hp) (Q:VK):Prop
 |mk (i:_) (h1:x=.int i) (h2:Q (g i) H)
def rU (g:Int->V):V->Hp->VK->Prop:=λx H Q=>RUP g x H Q
section
variable {X:Cx} {a b c:Expr} {ta tb tc:TE}
def Uw (ha:PE X a ta) (hb:PE X b tb) {σ:St} {H:Hp} {R:V->V->Hp->Prop} (I:aD X ak σ H s) (h:ta σ H λx H1=>tb σ H1 λy H2=>R x y H2) {f:Value->Value->Sem Value} (hf:∀ v u s2 x y H2,aD X ak σ H2 s2->cA x v->cA y u->R x y H2->wpAny (model X.prog X.w) X.A (f v u) Q X.xe s2) : wpAny (model X.prog X.w) X.A (eval a X.env) (λv s₁=>wpAny (model X.prog X.w) X.A (eval b X.env) (λu s₂=>wpAny (model X.prog X.w) X.A (f v u) Q X.xe s₂) X.xe s₁) X.xe s:=by exact bA (ha ak s σ H _ I h) λv e ⟨x,H1,k,j,d⟩=>bA (hb ak e σ H1 _ k d) λu s2 ⟨y,H2,c,g,i⟩=>hf v u s2 x y H2 c j g i
def bD {op:Operator} {r:R2} (ho:dO X (binaryOp op) r) (ha:PE X a ta) (hb:PE X b tb):PE X (.BinOp a op b pos) (lO r ta tb):=by intro ak s σ H Q I h;exact wpAny_BinOp (Uw ha hb I h λv u c x y H2 d e g q=>ho ak c σ H2 x y v u Q d e g q)
def adZ {op:UnaryOp} {r:V->Hp->VK->Prop} (ho:Vc X (unaryOp op) r) (ha:PE X a ta):PE X (.UnaryOp op a pos) (tUn r ta):=by intro ak s σ H Q I h;exact UnaryOp_ (bA (ha ak s σ H _ I h) λv c ⟨x,H1,e,d,b⟩=>ho ak c σ H1 x v Q e d b)
def DQ {f:Value->Value->Sem Value} {C:Int->Int->Prop} {g:Int->Int->Int} (rule:∀ (i j:Int) (t u:Tok) (s:Shared) (Q:lF) (E:lF),C i j->Q (.int (g i j) s.toks) { s with toks:=s.toks+1 }->wpAny (model X.prog X.w) X.A (f (.int i t) (.int j u)) Q E s) : dO X f (rI C λi j=>.int (g i j)):=by rintro ak s σ H x y v u Q I a b ⟨i,j,rfl,rfl,c,q⟩;obtain ⟨t,rfl⟩:=a;obtain ⟨t',rfl⟩:=b;exact rule i j t t' s _ _ c ⟨.int (g i j),H,I.tok _,⟨_,rfl⟩,q⟩
def aem {f:Value->Value->Sem Value} {g:Int->Int->Int} (rule:∀ (i j:Int) (t u:Tok) (s:Shared) (Q:lF) (E:lF),Q (.int (g i j) s.toks) { s with toks:=s.toks+1 }->wpAny (model X.prog X.w) X.A (f (.int i t) (.int j u)) Q E s) : dO X f (uO λi j=>.int (g i j)):=by rintro ak s σ H x y v u Q I a b ⟨i,j,rfl,rfl,q⟩;obtain ⟨t,rfl⟩:=a;obtain ⟨t',rfl⟩:=b;exact rule i j t t' s _ _ ⟨.int (g i j),H,I.tok _,⟨_,rfl⟩,q⟩
def LC {f:Value->Value->Sem Value} {g:Int->Int->Bool} (rule:∀ (i j:Int) (t u:Tok) (s:Shared) (Q:lF) (E:lF),Q (.bool (g i j)) s->wpAny (model X.prog X.w) X.A (f (.int i t) (.int j u)) Q E s) : dO X f (uO λi j=>.bl (g i j)):=by rintro ak s σ H x y v u Q I a b ⟨i,j,rfl,rfl,q⟩;obtain ⟨t,rfl⟩:=a;obtain ⟨t',rfl⟩:=b;exact rule i j t t' s _ _ ⟨.bl (g i j),H,I,rfl,q⟩
def Ux (i j:Int):Prop:=0<j/\j<1073741824
def aen (i j:Int):Prop:=0<=j/\j<=1000000/\i.natAbs<2 ^ 64
def Dq (i j:Int):Prop:=(-(2 ^ 64)<i/\i<2 ^ 64)\/(-(2 ^ 64)<j/\j<2 ^ 64)
def Dq.ok {i j:Int} (h:Dq i j):IntMulOk i j:=by
 rcases h with ⟨h1,h2⟩|⟨h1,h2⟩
 ·exact .of_left (intBits_le_64 h1 h2)
 ·exact .of_right (intBits_le_64 h1 h2)
def jQ:dO X (binaryOp .Add) (uO λi j=>.int (i+j)):=aem λ_ _ _ _ _ _ _ q=>add_int q
def qP:dO X (binaryOp .Sub) (uO λi j=>.int (i-j)):=aem λ_ _ _ _ _ _ _ q=>sub_int q
def pP:dO X (binaryOp .Mult) (rI Dq λi j=>.int (i*j)):=DQ λ_ _ _ _ _ _ _ a q=>mul_int q a.ok
def xK:dO X (binaryOp .FloorDiv) (rI Ux λi j=>.int (i / j)):=DQ λi j _ _ _ _ _ a q=>by have h1:(0:Int)<j:=a.1;have h2:j<1073741824:=a.2;exact floordiv_int (by lk) (by rw [Tc i (by lk)];exact q) (.inl (adk (by lk)))
def nU:dO X (binaryOp .Mod) (rI (λ_ j=>0<j) λi j=>.int (i % j)):=DQ λi j _ _ _ _ _ a q=>by have h1:(0:Int)<j:=a;exact mod_int' (by lk) (by rw [Int.fmod_eq_emod_of_nonneg i (by lk)];exact q)
def adq:dO X (binaryOp .Pow) (rI aen λi j=>.int (i ^ j.toNat)):=DQ λ_ _ _ _ _ _ _ a q=>pow_int_small a.1 a.2.1 a.2.2 q
def akH:dO X (inplaceOp .FloorDiv) (rI Ux λi j=>.int (i / j)):=DQ λi j _ _ _ _ _ a q=>by have h1:(0:Int)<j:=a.1;have h2:j<1073741824:=a.2;exact ifloordiv_int (by lk) (by rw [Tc i (by lk)];exact q) (.inl (adk (by lk)))
def unI {f:Value->Sem Value} {g:Int->Int} (rule:∀ (i:Int) (t:Tok) (s:Shared) (Q:lF) (E:lF),Q (.int (g i) s.toks) { s with toks:=s.toks+1 }->wpAny (model X.prog X.w) X.A (f (.int i t)) Q E s) : Vc X f (rU λi=>.int (g i)):=by rintro ak s σ H x v Q I a ⟨i,rfl,q⟩;obtain ⟨t,rfl⟩:=a;exact rule i t s _ _ ⟨.int (g i),H,I.tok _,⟨_,rfl⟩,q⟩
def adt:Vc X (unaryOp .USub) (rU λi=>.int (-i)):=unI λ_ _ _ _ _ q=>neg_int q
end
def aeo:V->V->Bool
 |.non,.non=>true|.non,.int _=>true|.int _,.non=>true|.non,.bl _=>true|.bl _,.non=>true|.non,.str _=>true|.str _,.non=>true
 |.int _,.int _=>true|.bl _,.bl _=>true|.str _,.str _=>true|.pG _,.pG _=>true
 |.int _,.str _=>true|.str _,.int _=>true|.bl _,.str _=>true|.str _,.bl _=>true
 |_,_=>false
inductive aep (x:V) (y:V) (H:Hp) (Q:VK):Prop
 |mk  (h1:aeo x y=true) (h2:Q (.bl (decide (x=y))) H)
def rEq:R2:=λx y H Q=>aep  x y H Q
inductive aer (x:V) (y:V) (H:Hp) (Q:VK):Prop
 |mk  (h1:aeo x y=true) (h2:Q (.bl (!decide (x=y))) H)
def rNe:R2:=λx y H Q=>aer  x y H Q
def aco {i j:Int}:decide (V.int i=V.int j)=(i == j):=by rw [ug];simp
def adu {i j:Bool}:decide (V.bl i=V.bl j)=(i == j):=by rw [ug];simp
def acp {i j:Str}:decide (V.str i=V.str j)=(i == j):=by rw [ug];simp
def acq {i j:Array UInt8}:decide (V.pG i=V.pG j)=(i.toList == j.toList):=by rw [ug];cases i;cases j;simp
section
variable {X:Cx} {a b c:Expr} {ta tb tc:TE}
def gC {σ:St} {H:Hp} {Q:VK} {k k':Bool} (I:aD X ak σ H s) (q:Q (.bl k) H) (e:k=k'):EP X ak σ Q (.bool k') s:=by subst e;exact ⟨.bl k,H,I,rfl,q⟩
def iU:dO X (compareOp .Eq) rEq:=by
 rintro ak s σ H x y v u Q I c a ⟨b,q⟩;cases x with
 |non =>
  cases c;cases y with
  |non=>cases a;exact PySem.EqNone.eq_none_none (gC I q (by simp))
  |bl j=>cases a;exact PySem.EqNone.eq_none_bool (gC I q (by simp))
  |int j=>obtain ⟨t',rfl⟩:=a;exact PySem.EqNone.eq_none_int (gC I q (by simp))
  |str j=>obtain ⟨t',rfl⟩:=a;exact PySem.EqNone.eq_none_str (gC I q (by simp))
  |_=>exact absurd (show false=true from b) iQ
 |bl i =>
  cases c;cases y with
  |non=>cases a;exact PySem.EqNone.eq_bool_none (gC I q (by simp))
  |bl j=>cases a;exact eq_bool (gC I q adu)
  |str j=>obtain ⟨t',rfl⟩:=a;exact PySem.EqMixed.eq_bool_str (gC I q (by simp))
  |_=>exact absurd (show false=true from b) iQ
 |int i =>
  obtain ⟨t,rfl⟩:=c;cases y with
  |non=>cases a;exact PySem.EqNone.eq_int_none (gC I q (by simp))
  |int j=>obtain ⟨t',rfl⟩:=a;exact eq_int (gC I q aco)
  |str j=>obtain ⟨t',rfl⟩:=a;exact PySem.EqMixed.eq_int_str (gC I q (by simp))
  |_=>exact absurd (show false=true from b) iQ
 |str i =>
  obtain ⟨t,rfl⟩:=c;cases y with
  |non=>cases a;exact PySem.EqNone.eq_str_none (gC I q (by simp))
  |bl j=>cases a;exact PySem.EqMixed.eq_str_bool (gC I q (by simp))
  |int j=>obtain ⟨t',rfl⟩:=a;exact PySem.EqMixed.eq_str_int (gC I q (by simp))
  |str j=>obtain ⟨t',rfl⟩:=a;exact eq_str (gC I q acp)
  |_=>exact absurd (show false=true from b) iQ
 |pG i =>
  obtain ⟨t,rfl⟩:=c;cases y with
  |pG j=>obtain ⟨t',rfl⟩:=a;exact PySem.W.eq_bytes (gC I q acq)
  |_=>exact absurd (show false=true from b) iQ
 |_=>cases y<;>exact absurd (show false=true from b) iQ
def mj:dO X (compareOp .NotEq) rNe:=by
 rintro ak s σ H x y v u Q I c a ⟨b,q⟩;cases x with
 |non =>
  cases c;cases y with
  |non=>cases a;exact PySem.EqNone.ne_none_none (gC I q (by simp))
  |bl j=>cases a;exact PySem.EqNone.ne_none_bool (gC I q (by simp))
  |int j=>obtain ⟨t',rfl⟩:=a;exact PySem.EqNone.ne_none_int (gC I q (by simp))
  |str j=>obtain ⟨t',rfl⟩:=a;exact PySem.EqNone.ne_none_str (gC I q (by simp))
  |_=>exact absurd (show false=true from b) iQ
 |bl i =>
  cases c;cases y with
  |non=>cases a;exact PySem.EqNone.ne_bool_none (gC I q (by simp))
  |bl j=>cases a;exact ne_bool (gC I q (je not adu))
  |str j=>obtain ⟨t',rfl⟩:=a;exact PySem.EqMixed.ne_bool_str (gC I q (by simp))
  |_=>exact absurd (show false=true from b) iQ
 |int i =>
  obtain ⟨t,rfl⟩:=c;cases y with
  |non=>cases a;exact PySem.EqNone.ne_int_none (gC I q (by simp))
  |int j=>obtain ⟨t',rfl⟩:=a;exact ne_int (gC I q (je not aco))
  |str j=>obtain ⟨t',rfl⟩:=a;exact PySem.EqMixed.ne_int_str (gC I q (by simp))
  |_=>exact absurd (show false=true from b) iQ
 |str i =>
  obtain ⟨t,rfl⟩:=c;cases y with
  |non=>cases a;exact PySem.EqNone.ne_str_none (gC I q (by simp))
  |bl j=>cases a;exact PySem.EqMixed.ne_str_bool (gC I q (by simp))
  |int j=>obtain ⟨t',rfl⟩:=a;exact PySem.EqMixed.ne_str_int (gC I q (by simp))
  |str j=>obtain ⟨t',rfl⟩:=a;exact ne_str (gC I q (je not acp))
  |_=>exact absurd (show false=true from b) iQ
 |pG i =>
  obtain ⟨t,rfl⟩:=c;cases y with
  |pG j=>obtain ⟨t',rfl⟩:=a;exact PySem.W.ne_bytes (gC I q (je not acq))
  |_=>exact absurd (show false=true from b) iQ
 |_=>cases y<;>exact absurd (show false=true from b) iQ
def ad0:dO X (compareOp .Lt) (uO λi j=>.bl (decide (i<j))):=LC λ_ _ _ _ _ _ _ q=>lt_int q
def uD:dO X (compareOp .LtE) (uO λi j=>.bl (decide (i<=j))):=LC λ_ _ _ _ _ _ _ q=>le_int q
def vQ:dO X (compareOp .Gt) (uO λi j=>.bl (decide (j<i))):=LC λ_ _ _ _ _ _ _ q=>gt_int q
def T9:dO X (compareOp .GtE) (uO λi j=>.bl (decide (j<=i))):=LC λ_ _ _ _ _ _ _ q=>ge_int q
def aax:dO X (compareOp .In) (λx y H Q=>∃ i j,x=.str i/\y=.str j/\Q (.bl (!(occurrences j i 0 j.length 1).isEmpty)) H):=by rintro ak s σ H x y v u Q I a b ⟨i,j,rfl,rfl,q⟩;obtain ⟨t,rfl⟩:=a;obtain ⟨t',rfl⟩:=b;exact in_str (gC I q rfl)
def adv:dO X (compareOp .Is) (λx y H Q=>y=.non/\Q (.bl (decide (x=.non))) H):=by
 rintro ak s σ H x y v u Q I a b ⟨rfl,q⟩;cases b;refine is_none_gen (gC I q ?_);cases x<;>first
  |(cases a;rfl)
  |(obtain ⟨t,rfl⟩:=a;rfl)
def acr:dO X (compareOp .IsNot) (λx y H Q=>y=.non/\Q (.bl (!decide (x=.non))) H):=by
 rintro ak s σ H x y v u Q I a b ⟨rfl,q⟩;cases b;refine isnot_none_gen (gC I q ?_);cases x<;>first
  |(cases a;rfl)
  |(obtain ⟨t,rfl⟩:=a;rfl)
def adw (b:Expr) (h:op≠.In:=by decide) (h2:op≠.NotIn:=by decide):behindInMarks op b=false:=by
 have c:(op == CmpOp.In)=false:=by cases op<;>first|rfl|exact absurd rfl h
 have a:(op == CmpOp.NotIn)=false:=by cases op<;>first|rfl|exact absurd rfl h2
 cases b<;>simp [behindInMarks,c,a]
def Kq {r:R2} (ho:dO X (compareOp op) r) (ha:PE X a ta) (hb:PE X b tb) (hm:behindInMarks op b=false):PE X (.Compare a [op] [b] pos) (lO r ta tb):=by intro ak s σ H Q I h;exact wpAny_Compare1 (Uw ha hb I h λv u c x y H2 d e g q=>ho ak c σ H2 x y v u Q d e g q) hm
def Gq (t:TE):TT:=λσ H Q=>t σ H λx H'=>GC x H' Q
def zy {r:R2} (ho:dO X (compareOp op) r) (ha:PE X a ta) (hb:PE X b tb) (hm:behindInMarks op b=false):PT X (.Compare a [op] [b] pos) (Gq (lO r ta tb)):=by
 intro ak s σ H Q I h;refine wpAny_isTrue_Compare1 (bA (ha ak s σ H _ I h) λv o ⟨x,H1,m,i,l⟩=>bA (hb ak o σ H1 _ m l) λu n ⟨y,H2,d,g,p⟩ =>
  bA (ho ak n σ H2 x y v u _ d i g p) λc C ⟨z,j,q,t,k,e,B⟩=>?_) hm
 subst e;cases t;exact qH ⟨j,q,B⟩
def adx (r r':R2) (ta tb tc:TE):TE:=λσ H Q=>ta σ H λx H1=>tb σ H1 λy H2=>r x y H2 λz a=>∃ k,z=.bl k /\
 (if k=true then tc σ a λc b=>r' y c b Q else Q (.bl false) a)
def abd {op':CmpOp} {r r':R2} (ho:dO X (compareOp op) r) (ho':dO X (compareOp op') r') (ha:PE X a ta) (hb:PE X b tb) (hc:PE X c tc) (hm:lastMarks [op,op'] [b,c]=false:=by with_unfolding_all rfl):PE X (.Compare a [op,op'] [b,c] pos) (adx r r' ta tb tc):=by
 intro ak s σ H Q I h;refine Compare_chain (bA (ha ak s σ H _ I h) λv M ⟨x,H1,t,p,q⟩=>chain_link (bA (hb ak M σ H1 _ t q) λu L ⟨y,H2,m,g,N⟩ =>
  bA (ho ak L σ H2 x y v u _ m p g N) λd n ⟨z,i,j,S,k,e,l⟩=>?_)) hm
 subst e;cases S;refine qH ?_;cases k with
 |false=>exact ite_ff ⟨.bl false,i,j,rfl,l⟩
 |true=>exact ite_tt (chain_last (bA (hc ak n σ i _ j l) λo C ⟨D,B,J,R,O⟩=>ho' ak C σ B y D u o Q J g R O))
def QD {op':CmpOp} {r r':R2} (ho:dO X (compareOp op) r) (ho':dO X (compareOp op') r') (ha:PE X a ta) (hb:PE X b tb) (hc:PE X c tc) (hm:lastMarks [op,op'] [b,c]=false:=by with_unfolding_all rfl):PT X (.Compare a [op,op'] [b,c] pos) (Gq (adx r r' ta tb tc)):=by
 intro ak s σ H Q I h;refine isTrue_chain (bA (ha ak s σ H _ I h) λv U ⟨x,H1,D,q,C⟩=>test_link (bA (hb ak U σ H1 _ D C) λu S ⟨y,H2,m,g,V⟩ =>
  bA (ho ak S σ H2 x y v u _ m q g V) λd o ⟨z,i,j,r3,k,e,l⟩=>?_)) hm
 subst e;cases r3;refine qH ?_;cases k with
 |false =>obtain ⟨k',n,W⟩:=l;cases n;exact ite_ff ⟨i,j,W⟩
 |true =>refine ite_tt (test_last (bA (hc ak o σ i _ j l) λp N ⟨O,M,R,r4,Y⟩=>bA (ho' ak N σ M y O u p _ R g r4 Y) λd' s5 ⟨z2,L,B,J,k2,t,q5⟩=>?_));subst t;cases J;exact qH ⟨L,B,q5⟩
def Uy (K:bG) (x:V) (H:Hp) (k:Bool):Prop :=
 match x with
 |.non=>k=false
 |.bl b=>k=b
 |.int i=>k=(i != 0)
 |.str y=>y.length<=sizeLine/\k=((y.length:Int) != 0)
 |.pG y=>y.size<=sizeLine/\k=((y.size:Int) != 0)
 |.ref p=>(∃ xs,dH K H p xs/\k=!xs.isEmpty)\/(∃ xs,gG K H p xs/\k=!xs.isEmpty)\/∃ aY,H p=some (.dK aY)/\k=!aY.isEmpty
 |_=>False
def ahi {κ:Type} {aY:List (κ×V)} {vs:List (κ×Value)} (r:KV aY vs):(!vs.isEmpty)=!aY.isEmpty:=by cases r<;>rfl
def Z9 {xs:aA} (r:bO xs aJ):(!aJ.toArray.isEmpty)=!xs.isEmpty:=by cases r<;>simp
def xX:(sizeLine:Nat)<2 ^ 63:=by rw [vC];decide
def ady:ari X (λx H Q=>∃ k,Uy X.K x H k/\Q k H):=by
 rintro ak s σ H x v Q I c ⟨k,e,q⟩;have o:=xX;have u:sizeLine=16777216:=vC;cases x with
 |non =>cases c;have a:k=false:=e;subst a;exact truthy_none ⟨H,I,q⟩
 |bl b =>cases c;have a:k=b:=e;subst a;exact qH ⟨H,I,q⟩
 |int i =>obtain ⟨t,rfl⟩:=c;have a:k=(i != 0):=e;subst a;exact PySem.P.truthy_int ⟨H,I,q⟩
 |str y =>obtain ⟨t,rfl⟩:=c;obtain ⟨n,a⟩:y.length<=sizeLine/\k=((y.length:Int) != 0):=e;subst a;exact PySem.P.truthy_str (by lk) ⟨H,I.tok _,q⟩
 |pG y =>obtain ⟨t,rfl⟩:=c;obtain ⟨n,a⟩:y.size<=sizeLine/\k=((y.size:Int) != 0):=e;subst a;exact PySem.W.truthy_bytes (by lk) ⟨H,I.tok _,q⟩
 |ref p =>
  cases c;have a:(∃ xs,dH X.K H p xs/\k=!xs.isEmpty)\/(∃ xs,gG X.K H p xs/\k=!xs.isEmpty)\/∃ aY,H p=some (.dK aY)/\k=!aY.isEmpty:=e;rcases a with ⟨xs,d,a⟩|⟨xs,d,a⟩|⟨aY,d,a⟩
  ·subst a;obtain ⟨aJ,r,pl,j⟩:=I.list d;have g:=r.length;exact wpAny_truthy_list pl.isList (by simp only [gV];lk) ⟨H,I.tok _,by rw [Z9 r];exact q⟩
  ·subst a;obtain ⟨aJ,r,pl,j⟩:=I.tuple d;have g:=r.length;exact truthy_tuple pl (by simp only [gV];lk) ⟨H,I.tok _,by rw [Z9 r];exact q⟩
  ·subst a;obtain ⟨j,l,vs,r,m⟩:aY.length<=sizeLine/\(p == sysModules)=false/\∃ vs,KV aY vs/\s.heap.DictOf (kE X.prog X.w) p vs:=I.hok p _ d;have g:aY.length=vs.length:=o7 r;exact wpAny_truthy_dict l m (by lk) ⟨H,I.tok _,by rw [ahi r];exact q⟩
 |_=>exact (show False from e).elim
def akI (ha:PE X a ta) (he:∀ whole,isTrue a X.env whole=(do let v <-whole;standAt a.pos;holding [v] (truthy v))) : PT X a (λσ H Q=>ta σ H λx H'=>∃ k,Uy X.K x H' k/\Q k H'):=by intro ak s σ H Q I h;exact isTrue_plain (bA (ha ak s σ H _ I h) λv c ⟨x,H1,e,d,b⟩=>ady ak c σ H1 x v Q e d b) (he _)
def jW:dO X (binaryOp .Add) (λx y H Q=>∃ i j,x=.str i/\y=.str j/\i.length+j.length<=sizeLine/\Q (.str (i++j)) H):=by rintro ak s σ H x y v u Q I a b ⟨i,j,rfl,rfl,c,q⟩;obtain ⟨t,rfl⟩:=a;obtain ⟨t',rfl⟩:=b;exact add_str (λt' d=>⟨.str (i++j),H,I.tok _,⟨_,rfl⟩,q⟩) c
def qG {x:V} (r:bO [x] us):∃ u,us=[u]/\cA x u:=by
 cases r with
 |cons a b=>cases b;exact ⟨_,rfl,a⟩
def Kr {x y:V} (r:bO [x,y] us):∃ u w',us=[u,w']/\cA x u/\cA y w':=by
 cases r with
 |cons a b =>
  cases b with
  |cons d c=>cases c;exact ⟨_,_,rfl,a,d⟩
inductive agz (K:bG) (xs:aA) (H:Hp) (Q:VK):Prop
 |mk (i:_) (j:_) (h1:xs=[.int i,.int j]) (h2:Q (.int (if j>i then j else i)) H)
def P_ (hc:X.calm=true):jz X (.builtin "max") (agz X.K):=by
 rintro ak s σ H xs us Q I r ⟨i,j,rfl,q⟩;obtain ⟨u,b,rfl,⟨t,rfl⟩,⟨t',rfl⟩⟩:=Kr r;refine max_two_ints (I.ok.hd hc) λh' c k=>⟨_,H,I.kept k,?_,q⟩;by_cases a:j>i
 ·rw [aQ a,aQ a];exact ⟨_,rfl⟩
 ·rw [aK a,aK a];exact ⟨_,rfl⟩
inductive agA (K:bG) (xs:aA) (H:Hp) (Q:VK):Prop
 |mk (i:_) (j:_) (h1:xs=[.int i,.int j]) (h2:Q (.int (if j<i then j else i)) H)
def aiC (hc:X.calm=true):jz X (.builtin "min") (agA X.K):=by
 rintro ak s σ H xs us Q I r ⟨i,j,rfl,q⟩;obtain ⟨u,b,rfl,⟨t,rfl⟩,⟨t',rfl⟩⟩:=Kr r;refine min_two_ints (I.ok.hd hc) λh' c k=>⟨_,H,I.kept k,?_,q⟩;by_cases a:j<i
 ·rw [aQ a,aQ a];exact ⟨_,rfl⟩
 ·rw [aK a,aK a];exact ⟨_,rfl⟩
def aiD:jz X (.type "int") (λxs H Q=>(∃ i,xs=[.int i]/\Q (.int i) H)\/∃ k,xs=[.bl k]/\Q (.int (if k then 1 else 0)) H):=by
 intro ak s σ H xs us Q I r h;rcases h with ⟨i,rfl,q⟩|⟨k,rfl,q⟩
 ·obtain ⟨u,rfl,t,rfl⟩:=qG r;exact call_int_int ⟨.int i,H,I,⟨_,rfl⟩,q⟩
 ·obtain ⟨u,rfl,a⟩:=qG r;cases a;exact call_int_bool ⟨.int (if k then 1 else 0),H,I.tok _,⟨_,rfl⟩,q⟩
inductive Y8 (K:bG) (xs:aA) (H:Hp) (Q:VK):Prop
 |mk (i:_) (h1:xs=[.int i]) (h2:i.natAbs.log2<1920) (h3:Q (.str (toString i)) H)
def wQ:jz X (.type "str") (Y8 X.K):=by rintro ak s σ H xs us Q I r ⟨i,rfl,a,q⟩;obtain ⟨u,rfl,t,rfl⟩:=qG r;exact PySem.P.str_of_int a ⟨.str _,H,I.tok _,⟨_,rfl⟩,q⟩
end
structure z6 (h:Heap) (x dx C:Addr) (mA:dR):Prop where
 obj:h.get? x=some (instObj C dx)
 ns:h.Ns1 dx mA
 ne:dx≠x
def aiE {dx:Addr} (n:h.Ns1 dx mA):∃ od,h.get? dx=some od/\∀ name,lookIn name od=some (mA name):=by
 obtain ⟨o,es,l,d,k,c,_,j⟩:=n;refine ⟨o,d,λname=>?_⟩;have e:=j name;unfold nsFind findBy at e;rw [<-Array.find?_toList] at e;unfold lookIn;rw [k];dsimp only;split
 ·rename_i y q;rw [q] at e;exact je some e
 ·rename_i q;rw [q] at e;have a:es.toList.any (·.refKey)=false:=by rw [List.any_eq_false];intro y g;obtain ⟨z,t,b⟩:=c y (K3.mp g);simp [DictEntry.refKey,b]
  have i:¬ es.toList.any (·.refKey)=true:=by rw [a];exact iQ
  rw [aK i];exact je some e
def z6.look {x dx:Addr} (I:z6 h x dx C mA):∃ od,PySem.W.InstAt h x (instObj C dx) C (some od)/\∀ name,lookIn name od=some (mA name) :=
 let ⟨od,a,b⟩:=aiE I.ns
 ⟨od,⟨I.obj,rfl,rfl,a⟩,b⟩
section
variable {x dx:Addr} {name:Str} {v:Value}
def get_map {expr:Bool} (X:K.In s.heap) (I:z6 s.heap x dx C mA) (hg:plainGet K C name=true) (hh:hasDictIn K C=true) (ha:findIn K (.ref C) name=some none) (hv:mA name=some v) (hv':handedIn v=true) (h:Q v { s with toks:=s.toks+1 }) : wpAny (model prog w) A (getAttr (.ref x) name expr) Q E s:=by obtain ⟨od,J,a⟩:=I.look;exact PySem.W.get_value X J (Td hg).1 (PySem.W.findObj_own hh ha rfl (by rw [a,hv])) hv' h
def akJ {pl:Sem Bool} {Q:Value×bV->Shared->Prop} (X:K.In s.heap) (I:z6 s.heap x dx C mA) (hg:plainGet K C name=true) (hf:findIn K (.ref C) name=some (some (.ref f))) (ht:isFn K (.ref f)=true) (hv:mA name=none) (h:Q (.ref f,[.ref x]) s) : wpAny (model prog w) A (getMethod (.ref x) name pl) Q E s:=by obtain ⟨od,J,a⟩:=I.look;exact PySem.W.method_fn X J (Td hg).1 (Td hg).2 hf (zN.mp ht) (by show (lookIn name od).map (·.isSome)=some false;rw [a,hv];rfl) h
def aiF {ns:bK} {Q:CT} (X:K.In s.heap) (I:z6 s.heap x dx C mA) (hs:findIn K (.ref C) "__setattr__"=some (some (.builtin "object.__setattr__"))) (hp:plainOver K C=true) (ht:takerIn K C name=some none) (hh:hasDictIn K C=true) (hw:PySem.Within mA ns) (hsz:ns.length<=sizeLine) (h:∀ h',z6 h' x dx C (λy=>if y=name then some v else mA y)->SameBut dx s.heap h'->Q () { s with heap:=h',toks:=s.toks+2 }) : wpAny (model prog w) A (setAttr (.ref x) name v) Q E s:=by obtain ⟨od,J,o⟩:=I.look;refine PySem.W.set_plain X J hs (PySem.W.osa_open (s:={ s with toks:=s.toks+1 }) (r:=none) X J hp ht λb=>?_);obtain ⟨cd,l,i⟩:=PySem.W.any_some hh;have m:s.heap.get? x=some ⟨.ref C,some dx,.plain,#[]⟩:=I.obj;refine bf (cY (bf (bf (wpAny_loadPart m (bf (Looks.here (s:={ s with toks:=s.toks+1 }) (PySem.W.looks_clsIn X l) ?_))))));rw [i];refine cY (a:=some dx) (bf (cY (bf (wpAny_nsSet1 (s:={ s with toks:=s.toks+1 }) I.ns λh' d c=>?_))));obtain ⟨p,n,k,g,e,j⟩:=d.count (PySem.Within.cons name v hw);exact bf (wpAny_lookBehind g (by rw [e];exact pastItsLine_dict (gU j (by rw [gA];lk))) (cY (h _ ⟨(c.2 _ (bF I.ne)).trans I.obj,d,I.ne⟩ c)))
def akK (X:K.In s.heap) (hm:makesIn K C=true) (hi:findIn K (.ref C) "__init__"=some (some (.ref f))) (hf:PySem.W.typeIn K (.ref f)=some (.type "function")) (h:codeAny (model prog w) (A.under (.builtin "type.__call__" ⟨.ref C::vs,kw⟩)) (.call (.ref f) ⟨.ref (s.heap.objs.size+1)::vs,kw⟩) (PySem.W.InitBack (s.heap.objs.size+1) R) { s with heap:=(s.heap.push emptyDict).push (instObj C s.heap.objs.size) }) : codeAny (model prog w) A (.call (.ref C) ⟨vs,kw⟩) R s:=by obtain ⟨b,g,d,t,c⟩:=s;exact PySem.W.make_core (PySem.W.makes_of X hm) (PySem.W.looks_findIn X hi) (λa=>PySem.W.bind_fn X a hf) (.inl rfl) h
end
def cZ (f:Str) (v:V):List (Str×V)->List (Str×V)
 |[]=>[(f,v)]
 |(g,x)::r=>if g=f then (g,v)::r else (g,x)::cZ f v r
def iJ (f g:Str) (v:V):∀ fs:List (Str×V),(cZ f v fs).lookup g=if g=f then some v else fs.lookup g
 |[]=>by
  show List.lookup g [(f,v)]=_;by_cases h:g=f
  ·have a:(g == f)=true:=zN.mpr h;simp only [List.lookup,a,aQ h]
  ·have a:(g == f)=false:=Df.mpr h;simp only [List.lookup,a,aK h]
 |(k,x)::r=>by
  have c:=iJ f g v r;rw [show cZ f v ((k,x)::r)=(if k=f then (k,v)::r else (k,x)::cZ f v r) from rfl];by_cases b:k=f
  ·rw [aQ b];by_cases h:g=k
   ·have a:(g == k)=true:=zN.mpr h;simp only [List.lookup,a,aQ (h.trans b)]
   ·have a:(g == k)=false:=Df.mpr h;simp only [List.lookup,a,aK (λe:g=f=>h (e.trans b.symm))]
  ·rw [aK b];by_cases h:g=k
   ·have a:(g == k)=true:=zN.mpr h;simp only [List.lookup,a,aK (λe:g=f=>b (h.symm.trans e))]
   ·have a:(g == k)=false:=Df.mpr h;simp only [List.lookup,a];exact c
def Qa (f:Str) (v:V):∀ fs:List (Str×V),f∈(cZ f v fs).map (·.1)/\∀ g,g∈fs.map (·.1)->g∈(cZ f v fs).map (·.1)
 |[]=>⟨by simp [cZ],λg h=>by simp at h⟩
 |(k,x)::r=>by
  obtain ⟨i1,i2⟩:=Qa f v r;rw [show cZ f v ((k,x)::r)=(if k=f then (k,v)::r else (k,x)::cZ f v r) from rfl];by_cases a:k=f
  ·rw [aQ a];subst a;exact ⟨by simp,λg h=>by simpa using h⟩
  ·rw [aK a];refine ⟨?_,λg h=>?_⟩
   ·rw [gj];exact fH _ i1
   ·rw [gj] at h ⊢;rcases fX.mp h with e|e
    ·exact fX.mpr (.inl e)
    ·exact fH _ (i2 g e)
def Zw (f:Str) (v:V):∀ fs:List (Str×V),(cZ f v fs).length<=fs.length+1
 |[]=>by simp [cZ]
 |(k,x)::r=>by
  have b:=Zw f v r;rw [show cZ f v ((k,x)::r)=(if k=f then (k,v)::r else (k,x)::cZ f v r) from rfl];by_cases a:k=f
  ·rw [aQ a,gA,gA];lk
  ·rw [aK a,gA,gA];lk
def mW.some_of {v:V} {o:sG} (r:mW (some v) o):∃ u,o=some u/\cA v u:=by
 cases o with
 |none=>exact (show False from r).elim
 |some u=>exact ⟨u,rfl,r⟩
def mW.none_of {o:sG} (r:mW none o):o=none:=by
 cases o with
 |none=>rfl
 |some u=>exact (show False from r).elim
def aiG {v:V} (r:cA v u):handedIn u=true:=by
 cases v with
 |non=>cases (show u=Value.none from r);rfl
 |bl b=>cases (show u=Value.bool b from r);rfl
 |int i=>obtain ⟨t,e⟩:=(show ∃ t,u=Value.int i t from r);cases e;rfl
 |str x=>obtain ⟨t,e⟩:=(show ∃ t,u=Value.str x t from r);cases e;rfl
 |pG b=>obtain ⟨t,e⟩:=(show ∃ t,u=bytes b t from r);cases e;rfl
 |flt b=>obtain ⟨t,e⟩:=(show ∃ t,u=float b t from r);cases e;rfl
 |ref a=>cases (show u=Value.ref a from r);rfl
 |ty n=>cases (show u=type n from r);rfl
section
variable {H H':Hp} {h':Heap} {dx:Addr} {fs fs':List (Str×V)}
def Ks (hok:gP P w H h) (e:H a=some (.ins C dx fs)):∃ mA,z6 h a dx C mA/\(∀ f,mW (fs.lookup f) (mA f))/\PySem.Within mA (fs.map (·.1))/\fs.length<=1000/\H dx=some (.own a):=by obtain ⟨d,z,c,b,mA,n,r,q⟩:=(show dZ P w H h a (.ins C dx fs) from hok a _ e);exact ⟨mA,⟨b,n,c⟩,r,q,z,d⟩
end
structure nW (K:bG) (C:Addr):Prop where
 pg:plainGet K C empty=true
 hd:hasDictIn K C=true
 po:plainOver K C=true
 sa:findIn K (.ref C) "__setattr__"=some (some (.builtin "object.__setattr__"))
def nW.get (c:nW K C) (f:Str):plainGet K C f=true:=c.pg
def pQ (K:bG) (C:Addr) (f:Str):Prop:=findIn K (.ref C) f=some none
def pQ.taker {f:Str} (n:pQ K C f):takerIn K C f=some none:=by unfold takerIn;rw [show findIn K (.ref C) f=some none from n];rfl
structure CW (K:bG) (C:Addr) (m:Str) (f:Addr):Prop where
 at_:findIn K (.ref C) m=some (some (.ref f))
 fn:isFn K (.ref f)=true
 kp:keepIn K (.ref f)=true
section
variable {X:Cx} {σ:St} {H:Hp} {dx:Addr} {fs:List (Str×V)} {f:Str} {v:V}
def ahj {b:Bool} (I:aD X ak σ H s) (e:H a=some (.ins C dx fs)) (c:nW X.K C) (n:pQ X.K C f) (l:fs.lookup f=some v) (h:∀ u s',aD X ak σ H s'->cA v u->Q u s'):wpAny (model X.prog X.w) A (getAttr (.ref a) f b) Q E s:=by obtain ⟨mA,O,r,_,_,_⟩:=Ks I.hok e;obtain ⟨u,g,d⟩:=mW.some_of (v:=v) (o:=mA f) (by rw [<-l];exact r f);exact get_map I.gq O (c.get f) c.hd n g (aiG d) (h u _ (I.tok _) d)
def Pq {m:Str} {g:Addr} {pl:Sem Bool} {Q:Value×bV->Shared->Prop} (I:aD X ak σ H s) (e:H a=some (.ins C dx fs)) (c:nW X.K C) (k:CW X.K C m g) (l:fs.lookup m=none) (h:Q (.ref g,[.ref a]) s):wpAny (model X.prog X.w) A (getMethod (.ref a) m pl) Q E s:=by obtain ⟨mA,O,r,_,_,_⟩:=Ks I.hok e;have b:mA m=none:=mW.none_of (by rw [<-l];exact r m);exact akJ I.gq O (c.get m) k.at_ k.fn b h
def ahk {y:V} {Q:CT} (I:aD X ak σ H s) (e:H a=some (.ins C dx fs)) (c:nW X.K C) (n:pQ X.K C f) (hl:fs.length<1000) (ry:cA y u) (h:∀ s',aD X ak σ (upd H a (.ins C dx (cZ f y fs))) s'->Q () s'):wpAny (model X.prog X.w) A (setAttr (.ref a) f u) Q E s:=by
 obtain ⟨mA,O,r,wi,_,i⟩:=Ks I.hok e;have p:(fs.map (·.1)).length<=sizeLine:=by rw [bh,vC];lk
 refine aiF I.gq O c.sa c.po n.taker c.hd wi p λh' d j=>h _ ?_;have m:∃ o,h'.get? dx=some o:=let ⟨o,_,_,k,_⟩:=d.ns;⟨o,k⟩;refine I.write (x:=a) (e:=dx) (by rw [e];exact rY) (.inr i) (λb q l z=>(j.2 b l).trans z) m ⟨by rw [aV O.ne];exact i,?_,O.ne,d.obj,_,d.ns,λg=>?_,λg t=>?_⟩
 ·have:=Zw f y fs;lk
 ·show mW ((cZ f y fs).lookup g) (if g=f then some u else mA g);rw [iJ];by_cases q:g=f
  ·rw [aQ q,aQ q];exact ry
  ·rw [aK q,aK q];exact r g
 ·by_cases q:g=f
  ·rw [q];exact (Qa f y fs).1
  ·refine (Qa f y fs).2 g (wi g λz=>t ?_);show (if g=f then some u else mA g)=none;rw [aK q];exact z
def aD.made (I:aD X ak σ H s):aD X ak σ (upd (upd H s.heap.objs.size (.own (s.heap.objs.size+1))) (s.heap.objs.size+1) (.ins C s.heap.objs.size [])) { s with heap:=(s.heap.push emptyDict).push (instObj C s.heap.objs.size) }:=by
 have c:(s.heap.push emptyDict).get? s.heap.objs.size=some emptyDict:=fU s.heap rfl;have k:((s.heap.push emptyDict).push (instObj C s.heap.objs.size)).get? (s.heap.objs.size+1)=some (instObj C s.heap.objs.size):=by have:=fU (s.heap.push emptyDict) (o:=instObj C s.heap.objs.size) rfl;rwa [pO] at this
 have g:(s.heap.push emptyDict).Ns s.heap.objs.size (λ_=>none):=⟨emptyDict,#[],_,c,rfl,(λe j=>absurd j (by simp)),λ_=>rfl⟩;have l:=I.laid (a:=s.heap.objs.size) (o:=.own (s.heap.objs.size+1)) (h':=s.heap.push emptyDict) (t':=s.toks) (λb u q=>dF _ q) (bI _) ⟨_,c⟩;refine l.laid (a:=s.heap.objs.size+1) (o:=.ins C s.heap.objs.size []) (t':=s.toks) (λb u q=>dF _ q) (Te (pO _ _)) ?_;have d:s.heap.objs.size≠s.heap.objs.size+1:=fP (CP _);refine ⟨by rw [aV d,aM],fQ _,d,k,λ_=>none,(Heap.Ns1.of_empty g).at λo q=>dF _ q,λ_=>rY,λy i=>absurd rfl i⟩
def amV {f:Str} (hb:attributeBase e f env (eval e env)=eval e env) (h:wpAny (model prog w) A (eval e env) (λo s₁=>wpAny (model prog w) A (getAttr o f true) Q E s₁) E s):wpAny (model prog w) A (eval (.Attribute e f pos) env) Q E s:=Attribute_any_ h (by rw [arm_eval_Attribute,hb])
end
inductive aqa (K:bG) (f:Str) (x:V) (H:Hp) (Q:VK):Prop
 |mk (a C dx:Addr) (fs:List (Str×V)) (v:V) (e:x=.ref a) (h:H a=some (.ins C dx fs)) (c:nW K C) (n:pQ K C f) (l:fs.lookup f=some v) (q:Q v H)
def z7 (K:bG) (ta:TE) (f:Str):TE:=λσ H Q=>ta σ H λx H1=>aqa K f x H1 Q
def ark (K:bG) (ta tv:TE) (f:Str):TS:=λD σ H=>tv σ H λy H1=>ta σ H1 λx H2=>∃ a C dx fs,x=.ref a/\H2 a=some (.ins C dx fs)/\nW K C/\pQ K C f/\fs.length<1000 /\
 D.nx σ (upd H2 a (.ins C dx (cZ f y fs)))
section
variable {X:Cx} {o value:Expr} {f:Str} {tpos:Pos} {ta tv:TE}
def fY (he:PE X e ta) (hb:attributeBase e f X.env (eval e X.env)=eval e X.env):PE X (.Attribute e f pos) (z7 X.K ta f):=by intro ak s σ H Q I h;refine amV hb (bA (he ak s σ H _ I h) λu k ⟨x,H1,i,d,a,C,dx,fs,v,ex,ea,c,n,l,q⟩=>?_);subst ex;obtain rfl:u=Value.ref a:=d;exact ahj i ea c n l λm j b g=>⟨v,H1,b,g,q⟩
def zQ (ha:PE X o ta) (hv:PE X value tv) (hs:swapsWith value (some (.Attribute o f pos')) pos.line X.env=pure false):PS X (.Assign [.Attribute o f pos'] value pos) (ark X.K ta tv f):=by intro ak s σ H D I h;refine plainObj_wpAny_Assign_Attribute (bA (hv ak s σ H _ I h) λu i ⟨y,H1,e,g,q⟩=>bA (ha ak i σ H1 _ e q) λk r ⟨x,H2,b,d,a,C,dx,fs,ex,ea,c,n,l,j⟩=>?_) hs;subst ex;obtain rfl:k=Value.ref a:=d;exact ahk b ea c n l g λp m=>⟨σ,_,m,j⟩
end
section
variable {X:Cx} {σ:St} {H:Hp} {c:Value} {b:Bool}
inductive jg (K:bG) (H:Hp):V->Value->Prop where
 |non:jg K H .non (.type "NoneType")
 |bl (x:Bool):jg K H (.bl x) (.type "bool")
 |int (i:Int):jg K H (.int i) (.type "int")
 |str (x:Str):jg K H (.str x) (.type "str")
 |flt (x:UInt64):jg K H (.flt x) (.type "float")
 |lst {a:Addr} {xs:aA} (e:H a=some (.lst xs)):jg K H (.ref a) (.type "list")
 |oE {a:Addr} {o:Obj} {xs:aA} (e:H a=some (.oE o (.lst xs))):jg K H (.ref a) (.type "list")
 |tup {a:Addr} {xs:aA} (e:H a=some (.tup xs)):jg K H (.ref a) (.type "tuple")
 |dK {a:Addr} {aY:dU} (e:H a=some (.dK aY)):jg K H (.ref a) (.type "dict")
 |dT {a:Addr} {aY:List (List eF×V)} (e:H a=some (.dT aY)):jg K H (.ref a) (.type "dict")
 |ins {a C dx:Addr} {fs:List (Str×V)} (e:H a=some (.ins C dx fs)) (cl:nW K C) (ha:findIn K (.ref C) "__class__"=some (some (.builtin "object.__class__")))
   (hn:PySem.W.specialIn K (.builtin "object.__class__") "__get__"=some (some (.builtin "getset_descriptor.__get__"))) (htk:PySem.W.takesIn K (.builtin "object.__class__")=some true)
   (hm:PySem.W.mroIn K C (.type "object")=some true):jg K H (.ref a) (.ref C)
def aiH {x:V} {t:Value} (I:aD X ak σ H s) (rx:cA x u) (ty:jg X.K H x t) (e:kitOne X.K t c=some b) (h:∀ tk,Q (.bool b) { s with toks:=tk }) : wpAny (model X.prog X.w) A (call (.builtin "isinstance") [u,c]) Q E s:=by
 cases ty with
 |non=>cases (show u=Value.none from rx);exact rZ PySem.W.kitx_none I.gq rY e (λz=>nomatch z) h
 |bl y=>cases (show u=Value.bool y from rx);exact rZ PySem.W.kitx_bool I.gq rY e (λz=>nomatch z) h
 |int i=>obtain ⟨t,q⟩:=(show ∃ t,u=Value.int i t from rx);cases q;exact rZ PySem.W.kitx_int I.gq rY e (λz=>nomatch z) h
 |str y=>obtain ⟨t,q⟩:=(show ∃ t,u=Value.str y t from rx);cases q;exact rZ PySem.W.kitx_str I.gq rY e (λz=>nomatch z) h
 |flt y=>obtain ⟨t,q⟩:=(show ∃ t,u=float y t from rx);cases q;exact rZ PySem.W.kitx_float I.gq rY e (λz=>nomatch z) h
 |@lst a xs ea =>cases (show u=Value.ref a from rx);obtain ⟨_,_,n,_,h1⟩:=(show dZ X.prog X.w H s.heap a (.lst xs) from I.hok a _ ea);exact rZ Tf I.gq ⟨_,h1,rfl⟩ e (λz=>nomatch z) h
 |@oE a j xs ea =>cases (show u=Value.ref a from rx);obtain ⟨_,_,_,n,_,h1⟩:=(show dZ X.prog X.w H s.heap a (.oE j (.lst xs)) from I.hok a _ ea);exact rZ Tf I.gq ⟨_,h1,rfl⟩ e (λz=>nomatch z) h
 |@tup a xs ea =>cases (show u=Value.ref a from rx);obtain ⟨_,_,_,p⟩:=(show dZ X.prog X.w H s.heap a (.tup xs) from I.hok a _ ea);obtain ⟨o,h1,h2,_⟩:=p;exact rZ PySem.W.kitx_tuple I.gq ⟨o,h1,h2⟩ e (λz=>nomatch z) h
 |@dK a aY ea =>cases (show u=Value.ref a from rx);obtain ⟨_,_,vs,_,p⟩:=(show dZ X.prog X.w H s.heap a (.dK aY) from I.hok a _ ea);obtain ⟨o,es,r,h1,h2,_⟩:=p;exact rZ PySem.W.kitx_dict I.gq ⟨o,h1,h2.1⟩ e (λz=>nomatch z) h
 |@dT a aY ea =>cases (show u=Value.ref a from rx);obtain ⟨_,_,xs,_,o,es,r,h1,h2,_⟩:=(show dZ X.prog X.w H s.heap a (.dT aY) from I.hok a _ ea);exact rZ PySem.W.kitx_dict I.gq ⟨o,h1,h2.1⟩ e (λz=>nomatch z) h
 |@ins a C dx fs ea g m l d k =>cases (show u=Value.ref a from rx);obtain ⟨mA,O,_⟩:=Ks I.hok ea;obtain ⟨od,J,_⟩:=O.look;exact rZ (PySem.W.kitx_own (g.get _) g.hd m l d k) I.gq J e (λz=>nomatch z) h
end
structure eN (k:Nat) (A:Around):Prop where
 hd:A.handled=none
 dp:A.depth+3*k+5<recursionLimit
 un:A.units+16*k+200<cLine
 gd:A.guards=some []
def eN.mono {k:Nat} (r:eN k A) (h:j<=k):eN j A:=⟨r.hd,by have:=r.dp;lk, by have:=r.un;lk, r.gd⟩
def eN.deeper {k:Nat} (r:eN (k+1) A) (env:Env):eN k (A.deeper env):=⟨r.hd,by have:=r.dp;show A.depth+1+3*k+5<_;lk, by have:=r.un;show A.units+3+16*k+200<_;lk, r.gd⟩
def ahl:(A.under (.builtin "type.__call__" ⟨.ref C::us,kw⟩)).depth=A.depth+1:=by
 first|rfl|simp [Around.under,Code.weight,Code.isCreation,Code.isGuard,Code.isCaller,Code.frames,Code.isFrame,guardIds]
def ahm:(A.under (.builtin "type.__call__" ⟨.ref C::us,kw⟩)).units=A.units+1:=by
 first|rfl|simp [Around.under,Code.cUnits,Code.frames,Code.isFrame]
def agB:(A.under (.builtin "type.__call__" ⟨.ref C::us,kw⟩)).guards=A.guards:=by
 first|rfl|(simp [Around.under,Code.guards,Code.isGuard,guardIds,pushGuards])
def eN.make {k:Nat} (r:eN (k+1) A) (C:Addr) (us:bV) (kw:List (Str×Value)):eN k (A.under (.builtin "type.__call__" ⟨.ref C::us,kw⟩)):=⟨r.hd,by have:=r.dp;rw [ahl];lk, by have:=r.un;rw [ahm];lk, by rw [agB];exact r.gd⟩
def eN.depth {k:Nat} (r:eN k A):A.depth<recursionLimit:=by have:=r.dp;lk
def eN.units {k:Nat} (r:eN k A):A.units+64<cLine:=by have:=r.un;lk
def wB:TA:=λ_ H Q=>Q [] H
def vU (ta:TE) (tr:TA):TA:=λσ H Q=>ta σ H λx H1=>tr σ H1 λxs H2=>Q (x::xs) H2
section
variable {X:Cx} {te:TE} {t:TA}
def aq:PA X [] wB:=λ_ _ _ _ H Q I h=>Tg ⟨[],H,I,.nil,h⟩
def ao (ha:PE X e te) (hr:PA X es t) (hs:starEach (e::es) X.env=(false,eval e X.env)::starEach es X.env:=by rfl):PA X (e::es) (vU te t):=by intro pos ak s σ H Q I h;rw [hs];show wpAny _ _ (spliced ((false,eval e X.env)::backTo pos (starEach es X.env))) _ _ s;refine Tj (bA (ha ak s σ H _ I h) λu i ⟨x,H1,g,c,d⟩=>?_);exact bA (hr pos ak i σ H1 _ g d) λus k ⟨xs,H2,a,b,j⟩=>⟨x::xs,H2,a,.cons c b,j⟩
def aes (t:TA):TE:=λσ H Q=>t σ H λxs H1=>T8 xs.length (.tup xs) H1 Q
def arl (t:TA):TE:=λσ H Q=>t σ H λxs H1=>T8 xs.length (.lst xs) H1 Q
def g_ {x1} (h:PA X es t):PE X (.Tuple es x1 pos) (aes t):=by intro ak s σ H Q I g;refine wpAny_Tuple_spliced (bA (h pos ak s σ H _ I g) λus a ⟨xs,H1,c,r,z,q⟩=>⟨by rw [<-r.length];exact z,?_⟩);have d:H1 a.heap.objs.size=none:=c.hok.fresh (bI _);refine ⟨.ref a.heap.objs.size,upd H1 a.heap.objs.size (.tup xs),c.laid (t':=a.toks) (λb u e=>dF _ e) (bI _) ?_,rfl,q _ d⟩;exact ⟨z,us,r,⟨_,fU _ rfl,rfl,_,rfl,rfl⟩⟩
def fB (h:PA X es t):PE X (.List es pos) (arl t):=by intro ak s σ H Q I g;refine wpAny_List_spliced (bA (h pos ak s σ H _ I g) λus a ⟨xs,H1,c,r,z,q⟩=>⟨by rw [<-r.length];exact z,?_⟩);have d:H1 a.heap.objs.size=none:=c.hok.fresh (bI _);refine ⟨.ref a.heap.objs.size,upd H1 a.heap.objs.size (.lst xs),c.laid (t':=a.toks) (λb u e=>dF _ e) (bI _) ?_,rfl,q _ d⟩;exact ⟨z,us,0,r,fU _ rfl⟩
end
abbrev Sp:=aA->Hp->VK->XK->Prop
abbrev nE (f:aA->Hp->VK->Prop):Sp:=λv H Q _=>f v H Q
abbrev qg:=nQ->Hp->Shared->XK->Value->Shared->Prop
structure z8 (P:Program) (w:World) (K:bG) (mg:dR) (au:Heap) (A:Around) (outer:nQ) (s:Shared) (H:Hp):Prop where
 frames:A.frames=some outer
 mod:Mod K mg au
 bs:∀ b o,au.get? b=some o->s.heap.get? b=some o/\H b=none
 uK:au.objs.size<=s.heap.objs.size
 pZ:s.heap.FunFrames au outer
 uL:∀ b∈d7 outer,H b=none
 hok:gP P w H s.heap
 bare:AllBare s.gens
def CE (outer:nQ) (P:Program) (w:World) (H:Hp) (s:Shared) (Q:VK) (u:Value) (s':Shared):Prop :=
 ∃ v H',s'.os=s.os/\AllBare s'.gens/\Un (d7 outer) [] H H' s.heap s'.heap/\gP P w H' s'.heap/\cA v u/\Q v H'
def CR (CX:qg) (outer:nQ) (P:Program) (w:World) (H:Hp) (s:Shared) (Q:VK) (E:XK) (r:Result) (s':Shared):Prop :=
 match r with
 |.ok (.ret u)=>CE outer P w H s Q u s'
 |.ok _=>False
 |.error e=>CX outer H s E e s'
structure dw (P:Program) (w:World) (K:bG) (mg:dR) (au:Heap) (CX:qg) (k:Nat) (f:Addr) (fd:FuncData) (ps:bK) (sp:Sp):Prop where
 len:∀ vs H Q E,sp vs H Q E->vs.length=ps.length
 run:∀ (A:Around) (outer:nQ) (s:Shared) (H:Hp) (args:Args) (us:bV) (vs:aA) (Q:VK) (E:XK),eN k A->z8 P w K mg au A outer s H->BindsTo s fd args (ps.zip us)->bO vs us->sp vs H Q E ->
  codeAny (model P w) A (.call (.ref f) args) (CR CX outer P w H s Q E) s
def dw.mono {CX:qg} {k:Nat} {sp:Sp} (F:dw P w K mg au CX j f fd ps sp) (h:j<=k) : dw P w K mg au CX k f fd ps sp:=⟨F.len,λA outer s H a us vs Q E hr=>F.run A outer s H a us vs Q E (hr.mono h)⟩
def dw.imp {CX:qg} {k:Nat} {sp uP:Sp} (F:dw P w K mg au CX k f fd ps sp) (h:∀ vs H Q E,uP vs H Q E->sp vs H Q E):dw P w K mg au CX k f fd ps uP:=⟨λvs H Q E q=>F.len vs H Q E (h _ _ _ _ q),λA outer s H a us vs Q E hr c e b d=>F.run A outer s H a us vs Q E hr c e b (h _ _ _ _ d)⟩
def z8.make {H:Hp} (e:z8 P w K mg au A outer s H) (C:Addr) (us:bV) (kw:List (Str×Value)) : z8 P w K mg au (A.under (.builtin "type.__call__" ⟨.ref C::us,kw⟩)) outer s H:=⟨by first|exact e.frames|(simpa [Around.under,Code.envs,Code.isFrame,pushEnvs] using e.frames),e.mod,e.bs,e.uK,e.pZ,e.uL,e.hok,e.bare⟩
section
variable {X:Cx} {σ:St} {H:Hp} {s':Shared}
def aD.env0 (I:aD X ak σ H s):z8 X.prog X.w X.K X.mg X.au X.A X.stack s H:=⟨I.ok.frames,I.ok.mod,I.bs,gU I.ok.uK I.sz,I.stack,I.Fy,I.hok,I.bare⟩
def aD.after {Q:VK} (I:aD X ak σ H s) (h:CE X.stack X.prog X.w H s Q u s'):EP X ak σ Q u s':=by obtain ⟨v,H',j,a,un,e,r,q⟩:=h;obtain ⟨i,g,d,t,c⟩:=s';obtain rfl:c=s.os:=j;exact ⟨v,H',I.call (h':=i) (g':=g) (d':=d) (t':=t) (ch:=[]) un e a (λb z=>absurd z (by simp)),r,q⟩
end
def Lb (sp:Sp) (jC:aA) (E:XK) (t:TA):TE:=λσ H Q=>t σ H λvs H1=>sp (vs++jC) H1 Q E
inductive ad1 (C:Addr) (m:Str) (x:V) (H:Hp) (Q:Prop):Prop
 |mk (a dx:Addr) (fs:List (Str×V)) (e:x=.ref a) (h:H a=some (.ins C dx fs)) (n:fs.lookup m=none) (q:Q)
def Ld (C:Addr) (m:Str) (sp:Sp) (jC:aA) (E:XK) (ta:TE) (t:TA):TE:=λσ H Q=>ta σ H λx H1=>ad1 C m x H1 (t σ H1 λvs H2=>sp (x::(vs++jC)) H2 Q E)
def Le (C:Addr) (sp:Sp) (jC:aA) (E:XK) (t:TA):TE:=λσ H Q=>t σ H λvs H1=>∀ x dx,H1 x=none->H1 dx=none->dx≠x ->
 sp (.ref x::(vs++jC)) (upd (upd H1 dx (.own x)) x (.ins C dx [])) (λv H2=>v=.non/\Q (.ref x) H2) E
def mK (K:bG) (fd:FuncData) (ps:bK) (ds:bV):Prop :=
 ∀ (s:Shared) (us:bV),K.In s.heap->(us++ds).length=ps.length->BindsTo s fd ⟨us,[]⟩ (ps.zip (us++ds))
def mK.all (h:∀ us:bV,us.length=ps.length->bindArgs fd ⟨us,[]⟩=pure (ps.zip us)):mK K fd ps []:=λs us _ a=>by rw [nO] at a ⊢;exact .of_eq (h us a)
def uZ (CX:qg) (X:Cx) (E:XK):Prop:=∀ (ak:List (Addr×Obj)) (σ:St) (H:Hp) (s:Shared) (e:Value) (s':Shared),aD X ak σ H s->CX X.stack H s E e s'->X.xe e s'
section
variable {X:Cx} {CX:qg} {k:Nat} {sp:Sp} {jC:aA} {ds:bV} {E:XK} {m:Str} {p apos:Pos} {o:Expr} {ta:TE} {t:TA}
def K6 {σ:St} {H:Hp} {Q:VK} {vs:aA} (F:dw X.prog X.w X.K X.mg X.au CX k f fd ps sp) (hr:eN k X.A) (hb:mK X.K fd ps ds) (hd:bO jC ds) (hx:uZ CX X E) (I:aD X ak σ H s) (r:bO vs us) (h:sp (vs++jC) H Q E):wpAny (model X.prog X.w) X.A (call (.ref f) us) (EP X ak σ Q) X.xe s:=by
 have b:bO (vs++jC) (us++ds):=r.append hd;have d:(us++ds).length=ps.length:=by rw [<-b.length];exact F.len _ _ _ _ h
 refine K4 (su (F.run X.A X.stack s H ⟨us,[]⟩ (us++ds) (vs++jC) Q E hr I.env0 (hb s us I.gq d) b h) λr s' a=>?_);cases r with
 |error e=>exact hx ak σ H s e s' I a
 |ok c =>
  cases c with
  |ret u=>exact I.after a
  |next=>exact elim a
  |brk=>exact elim a
  |cont=>exact elim a
def acs (F:dw X.prog X.w X.K X.mg X.au CX k f fd ps sp) (hr:eN k X.A) (hg:Gl X x) (hm:X.mg x=some (.ref f)) (hk:keepIn X.K (.ref f)=true) (hb:mK X.K fd ps ds) (hd:bO jC ds) (hx:uZ CX X E) (ha:PA X (e::es) t) (hdb:(x == ("__debug__":Str))=false:=by decide) (he:starEach (e::es) X.env=(false,eval e X.env)::starEach es X.env:=by rfl) (hpl:(backTo pos (starEach es X.env)).any (·.1)=false:=by rfl) : PE X (.Call (.Name x p) (e::es) [] pos) (Lb sp jC E t):=by intro ak s σ H Q I h;refine xU (Ce I hg hm ?_ hdb);refine Ga (h₀:=X.au) I.ok.mod.yu hk (bA (ha pos ak s σ H _ I h) λus b ⟨vs,H1,a,r,q⟩=>⟨a.gq,?_⟩) he hpl;exact K6 F hr hb hd hx a r q
def amW {pl:Sem Bool} (he:PE X o ta) (c:nW X.K C) (hm:CW X.K C m f) (F:dw X.prog X.w X.K X.mg X.au CX k f fd ps sp) (hr:eN k X.A) (hb:mK X.K fd ps ds) (hd:bO jC ds) (hx:uZ CX X E) (ha:PA X (e::es) t) (hst:starEach (e::es) X.env=(false,eval e X.env)::starEach es X.env:=by rfl) (hpl:(backTo pos (starEach es X.env)).any (·.1)=false:=by rfl) (ht:eval (.Call (.Attribute o m apos) (e::es) [] pos) X.env=(do
   let ov <-eval o X.env
   standAt apos.atName
   let (f,first) <-holding [ov] (getMethod ov m pl)
   callWith pos f first (backTo pos (starEach (e::es) X.env)) (backToKw pos (keywordEach [] X.env))):=by rfl) :
  PE X (.Call (.Attribute o m apos) (e::es) [] pos) (Ld C m sp jC E ta t):=by
 intro ak s σ H Q I h;refine Tn (pl:=pl) (bA (he ak s σ H _ I h) λu i ⟨x,H1,d,g,a,dx,fs,ex,ea,l,q⟩=>?_) ht;subst ex;obtain rfl:u=Value.ref a:=g;refine Pq d ea c hm l (Ga (first:=[.ref a]) (h₀:=X.au) I.ok.mod.yu hm.kp (bA (ha pos ak i σ H1 _ d q) λus n ⟨vs,H2,b,r,j⟩=>⟨b.gq,?_⟩) hst hpl);exact K6 (us:=.ref a::us) (vs:=.ref a::vs) F hr hb hd hx b (.cons rfl r) j
def akL {pl:Sem Bool} (he:PE X o ta) (c:nW X.K C) (hm:CW X.K C m f) (F:dw X.prog X.w X.K X.mg X.au CX k f fd ps sp) (hr:eN k X.A) (hb:mK X.K fd ps ds) (hd:bO jC ds) (hx:uZ CX X E) (ht:eval (.Call (.Attribute o m apos) [] [] pos) X.env=(do
   let ov <-eval o X.env
   standAt apos.atName
   let (f,first) <-holding [ov] (getMethod ov m pl)
   callWith pos f first (backTo pos (starEach [] X.env)) (backToKw pos (keywordEach [] X.env))):=by rfl) :
  PE X (.Call (.Attribute o m apos) [] [] pos) (Ld C m sp jC E ta wB):=by
 intro ak s σ H Q I h;refine Tn (pl:=pl) (bA (he ak s σ H _ I h) λu e ⟨x,H1,b,d,a,dx,fs,ex,ea,l,q⟩=>?_) ht;subst ex;obtain rfl:u=Value.ref a:=d;exact Pq b ea c hm l (PySem.W.callWith_K0 (first:=[.ref a]) b.gq hm.kp (K6 (us:=[.ref a]) (vs:=[.ref a]) F hr hb hd hx b (.cons rfl .nil) q))
structure LK (K:bG) (C f:Addr):Prop where
 makes:makesIn K C=true
 init:findIn K (.ref C) "__init__"=some (some (.ref f))
 fn:isFn K (.ref f)=true
 kp:keepIn K (.ref C)=true
def abe {σ:St} {H:Hp} {Q:VK} {vs:aA} (M:LK X.K C f) (F:dw X.prog X.w X.K X.mg X.au CX k f fd ps sp) (hr:eN (k+1) X.A) (hb:mK X.K fd ps ds) (hd:bO jC ds) (hx:uZ CX X E) (I:aD X ak σ H s) (r:bO vs us) (h:∀ x dx,H x=none->H dx=none->dx≠x->sp (.ref x::(vs++jC)) (upd (upd H dx (.own x)) x (.ins C dx [])) (λv H2=>v=.non/\Q (.ref x) H2) E) : wpAny (model X.prog X.w) X.A (call (.ref C) us) (EP X ak σ Q) X.xe s:=by
 have d:=h (s.heap.objs.size+1) s.heap.objs.size (I.hok.fresh (vD _)) (I.hok.fresh (bI _)) (fP (CP _));have b:=aD.made (C:=C) I;have c:bO (V.ref (s.heap.objs.size+1)::(vs++jC)) (Value.ref (s.heap.objs.size+1)::(us++ds)):=.cons rfl (r.append hd);have j:(Value.ref (s.heap.objs.size+1)::us++ds).length=ps.length:=by have e:=c.length;rw [F.len _ _ _ _ d] at e;exact e.symm
 refine K4 (akK (f:=f) I.gq M.makes M.init (zN.mp M.fn) (su (F.run _ X.stack _ _ ⟨Value.ref (s.heap.objs.size+1)::us,[]⟩ (Value.ref (s.heap.objs.size+1)::(us++ds)) _ _ E (hr.make C us []) (b.env0.make C us []) (hb _ (Value.ref (s.heap.objs.size+1)::us) b.gq j) c d) λr s' a=>?_));cases r with
 |error e=>exact hx ak σ _ _ e s' b a
 |ok l =>
  cases l with
  |ret u =>obtain ⟨v,H',i,m,g,n⟩:=b.after a;subst g;exact ⟨m,⟨V.ref (s.heap.objs.size+1),H',i,rfl,n⟩⟩
  |next=>exact elim a
  |brk=>exact elim a
  |cont=>exact elim a
def amX (M:LK X.K C f) (F:dw X.prog X.w X.K X.mg X.au CX k f fd ps sp) (hr:eN (k+1) X.A) (hg:Gl X x) (hm:X.mg x=some (.ref C)) (hb:mK X.K fd ps ds) (hd:bO jC ds) (hx:uZ CX X E) (ha:PA X (e::es) t) (hdb:(x == ("__debug__":Str))=false:=by decide) (he:starEach (e::es) X.env=(false,eval e X.env)::starEach es X.env:=by rfl) (hpl:(backTo pos (starEach es X.env)).any (·.1)=false:=by rfl) : PE X (.Call (.Name x p) (e::es) [] pos) (Le C sp jC E t):=by intro ak s σ H Q I h;refine xU (Ce I hg hm ?_ hdb);refine Ga (h₀:=X.au) I.ok.mod.yu M.kp (bA (ha pos ak s σ H _ I h) λus b ⟨vs,H1,a,r,q⟩=>⟨a.gq,?_⟩) he hpl;exact abe M F hr hb hd hx a r q
def akM (M:LK X.K C f) (F:dw X.prog X.w X.K X.mg X.au CX k f fd ps sp) (hr:eN (k+1) X.A) (hg:Gl X x) (hm:X.mg x=some (.ref C)) (hb:mK X.K fd ps ds) (hd:bO jC ds) (hx:uZ CX X E) (hdb:(x == ("__debug__":Str))=false:=by decide):PE X (.Call (.Name x p) [] [] pos) (Le C sp jC E wB):=by intro ak s σ H Q I h;refine xU (Ce I hg hm ?_ hdb);exact PySem.W.callWith_K0 I.gq M.kp (abe (us:=[]) M F hr hb hd hx I .nil h)
end
structure rT (N P:bK) (sc:Scope):Prop where
 kind:sc.kind=.function
 co:sc.isCoroutine=false
 gen:sc.isGenerator=false
 nd:N.Nodup
 pre:N.take P.length=P
 par:∀ x∈P,sc.names.lookup x=some .local\/sc.names.lookup x=some .cell
 ao2:∀ y∈sc.names,y.2≠.free
def aay:∀ {binds:List (Str×Value)} {m:dR},(∀ v,(x,v)∉binds)->bindL kindOf binds m x=m x
 |[],_,_=>rfl
 |(n,v)::r,m,h=>by
  unfold bindL;rw [aay λw a=>h w (fH _ a)];split
  ·have:x≠n:=by rintro rfl;exact h v iz
   simp [this]
  ·rfl
def aaz:∀ {binds:List (Str×Value)} {m:dR},(∀ v,(x,v)∉binds)->bindC kindOf binds m x=m x
 |[],_,_=>rfl
 |(n,v)::r,m,h=>by
  unfold bindC;rw [aaz λw a=>h w (fH _ a)];split
  ·rfl
  ·have:x≠n:=by rintro rfl;exact h v iz
   simp [this]
def aaA {v:Value}:∀ {P:bK} {vs:bV} {i:Nat} {m:dR},P.Nodup->P[i]?=some x->vs[i]?=some v->kindOf x=some .local ->bindL kindOf (P.zip vs) m x=some v
 |[],_,_,_,_,h,_,_=>by simp at h
 |_::_,[],_,_,_,_,h,_=>by simp at h
 |p::P,w::vs,0,m,nd,h1,h2,hk=>by simp at h1 h2;subst h1;subst h2;show bindL kindOf ((p,w)::P.zip vs) m p=_;unfold bindL;rw [aay λv a=>(sE.mp nd).1 (Tp a).1,aQ hk];simp
 |p::P,w::vs,i+1,m,nd,h1,h2,hk=>by show bindL kindOf ((p,w)::P.zip vs) m x=_;unfold bindL;exact aaA (i:=i) (sE.mp nd).2 (by simpa using h1) (by simpa using h2) hk
def aaB {v:Value}:∀ {P:bK} {vs:bV} {i:Nat} {m:dR},P.Nodup->P[i]?=some x->vs[i]?=some v->kindOf x≠some .local ->bindC kindOf (P.zip vs) m x=some v
 |[],_,_,_,_,h,_,_=>by simp at h
 |_::_,[],_,_,_,_,h,_=>by simp at h
 |p::P,w::vs,0,m,nd,h1,h2,hk=>by simp at h1 h2;subst h1;subst h2;show bindC kindOf ((p,w)::P.zip vs) m p=_;unfold bindC;rw [aaz λv a=>(sE.mp nd).1 (Tp a).1,aK hk];simp
 |p::P,w::vs,i+1,m,nd,h1,h2,hk=>by show bindC kindOf ((p,w)::P.zip vs) m x=_;unfold bindC;exact aaB (i:=i) (sE.mp nd).2 (by simpa using h1) (by simpa using h2) hk
def start (N:bK) (vs:aA):St:=vs.map some++replicate (N.length-vs.length) none
def z9 (CX:qg) (P:Program) (w:World) (K:bG) (mg:dR) (au:Heap) (N:bK) (bZ:Str) (scope:Scope) (f:Addr) (cd:Value) (A:Around) (outer:nQ) (s:Shared) (H:Hp) (E:XK):Cx where
 prog:=P
 w:=w
 K:=K
 mg:=mg
 au:=au
 A:=A.deeper (envOfC bZ scope s.heap.objs.size f cd)
 N:=N
 s₀:=s
 H₀:=H
 env:=envOfC bZ scope s.heap.objs.size f cd
 outer:=outer
 stack:=envOfC bZ scope s.heap.objs.size f cd::outer
 ex:=[]
 calm:=true
 fn:=λ_=>true
 pn:=[]
 xe:=λe s'=>wpAny (model P w) (A.deeper (envOfC bZ scope s.heap.objs.size f cd)) (leaving (envOfC bZ scope s.heap.objs.size f cd) e) (λ_ a=>CX outer H s E e a) (λb a=>CX outer H s E b a) s'
def abf {sc:Scope} (h:sc.names.lookup x=some .cell):∃ c,(cellsFrom n sc.names []).lookup x=some c:=by have q:=adl sc.names n [] (.inl h);exact adn.mp q
def aiI {CX:qg} {s1:Shared} {H:Hp} {E:XK} {vs:aA} (S:rT N ps scope) (hd:A.handled=none) (e0:z8 P w K mg au A outer s H) (hl:vs.length=ps.length) (r:bO vs us) (x:InCallC s s.heap.objs.size (bindL (envOfC bZ scope s.heap.objs.size f cd).kindOf (ps.zip us) λ_=>none) (cellsFrom (s.heap.objs.size+1) scope.names []) (bindC (envOfC bZ scope s.heap.objs.size f cd).kindOf (ps.zip us) λ_=>none) s1) : aD (z9 CX P w K mg au N bZ scope f cd A outer s H E) [] (start N vs) H s1:=by
 have t:ps.length<=N.length:=by have:=je List.length S.pre;rw [gW] at this;lk
 obtain ⟨h1,I,rfl,o⟩:=x.done;have l:∀ b:Addr,b∉(z9 CX P w K mg au N bZ scope f cd A outer s H E).ex:=λb z=>absurd (show b∈([]:jk) from z) (by simp);refine ⟨⟨e0.mod,S.kind,rfl,rfl,bI _,λy z c h1 h2=>?_,λy d=>?_,λy c _ h=>?_,λ_=>hd,Around.frames_deeper e0.frames,.inr ⟨rfl,rfl⟩,λb z=>absurd z (l b),e0.bs,e0.uK,λb _ _=>l b,λb z=>absurd z (l b),e0.pZ,e0.uL⟩,
  rfl,e0.bare,Un.kept o,⟨_,x.toInCall.ns,λi y v h1 h2 D=>?_⟩,λy c h=>⟨_,x.cell y c h⟩,e0.hok.fresh (bI _),λy c h=>?_,λp g=>absurd (show p∈([]:List (Addr×Obj)) from g) (by simp),e0.hok.kept o,?_⟩
 ·exact name_of_addr x.apart (Gb h1) (Gb h2)
 ·have d:scope.names.lookup y=some .cell\/scope.names.lookup y=some .free:=d;rcases d with d|d
  ·exact abf d
  ·exact absurd rfl (S.ao2 _ (Gb d))
 ·exact CK (x.above y c (Gb h))
 ·have hi:i<vs.length:=by
   unfold start at h2;by_cases hi:i<vs.length
   ·exact hi
   ·rw [xV (by simpa using hi)] at h2;rw [uh] at h2;split at h2<;>cases h2
  have B:vs[i]?=some v:=by
   unfold start at h2;rw [qI (by simpa using hi),jP] at h2;cases e:vs[i]? with
   |none=>rw [e] at h2;cases h2
   |some a=>rw [e] at h2;cases h2;rfl
  obtain ⟨u,m,C⟩:=r.get B;have g:ps[i]?=some y:=by rw [<-S.pre,List.getElem?_take_of_lt (by lk)];exact h1
  have j:ps.Nodup:=by rw [<-S.pre];exact S.nd.sublist (List.take_sublist _ _)
  refine ⟨u,C,?_⟩;rcases S.par y (fj g) with k|k
  ·exact .inl ⟨k,aaA j g m k⟩
  ·obtain ⟨c,e⟩:=abf (n:=s.heap.objs.size+1) k;refine .inr ⟨.inl k,c,e,?_⟩;have q:=x.cell y c e;rw [aaB j g m (by show scope.names.lookup y≠_;rw [k];decide)] at q;exact q
 ·exact e0.hok.fresh (CK (x.above y c (Gb h)))
 ·unfold start;show _=N.length;rw [dJ,bh,vG];lk
def ad2 {CX:qg} {k:Nat} {name:Str} {params:Arguments} {dV kV doc cdv:Value} {sp:Sp} (mD:K.lookup f=some ⟨oc,od,.func (fnOf name bZ params body scope dV kV doc pm an cdv ct),osl⟩) (hcd:codeIn K cdv bZ=true) (S:rT N ps scope) (len:∀ vs H Q E,sp vs H Q E->vs.length=ps.length) (hbody:∀ (A:Around) (outer:nQ) (s:Shared) (H:Hp) (vs:aA) (Q:VK) (E:XK),eN k (A.deeper (envOfC bZ scope s.heap.objs.size f cdv))->sp vs H Q E ->∃ t,oF (z9 CX P w K mg au N bZ scope f cdv A outer s H E) body t/\t { nx:=λ_ H'=>Q .non H',rt:=Q } (start N vs) H) : dw P w K mg au CX (k+1) f (fnOf name bZ params body scope dV kV doc pm an cdv ct) ps sp:=by
 refine ⟨len,λA outer s H m us vs Q E hr d z r g=>?_⟩;have B:=len _ _ _ _ g;have KX:K.In s.heap:=d.mod.yu.keeps λb o e=>(d.bs b o e).1;have i:s.heap.NoLimit:=d.mod.nolimit.keeps λb o e=>(d.bs b o e).1;have a:∀ y∈ps.zip us,scope.names.lookup y.1=some .local\/(scope.names.lookup y.1=some .cell/\((cellsFrom (s.heap.objs.size+1) scope.names []).lookup y.1).isSome=true):=λ⟨n,v⟩ L=>by
  rcases S.par n (Tp L).1 with q|q
  ·exact .inl q
  ·exact .inr ⟨q,adl _ _ _ (.inl q)⟩
 refine codeAny_call_function hr.depth (KX _ _ mD) rfl S.co S.gen rfl (PySem.W.codeRec_of KX hcd) (z _ _ _ _ (wpAny_newFunctionEnv_cells S.kind a λenv C p x=>?_));subst C;refine ⟨i.keeps x.toInCall.keep,codeAny_func ?_⟩;obtain ⟨t,D,O⟩:=hbody A outer s H vs Q E (hr.deeper _) g;have I:aD (z9 CX P w K mg au N bZ scope f cdv A outer s H E) [] (start N vs) H p:=aiI S hr.hd d B r x;refine lE (D [] p (start N vs) H _ I O) (λM s' c=>?_) λe s' c=>c;have l:∀ {σ':St} {H':Hp} {v:V} {u:Value},aD (z9 CX P w K mg au N bZ scope f cdv A outer s H E) [] σ' H' s'->cA v u->Q v H'->CE outer P w H s Q u s':=λ{σ' H' v u} J j q=>⟨v,H',J.os,J.bare,J.au,J.hok,j,q⟩;cases M with
 |ret u =>obtain ⟨v,σ',H',J,j,q⟩:=c;exact l J j q
 |next =>obtain ⟨σ',H',J,q⟩:=c;exact l (v:=V.non) (u:=Value.none) J rfl q
 |brk =>obtain ⟨_,_,_,q⟩:=c;exact elim q
 |cont =>obtain ⟨_,_,_,q⟩:=c;exact elim q
section
variable {X:Cx} {p:Pos} {t:TA} {id T:String} {r:aA->Hp->VK->Prop}
def Vd (r:aA->Hp->VK->Prop) (t:TA):TE:=λσ H Q=>t σ H λvs H1=>r vs H1 Q
def jM (hc:jz X (.builtin id) r) (hg:Gl X x) (hm:X.mg x=none) (hv:bootBuiltins x=some (.builtin id)) (ha:PA X (e::es) t) (hn:x≠"__name__":=by decide) (hdb:(x == ("__debug__":Str))=false:=by decide) (he:starEach (e::es) X.env=(false,eval e X.env)::starEach es X.env:=by rfl) (hpl:(backTo pos (starEach es X.env)).any (·.1)=false:=by rfl):PE X (.Call (.Name x p) (e::es) [] pos) (Vd r t):=by intro ak s σ H Q I h;refine xU (qK I hg hm hv ?_ hn hdb);exact ado (bA (ha pos ak s σ H _ I h) λus b ⟨vs,H1,d,c,a⟩=>hc ak b σ H1 vs us Q d c a) he hpl
def iy (hc:jz X (.type T) r) (hg:Gl X x) (hm:X.mg x=none) (hv:bootBuiltins x=some (.type T)) (ha:PA X (e::es) t) (hn:x≠"__name__":=by decide) (hdb:(x == ("__debug__":Str))=false:=by decide) (he:starEach (e::es) X.env=(false,eval e X.env)::starEach es X.env:=by rfl) (hpl:(backTo pos (starEach es X.env)).any (·.1)=false:=by rfl):PE X (.Call (.Name x p) (e::es) [] pos) (Vd r t):=by intro ak s σ H Q I h;refine xU (qK I hg hm hv ?_ hn hdb);exact xR (bA (ha pos ak s σ H _ I h) λus b ⟨vs,H1,d,c,a⟩=>hc ak b σ H1 vs us Q d c a) he hpl
end
end
namespace HT
open PyProof.Rows
section
section
open PySem.SeqAt
open PySem.AutoSeq1 (wpAny_loadPart')
open PySem.MeetsSeq PySem.MeetsSeq2 PySem.MeetsSeq3
end
section
def amY {t:Addr} {ws:bV} (ht:IsTup s.heap t vs.toArray) (hb:IsTup s.heap b ws.toArray) (hv:vs≠[]) (h1:ws=[]->Q (.ref t) s) (h2:ws≠[]->Q (.ref s.heap.objs.size) { s with heap:=s.heap.push { cls:=.type "tuple",data:=.seq (vs++ws).toArray } }) (hsz:vs.length+ws.length<=sizeLine):wpAny (model prog w) A (binaryOp .Add (.ref t) (.ref b)) Q E s:=by
 obtain ⟨⟨cls,o,data,sl⟩,k,p,n,r⟩:=id ht;obtain ⟨⟨q,c,l,d⟩,a,i,m,g⟩:=id hb;simp only at p r i g;subst p r i g;have e:vs.toArray++ws.toArray=(vs++ws).toArray:=by simp
 by_cases j:ws=[]
 ·exact concat_meets ⟨_,k,rfl⟩ ⟨_,a,rfl⟩ Tq seq_tuple_add Tr Tt (Tv _ _) (tuple_addW1 t b vs.toArray ws.toArray n m o c sl d (by simpa using hv) (by simp [j])) ⟨k,a,h1 j⟩
 ·refine concat_meets ⟨_,k,rfl⟩ ⟨_,a,rfl⟩ Tq seq_tuple_add Tr Tt (Tv _ _) (tuple_addW2 t b vs.toArray ws.toArray n m o c sl d (by simpa using hv) (by simpa using j) (by rw [gV,gV];exact hsz)) ⟨k,a,?_⟩;rw [e];exact h2 j
def iZ (n d:Nat):Option Int->Nat
 |none=>d
 |some v=>if v<0 then (v+(n:Int)).toNat else min v.toNat n
def akN (n d:Nat):iZ n d none=d:=rfl
def amZ (n d k:Nat):iZ n d (some (k:Int))=min k n:=by show (if (k:Int)<0 then ((k:Int)+(n:Int)).toNat else min (k:Int).toNat n)=min k n;rw [aK (by lk),kO]
end
end
end HT
variable {ns:aF} {xs:aA} {σ:St} {H:Hp} {p:Addr} {its':bV} {y:V} {T:String}
section
open PySem.Spec PyProof.Rows
abbrev TO:=St->Hp->(Option Int->Hp->Prop)->Prop
def PO (X:Cx) (e:Option Expr) (t:TO):Prop :=
 ∀ (ak:List (Addr×Obj)) (s:Shared) (σ:St) (H:Hp) (Q:Option Int->Hp->Prop),aD X ak σ H s->t σ H Q ->
  wpAny (model X.prog X.w) X.A (evalPart e X.env) (λu s'=>∃ o H',aD X ak σ H' s'/\IsPart u o/\Q o H') X.xe s
def am0:TO:=λ_ H Q=>Q none H
def aqb (t:TE):TO:=λσ H Q=>t σ H λx H1=>OfI x H1 λi H1=>Q (some i) H1
def intsAre_of:∀ {us:bV},bO (ns.map V.int) us->IntsAre us ns:=by
 induction ns with
 |nil=>intro us r;rw [zO] at r;cases r;exact .nil
 |cons n ns a =>
  intro us r;rw [gj] at r;cases r with
  |cons c b =>obtain ⟨t,e⟩:=c;subst e;exact .cons n t (a b)
section
variable {X:Cx} {te:TE} {lo hi:Option Expr} {tl th:TO} {p2:Pos}
def xM:PO X none am0:=by intro ak s σ H Q I h;rw [evalPart_none];exact cY ⟨none,H,I,.none,h⟩
def xO (h:PE X e te):PO X (some e) (aqb te):=by intro ak s σ H Q I b;rw [evalPart_some];refine bA (h ak s σ H _ I b) λu g ⟨x,H1,d,c,a⟩=>?_;obtain ⟨i,rfl,q⟩:=a;obtain ⟨t,rfl⟩:=c;exact ⟨some i,H1,d,.int i t,q⟩
def Ve (X:Cx) (r:V->Option Int->Option Int->Hp->VK->Prop):Prop :=
 ∀ (ak:List (Addr×Obj)) (s:Shared) (σ:St) (H:Hp) (x:V) (v b a:Value) (lo hi:Option Int) (sl:Addr) (Q:VK),aD X ak σ H s->cA x v->s.heap.IsSliceOf sl b a .none->IsPart b lo->IsPart a hi->r x lo hi H Q ->
  ∃ T id,typeLookup (.type T) "__getitem__"=pure (some (.builtin id))/\s.TypeIs v T/\wpAny (model X.prog X.w) X.A (getItem v (.ref sl)) (EP X ak σ Q) X.xe s
def tSl (r:V->Option Int->Option Int->Hp->VK->Prop) (te:TE) (tl th:TO):TE:=λσ H Q=>te σ H λx H1=>tl σ H1 λl H2=>th σ H2 λu a=>r x l u a Q
def wV {r:V->Option Int->Option Int->Hp->VK->Prop} (hr:Ve X r) (he:PE X e te) (hl:PO X lo tl) (hu:PO X hi th):PE X (.Subscript e (.Slice lo hi none p2) pos) (tSl r te tl th):=by intro ak s σ H Q I h;refine Subscript_ (bA (he ak s σ H _ I h) λv y ⟨x,H1,n,k,m⟩=>wpAny_Slice (bA (hl ak y σ H1 _ n m) λd t ⟨l,H2,i,pl,z⟩=>bA (hu ak t σ H2 _ i z) λc a ⟨u,g,C,B,D⟩=>?_));rw [evalPart_none];refine cY ?_;have p:aD X ak σ g { a with heap:=a.heap.push { cls:=.type "slice",data:=.fields #[d,c,.none] } }:=C.kept (t':=a.toks) λb L q=>dF _ q;obtain ⟨T,id,j,o,J⟩:=hr ak { a with heap:=a.heap.push { cls:=.type "slice",data:=.fields #[d,c,.none] } } σ g x v d c l u a.heap.objs.size Q p k (Heap.IsSliceOf.new ..) pl B D;show wpAny (model X.prog X.w) X.A (subscriptTail e (.Slice lo hi none p2) v (.ref a.heap.objs.size)) (EP X ak σ Q) X.xe { a with heap:=a.heap.push { cls:=.type "slice",data:=.fields #[d,c,.none] } };exact tail_any (ops:=[.ref a.heap.objs.size,v]) o j J (by with_unfolding_all rfl)
def ou (xs:aA) (lo hi:Option Int):aA:=(xs.drop (HT.iZ xs.length 0 lo)).take (HT.iZ xs.length xs.length hi-HT.iZ xs.length 0 lo)
def agC (xs:aA) (lo hi:Option Int):(ou xs lo hi).length<=xs.length:=by unfold ou;rw [gW,xW];lk
def aqc (K:bG):R2:=λx y H Q=>∃ a b xs ys,x=.ref a/\y=.ref b/\gG K H a xs/\gG K H b ys/\xs≠[]/\xs.length+ys.length<=sizeLine /\
 (ys=[]->Q (.ref a) H)/\(ys≠[]->∀ p,H p=none->Q (.ref p) (upd H p (.tup (xs++ys))))
def bO.R4 (r:bO xs us):us=[]↔xs=[]:=by
 cases r with
 |nil=>simp
 |cons _ _=>simp
def acu:dO X (binaryOp .Add) (aqc X.K):=by rintro ak s σ H x y v u Q I i l ⟨a,b,xs,ys,rfl,rfl,n,j,p,e,k,m⟩;cases i;cases l;obtain ⟨aJ,d,r,_⟩:=I.tuple n;obtain ⟨g,c,p2,_⟩:=I.tuple j;refine HT.amY r p2 (λz=>p (d.R4.mp z)) (λz=>⟨.ref a,H,I,rfl,k (c.R4.mp z)⟩) (λz=>?_) (by rw [<-d.length,<-c.length];exact e);refine ⟨.ref s.heap.objs.size,_,I.laid (t':=s.toks) (o:=.tup (xs++ys)) (λb t q=>dF _ q) (bI _) ?_,rfl,m (λw=>z (c.R4.mpr w)) _ (I.hok.fresh (bI _))⟩;exact ⟨by rw [dJ];exact e,_,d.append c,oU.new _ _⟩
end
def q8 (n:Nat) (i:Int):Option Nat:=if 0<=i then (if i<n then some i.toNat else none) else if -(n:Int)<=i then some (i+n).toNat else none
def jK (xs:List α) (i:Int):Option α:=(q8 xs.length i).bind λj=>xs[j]?
def acv {i:Int} (h:q8 n i=some j):seqIndex? i n=some j/\j<n/\-(n:Int)<=i/\i<n:=by
 unfold q8 at h;by_cases a:0<=i
 ·rw [aQ a] at h;by_cases h1:i<n
  ·rw [aQ h1] at h;have e:i.toNat=j:=iB h;exact ⟨by rw [seqIndex_of a h1,e],by lk, by lk, h1⟩
  ·rw [aK h1] at h;cases h
 ·rw [aK a] at h;by_cases h1:-(n:Int)<=i
  ·rw [aQ h1] at h;have e:(i+n).toNat=j:=iB h;exact ⟨by rw [seqIndex_neg (by lk) h1,e],by lk, h1,by lk⟩
  ·rw [aK h1] at h;cases h
def R5 {xs:List α} {i:Int} {v:α} (h:jK xs i=some v):∃ j,seqIndex? i xs.length=some j/\xs[j]?=some v/\j<xs.length/\-(xs.length:Int)<=i/\i<xs.length:=by
 unfold jK at h;cases e:q8 xs.length i with
 |none=>rw [e] at h;cases h
 |some j =>rw [e] at h;obtain ⟨h1,h2,a,b⟩:=acv e;exact ⟨j,h1,h,h2,a,b⟩
def oO {xs:List α} {v:α} (h:xs[j]?=some v):jK xs (j:Int)=some v:=by
 have a:j<xs.length:=(dY.mp h).1;have e:q8 xs.length (j:Int)=some j:=by unfold q8;rw [aQ (by lk),aQ (by lk)];simp
 unfold jK;rw [e];exact h
def R6 (b:Expr):Prop:=∀ o i,subscripted b false o i=operate [o,i] (getItem o i)
def DR (X:Cx) (r:R2):Prop :=
 ∀ (value a:Expr) (ak:List (Addr×Obj)) (s:Shared) (σ:St) (H:Hp) (x y:V) (v u:Value) (Q:VK),aD X ak σ H s->cA x v->cA y u->r x y H Q ->
  subscripted a false v u=operate [v,u] (getItem v u)->wpAny (model X.prog X.w) X.A (subscriptTail value a v u) (EP X ak σ Q) X.xe s
def Af (X:Cx) (id:String) (r:V->aA->Hp->VK->Prop):Prop :=
 ∀ (ak:List (Addr×Obj)) (s:Shared) (σ:St) (H:Hp) (x:V) (xs:aA) (v:Value) (us:bV) (Q:VK),aD X ak σ H s->cA x v->bO xs us->r x xs H Q ->
  wpAny (model X.prog X.w) X.A (call (.builtin id) (v::us)) (EP X ak σ Q) X.xe s
section
variable {X:Cx} {a b:Expr} {ta tb:TE}
def uE {r:R2} (hr:DR X r) (ha:PE X a ta) (hb:PE X b tb) (hs:R6 b):PE X (.Subscript a b pos) (lO r ta tb):=by intro ak s σ H Q I h;exact Subscript_ (Uw ha hb I h λv u c x y H2 d e g q=>hr a b ak c σ H2 x y v u Q d e g q (hs _ _))
inductive aqd (K:bG) (x:V) (y:V) (H:Hp) (Q:VK):Prop
 |mk (p:_) (xs:_) (i:_) (v:_) (h1:x=.ref p) (h2:y=.int i) (h3:dH K H p xs) (h4:jK xs i=some v) (h5:Q v H)
def GF (K:bG):R2:=λx y H Q=>aqd K x y H Q
inductive aqe (K:bG) (x:V) (y:V) (H:Hp) (Q:VK):Prop
 |mk (p:_) (xs:_) (i:_) (v:_) (h1:x=.ref p) (h2:y=.int i) (h3:gG K H p xs) (h4:jK xs i=some v) (h5:Q v H)
def Dr (K:bG):R2:=λx y H Q=>aqe K x y H Q
inductive aqf (x:V) (y:V) (H:Hp) (Q:VK):Prop
 |mk (z:_) (i:_) (c:_) (h1:x=.str z) (h2:y=.int i) (h3:z.length<=sizeLine) (h4:jK z.cps.toList i=some c) (h5:Q (.str ⟨#[c]⟩) H)
def arn:R2:=λx y H Q=>aqf  x y H Q
def acw:DR X (GF X.K):=by
 intro value a ak s σ H x y v u Q I k n h g;obtain ⟨p,xs,i,z,rfl,rfl,C,m,q⟩:=h;cases k;obtain ⟨t,rfl⟩:=n;obtain ⟨aJ,r,pl,L⟩:=I.list C;obtain ⟨j,h1,h2,D,o,h5⟩:=R5 m;obtain ⟨w,e,B⟩:=r.get h2;have l:=r.length;have J:=xX;have d:EP X ak σ Q w s:=⟨z,H,I,B,q⟩;by_cases c:0<=i
 ·have b:i.toNat=j:=by rw [seqIndex_of c h5] at h1;exact iB h1
  exact item_listR pl.isList c (by lk) (by rw [b];simpa using e) d g
 ·have b:(i+(aJ.toArray.size:Int)).toNat=j:=by rw [seqIndex_neg (by lk) o] at h1;rw [gV,<-l];exact iB h1
  exact subscriptTail_builtinR (x:=w) pl.isList.typeIs Rc.lookup (wpAny_getItem_list_neg (Q:=λr s'=>r=w/\EP X ak σ Q r s') pl.isList (by lk) (by rw [gV]<;>lk) (by lk) (by rw [b];simpa using e) ⟨rfl,d⟩) g
def adz:DR X (Dr X.K):=by intro value a ak s σ H x y v u Q I b k h n;obtain ⟨p,xs,i,z,rfl,rfl,m,e,q⟩:=h;cases b;obtain ⟨t,rfl⟩:=k;obtain ⟨aJ,r,pl,D⟩:=I.tuple m;obtain ⟨j,h1,h2,o,B,h5⟩:=R5 e;obtain ⟨w,g,l⟩:=r.get h2;have d:=r.length;have C:=xX;have c:EP X ak σ Q w s:=⟨z,H,I,l,q⟩;exact subscriptTail_builtinR (x:=w) pl.typeIs slot_tuple_getitem.lookup (getItem_tuple (j:=j) (Q:=λr s'=>r=w/\EP X ak σ Q r s') pl (by lk) (by lk) (by rw [gV,<-d];exact h1) (by simpa using g) ⟨rfl,c⟩) n
def ao3:DR X arn:=by
 intro value a ak s σ H x y v u Q I b k h n;obtain ⟨z,i,c,rfl,rfl,r,g,q⟩:=h;obtain ⟨t,rfl⟩:=b;obtain ⟨t',rfl⟩:=k;obtain ⟨j,h1,h2,o,l,h5⟩:=R5 g;have e:z.cps.toList.length=z.length:=by simp [Str.length]
 rw [e] at h1 l h5;have p:=xX;exact tail_any (tW s z t) slot_str_getitem.lookup (getItem_str (c:=c) (by have m:decide (i < -(2 ^ 63:Int))=false:=lJ (by lk);have d:decide (i>=2 ^ 63)=false:=lJ (by lk);rw [m,d,Rf]) (by rw [h1];simpa using h2) ⟨.str ⟨#[c]⟩,H,I.tok _,⟨_,rfl⟩,q⟩) n
def ahn (aJ:bV) (n j:Nat) (u:Value):Obj.mapSeq (·.setIfInBounds j u) { cls:=.type "list",data:=.seq aJ.toArray n }={ cls:=.type "list",data:=.seq (aJ.set j u).toArray n }:=by simp [Obj.mapSeq]
def aD.lst {ak:List (Addr×Obj)} {σ:St} {H:Hp} {s:Shared} {p:Addr} {xs:aA} (I:aD X ak σ H s) (h:H p=some (.lst xs)) : ∃ (aJ:bV) (n:Nat),bO xs aJ/\s.heap.get? p=some { cls:=.type "list",data:=.seq aJ.toArray n }/\xs.length<=sizeLine:=by obtain ⟨z,aJ,n,r,e⟩:=I.hok p _ h;exact ⟨aJ,n,r,e,z⟩
def aD.ao4 {ys:aA} {n':Nat} {f:Obj->Obj} (I:aD X ak σ H s) (h:H p=some (.lst xs)) (ho:s.heap.get? p=some { cls:=.type "list",data:=.seq aJ.toArray n }) (hf:f { cls:=.type "list",data:=.seq aJ.toArray n }={ cls:=.type "list",data:=.seq its'.toArray n' }) (r:bO ys its') (hz:ys.length<=sizeLine) (t:Nat) : aD X ak σ (upd H p (.lst ys)) { s with heap:=s.heap.update p f,toks:=t }:=by
 have e:(s.heap.update p f).get? p=some { cls:=.type "list",data:=.seq its'.toArray n' }:=by rw [Jt f ho (by rw [hf]<;>rfl),hf]
 exact I.write (x:=p) (e:=p) (by rw [h];trivial) (.inl rfl) (λb u a q=>(u_ _ _ (bF a)).trans q) ⟨_,e⟩ ⟨hz,its',n',r,e⟩
inductive ao5 (o:V) (i:V) (v:V) (H:Hp) (Q:Hp->Prop):Prop
 |mk (p:_) (xs:_) (k:_) (j:_) (h1:o=.ref p) (h2:i=.int k) (h3:H p=some (.lst xs)) (h4:q8 xs.length k=some j) (h5:Q (upd H p (.lst (xs.set j v))))
def ad3:V->V->V->Hp->(Hp->Prop)->Prop:=λo i v H Q=>ao5  o i v H Q
def pI:Uv X ad3:=by
 intro ak s σ H o i v L D u Q I z x C h;obtain ⟨p,xs,k,j,rfl,rfl,l,B,q⟩:=h;cases z;obtain ⟨t,rfl⟩:=x;obtain ⟨aJ,n,r,c,y⟩:=I.lst l;obtain ⟨h1,h2,g,m⟩:=acv B;have b:=r.length;have J:=xX;have e:aD X ak σ (upd H p (.lst (xs.set j v))) { s with heap:=s.heap.update p (Obj.mapSeq (·.setIfInBounds j u)) }:=I.ao4 l c (ahn aJ n j u) (r.set C j) (by rw [fV];exact y) s.toks;by_cases d:0<=k
 ·have a:k.toNat=j:=by rw [seqIndex_of d m] at h1;exact iB h1
  exact PySem.W.ki_setAt c d (by lk) (by rw [gV,<-b];exact m) (by rw [a];exact ⟨_,e,q⟩)
 ·have a:(k+(aJ.toArray.size:Int)).toNat=j:=by rw [seqIndex_neg (by lk) g] at h1;rw [gV,<-b];exact iB h1
  exact PySem.W.ki_setBack c (by lk) (by rw [gV,<-b];exact g) (by lk) (by rw [a];exact ⟨_,e,q⟩)
def af6 (lo hi:Option Int) (n:Nat):(sliceBounds lo hi none n).1=((HT.iZ n 0 lo:Nat):Int)/\(sliceBounds lo hi none n).2.1=((HT.iZ n n hi:Nat):Int)/\(sliceBounds lo hi none n).2.2=1:=by
 refine ⟨?_,?_,rfl⟩
 ·cases lo with
  |none=>simp [sliceBounds,HT.iZ]
  |some i =>
   simp only [sliceBounds,HT.iZ,Option.getD_none,show (1:Int)>0 by decide,tX];by_cases h:i<0
   ·simp only [h,tX]<;>lk
   ·simp only [h,rK]<;>lk
 ·cases hi with
  |none=>simp [sliceBounds,HT.iZ]
  |some i =>
   simp only [sliceBounds,HT.iZ,Option.getD_none,show (1:Int)>0 by decide,tX];by_cases h:i<0
   ·simp only [h,tX]<;>lk
   ·simp only [h,rK]<;>lk
def afH (aJ:bV) (lo hi:Option Int):slicePick aJ.toArray lo hi none=((aJ.drop (HT.iZ aJ.length 0 lo)).take (HT.iZ aJ.length aJ.length hi-HT.iZ aJ.length 0 lo)).toArray:=by obtain ⟨h1,h2,a⟩:=af6 lo hi aJ.toArray.size;unfold slicePick;rw [h1,h2,a];simp only [sliceRange_one,pick_run,gV]<;>rfl
inductive aqg (K:bG) (x:V) (lo:Option Int) (hi:Option Int) (H:Hp) (Q:VK):Prop
 |mk (a:_) (xs:_) (h1:x=.ref a) (h2:dH K H a xs) (h3:∀ p,H p=none->Q (.ref p) (upd H p (.lst (ou xs lo hi))))
def aro (K:bG):V->Option Int->Option Int->Hp->VK->Prop:=λx lo hi H Q=>aqg K x lo hi H Q
def Ci:Ve X (aro X.K):=by intro ak s σ H x v n m lo hi sl Q I d k pl i h;obtain ⟨a,xs,rfl,e,q⟩:=h;cases d;obtain ⟨aJ,r,c,j⟩:=I.list e;have g:=r.length;refine ⟨"list",_,Rc.lookup,c.isList.typeIs,?_⟩;refine wpAny_getItem_list_slice c.isList k pl i .none (by simp) ?_ (by rw [gV]<;>lk);rw [afH,<-g];refine ⟨.ref s.heap.objs.size,_,I.laid (t':=s.toks) (o:=.lst (ou xs lo hi)) (λb l q=>dF _ q) (bI _) ?_,rfl,q _ (I.hok.fresh (bI _))⟩;exact ⟨gU (agC xs lo hi) j,_,0,(r.drop (HT.iZ xs.length 0 lo)).take (HT.iZ xs.length xs.length hi-HT.iZ xs.length 0 lo),fU _ rfl⟩
def uF:V->Bool
 |.non=>true
 |.bl _=>true
 |.int _=>true
 |.str _=>true
 |_=>false
def lA:V->V->Bool
 |.non,.non=>true
 |.bl a,.bl b=>a == b
 |.bl a,.int b=>(if a then 1 else 0) == b
 |.int a,.bl b=>a == (if b then 1 else 0)
 |.int a,.int b=>a == b
 |.str a,.str b=>a == b
 |_,_=>false
def ao6 {x:V} {v:Value} (ry:cA y u) (rx:cA x v) (fy:uF y=true) (fx:uF x=true):SeqAt.EqAt A s u v (lA y x):=by
 cases y with
 |non =>
  cases ry;cases x with
  |non=>cases rx;exact SeqAt.EqAt.same _
  |bl b=>cases rx;exact SeqAt.EqAt.none_bool b
  |int b=>obtain ⟨t,rfl⟩:=rx;exact SeqAt.EqAt.none_int b t
  |str b=>obtain ⟨t,rfl⟩:=rx;exact SeqAt.EqAt.none_str b t
  |_=>exact absurd (show false=true from fx) iQ
 |bl a =>
  cases ry;cases x with
  |non=>cases rx;exact SeqAt.EqAt.bool_none a
  |bl b=>cases rx;exact SeqAt.EqAt.bool_bool a b
  |int b=>obtain ⟨t,rfl⟩:=rx;exact SeqAt.EqAt.bool_int a b t
  |str b=>obtain ⟨t,rfl⟩:=rx;exact SeqAt.EqAt.bool_str a b t
  |_=>exact absurd (show false=true from fx) iQ
 |int a =>
  obtain ⟨t',rfl⟩:=ry;cases x with
  |non=>cases rx;exact SeqAt.EqAt.int_none a t'
  |bl b=>cases rx;exact SeqAt.EqAt.int_bool a t' b
  |int b=>obtain ⟨t,rfl⟩:=rx;exact SeqAt.EqAt.int_int a t' b t
  |str b=>obtain ⟨t,rfl⟩:=rx;exact SeqAt.EqAt.int_str a t' b t
  |_=>exact absurd (show false=true from fx) iQ
 |str a =>
  obtain ⟨t',rfl⟩:=ry;cases x with
  |non=>cases rx;exact SeqAt.EqAt.str_none a t'
  |bl b=>cases rx;exact SeqAt.EqAt.str_bool a t' b
  |int b=>obtain ⟨t,rfl⟩:=rx;exact SeqAt.EqAt.str_int a t' b t
  |str b=>obtain ⟨t,rfl⟩:=rx;exact SeqAt.EqAt.str_str a t' b t
  |_=>exact absurd (show false=true from fx) iQ
 |_=>exact absurd (show false=true from fy) iQ
def oH (x:V) (u:Value):Bool:=match u with
 |.none=>lA .non x
 |.bool b=>lA (.bl b) x
 |.int i _=>lA (.int i) x
 |.str z _=>lA (.str z) x
 |_=>false
def adA {x:V} (r:cA y u) (f:uF y=true):oH x u=lA y x:=by
 cases y with
 |non=>cases r;rfl
 |bl b=>cases r;rfl
 |int i=>obtain ⟨t,rfl⟩:=r;rfl
 |str z=>obtain ⟨t,rfl⟩:=r;rfl
 |_=>exact absurd (show false=true from f) iQ
def Fz {x:V}:∀ {xs:aA} {us:bV},bO xs us->xs.all uF=true->us.any (oH x)=xs.any λy=>lA y x
 |_,_,.nil,_=>rfl
 |y::xs,u::us,.cons r t,f=>by rw [Rg,Bu] at f;rw [yN,yN,adA r f.1,Fz t f.2]
def Ew {x:V} {v:Value} (rx:cA x v) (fx:uF x=true):∀ {xs:aA} {us:bV},bO xs us->xs.all uF=true->∀ u∈us,SeqAt.EqAt A s u v (oH x u)
 |_,_,.nil,_=>λu a=>by cases a
 |y::xs,u::us,.cons r t,f=>λb a=>by
  rw [Rg,Bu] at f;rcases fX.mp a with rfl|a
  ·rw [adA r f.1];exact ao6 r rx f.1 fx
  ·exact Ew rx fx t f.2 b a
def lM (x:V) (xs:aA):Bool:=xs.any λy=>lA y x
inductive arp (K:bG) (neg:Bool) (x:V) (y:V) (H:Hp) (Q:VK):Prop
 |mk (p:_) (xs:_) (h1:y=.ref p) (h2:(dH K H p xs\/gG K H p xs)) (h3:uF x=true) (h4:xs.all uF=true) (h5:Q (.bl (if neg then !lM x xs else lM x xs)) H)
def MF (K:bG) (neg:Bool):R2:=λx y H Q=>arp K neg x y H Q
def Qc:dO X (compareOp .In) (MF X.K false):=by
 rintro ak s σ H x y v u Q I c e ⟨p,xs,rfl,a,d,fs,q⟩;cases e;rcases a with a|a
 ·obtain ⟨aJ,r,pl,g⟩:=I.list a;refine SeqAt.in_listAt (oH x) pl.isList (λw b=>Ew c d r fs w (by simpa using b)) ⟨.bl _,H,I,rfl,?_⟩;rw [show aJ.toArray.any (oH x)=aJ.any (oH x) by simp,Fz r fs];exact q
 ·obtain ⟨aJ,r,pl,g⟩:=I.tuple a;refine SeqAt.in_tupleAt (oH x) pl (λw b=>Ew c d r fs w (by simpa using b)) ⟨.bl _,H,I,rfl,?_⟩;rw [show aJ.toArray.any (oH x)=aJ.any (oH x) by simp,Fz r fs];exact q
def O1:dO X (compareOp .NotIn) (MF X.K true):=by
 rintro ak s σ H x y v u Q I c e ⟨p,xs,rfl,a,d,fs,q⟩;cases e;rcases a with a|a
 ·obtain ⟨aJ,r,pl,g⟩:=I.list a;refine SeqAt.notIn_listAt (oH x) pl.isList (λw b=>Ew c d r fs w (by simpa using b)) ⟨.bl _,H,I,rfl,?_⟩;rw [show aJ.toArray.any (oH x)=aJ.any (oH x) by simp,Fz r fs];exact q
 ·obtain ⟨aJ,r,pl,g⟩:=I.tuple a;refine SeqAt.notIn_tupleAt (oH x) pl (λw b=>Ew c d r fs w (by simpa using b)) ⟨.bl _,H,I,rfl,?_⟩;rw [show aJ.toArray.any (oH x)=aJ.any (oH x) by simp,Fz r fs];exact q
inductive Oq (K:bG) (xs:aA) (H:Hp) (Q:VK):Prop
 |mk (p:_) (ys:_) (h1:xs=[.ref p]) (h2:(dH K H p ys\/gG K H p ys)) (h3:Q (.int ys.length) H)
def Zh:jz X (.builtin "len") (Oq X.K):=by
 rintro ak s σ H xs us Q I r ⟨p,ys,rfl,a,q⟩;obtain ⟨u,rfl,d⟩:=qG r;cases d;have g:=xX;rcases a with a|a
 ·obtain ⟨aJ,c,pl,e⟩:=I.list a;have b:=c.length;exact Calls.call_len_list pl.isList (by simp only [gV]<;>lk) ⟨.int ys.length,H,I.tok _,⟨s.toks+1,by rw [gV,b]⟩,q⟩
 ·obtain ⟨aJ,c,pl,e⟩:=I.tuple a;have b:=c.length;exact len_tuple pl (by simp only [gV]<;>lk) ⟨.int ys.length,H,I.tok _,⟨s.toks+1,by rw [gV,b]⟩,q⟩
inductive afq (K:bG) (xs:aA) (H:Hp) (Q:VK):Prop
 |mk (z:_) (h1:xs=[.str z]) (h2:z.length<=sizeLine) (h3:Q (.int z.length) H)
def Ij:jz X (.builtin "len") (afq X.K):=by rintro ak s σ H xs us Q I r ⟨z,rfl,a,q⟩;obtain ⟨u,rfl,t,rfl⟩:=qG r;have b:=xX;exact len_str (by lk) ⟨.int z.length,H,I.tok _,⟨_,rfl⟩,q⟩
inductive afr (K:bG) (xs:aA) (H:Hp) (Q:VK):Prop
 |mk (p:_) (ys:_) (h1:xs=[.ref p]) (h2:(dH K H p ys\/gG K H p ys)) (h3:∀ l,H l=none->Q (.ref l) (upd H l (.lst ys)))
def Ik:jz X (.type "list") (afr X.K):=by
 rintro ak s σ H xs us Q I r ⟨p,ys,rfl,g,q⟩;obtain ⟨u,rfl,m⟩:=qG r;cases m;have l:∀ (aJ:bV),bO ys aJ->ys.length<=sizeLine->∀ (h':Heap) (a:Nat),(∀ b o',s.heap.get? b=some o'->h'.get? b=some o') ->h'.get? s.heap.objs.size=some { cls:=.type "list",dict:=none,data:=.seq aJ.toArray a,slots:=#[] }->EP X ak σ Q (.ref s.heap.objs.size) { s with heap:=h' }:=λaJ c d h' a kp e =>
  ⟨.ref s.heap.objs.size,_,I.laid (t':=s.toks) kp (bI _) (show dZ X.prog X.w _ h' _ (.lst ys) from ⟨d,aJ,a,c,e⟩),rfl,q _ (I.hok.fresh (bI _))⟩
 rcases g with g|g
 ·obtain ⟨aJ,c,pl,d⟩:=I.list g;have t:=c.length;obtain ⟨o,i,j,n,k⟩:=pl.isList;exact call_list_seq p (.inl rfl) i j k (λh' a kp e=>l aJ c d h' a kp e) (by simp only [gV]<;>lk)
 ·obtain ⟨aJ,c,pl,d⟩:=I.tuple g;have t:=c.length;obtain ⟨o,i,j,n,k⟩:=pl;exact call_list_seq p (.inr rfl) i j k (λh' a kp e=>l aJ c d h' a kp e) (by simp only [gV]<;>lk)
inductive afe (K:bG) (xs:aA) (H:Hp) (Q:VK):Prop
 |mk (p:_) (ys:_) (h1:xs=[.ref p]) (h2:((dH K H p ys/\∀ l,H l=none->Q (.ref l) (upd H l (.tup ys)))\/(gG K H p ys/\Q (.ref p) H)))
def Zc:jz X (.type "tuple") (afe X.K):=by
 rintro ak s σ H xs us Q I r ⟨p,ys,rfl,h⟩;obtain ⟨u,rfl,j⟩:=qG r;cases j;rcases h with ⟨c,q⟩|⟨c,q⟩
 ·obtain ⟨aJ,a,pl,g⟩:=I.list c;have k:=a.length;refine call_tuple_list pl.isList (λh' kp=>?_) (by simp only [gV]<;>lk);have d:aD X ak σ H { s with heap:=h' }:=I.kept (t':=s.toks) kp;have i:aD X ak σ (upd H h'.objs.size (.tup ys)) { s with heap:=h'.push { cls:=.type "tuple",data:=.seq aJ.toArray } }:=d.laid (t':=s.toks) (λb o e=>dF _ e) (bI _) (show dZ X.prog X.w _ _ _ (.tup ys) from ⟨g,aJ,a,oU.new _ _⟩);exact ⟨.ref h'.objs.size,_,i,rfl,q _ (d.hok.fresh (bI _))⟩
 ·obtain ⟨aJ,a,pl,g⟩:=I.tuple c;exact call_tuple_same pl ⟨.ref p,H,I,rfl,q⟩
def Vg (K:bG) (T:String) (x:V) (H:Hp):Prop:=match x with
 |.str _=>T="str"
 |.int _=>T="int"
 |.ref p=>(T="list"/\∃ xs,dH K H p xs)\/(T="tuple"/\((∃ o,K.lookup p=some o/\o.cls=.type "tuple"/\o.dict=none)\/∃ xs,H p=some (.tup xs))) \/
   (T="dict"/\((∃ aY,H p=some (.dK aY))\/∃ aY,H p=some (.dT aY)))\/(T="set"/\∃ S n,H p=some (.set S n))
 |_=>False
def ao7 {x:V} {v:Value} (I:aD X ak σ H s) (r:cA x v) (ty:Vg X.K T x H) : s.TypeIs v T/\∀ a,v=.ref a->∃ ob,s.heap.get? a=some ob/\ob.dict=none:=by
 cases x with
 |str z =>obtain ⟨t,rfl⟩:=r;cases (show T="str" from ty);exact ⟨tW s z t,λ_ e=>nomatch e⟩
 |int i =>obtain ⟨t,rfl⟩:=r;cases (show T="int" from ty);exact ⟨vf s i t,λ_ e=>nomatch e⟩
 |ref p =>
  cases r;rcases ty with ⟨rfl,xs,q⟩|⟨rfl,⟨o,b,m,g⟩|⟨xs,b⟩⟩|⟨rfl,b⟩|⟨rfl,S,n,b⟩
  ·obtain ⟨aJ,_,pl,_⟩:=I.list q;refine ⟨pl.isList.typeIs,λa e=>?_⟩;cases e;obtain ⟨o,n,e,c,g,_⟩:=pl;exact ⟨o,e,g⟩
  ·refine ⟨⟨o,I.gq p o b,m⟩,λa e=>?_⟩;cases e;exact ⟨o,I.gq _ o b,g⟩
  ·obtain ⟨_,_,_,o,j,l,n,u,k⟩:=(show dZ X.prog X.w H s.heap p (.tup xs) from I.hok p _ b);refine ⟨⟨o,j,l⟩,λa e=>?_⟩;cases e;exact ⟨o,j,k⟩
  ·have z:∃ o,s.heap.get? p=some o/\o.ExactDict:=by
    rcases b with ⟨aY,b⟩|⟨aY,b⟩
    ·obtain ⟨_,_,_,_,o,_,_,e,ex,_⟩:=I.hok p _ b;exact ⟨o,e,ex⟩
    ·obtain ⟨_,_,_,_,o,_,_,e,ex,_⟩:=I.hok p _ b;exact ⟨o,e,ex⟩
   obtain ⟨o,e,ex⟩:=z;refine ⟨⟨o,e,ex.1⟩,λa d=>?_⟩;cases d;exact ⟨o,e,ex.2.1⟩
  ·obtain ⟨o,_,_,_,e,ex,_⟩:=I.hok p _ b;refine ⟨⟨o,e,ex.1⟩,λa d=>?_⟩;cases d;exact ⟨o,e,ex.2.1⟩
 |_=>exact elim ty
def Vh (K:bG) (T:String) (r:V->aA->Hp->VK->Prop) (to:TE) (t:TA):TE:=λσ H Q=>to σ H λx H1=>Vg K T x H1/\t σ H1 λxs H2=>r x xs H2 Q
variable {o:Expr} {to:TE} {t:TA} {name:Str} {apos cpos:Pos} {id:String} {r:V->aA->Hp->VK->Prop}
def iV (pa:PlainAttrs T) (slot:Slot T name id) (hty:typeOf (.builtin id)=pure (.type "method_descriptor")) (hm:Af X id r) (ho:PE X o to) (ha:PA X (e::es) t) (hbase:attributeBase o name X.env (eval o X.env)=eval o X.env:=by rfl) (hfew:((backTo cpos (starEach (e::es) X.env)).all (λx=>!x.1) && (backToKw cpos (keywordEach [] X.env)).all (λx=>x.1.isSome) && decide ((e::es).length+([]:List Keyword).length+(if ([]:List Keyword).isEmpty then 0 else 1)<30))=true:=by rfl) (hline:(apos.endLine == cpos.line)=true:=by rfl) (hs:starEach (e::es) X.env=(false,eval e X.env)::starEach es X.env:=by rfl) (hplain:(backTo cpos (starEach es X.env)).any (·.1)=false:=by rfl) : PE X (.Call (.Attribute o name apos) (e::es) [] cpos) (Vh X.K T r to t):=by intro ak s σ H Q I h;refine wpAny_Call_method_late hbase hfew hline rfl (bA (ho ak s σ H _ I h) λv k ⟨x,H1,c,a,ty,i⟩=>?_);obtain ⟨h1,h2⟩:=ao7 c a ty;refine ⟨T,id,pa,slot,hty,h1,h2,?_⟩;have b:=ha cpos ak k σ H1 _ c i;rw [hs] at b ⊢;refine Calls.callWith_builtin (by show (false || (backTo cpos (starEach es X.env)).any (·.1))=false;rw [hplain]<;>rfl) (Calls.evalArgs_plain ?_);exact bA b λus j ⟨vs,H2,d,g,l⟩=>hm ak j σ H2 x vs v us Q d a g l
/- xs.append(e),list.index on a module's tuple .. are Af facts of 06m -/
end
def Vi (X:Cx) (id:String) (r:V->aA->Hp->VK->Prop):Prop :=
 ∀ (ak:List (Addr×Obj)) (s:Shared) (σ:St) (H:Hp) (x:V) (xs:aA) (v:Value) (us:bV) (Q:VK),aD X ak σ H s->cA x v->bO xs us->r x xs H Q ->
  wpAny (model X.prog X.w) X.A (call (.builtin id) (v::us)) (EP X ak σ Q) X.xe s
def bO.one:∀ {x:V} {us:bV},bO [x] us->∃ u,us=[u]/\cA x u
 |_,_,.cons r .nil=>⟨_,rfl,r⟩
def bO.two:∀ {x y:V} {us:bV},bO [x,y] us->∃ u v,us=[u,v]/\cA x u/\cA y v
 |_,_,_,.cons r (.cons q .nil)=>⟨_,_,rfl,r,q⟩
def bO.rep (h:bO xs us):∀ k:Nat,bO (replicate k xs).flatten (replicate k us).flatten
 |0=>.nil
 |k+1=>by rw [ju,ju,vg,vg];exact bO.append h (bO.rep h k)
def foldl_rep (aJ:bV):∀ (k:Nat) (bU:bV),foldl (λx1 x2=>x1++x2) bU.toArray (replicate k aJ.toArray)=(bU++(replicate k aJ).flatten).toArray
 |0,bU=>by simp
 |k+1,bU=>by
  have e:bU.toArray++aJ.toArray=(bU++aJ).toArray:=by simp
  have a:(bU++aJ)++(replicate k aJ).flatten=bU++(replicate (k+1) aJ).flatten:=by rw [ju,vg,vh]
  rw [<-a,<-foldl_rep aJ k (bU++aJ),<-e,ju,jG]
section
variable {X:Cx} {l:Addr} {ys zs:aA}
def aD.aeu {f:h_->h_} (I:aD X ak σ H s) (hH:H l=some (.lst xs)) (e:s.heap.get? l=some { cls:=.type "list",data:=.seq aJ.toArray n }) (hf:f aJ.toArray=its'.toArray) (hv:bO ys its') (hz:ys.length<=sizeLine) : aD X ak σ (upd H l (.lst ys)) { s with heap:=s.heap.update l (Obj.mapSeq f),toks:=t' }:=by have q:=PySem.IsL.update e f;rw [hf] at q;exact I.write (x:=l) (e:=l) (by rw [hH];exact trivial) (.inl rfl) (λc u b a=>(u_ s.heap (Obj.mapSeq f) (bF b)).trans a) ⟨_,q⟩ ⟨hz,its',_,hv,q⟩
def aD.aev (I:aD X ak σ H s) (hv:bO ys aJ) (hz:ys.length<=sizeLine) : aD X ak σ (upd H s.heap.objs.size (.lst ys)) { s with heap:=s.heap.push { cls:=.type "list",data:=.seq aJ.toArray },toks:=t' }:=I.laid (λ_ _ q=>dF _ q) (bI _) ⟨hz,aJ,0,hv,fU _ rfl⟩
def aD.fresh (I:aD X ak σ H s):H s.heap.objs.size=none:=I.hok.fresh (bI _)
def aD.Ds (I:aD X ak σ H s) (hH:H l=some (.lst xs)):xs.length<=sizeLine/\∃ (aJ:bV) (n:Nat),bO xs aJ/\xs.length=aJ.length/\s.heap.get? l=some { cls:=.type "list",data:=.seq aJ.toArray n }:=by obtain ⟨z,aJ,n,r,e⟩:=I.hok l _ hH;exact ⟨z,aJ,n,r,r.length,e⟩
def abg (h:n<=sizeLine):listTooLong n=false:=by unfold listTooLong;exact lJ (by lk)
end
section
variable {X:Cx}
inductive akO (x:V) (vs:aA) (H:Hp) (Q:VK):Prop
 |mk (l:_) (xs:_) (y:_) (h1:x=.ref l) (h2:vs=[y]) (h3:H l=some (.lst xs)) (h4:xs.length<sizeLine) (h5:Q .non (upd H l (.lst (xs++[y]))))
def am1:V->aA->Hp->VK->Prop:=λx vs H Q=>akO  x vs H Q
def tV:Vi X "list.append" am1:=by rintro ak s σ H x vs v us Q I b d ⟨l,xs,y,rfl,rfl,a,i,q⟩;cases b;obtain ⟨u,rfl,c⟩:=d.one;obtain ⟨z,aJ,n,r,g,e⟩:=I.Ds a;refine lX F.slot_list_append ⟨_,e,rfl⟩ F.entry_list_append (F.args_list_append_2 _ _) (PySem.list_append l aJ.toArray n u (by rw [gV];lk)) ⟨e,.non,_,I.aeu (its':=aJ++[u]) a e (by simp) (r.append (.cons c .nil)) ?_,rfl,q⟩;rw [dJ,yO];lk
inductive akP (x:V) (vs:aA) (H:Hp) (Q:VK):Prop
 |mk (l:_) (b:_) (xs:_) (zs:_) (h1:x=.ref l) (h2:vs=[.ref b]) (h3:H l=some (.lst xs)) (h4:H b=some (.lst zs)) (h5:xs.length+zs.length<=sizeLine) (h6:Q .non (upd H l (.lst (xs++zs))))
def am2:V->aA->Hp->VK->Prop:=λx vs H Q=>akP  x vs H Q
def IV:Vi X "list.extend" am2:=by
 rintro ak s σ H x vs v us Q I g y ⟨l,b,xs,zs,rfl,rfl,d,p,D,q⟩;cases g;obtain ⟨u,rfl,j⟩:=y.one;cases j;obtain ⟨z,aJ,n,r,B,e⟩:=I.Ds d;obtain ⟨C,a,o,i,t,k⟩:=I.Ds p;have c:aJ.toArray.size+a.toArray.size<=sizeLine:=by rw [gV,gV];lk
 have m:¬ (!aJ.toArray.isEmpty && listTooLong (aJ.toArray.size+a.toArray.size))=true:=by rw [abg c,Bool.and_false];exact iQ
 refine lX F.slot_list_extend ⟨_,e,rfl⟩ F.entry_list_extend (F.args_list_extend_2 _ _) (AutoSeq1.list_extend_list_list_0 l aJ.toArray n b a.toArray o m (by rw [gV];lk) (by lk)) ⟨e,k,.non,_,I.aeu (its':=aJ++a) d e (by simp) (r.append i) ?_,rfl,q⟩;rw [dJ];lk
inductive aqh (x:V) (y:V) (H:Hp) (Q:VK):Prop
 |mk (l:_) (b:_) (xs:_) (zs:_) (h1:x=.ref l) (h2:y=.ref b) (h3:H l=some (.lst xs)) (h4:H b=some (.lst zs)) (h5:xs.length+zs.length<=sizeLine) (h6:∀ p,H p=none->Q (.ref p) (upd H p (.lst (xs++zs))))
def arq:R2:=λx y H Q=>aqh  x y H Q
def vK:dO X (binaryOp .Add) arq:=by
 rintro ak s σ H x y v u Q I c i ⟨l,b,xs,zs,rfl,rfl,m,j,B,q⟩;cases c;cases i;obtain ⟨z,aJ,n,r,o,e⟩:=I.Ds m;obtain ⟨p,a,t,d,k,g⟩:=I.Ds j;refine PySem.P.add_list e g ?_ (by rw [gV,gV];lk);have ea:aJ.toArray++a.toArray=(aJ++a).toArray:=by simp
 rw [ea];exact ⟨.ref _,_,I.aev (t':=s.toks) (r.append d) (by rw [dJ];lk),rfl,q _ I.fresh⟩
inductive aqi (x:V) (y:V) (H:Hp) (Q:VK):Prop
 |mk (l:_) (k:_) (xs:_) (h1:x=.ref l) (h2:y=.int k) (h3:H l=some (.lst xs)) (h4:-(2 ^ 63)<=k) (h5:k<2 ^ 63) (h6:xs.length*k.toNat<=sizeLine) (h7:∀ p,H p=none->Q (.ref p) (upd H p (.lst (replicate k.toNat xs).flatten)))
def ars:R2:=λx y H Q=>aqi  x y H Q
def Qd (xs:List α) (k:Nat):(replicate k xs).flatten.length=k*xs.length:=by
 induction k with
 |zero=>simp
 |succ k a=>rw [ju,vg,dJ,a,Nat.succ_mul,Rh]
def Gd:dO X (binaryOp .Mult) ars:=by
 rintro ak s σ H x y v u Q I o D ⟨l,k,xs,rfl,rfl,J,h1,h2,j,q⟩;cases o;obtain ⟨t,rfl⟩:=D;obtain ⟨z,aJ,n,r,p,e⟩:=I.Ds J;have C:aJ.toArray.size*k.toNat<=sizeLine:=by rw [gV,<-p];exact j
 have c:¬ aJ.toArray.size*k.toNat>(2 ^ 63-1) / 8:=by
  have:(sizeLine:Nat)<=(2 ^ 63-1) / 8:=by decide
  lk
 have b:¬ (!Builtin.List.listFitsIndex k)=true:=by rw [fitsIndex_both h1 h2];exact iQ
 have B:¬ listTooLong (aJ.toArray.size*k.toNat)=true:=by rw [abg C];exact iQ
 have d:foldl (λi g=>i++g) #[] (replicate (if aJ.toArray.isEmpty=true then 0 else k.toNat) aJ.toArray)=(replicate k.toNat aJ).flatten.toArray:=by
  have f0:∀ m:Nat,foldl (λi g=>i++g) #[] (replicate m aJ.toArray)=(replicate m aJ).flatten.toArray:=λm=>by have:=foldl_rep aJ m [];rw [List.nil_append] at this;exact this
  rw [f0];cases aJ with
  |nil=>simp
  |cons a L=>rw [aK (by simp)]
 refine Ju (T:="list") (U:="int") (by decide) ⟨_,e,rfl⟩ (λs'=>vf s' k t) noFill_list_mul Jv wY repeat_list Jw.lookup (lX wY (vf s k t) Jx (Jy _ _) (int___rmul___int_list k t l aJ.toArray n) ⟨e,rfl,⟨_,e,rfl⟩,lX F.slot_list_mul ⟨_,e,rfl⟩ F.entry_list_mul (F.args_list_mul_2 _ _) (AutoListH.list___mul___list_int_3 l aJ.toArray n k t b c B) ⟨e,?_⟩⟩);rw [d];exact ⟨.ref _,_,I.aev (t':=s.toks) (r.rep k.toNat) (by rw [Qd,Jz];exact j),rfl,q _ I.fresh⟩
end
end
variable {loose:bK} {XP:dR->Heap->Prop} {YP:World->Heap->Prop}
namespace Att
open PySem.W PySem.Calls PyProof.Rows
section
def afg {P:Params}:∀ (ns:aF) (vs:bV),WellAll P h vs (ns.map WData.int)->IntsAre vs ns:=by
 intro ns;induction ns with
 |nil =>intro vs w;rw [zO] at w;cases w;exact .nil
 |cons n ns c =>
  intro vs w;rw [gj] at w;cases w with
  |cons a b =>cases a;exact .cons _ _ (c _ b)
def aiJ {l:OpenLaw} (hn:l.most=some n) {P:Params} {args:List WData} {vals:bV} (hpre:l.row.toRowW.claim.pre args=true) (hwl:WellAll P h vals args) : ∃ a vs ns,vals=[Value.ref a]/\args=[WData.list (ns.map WData.int)]/\h.get? a=some { cls:=.type "list",data:=.seq vs.toArray }/\IntsAre vs ns/\ns.length<=n:=by
 have e:WShape.hasAll [] args [.list .int]=true:=(pre_splitW hpre).1;have g:l.pre.holds [] { args:=args }=true:=(pre_splitW hpre).2;obtain ⟨d,r,rfl,h1,h2⟩:=hasAllW_cons e;obtain rfl:=hasAllW_nil h2;obtain ⟨xs,rfl,k⟩:=hasW_list h1;obtain ⟨ns,rfl⟩:=items_int k;have m:ns.length<=n:=by
  unfold OpenLaw.pre at g;have c:(WTm.not (.lt (.lit (.int (n:Int))) (.len (.arg 0)))).holds [] { args:=[.list (ns.map .int)] }=true:=by have c:=(holds_andW g).1;rw [hn] at c;exact c
  have h5:=condW_of c (w_not (w_lt w_lit (w_len_list (w_arg rfl))));rw [bh] at h5;refine Nat.le_of_not_lt λq=>?_;have p:(n:Int)<((ns.length:Nat):Int):=by lk
  first
   |(rw [fO p] at h5;exact absurd h5 (by decide))
   |(simp at h5;lk)
 cases hwl with
 |cons j i =>
  cases i;cases j with
  |list o b=>exact ⟨_,_,ns,rfl,rfl,o,afg ns _ b,m⟩
def aiK (l:OpenLaw) (args:List WData):l.row.toRowW.claim.post args (.bool true) args=true:=postW_of (r:=l.row.toRowW) (X:=(true == true)) (show WShape.has [] (.bool true) .bool=true by first|rfl|decide|simp [WShape.has,WShape.arms,WShape.armsAll]) (show (WTm.eq .res (.lit (.bool true))).value [] { args:=args,res:=some (.bool true),after:=args }=some (.bool (true == true)) from w_eq_bool (w_res rfl) w_lit) rfl
def agD {l:OpenLaw} {q:Program} {d:DefRec} (hn:l.most=some n) (hdf:d.params.defaults=[]) (call:∀ (w:World) (s₀ s₁:Shared) (mg mb:dR) (fa:Addr) (o:Obj) (pm cd doc:Value) (a:Addr) (vs:bV) (ns:aF),Ground q loose [] XP w s₀ mg mb s₁.heap->YP w s₁.heap ->s₁.heap.get? fa=some o->o.data=.func (docDef d.name d.params d.body d.scope pm cd doc)->s₁.heap.CodeRec cd d.name->mg d.name=some (.ref fa) ->s₁.heap.get? a=some { cls:=.type "list",data:=.seq vs.toArray }->IntsAre vs ns->ns.length<=n->s₁.gens=#[] ->codeAny (model l.prog w) callerA (.call (.ref fa) ⟨[.ref a],[]⟩) (λr s'=>r=.ok (.ret (.bool true))/\OldK s₁.heap s'.heap/\s'.os=s₁.os/\AllBare s'.gens) s₁) : WalkO q loose XP YP l.row.toRowW d [] (λf vs=>PySem.call f vs):=by intro w s₀ s₁ mg mb G Y fa o pm cd doc t kV B I i p g u m vals L c k v j D;obtain rfl:t=.none:=Dflts.none p hdf;obtain rfl:kV=.none:=Dflts.noKw p;obtain ⟨a,vs,ns,rfl,rfl,e,b,z⟩:=aiJ hn c j;refine enter_call (su (call w s₀ s₁ mg mb fa o pm cd doc a vs ns G Y B (fd_plain I) i g e b z u) λr s' J=>?_);obtain ⟨rfl,h2,x,C⟩:=J;exact ⟨.inl ⟨.bool true,.bool true,[],rfl,λ_=>rfl,.bool true,aiK l _,λ_=>⟨Pairwise.nil,λ_ y=>(nomatch y)⟩⟩,h2,x,C⟩
section
variable {K:Frag}
end
end
end Att
variable {CX:qg} {sp:Sp} {X:Cx} {B:Prop} {H1 H2 H':Hp} {l:Addr} {g:TG} {tt:TT} {te:TE} {o:HO} {rs:aA} {ws:aP} {aj:Int} {v:V}
section
open PySem.Spec PyProof.Rows
def IW:∀ {vs:bV} {ns:aF},IntsAre vs ns->bO (ns.map V.int) vs
 |_,_,.nil=>.nil
 |_,_,.cons n t h=>.cons ⟨t,rfl⟩ (IW h)
def TF (H:Hp):Prop:=∀ b,H b=none\/∃ o xs,H b=some (.oE o (.lst xs))
def akQ {mb:dR} {k:Nat} {fa:Addr} {s₁:Shared} (KX:K.In s₁.heap) (hns:s₁.heap.Ns mainGlobals mg) (hb:s₁.heap.Ns builtinsNs mb) (hbb:∀ x:Str,x≠"__name__"->mb x=bootBuiltins x) (hlim:s₁.heap.NoLimit) (hg:s₁.gens=#[]) (ha:s₁.heap.get? a=some { cls:=.type "list",data:=.seq vs.toArray }) (hi:IntsAre vs ns) (hl:ns.length<=sizeLine) (hr:eN k callerA) (F:∀ au:Heap,K.In au->au.Ns mainGlobals mg->dw P w K mg au CX k fa fd [x] sp) (hbind:∀ (s:Shared) (u:Value),BindsTo s fd ⟨[u],[]⟩ [(x,u)]) (hsp:∀ H:Hp,TF H->dH K H a (ns.map V.int)->sp [.ref a] H (λv _=>v=.bl true) λ_ _ _=>False) (Vj:∀ H e s',CX [] H s₁ (λ_ _ _=>False) e s'->False) : codeAny (model P w) callerA (.call (.ref fa) ⟨[.ref a],[]⟩) (λr s'=>r=.ok (.ret (.bool true))/\OldK s₁.heap s'.heap/\s'.os=s₁.os/\AllBare s'.gens) s₁:=by
 have N:=IW hi;have g:=hi.length
 -- from an abstract heap in which nothing but the script may be tracked
 have c:∀ H:Hp,TF H->dH K H a (ns.map V.int)->gP P w H s₁.heap->(∀ b,H b≠none->b=a)->(H a≠none->K.lookup a=none) ->codeAny (model P w) callerA (.call (.ref fa) ⟨[.ref a],[]⟩) (λr s'=>r=.ok (.ret (.bool true))/\OldK s₁.heap s'.heap/\s'.os=s₁.os/\AllBare s'.gens) s₁:=by
  intro H L S p J hK;have B:∀ {b:Addr} {o:Obj},s₁.heap.get? b=some o->H b=none->(wA s₁.heap H).get? b=some o:=λe n=>akG e n;have G5:∀ {b:Addr} {o:Obj} {es:Array DictEntry} {y:Nat},s₁.heap.get? b=some o->o.data=.dict es y->H b=none:=λ{b o es y} e d=>by
   cases q:H b with
   |none=>rfl
   |some u =>have D:b=a:=J b (by rw [q];simp);subst D;rw [ha] at e;cases e;have O:Data.seq vs.toArray _=Data.dict es y:=d;cases O
  have C:∀ {b:Addr} {m:dR},s₁.heap.Ns b m->(wA s₁.heap H).Ns b m:=λ{b m} ⟨o,es,y,e,d,r⟩=>⟨o,es,y,B e (G5 e d),d,r⟩;have t:K.In (wA s₁.heap H):=λb o e=>B (KX b o e) (by
   cases q:H b with
   |none=>rfl
   |some u =>have D:b=a:=J b (by rw [q];simp);subst D;rw [hK (by rw [q];simp)] at e;cases e)
  have hM:Mod K mg (wA s₁.heap H):=⟨t,C hns,⟨mb,C hb,hbb⟩,let ⟨U,h1,h2⟩:=hlim;⟨U,C h1,h2⟩⟩;have Y:z8 P w K mg (wA s₁.heap H) callerA [] s₁ H:=⟨rfl,hM,λb o e=>amS e,Te (aiz _ _),trivial,λb hb=>absurd (show b∈([]:jk) from hb) (by simp),p,.of_eq hg⟩;refine su ((F _ t (C hns)).run callerA [] s₁ H ⟨[.ref a],[]⟩ [.ref a] [.ref a] _ _ hr Y (hbind s₁ (.ref a)) (.cons rfl .nil) (hsp H L S)) λr s' h=>?_;cases r with
  |error e=>exact (Vj H e s' h).elim
  |ok fl =>
   cases fl with
   |next=>exact elim h
   |brk=>exact elim h
   |cont=>exact elim h
   |ret u =>
    obtain ⟨v,H',os,j,un,i,r',q⟩:=h;have q':v=.bl true:=q;subst q';obtain rfl:u=Value.bool true:=r';refine ⟨rfl,OldK.of_keep λb o e=>?_,os,j⟩;cases q:H b with
    |none=>exact un.keep b o e q (by intro z;exact absurd (show b∈([]:jk) from z) (by simp)) (by simp)
    |some u =>
     rcases L b with z|⟨R,xs,z⟩
     ·rw [q] at z;cases z
     ·have z2:=un.mq b R _ z;obtain ⟨M,_⟩:=p b _ z;obtain ⟨W,_⟩:=i b _ z2;rw [e] at M;cases M;exact W
 cases I:K.lookup a with
 |some o =>
  -- the script is one of the module's own objects
  have e:=KX a o I;rw [ha] at e;cases e;refine c (λ_=>none) (λ_=>.inl rfl) (.inr ⟨_,vs.toArray,_,I,rfl,rfl,rfl,by rw [gV,g];exact hl,by simpa using N⟩) (λb u z=>by have l:(none:Option HO)=some u:=z;cases l) (λb z=>absurd rfl z) λz=>absurd rfl z
 |none =>
  refine c (λb=>if b=a then some (.oE { cls:=.type "list",data:=.seq vs.toArray } (.lst (ns.map V.int))) else none) (λb=>?_) (.inl (.inr ⟨{ cls:=.type "list",data:=.seq vs.toArray },aQ rfl⟩)) (λb u z=>?_) (λb z=>?_) λ_=>I
  ·by_cases hb:b=a
   ·exact .inr ⟨_,_,aQ hb⟩
   ·exact .inl (aK hb)
  ·by_cases hb:b=a
   ·have l:=(aQ hb).symm.trans z;cases l;subst hb;exact ⟨ha,by rw [bh];exact hl,vs,_,N,ha⟩
   ·have l:=(aK hb).symm.trans z;cases l
  ·by_cases hb:b=a
   ·exact hb
   ·exact absurd (aK hb) z
def am3 {l:PySem.W.OpenLaw} {k:Nat} {q:Program} {d:DefRec} {K:Params->bG} {CX:World->qg} {sp:World->Sp} (hn:l.most=some n) (hn2:n<=sizeLine) (hdf:d.params.defaults=[]) (hr:eN k callerA) (hY:∀ (w:World) (h:Heap),YP w h->(K w.params).In h) (F:∀ (w:World) (mg:dR) (fa:Addr) (h:Heap),(K w.params).In h->h.Ns mainGlobals mg->mg d.name=some (.ref fa) ->∃ fd:FuncData,(∀ (s:Shared) (u:Value),BindsTo s fd ⟨[u],[]⟩ [(x,u)]) /\∀ au:Heap,(K w.params).In au->au.Ns mainGlobals mg->dw l.prog w (K w.params) mg au (CX w) k fa fd [x] (sp w)) (hsp:∀ (w:World) (H:Hp) (a:Addr) (ns:aF),ns.length<=n->TF H->dH (K w.params) H a (ns.map V.int)->sp w [.ref a] H (λv _=>v=.bl true) λ_ _ _=>False) (Vj:∀ (w:World) (H:Hp) (s:Shared) (e:Value) (s':Shared),CX w [] H s (λ_ _ _=>False) e s'->False) : PySem.W.WalkO q loose XP YP l.row.toRowW d [] (λf vs=>PySem.call f vs):=by refine Att.agD hn hdf λw s₀ C mg I fa o pm cd p a vs ns G Y J L z j i c m D=>?_;have KX:=hY w _ Y;obtain ⟨fd,y,t⟩:=F w mg fa _ KX G.T.g j;exact akQ KX G.T.g G.T.b G.T.builtins G.T.nolimit D i c (gU m hn2) hr t y (λH B r=>hsp w H a ns m B r) λH e s'=>Vj w H C e s'
def jX (s:Stmt) (j:Nat):Stmt:=match s with
 |.ClassDef _ _ _ body _ _ _ _ _ _ _=>body.getD j (.Pass ⟨0,0,0,0⟩)
 |_=>.Pass ⟨0,0,0,0⟩
def kJ (s:Stmt):Arguments:=match s with
 |.FunctionDef _ a _ _ _ _ _ _ _ _=>a
 |_=>{ posonlyargs:=[],args:=[],vararg:=none,kwonlyargs:=[],kw_defaults:=[],kwarg:=none,defaults:=[] }
def jO (s:Stmt):List Stmt:=match s with
 |.FunctionDef _ _ b _ _ _ _ _ _ _=>b
 |_=>[]
def gJ (s:Stmt):Scope:=match s with
 |.FunctionDef _ _ _ _ _ _ sc _ _ _=>sc
 |_=>{ kind:=.function,names:=[],isGenerator:=false,isCoroutine:=false }
abbrev jL:qg:=λ_ _ _ _ _ _=>False
abbrev E0:XK:=λ_ _ _=>False
def Gs:uZ jL X E0:=λ_ _ _ _ _ _ _ h=>h.elim
structure wF (K:bG) (x bZ:Str) (st:Stmt) (f:Addr) (fd:FuncData):Prop where
 ex:∃ (oc:Value) (od:jy) (kV doc pm:Value) (an:jy) (cdv ct:Value) (osl:uy),
  fd=fnOf x bZ (kJ st) (jO st) (gJ st) .none kV doc pm an cdv ct/\K.lookup f=some ⟨oc,od,.func fd,osl⟩/\codeIn K cdv bZ=true
 kp:keepIn K (.ref f)=true
section
def wF.ok {st:Stmt} {k:Nat} (F:wF K x bZ st f fd) (S:rT N ps (gJ st)) (len:∀ vs H Q E,sp vs H Q E->vs.length=ps.length) (hbody:∀ (cdv:Value) (A:Around) (outer:nQ) (s:Shared) (H:Hp) (vs:aA) (Q:VK) (E:XK),eN k (A.deeper (envOfC bZ (gJ st) s.heap.objs.size f cdv))->sp vs H Q E ->∃ t,oF (z9 jL P w K mg au N bZ (gJ st) f cdv A outer s H E).yw (jO st) t/\t { nx:=λ_ H'=>Q .non H',rt:=Q } (start N vs) H):dw P w K mg au jL (k+1) f fd ps sp:=by obtain ⟨oc,od,kV,c,pm,an,cdv,ct,osl,rfl,d,b⟩:=F.ex;refine ad2 d b S len λA outer s H vs Q E hr a=>?_;obtain ⟨t,h,q⟩:=hbody cdv A outer s H vs Q E hr a;exact ⟨t,h.yw,q⟩
def wF.binds {st:Stmt} (F:wF K x bZ st f fd) (h:∀ (kV doc pm:Value) (an:jy) (cdv ct:Value) (us:bV),us.length=ps.length->bindArgs (fnOf x bZ (kJ st) (jO st) (gJ st) .none kV doc pm an cdv ct) ⟨us,[]⟩=pure (ps.zip us)):mK K fd ps []:=by obtain ⟨oc,od,kV,doc,pm,an,cdv,ct,osl,rfl,b,a⟩:=F.ex;exact .all (h kV doc pm an cdv ct)
def K7 {st:Stmt} {kV doc cdv:Value} (l:K.lookup f=some ⟨oc,od,.func (fnOf x bZ (kJ st) (jO st) (gJ st) .none kV doc pm an cdv ct),osl⟩) (c:codeIn K cdv bZ=true) (k:keepIn K (.ref f)=true):wF K x bZ st f (fnOf x bZ (kJ st) (jO st) (gJ st) .none kV doc pm an cdv ct):=⟨⟨oc,od,kV,doc,pm,an,cdv,ct,osl,rfl,l,c⟩,k⟩
end
def yc {k:Nat} (hr:eN k A):A.units+1<cLine:=Ri (Nat.add_le_add_left (by decide:1<=64) _) hr.units
def aaC (h:n<=1000):n<sizeLine:=Ri h (by decide)
section
def pv (i:Nat) (hN:X.N[i]?=some x:=by rfl) (hv:Mu X.env.scope x:=by first|exact Or.inl rfl|exact Bv (Or.inl rfl)|exact Bv (Bv rfl)) (hd:(x == ("__debug__":Str))=false:=by decide) (hcd:(x == ("__classdict__":Str))=false:=by decide):PE X (.Name x pos) (mX i):=aoX hN hv hd hcd
end
def pB {c A:Prop} [Decidable c] (h1:c->A) (h2:¬ c->B):if c then A else B:=by
 by_cases h:c
 ·rw [aQ h];exact h1 h
 ·rw [aK h];exact h2 h
def aB (H H':Hp):Prop:=∀ b o,H b=some o->H' b=some o
def aB.refl (H:Hp):aB H H:=λ_ _ h=>h
def cW:=@aB.refl
def aB.trans (a:aB H H1) (b:aB H1 H2):aB H H2:=λc o h=>b c o (a c o h)
def aG:=@aB.trans
def aB.free (e:aB H H') (h:H' l=Option.none):H l=Option.none:=by
 cases q:H l with
 |none=>rfl
 |some o =>rw [e l o q] at h;cases h
def aB.seq (e:aB H H') (h:dH K H a xs):dH K H' a xs:=by
 rcases h with (h|⟨o,h⟩)|h
 ·exact .inl (.inl (e _ _ h))
 ·exact .inl (.inr ⟨o,e _ _ h⟩)
 ·exact .inr h
def mU (env:Env):List (Str×NameKind)->um->um
 |[],bU=>bU
 |(n,k)::r,bU=>if k == .free then mU env r ((n,(env.cells.lookup n).getD 0)::bU) else mU env r bU
def R7 {f:Str×NameKind->um->Sem (ForInStep um)} (hf:∀ n k bU,f (n,k) bU=if k == .free then (do let a <-cellOf env n;pure (yield ((n,a)::bU))) else pure (yield bU)) : ∀ (names:List (Str×NameKind)) (bU:um),(∀ p∈names,p.2=.free->∃ a,env.cells.lookup p.1=some a) ->(forIn names bU f:Sem um)=pure (mU env names bU)
 |[],bU,_=>rfl
 |(n,k)::r,bU,h=>by
  rw [Bw,hf];unfold mU;by_cases b:(k == NameKind.free)=true
  ·rw [aQ b,aQ b];obtain ⟨a,d⟩:=h (n,k) iz (by simpa using b);have e:cellOf env n=pure a:=by unfold cellOf;rw [show env.cells.lookup n=some a from d]
   rw [e,show env.cells.lookup n=some a from d];simp only [pure_bind];exact R7 hf r _ λp c=>h p (fH _ c)
  ·rw [aK b,aK b,pure_bind];exact R7 hf r _ λp c=>h p (fH _ c)
def afs (h:∀ p∈scope.names,p.2=.free->∃ a,env.cells.lookup p.1=some a):closureFor scope env=pure (mU env scope.names []):=by
 simp only [closureFor];rw [R7 (env:=env) (λn k c=>?_) scope.names [] h]
 ·rfl
 ·by_cases b:(k == NameKind.free)=true
  ·simp only [b,tX]
  ·simp only [b,rK]
def R8:∀ {names:List (Str×NameKind)} {bU:um},(∀ p∈names,p.2=.free->∃ a,env.cells.lookup p.1=some a)->∀ p∈mU env names bU,p∈bU\/(env.cells.lookup p.1=some p.2)
 |[],bU,_,p,hp=>.inl hp
 |(n,k)::r,bU,h,p,hp=>by
  unfold mU at hp;have hr:∀ p∈r,p.2=.free->∃ a,env.cells.lookup p.1=some a:=λp hp=>h p (fH _ hp);by_cases b:(k == NameKind.free)=true
  ·rw [aQ b] at hp;obtain ⟨a,c⟩:=h (n,k) iz (by simpa using b);rcases R8 hr p hp with q|q
   ·rcases fX.mp q with q|q
    ·subst q;right;show env.cells.lookup n=some ((env.cells.lookup n).getD 0);rw [show env.cells.lookup n=some a from c];rfl
    ·exact .inl q
   ·exact .inr q
  ·rw [aK b] at hp;exact R8 hr p hp
def R9:∀ {names:List (Str×NameKind)} {bU:um},∀ p∈bU,p∈mU env names bU
 |[],bU,p,hp=>hp
 |(n,k)::r,bU,p,hp=>by
  unfold mU;by_cases a:(k == NameKind.free)=true
  ·rw [aQ a];exact R9 p (fH _ hp)
  ·rw [aK a];exact R9 p hp
def Ku:∀ {names:List (Str×NameKind)} {bU:um} {x:Str},(x,NameKind.free)∈names->∃ a,(x,a)∈mU env names bU
 |[],_,_,h=>by cases h
 |(n,k)::r,bU,x,h=>by
  unfold mU;rcases fX.mp h with q|q
  ·cases q;rw [aQ (show (NameKind.free == NameKind.free)=true from rfl)];exact ⟨_,R9 _ iz⟩
  ·by_cases b:(k == NameKind.free)=true
   ·rw [aQ b];exact Ku q
   ·rw [aK b];exact Ku q
def O7:∀ {l:List (Str×β)} {x:Str} {b:β},(x,b)∈l->∃ b',l.lookup x=some b'
 |[],_,_,h=>by cases h
 |(n,k)::r,x,b,h=>by
  rw [Bx];cases a:x == n with
  |true=>exact ⟨k,rfl⟩
  |false =>
   rcases fX.mp h with q|q
   ·cases q;simp at a
   ·exact O7 q
def Ek:∀ {l:List (Str×β)} {x:Str} {b:β},l.lookup x=some b->(x,b)∈l
 |[],_,_,h=>by simp at h
 |(n,k)::r,x,b,h=>by
  rw [Bx] at h;cases a:x == n with
  |true =>
   rw [a] at h;have:x=n:=by simpa using a
   subst this;cases h;exact iz
  |false =>rw [a] at h;exact fH _ (Ek h)
def Y9 {env:Env} {x:Str}:∀ (names:List (Str×NameKind)),(names.map λ(p:Str×NameKind)=>match p with|(n,k)=>if (k == .free && env.scope.kind == .function && env.kindOf n == some .cell) then (n,NameKind.cell) else (n,k)).lookup x = (names.lookup x).map λk=>if (k == .free && env.scope.kind == .function && env.kindOf x == some .cell) then NameKind.cell else k
 |[]=>rfl
 |(n,k)::r=>by
  have c:=@Y9 env x r;rw [gj];show List.lookup x ((if (k == NameKind.free && env.scope.kind == .function && env.kindOf n == some .cell)=true then (n,NameKind.cell) else (n,k))::_)=_;cases b:x == n with
  |true =>
   have e:x=n:=by simpa using b
   subst e;by_cases a:(k == NameKind.free && env.scope.kind == .function && env.kindOf x == some .cell)=true
   ·rw [aQ a];simp only [Bx,b,BJ,aQ a]
   ·rw [aK a];simp only [Bx,b,BJ,aK a]
  |false =>
   by_cases a:(k == NameKind.free && env.scope.kind == .function && env.kindOf n == some .cell)=true
   ·rw [aQ a];simp only [Bx,b];exact c
   ·rw [aK a];simp only [Bx,b];exact c
def Zd:(relabel scope env).names.lookup x=(scope.names.lookup x).map λk=>if (k == .free && env.scope.kind == .function && env.kindOf x == some .cell) then NameKind.cell else k :=
 Y9 scope.names
def oV (X:Cx) (N':bK) (scope:Scope) (cl:um) (C:Addr) (s:Shared) (H:Hp) (fp:jk) (pn:List (Addr×Obj)):Cx :=
 { X with N:=N',s₀:=s,H₀:=H,env:=compEnvC scope cl C X.env,outer:=X.stack,stack:=X.stack,ex:=fp,fn:=λ_=>false,pn:=pn,xe:=λ_ _=>False }
def Wk:St->St->Prop
 |[],[]=>True
 |a::r,b::q=>(a=none\/a=b)/\Wk r q
 |_,_=>False
def Wk.len:∀ {a b:St},Wk a b->a.length=b.length
 |[],[],_=>rfl
 |_::_,_::_,h=>by simp [Wk.len h.2]
 |[],_::_,h=>elim h
 |_::_,[],h=>elim h
def Wk.get:∀ {a b:St},Wk a b->∀ (i:Nat) v,a[i]?=some (some v)->b[i]?=some (some v)
 |[],[],_,i,v,h=>by simp at h
 |x::r,y::q,h,0,v,e=>by
  simp at e;rcases h.1 with z|z
  ·rw [z] at e;cases e
  ·simp [<-z,e]
 |x::r,y::q,h,i+1,v,e=>by simp at e ⊢;exact Wk.get h.2 i v e
 |[],_::_,h,_,_,_=>elim h
 |_::_,[],h,_,_,_=>elim h
def gM (own:Nat) (cI:gB) (σ:St):St:=replicate own none++cI.map λj=>(σ[j]?).join
def G6 (X:Cx) (ifs:List Expr) (t:TT):Prop :=
 ∀ (ak:List (Addr×Obj)) (s:Shared) (σ:St) (H:Hp) (Q:Bool->Hp->Prop),aD X ak σ H s->t σ H Q ->
  wpAny (model X.prog X.w) X.A (forIn ifs true λc r=>if r=true then do let ok <-isTrue c X.env (eval c X.env);pure (yield ok) else pure (yield r)) (TP X ak σ Q) X.xe s
def aew:TT:=λ_ H Q=>Q true H
def sI {A B:Hp->Prop} (h:A H):aew σ H (λb H3=>if b=true then A H3 else B H3):=by
 show if true=true then A H else B H
 rw [aQ rfl];exact h
def am4:G6 X [] aew:=λ_ _ _ H _ I h=>wpAny_tests_nil ⟨H,I,h⟩
def Cj {c:Expr} {t:TT} (h:PT X c t):G6 X [c] t:=λak s σ H Q I q=>wpAny_tests_one (h ak s σ H Q I q)
def agE {elt target jo:Expr} {ifs:List Expr} {it bU:Value} (I:Nat->Shared->Prop) (turn:∀ n s,I n s->wpAny (model prog w) A (pyNext it) (λr s₁=>match r with
   |none=>R (.ok .next) s₁
   |some v=>wpAny (model prog w) A (letOwnedTupleGo target it v) (λ_ s₁'=>wpAny (model prog w) A (assign target env v) (λ_ s₂ =>
     wpAny (model prog w) A (forIn ifs true λc r=>if r=true then do let ok <-isTrue c env (eval c env);pure (yield ok) else pure (yield r)) (λok s₃ =>
      if ok=true then wpAny (model prog w) A (eval elt env) (λx s₄ =>
       wpAny (model prog w) A (call (.builtin "list.append") [bU,x]) (λ_ s₅=>∃ m,m<n/\I m s₅) (λ_ _=>False) s₄) (λ_ _=>False) s₃
      else ∃ m,m<n/\I m s₃) (λ_ _=>False) s₂) (λ_ _=>False) s₁') (λ_ _=>False) s₁) (λ_ _=>False) s)
  (n:Nat) (h:I n s) :
  codeAny (model prog w) A (.compLoop (.ListComp elt [⟨target,jo,ifs,0⟩] scope pos) 0 it bU env) R s:=by
 refine codeAny_loop rfl I (λn s g=>?_) n h;show wpAny _ A ((compTurn (.ListComp elt [⟨target,jo,ifs,0⟩] scope pos) 0 it bU env).onRaise (λx=>do noteFrame x env;theTreesLotGoes x)) _ _ s;refine wpAny_noted ?_;rw [compTurn_list];refine bf (wpAny_standAt (bf (lE (turn n s g) (λr s₁ d=>?_) λ_ _ h'=>elim h')));cases r with
 |none=>exact cY d
 |some v =>
  refine bf (lE d (λ_ s₁' a=>?_) λ_ _ h'=>elim h');refine bf (lE a (λ_ s₂ j=>bf (lE j (λok s₃ b=>?_) λ_ _ h'=>elim h')) λ_ _ h'=>elim h');cases ok with
  |false=>exact cY ⟨rfl,b⟩
  |true =>exact bf (bf (lE b (λx s₄ e=>bf (lE e (λ_ s₅ i=>cY (cY ⟨rfl,i⟩)) λ_ _ h'=>elim h')) λ_ _ h'=>elim h'))
def Ua (wi:TI) (own:Nat) (cI:gB) (g:TG) (tt:TT) (te:TE):TE:=λσ H Q=>wi σ H λJ H1=>∀ l,H1 l=none->∃ W:Nat->Nat->aA->Hp->Prop,(∃ m,W 0 m [] (upd H1 l (.lst []))) /\
 ∀ i m ys H,W i m ys H->H l=some (.lst ys)/\((J.stop i H/\Q (.ref l) H)\/(J.go i H/\ys.length<sizeLine/\∃ N:aA->Hp->Prop,(∀ a H',N a H'->∃ e,e<m/\W (i+1) e a H') /\
  ∀ x H',J.oG i H x H'->g x (gM own cI σ) H' λσ2 H2=>Wk (gM own cI σ) σ2 /\
  tt σ2 H2 λb c=>if b=true then te σ2 c λy d=>d l=some (.lst ys)/\N (ys++[y]) (upd d l (.lst (ys++[y]))) else N ys c))
section
variable {elt jo:Expr} {ifs:List Expr} {wi:TI} {iu:bK} {cI:List (Str×Nat)}
def akR {h₁:Heap} (I:aD X ak σ H s) (hf:∀ b∈fp,n_ X ak H b) (hfl:∀ b∈fp,b<s.heap.objs.size) (hkind:scope.kind=.function) (hcell:∀ y∈scope.names,y.2≠.cell) (hfree:∀ p∈scope.names,p.2=.free->X.env.scope.names.lookup p.1=some .cell) (Ub:∀ c∈cI,X.N[c.2]?=some c.1/\X.env.scope.names.lookup c.1=some .cell/\scope.names.lookup c.1=some .free) (hn:h₁.Ns s.heap.objs.size (λ_=>none)) (hk:∀ b o,s.heap.get? b=some o->h₁.get? b=some o) {tk:Nat} : aD (oV X (iu++cI.map (·.1)) scope (mU X.env scope.names []) s.heap.objs.size s H fp (X.pn++ak)) [] (gM iu.length (cI.map (·.2)) σ) H { s with heap:=h₁,toks:=tk }:=by
 have r:∀ p∈scope.names,p.2=.free->∃ a,X.env.cells.lookup p.1=some a:=λp R O=>I.ok.has p.1 (.inl (hfree p R O));have l:∀ {x:Str} {c:Addr},(mU X.env scope.names []).lookup x=some c->X.env.cells.lookup x=some c:=λ{x c} e=>by
  rcases R8 r _ (Ek e) with q|q
  ·cases q
  ·exact q
 have clt:∀ {x:Str} {c:Addr},X.env.cells.lookup x=some c->c<s.heap.objs.size:=λ{x c} e=>by obtain ⟨v,q⟩:=I.cell x c e;exact q.lt
 refine ⟨⟨I.ok.mod,?_,I.ok.glob,I.ok.blt,bI _,λx y c h1 h2=>I.ok.inj x y c (l h1) (l h2),λx hx=>?_,λx c h=>(by cases h),I.ok.hd,I.ok.frames,.inl rfl,λb t=>⟨fP (hfl b t),λx c e=>(hf b t).2.2.2.2.1 x c (l e)⟩,λb o e=>I.bs b o e,gU I.ok.uK I.sz,λb o e z=>?_,λb t z=>?_,I.stack,I.Fy⟩,rfl,I.bare,Un.kept hk,⟨_,hn,λi x v h1 h2 h3=>?_⟩,λx c e=>?_,I.hok.fresh (bI _),λx c e=>I.o8 x c (l e),λp R=>?_,I.hok.kept hk,?_⟩
 ·show (relabel scope X.env).kind=.function;exact hkind
 ·-- a cell for each free name
  have B:(relabel scope X.env).names.lookup x=some .cell\/(relabel scope X.env).names.lookup x=some .free:=hx;rw [Zd] at B;have D:scope.names.lookup x=some .free:=by
   cases q:scope.names.lookup x with
   |none=>rw [q] at B;simp at B
   |some k =>
    have U:=hcell _ (Ek q);rw [q] at B;cases k with
    |free=>rfl
    |cell=>exact absurd rfl U
    |_=>simp at B
  obtain ⟨a,ha⟩:=Ku (env:=X.env) (bU:=[]) (Ek D);exact O7 ha
 ·-- the au r no iterator of ours
  rcases (hf b z).2.2.2.1 with q|q
  ·exact I.ok.Dn b o e q
  ·exact absurd (mL (cF e) (gU I.ok.uK q)) (uf _)
 ·rcases fX.mp (I.K5 b z) with q|q
  ·exact (hf b t).2.1 q
  ·exact (hf b t).2.2.1 q
 ·-- captured names
  have hi:iu.length<=i:=by
   unfold gM at h2;by_cases hi:iu.length<=i
   ·exact hi
   ·rw [qI (by simp;lk),uh] at h2;split at h2<;>cases h2
  have g:(iu++cI.map (·.1))[i]?=some x:=h1;unfold gM at h2;rw [xV (by simp;lk),vG,jP,jP] at h2;rw [xV hi,jP] at g;cases V:cI[i-iu.length]? with
  |none=>rw [V] at g;cases g
  |some c =>
   rw [V] at g h2;have ex:c.1=x:=iB g;have C:(σ[c.2]?).join=some v:=iB h2;have ev':σ[c.2]?=some (some v):=by
    cases q:σ[c.2]? with
    |none=>rw [q] at C;cases C
    |some z=>rw [q] at C;simp at C;rw [C]
   obtain ⟨k1,J,L⟩:=Ub c (fj V);rw [ex] at k1 J L;obtain ⟨m,hm,hl⟩:=I.loc;obtain ⟨u,ru,mD⟩:=hl c.2 x v k1 ev' (.inr (.inl J));refine ⟨u,ru,.inr ⟨.inl ?_,?_⟩⟩
   ·show (relabel scope X.env).names.lookup x=some .cell;rw [Zd,L];have D:X.env.scope.kind=.function:=I.ok.kind;have M:X.env.kindOf x=some .cell:=J;simp [D,M]
   ·rcases mD with ⟨z,_⟩|⟨_,cc,D,M⟩
    ·have z':X.env.scope.names.lookup x=some .local:=z;rw [J] at z';cases z'
    ·obtain ⟨a,ha⟩:=Ku (env:=X.env) (bU:=[]) (Ek L);obtain ⟨a',j⟩:=O7 ha;have e3:a'=cc:=iB ((l j).symm.trans D);rw [e3] at j;obtain ⟨o,S,Y⟩:=M;exact ⟨cc,j,o,hk _ _ S,Y⟩
 ·obtain ⟨v,o,S,Y⟩:=I.cell x c (l e);exact ⟨v,o,hk _ _ S,Y⟩
 ·have W:p∈X.pn++ak:=by have:p∈(X.pn++ak)++[]:=R;simpa using this
  obtain ⟨e,n,ne,nf,d⟩:=I.pin p W;refine ⟨hk _ _ e,n,fP (cF e),λz=>?_,d⟩;rcases fX.mp (I.K5 p.1 z) with q|q
  ·exact ne q
  ·exact nf q
 ·show (gM iu.length (cI.map (·.2)) σ).length=(iu++cI.map (·.1)).length;unfold gM;simp
def abh (iu:bK) (cI:List (Str×Nat)) (hc:X.calm=true) (hi:PI X tg jo wi) (hg:∀ cl C s H fp pn,PG (oV X (iu++cI.map (·.1)) scope cl C s H fp pn) tg g) (ht:∀ cl C s H fp pn,G6 (oV X (iu++cI.map (·.1)) scope cl C s H fp pn) ifs tt) (he:∀ cl C s H fp pn,PE (oV X (iu++cI.map (·.1)) scope cl C s H fp pn) elt te) (hkind:scope.kind=.function) (hcell:∀ y∈scope.names,y.2≠.cell) (hfr:(scope.names.all λp=>p.2 != .free || X.env.scope.names.lookup p.1 == some .cell)=true) (hcp:(cI.all λc=>X.N[c.2]? == some c.1 && (X.env.scope.names.lookup c.1 == some .cell && scope.names.lookup c.1 == some .free))=true) (hnames:∀ x∈scope.names,x.2=.local->scope.names.lookup x.1=some .local) (hs:∀ x,foldedSetIterable jo X.env x=pure x) {cp:Pos} {use:Option (Value->Sem Unit)} {QQ:lF} {Q:VK} (I:aD X ak σ H s) (h:Ua wi iu.length (cI.map (·.2)) g tt te σ H Q) (after:∀ (s3 s5:Shared) (σ5:St) (H3 H5:Hp) (ac:Addr) (fp:jk),aD X ak σ H3 s3->(∀ b∈fp,n_ X ak H3 b)->aD (oV X (iu++cI.map (·.1)) scope (mU X.env scope.names []) s3.heap.objs.size s3 H3 fp (X.pn++ak)) [] σ5 H5 s5->Q (.ref ac) H5->compPost (model X.prog X.w) X.A X.xe use QQ (.ref ac) s3.heap.objs.size (.ok .next) s5) : wpAny (model X.prog X.w) X.A (comprehension (.ListComp elt [⟨tg,jo,ifs,0⟩] scope pos) scope X.env cp (newList []) false (eval jo X.env) use) QQ X.xe s:=by
 have j:∀ p∈scope.names,p.2=.free->X.env.scope.names.lookup p.1=some .cell:=λp hp e=>by have z:=wZ.mp hfr p hp;rw [e] at z;simpa using z
 have Ub:∀ c∈cI,X.N[c.2]?=some c.1/\X.env.scope.names.lookup c.1=some .cell/\scope.names.lookup c.1=some .free:=λc hc=>by have z:=wZ.mp hcp c hc;simpa using z
 have has:∀ p∈scope.names,p.2=.free->∃ a,X.env.cells.lookup p.1=some a:=λp hp hfr=>I.ok.has p.1 (.inl (j p hp hfr));refine wpAny_comprehension_free (use:=use) rfl hs (afs has) hkind hnames (bA (hi ak s σ H _ I h) λv s1 h1=>bA h1 λitv k h2=>?_);obtain ⟨it,fp,tn,J,H2,rfl,I2,T,B,f2,red⟩:=h2;have R:H2 k.heap.objs.size=none:=I2.hok.fresh (bI _);obtain ⟨W,⟨m0,w0⟩,l⟩:=red k.heap.objs.size R;refine yP ?_;generalize t:k.heap.objs.size=ac at R l w0 ⊢;have I3:aD X ak σ (upd H2 ac (.lst [])) { k with heap:=k.heap.push { cls:=.type "list",dict:=none,data:=.seq ([]:bV).toArray } }:=by subst t;exact I2.laid (t':=k.toks) (o:=.lst []) (λb u e=>dF _ e) (bI _) ⟨fQ _,[],0,.nil,fU _ rfl⟩
 generalize V:({ k with heap:=k.heap.push { cls:=.type "list",dict:=none,data:=.seq ([]:bV).toArray } }:Shared)=s3 at I3 ⊢;have aru:=T.obj 0 k.heap B;have fne:∀ b∈fp,b≠ac:=λb d z=>by obtain ⟨o,e,_⟩:=aru b d;exact absurd (cF e) (by rw [z,t];exact uf _)
 have f3:∀ b∈fp,n_ X ak (upd H2 ac (.lst [])) b:=λb d=>⟨by rw [aV (fne b d)];exact (f2 b d).1,(f2 b d).2⟩;have M:tn 0 s3.heap:=T.keep 0 _ _ B λb d o e=>by subst V;exact dF _ e
 have Vk:∀ b∈fp,b<s3.heap.objs.size:=λb d=>by obtain ⟨o,e,_⟩:=T.obj 0 s3.heap M b d;exact cF e
 have acl:ac<s3.heap.objs.size:=by subst V;subst t;simp [pO]
 refine wpAny_newFunctionEnv hcell (by intro y hy;simp at hy) (λh₁ D hsb₁=>?_) hkind;have old:∀ b o,s3.heap.get? b=some o->h₁.get? b=some o:=λb o e=>hsb₁.extBut b o (fP (cF e)) (dF _ e);have I4:=akR (iu:=iu) (cI:=cI) (tk:=s3.toks+([]:List (Str×Value)).length) I3 f3 Vk hkind hcell j Ub D old;have st4:tn 0 h₁:=T.keep 0 _ _ M λb d o e=>old b o e;let Y:=oV X (iu++cI.map (·.1)) scope (mU X.env scope.names []) s3.heap.objs.size s3 (upd H2 ac (.lst [])) fp (X.pn++ak);have m:∀ s4:Shared,s4={ s3 with heap:=h₁,toks:=s3.toks+([]:List (Str×Value)).length }->codeAny (model X.prog X.w) X.A (.compLoop (.ListComp elt [⟨tg,jo,ifs,0⟩] scope pos) 0 (.ref it) (.ref ac) (compEnvC scope (mU X.env scope.names []) s3.heap.objs.size X.env)) (compPost (model X.prog X.w) X.A X.xe use QQ (.ref ac) s3.heap.objs.size) s4:=by
  rintro s4 rfl;refine agE (λn s'=>∃ i ys H',aD Y [] (gM iu.length (cI.map (·.2)) σ) H' s'/\tn i s'.heap/\(∀ b∈fp,H' b=none)/\W i n ys H') ?_ m0 ⟨0,[],_,I4,st4,λb d=>(f3 b d).1,w0⟩;rintro n s6 ⟨i,ys,H6,I6,U,S,w6⟩;obtain ⟨hl6,alt⟩:=l i n ys H6 w6;have Uz:∀ {H':Hp},(∀ b∈fp,H' b=none)->∀ b∈fp,n_ Y [] H' b:=λ{H'} hn b d =>
   ⟨hn b d,fP (Vk b d),I6.ok.Dp b d,.inl d,(I6.ok.Mv b d).2,λp hp z=>(f3 b d).2.2.2.2.2 p (by have hp':p∈(X.pn++ak)++[]:=hp;simpa using hp') z⟩
  rcases alt with ⟨L,qn⟩|⟨go,hsz,N,hN,step⟩
  ·refine bA (T.done Y rfl rfl rfl hc i [] s6 _ H6 _ I6 (Uz S) U L) λr s7 ⟨hr,I7⟩=>?_;subst hr;exact after _ s7 _ _ H6 _ _ I3 f3 I7 qn
  ·refine bA (T.item Y rfl rfl rfl hc i [] s6 _ H6 _ I6 (Uz S) U go) λr s7 ⟨u,hr,h7⟩=>?_;subst hr;refine bA h7 λ_ s8 ⟨x,H8,I8,r8,y8,Vl,fr8⟩=>?_;have I8':=I8.pinned (Uz fr8) (T.obj _ _ Vl);have cU:∀ {σ':St} {H':Hp} {s':Shared},aD Y ([]++CV fp s8.heap) σ' H' s'->tn (i+1) s'.heap/\∀ b∈fp,H' b=none:=λ{σ' H' s'} J =>
    ⟨T.keep _ _ _ Vl λb d o e=>(J.pin (b,o) (pN _ (pN _ (Iu d e)))).1,λb d=>by obtain ⟨o,e,_⟩:=T.obj _ _ Vl b d;exact (J.pin (b,o) (pN _ (pN _ (Iu d e)))).2.1⟩
   refine bA (hg _ _ _ _ _ _ _ s8 _ H8 x u _ I8' r8 (step x H8 y8)) λ_ s9 ⟨σ9,H9,I9,wk,q9⟩=>bA (ht _ _ _ _ _ _ _ s9 σ9 H9 _ I9 q9) λb uQ ⟨Ag,Vm,MK⟩=>?_;cases b with
   |false =>rw [aK iQ] at MK ⊢;obtain ⟨m',q,w'⟩:=hN _ _ MK;obtain ⟨e1,e2⟩:=cU Vm;exact ⟨m',q,i+1,ys,Ag,(Vm.weak wk.len wk.get).Eu,e1,e2,w'⟩
   |true =>rw [aQ rfl] at MK ⊢;refine bA (he _ _ _ _ _ _ _ uQ σ9 Ag _ Vm MK) λy DW ⟨yv,uR,I11,r11,arv,q11⟩=>?_;obtain ⟨m',q,w'⟩:=hN _ _ q11;refine bA (tV (X:=Y) (CV fp s8.heap) DW σ9 uR (.ref ac) [yv] (.ref ac) [y] (λv H'=>H'=upd uR ac (.lst (ys++[yv]))) I11 rfl (.cons r11 .nil) ⟨ac,ys,yv,rfl,rfl,arv,hsz,rfl⟩) λ_ s12 ⟨v12,H12,O,_,Vn⟩=>?_;subst Vn;obtain ⟨e1,e2⟩:=cU O;exact ⟨m',q,i+1,_,_,(O.weak wk.len wk.get).Eu,e1,e2,w'⟩
 exact codeAny_compStart_list (m _ rfl) (T.self _ 0 _ _ _ st4 (m _ rfl))
def iD (iu:bK) (cI:List (Str×Nat)) (hc:X.calm=true) (hi:PI X tg jo wi) (hg:∀ cl C s H fp pn,PG (oV X (iu++cI.map (·.1)) scope cl C s H fp pn) tg g) (ht:∀ cl C s H fp pn,G6 (oV X (iu++cI.map (·.1)) scope cl C s H fp pn) ifs tt) (he:∀ cl C s H fp pn,PE (oV X (iu++cI.map (·.1)) scope cl C s H fp pn) elt te) (hkind:scope.kind=.function:=by rfl) (hcell:∀ y∈scope.names,y.2≠.cell:=by decide) (hfr:(scope.names.all λp=>p.2 != .free || X.env.scope.names.lookup p.1 == some .cell)=true:=by rfl) (hcp:(cI.all λc=>X.N[c.2]? == some c.1 && (X.env.scope.names.lookup c.1 == some .cell && scope.names.lookup c.1 == some .free))=true:=by rfl) (hnames:∀ x∈scope.names,x.2=.local->scope.names.lookup x.1=some .local:=by decide) (hs:∀ x,foldedSetIterable jo X.env x=pure x:=by intro _;rfl) : PE X (.ListComp elt [⟨tg,jo,ifs,0⟩] scope pos) (Ua wi iu.length (cI.map (·.2)) g tt te):=by
 intro ak s σ H Q I h;rw [eval_ListComp];refine abh iu cI hc hi hg ht he hkind hcell hfr hcp hnames hs I h λD L σ5 J B O fp R t j q=>?_;obtain ⟨m,M,_⟩:=j.loc;refine ⟨m,M,λh' a=>?_⟩;have l:B D.heap.objs.size=none:=j.free;refine ⟨.ref O,B,?_,rfl,q⟩;have i:=j.au;have u:Un (d7 X.stack) fp J B D.heap h':=⟨λb o e n d k=>a.extBut b o (fP (cF e)) (i.keep b o e n d k),λb o e n d k=>by
   obtain ⟨sl,z⟩:=i.slot b o e n d k;exact ⟨sl,a.extBut b _ (fP (cF e)) z⟩,i.free,λb o e k=>by
   obtain ⟨o',z⟩:=i.there b o e k;exact ⟨o',a.extBut b _ (fP (cF e)) z⟩,i.tups,i.mq,λb ps q=>⟨(i.jf b ps q).1,λc o S x=>let z:=(i.jf b ps q).2 c o S x;⟨z.1,a.extBut c o (cV z.1 l) z.2⟩⟩⟩
 refine R.call' (s':={ L with heap:=h' }) (ch:=fp) j.os u (λb u e=>?_) j.bare (λb d=>⟨(t b d).2.2.2.1,(t b d).2.1,(t b d).2.2.2.2.1,(t b d).2.2.2.2.2⟩);refine (j.hok b u e).stay (λc v hc z=>a.extBut c v ?_ z) (λ_ z=>z) λ_ _ z=>z;rintro rfl;rcases hc with r|r
 ·rw [r,e] at l;cases l
 ·rw [l] at r;cases r
def aho {spos:Pos} (hN:X.N.Nodup) (hix:X.N[i]?=some x) (hxl:vP X.env.scope x) (iu:bK) (cI:List (Str×Nat)) (hc:X.calm=true) (hi:PI X tg jo wi) (hg:∀ cl C s H fp pn,PG (oV X (iu++cI.map (·.1)) scope cl C s H fp pn) tg g) (ht:∀ cl C s H fp pn,G6 (oV X (iu++cI.map (·.1)) scope cl C s H fp pn) ifs tt) (he:∀ cl C s H fp pn,PE (oV X (iu++cI.map (·.1)) scope cl C s H fp pn) elt te) (hkind:scope.kind=.function:=by rfl) (hcell:∀ y∈scope.names,y.2≠.cell:=by decide) (hfr:(scope.names.all λp=>p.2 != .free || X.env.scope.names.lookup p.1 == some .cell)=true:=by rfl) (hcp:(cI.all λc=>X.N[c.2]? == some c.1 && (X.env.scope.names.lookup c.1 == some .cell && scope.names.lookup c.1 == some .free))=true:=by rfl) (hnames:∀ x∈scope.names,x.2=.local->scope.names.lookup x.1=some .local:=by decide) (hs:∀ x,foldedSetIterable jo X.env x=pure x:=by intro _;rfl) (hsw:swapsWith (.ListComp elt [⟨tg,jo,ifs,0⟩] scope pos) (some (.Name x pos')) spos.line X.env=pure true:=by rfl) (hf:X.fn x=true\/X.env.scope.names.lookup x=some .local:=by first|exact .inl rfl|exact .inr rfl|assumption) : PS X (.Assign [.Name x pos'] (.ListComp elt [⟨tg,jo,ifs,0⟩] scope pos) spos) (qW (Ua wi iu.length (cI.map (·.2)) g tt te) (lK i)):=by
 intro ak s σ H D I h;rw [exec_Assign_Name_used _ _ _ _ hsw];refine bf (wpAny_standAt (bf ?_));show wpAny _ X.A (do let _ <-comprehension (.ListComp elt [⟨tg,jo,ifs,0⟩] scope pos) scope X.env _ (newList []) false (eval jo X.env) (some (assign (.Name x pos') X.env))) _ _ s;refine bf (bA (Q:=λ_ s'=>∃ σ' H',aD X ak σ' H' s'/\D.nx σ' H') (abh (Q:=λv H'=>D.nx (σ.set i (some v)) H') iu cI hc hi hg ht he hkind hcell hfr hcp hnames hs I h λn u σ5 H3 t J fp L l j q=>?_) λ_ s' Y=>cY (cY Y));obtain ⟨m,U,_⟩:=j.loc;have B:t n.heap.objs.size=none:=j.free;have O:aD X ak σ t u:=L.call' (s':=u) (ch:=fp) j.os j.au j.hok j.bare (λb d=>⟨(l b d).2.2.2.1,(l b d).2.1,(l b d).2.2.2.2.1,(l b d).2.2.2.2.2⟩);have k:=L.sW (bI _) B;show wpAny _ X.A (assign (.Name x pos') X.env (.ref J)) _ _ u;refine wpAny_assign_Name (aav O hN hix hxl (v:=.ref J) rfl (λV R ⟨a,M,W⟩=>?_) hf);have S:n.heap.objs.size≠a:=by
  rcases W with z|z
  ·rw [z];exact k.2.1
  ·exact bF (k.2.2.2.2.1 x a z)
 exact ⟨m,U.sameBut M S,λh' r=>⟨_,t,R.turned (it:=n.heap.objs.size) (t':=V.toks) (λb o d e=>r.extBut b o d e) B k.2.1 k.2.2.2.1 k.2.2.2.2.1 k.2.2.2.2.2,q⟩⟩
def tQ {own:Nat} {cI:gB} {R:Hp->Prop} (Pv:Nat->aA->Hp->Prop) (h0:Pv 0 [] (upd H1 l (.lst []))) (hz:n<=sizeLine) (hl:∀ i ys H,Pv i ys H->H l=some (.lst ys)/\ys.length<=i) (hs:∀ i ys H,i<n->Pv i ys H->g (.int (lo+i)) (gM own cI σ) H λσ2 H2=>Wk (gM own cI σ) σ2 /\tt σ2 H2 λb H3=>if b=true then te σ2 H3 λy H4=>H4 l=some (.lst ys)/\Pv (i+1) (ys++[y]) (upd H4 l (.lst (ys++[y]))) else Pv (i+1) ys H3) (hd:∀ ys H,Pv n ys H->R H) : ∃ W:Nat->Nat->aA->Hp->Prop,(∃ m,W 0 m [] (upd H1 l (.lst []))) /\∀ i m ys H,W i m ys H->H l=some (.lst ys)/\(((uN lo n).stop i H/\R H)\/((uN lo n).go i H/\ys.length<sizeLine/\∃ N:aA->Hp->Prop,(∀ ys' H',N ys' H'->∃ m',m'<m/\W (i+1) m' ys' H') /\∀ x H',(uN lo n).oG i H x H'->g x (gM own cI σ) H' λσ2 H2=>Wk (gM own cI σ) σ2 /\tt σ2 H2 λb H3=>if b=true then te σ2 H3 λy H4=>H4 l=some (.lst ys)/\N (ys++[y]) (upd H4 l (.lst (ys++[y]))) else N ys H3)):=by
 refine ⟨λi m ys H=>m=n-i/\i<=n/\Pv i ys H,⟨n,by simp,fQ _,h0⟩,?_⟩;rintro i m ys H ⟨rfl,hi,p⟩;obtain ⟨c,j⟩:=hl i ys H p;refine ⟨c,?_⟩;by_cases a:i<n
 ·refine .inr ⟨a,by lk, Pv (i+1),λys' H' d=>⟨n-(i+1),by lk, rfl,a,d⟩,λx H' y=>?_⟩;obtain ⟨e,y⟩:=y;subst e y;exact hs i ys _ a p
 ·have e:i=n:=by lk
  subst e;exact .inl ⟨bI _,hd ys H p⟩
def rD {own:Nat} {cI:gB} {R:Hp->Prop} (Pv:Nat->aA->Hp->Prop) (h0:Pv 0 [] (upd H1 l (.lst []))) (hz:xs.length<=sizeLine) (hl:∀ i ys H,i<=xs.length->Pv i ys H->dH K H a xs/\H l=some (.lst ys)/\ys.length<=i) (hs:∀ i x ys H,xs[i]?=some x->Pv i ys H->g x (gM own cI σ) H λσ2 H2=>Wk (gM own cI σ) σ2 /\tt σ2 H2 λb H3=>if b=true then te σ2 H3 λy H4=>H4 l=some (.lst ys)/\Pv (i+1) (ys++[y]) (upd H4 l (.lst (ys++[y]))) else Pv (i+1) ys H3) (hd:∀ ys H,Pv xs.length ys H->R H) : ∃ W:Nat->Nat->aA->Hp->Prop,(∃ m,W 0 m [] (upd H1 l (.lst []))) /\∀ i m ys H,W i m ys H->H l=some (.lst ys)/\(((yC K a).stop i H/\R H)\/((yC K a).go i H/\ys.length<sizeLine/\∃ N:aA->Hp->Prop,(∀ ys' H',N ys' H'->∃ m',m'<m/\W (i+1) m' ys' H') /\∀ x H',(yC K a).oG i H x H'->g x (gM own cI σ) H' λσ2 H2=>Wk (gM own cI σ) σ2 /\tt σ2 H2 λb H3=>if b=true then te σ2 H3 λy H4=>H4 l=some (.lst ys)/\N (ys++[y]) (upd H4 l (.lst (ys++[y]))) else N ys H3)):=by
 refine ⟨λi m ys H=>m=xs.length-i/\i<=xs.length/\Pv i ys H,⟨xs.length,by simp,fQ _,h0⟩,?_⟩;rintro i m ys H ⟨rfl,hi,p⟩;obtain ⟨q,d,k⟩:=hl i ys H hi p;refine ⟨d,?_⟩;by_cases c:i<xs.length
 ·refine .inr ⟨⟨xs,xs[i],q,by simp [c]⟩,by lk, Pv (i+1),λys' H' j=>⟨xs.length-(i+1),by lk, rfl,c,j⟩,λx H' y=>?_⟩;obtain ⟨e,y⟩:=y;subst e;exact hs i x ys _ (y xs q) p
 ·have e:i=xs.length:=by lk
  subst e;exact .inl ⟨⟨xs,q,bI _⟩,hd ys H p⟩
def yM {own:Nat} {cI:gB} {R:Hp->Prop} (Pv:Nat->aA->Hp->Prop) (h0:Pv 0 [] (upd H1 l (.lst []))) (hz:xs.length<=sizeLine) (hl:∀ i ys H,i<=xs.length->Pv i ys H->gG K H a xs/\H l=some (.lst ys)/\ys.length<=i) (hs:∀ i x ys H,xs[i]?=some x->Pv i ys H->g x (gM own cI σ) H λσ2 H2=>Wk (gM own cI σ) σ2 /\tt σ2 H2 λb H3=>if b=true then te σ2 H3 λy H4=>H4 l=some (.lst ys)/\Pv (i+1) (ys++[y]) (upd H4 l (.lst (ys++[y]))) else Pv (i+1) ys H3) (hd:∀ ys H,Pv xs.length ys H->R H) : ∃ W:Nat->Nat->aA->Hp->Prop,(∃ m,W 0 m [] (upd H1 l (.lst []))) /\∀ i m ys H,W i m ys H->H l=some (.lst ys)/\(((yD K a).stop i H/\R H)\/((yD K a).go i H/\ys.length<sizeLine/\∃ N:aA->Hp->Prop,(∀ ys' H',N ys' H'->∃ m',m'<m/\W (i+1) m' ys' H') /\∀ x H',(yD K a).oG i H x H'->g x (gM own cI σ) H' λσ2 H2=>Wk (gM own cI σ) σ2 /\tt σ2 H2 λb H3=>if b=true then te σ2 H3 λy H4=>H4 l=some (.lst ys)/\N (ys++[y]) (upd H4 l (.lst (ys++[y]))) else N ys H3)):=by
 refine ⟨λi m ys H=>m=xs.length-i/\i<=xs.length/\Pv i ys H,⟨xs.length,by simp,fQ _,h0⟩,?_⟩;rintro i m ys H ⟨rfl,hi,p⟩;obtain ⟨q,d,k⟩:=hl i ys H hi p;refine ⟨d,?_⟩;by_cases c:i<xs.length
 ·refine .inr ⟨⟨xs,xs[i],q,by simp [c]⟩,by lk, Pv (i+1),λys' H' j=>⟨xs.length-(i+1),by lk, rfl,c,j⟩,λx H' y=>?_⟩;obtain ⟨e,y⟩:=y;subst e;exact hs i x ys _ (y xs q) p
 ·have e:i=xs.length:=by lk
  subst e;exact .inl ⟨⟨xs,q,bI _⟩,hd ys H p⟩
end
section
def aex (K:bG) (neg:Bool):R2:=λx y H Q=>∃ (a b:Addr) (ns c:aF),x=.ref a/\y=.ref b/\dH K H a (ns.map V.int)/\dH K H b (c.map V.int)/\Q (.bl (if neg then !decide (ns=c) else decide (ns=c))) H
def ao8 (hu:X.A.units+64<cLine):dO X (compareOp .Eq) (aex X.K false):=by rintro ak s σ H x y v u Q I d j ⟨a,b,ns,m,rfl,rfl,k,i,q⟩;cases d;cases j;obtain ⟨aJ,g,l,_⟩:=I.list k;obtain ⟨c,e,p2,_⟩:=I.list i;exact PySem.W.eq_intsK l.isList (intsAre_of g) p2.isList (intsAre_of e) hu ⟨.bl _,H,I,rfl,q⟩
def ao9 (hu:X.A.units+64<cLine):dO X (compareOp .NotEq) (aex X.K true):=by rintro ak s σ H x y v u Q I d j ⟨a,b,ns,m,rfl,rfl,k,i,q⟩;cases d;cases j;obtain ⟨aJ,g,l,_⟩:=I.list k;obtain ⟨c,e,p2,_⟩:=I.list i;exact PySem.W.ne_intsK l.isList (intsAre_of g) p2.isList (intsAre_of e) hu ⟨.bl _,H,I,rfl,q⟩
inductive afI (K:bG) (xs:aA) (H:Hp) (Q:VK):Prop
 |mk (x:_) (T:_) (t:_) (b:_) (h1:xs=[x,.ty T]) (h2:jg K H x t) (h3:kitOne K t (.type T)=some b) (h4:Q (.bl b) H)
def El:jz X (.builtin "isinstance") (afI X.K):=by rintro ak s σ H xs us Q I r ⟨x,T,t,b,rfl,ty,e,q⟩;obtain ⟨u,v,rfl,a,d⟩:=r.two;cases d;exact aiH I a ty e λc=>⟨.bl b,H,I.tok c,rfl,q⟩
inductive agF (K:bG) (xs:aA) (H:Hp) (Q:VK):Prop
 |mk (p:Addr) (bs:List Bool) (h1:xs=[.ref p]) (h2:dH K H p (bs.map V.bl)) (h3:Q (.bl (bs.all id)) H)
def Qe (hc:X.calm=true):jz X (.builtin "all") (agF X.K):=by
 rintro ak s σ H xs us Q I r ⟨p,bs,rfl,x,q⟩;obtain ⟨u,rfl,l⟩:=r.one;cases l;obtain ⟨aJ,k,pl,R⟩:=I.list x;have L:p<s.heap.objs.size:=by obtain ⟨o,n,e,_⟩:=pl;exact cF e
 refine call_all_walk (FZ pl.isList ⟨_,_,_,_,_,_,λi=>bs.getD i true,rfl,Walks.list (A:=X.A.in1) (I.ok.hd hc) s.heap.objs.size p (fP L) aJ.toArray,⟨⟨_,fU _ rfl,rfl,rfl⟩,?_⟩,?_,λh' J t=>?_⟩)
 ·obtain ⟨o,n,e,c,d,B⟩:=pl;exact ⟨o,dF _ e,c,n,B⟩
 ·intro i v s' Q' O C N;have hi:aJ[i]?=some v:=by simpa using C
  have j:=k.length;cases e:bs[i]? with
  |none =>
   have h1:aJ.length<=i:=by have:=BK.mp e;rw [<-j,bh];exact this
   rw [BK.mpr h1] at hi;cases hi
  |some b =>
   have y:(bs.map V.bl)[i]?=some (.bl b):=by rw [jP,e];rfl
   obtain ⟨u,m,l⟩:=k.get y;rw [hi] at m;cases m;cases l;have M:bs.getD i true=b:=by simp [getD,e]
   have g:Q' (bs.getD i true) s':=N;rw [M] at g;exact qH g
 ·have j:aJ.toArray.size=bs.length:=by have:=k.length;rw [bh] at this;simp [this]
  have e:(range aJ.toArray.size).all (λi=>bs.getD i true)=bs.all id:=by
   rw [j];clear q j k x t;rw [ug,wZ,wZ];constructor
   ·intro h b D;obtain ⟨i,hi,rfl⟩:=JB.mp D;have:=h i (by simpa using hi);simpa [getD,hi] using this
   ·intro h i hi;have a:i<bs.length:=by simpa using hi
    have:=h bs[i] (Rj a);simpa [getD,a] using this
  refine ⟨.bl (bs.all id),H,?_,je Value.bool e,q⟩
  ·exact I.kept (t':=J) λb o e=>t b o (by
    intro z;have:b=s.heap.objs.size:=by simpa using z
    exact absurd (cF e) (by rw [this];exact uf _)) (dF _ e)
def vV (ns:aF) (m:Int):Prop:=m∈ns/\∀ a∈ns,a<=m
def akS {B:Addr} {vals:bV} (hh:A.handled=none) (hi:IntsAre vals ns) (h1:l≠it) (h2:B≠it) (h3:B≠l) : ∀ (k j:Nat) (s:Shared) (m:Int) (t:Tok) (c:Nat),ns.length-j=k->j<=ns.length->s.heap.IsListIter it l j->s.heap.IsList l vals.toArray->vV (ns.take j) m ->s.heap.get? B=some { cls:=.type "list",dict:=none,data:=.seq #[.int m t,.int m t] c,slots:=#[] } ->(∀ (m':Int) (t':Tok) h' tk,vV ns m'->(∀ b o,b≠it->b≠B->s.heap.get? b=some o->h'.get? b=some o)->R (.ok (.ret (.int m' t'))) { s with heap:=h',toks:=tk }) ->codeAny (model P w) A (.builtin "max.loop" ⟨[.ref it,.none,.ref B],kw⟩) R s:=by
 have nm:(toString "max"++toString ".loop":String)="max.loop":=by decide
 have gD:=hi.length;intro k;induction k with
 |zero =>
  intro j s m t c Y hj st sl y C d;have ej:j=ns.length:=by lk
  subst ej;refine w5 Rk ?_;rw [yQ yR _];show wpAny (model P w) A.in1 (seqItems? (.ref B) >>= _) _ _ s;refine bf (rM C rfl ?_);show wpAny (model P w) A.in1 (tryCatch (pyNext (.ref it)) _ >>= _) _ _ s;refine bf (Fg (S8 hh st sl (by simp;lk) λh' N=>?_));have g:=N B _ h2 C;show wpAny (model P w) A.in1 (updateSeq B (λ_=>#[]) >>= _) _ _ _;refine bf (Rm g rfl (bf (yS (cY ?_))));rw [gw] at y;exact d m t _ s.toks y λb o p v e=>(u_ _ _ (bF v)).trans (N b o p e)
 |succ k O =>
  intro j s m t c Y hj st sl y C d;have lt:j<ns.length:=by lk
  obtain ⟨i,W⟩:∃ i,vals[j]?=some (.int ns[j] i):=by
   have e1:(ns.map V.int)[j]?=some (.int ns[j]):=by rw [jP];simp [lt]
   obtain ⟨u,U,i,rfl⟩:=(IW hi).get e1;exact ⟨i,U⟩
  refine w5 Rk ?_;rw [yQ yR _];show wpAny (model P w) A.in1 (seqItems? (.ref B) >>= _) _ _ s;refine bf (rM C rfl ?_);show wpAny (model P w) A.in1 (tryCatch (pyNext (.ref it)) _ >>= _) _ _ s;refine bf (Fg (S7 st sl (x:=.int ns[j] i) (by simpa using W) λh' L S=>?_));have keep:∀ b o,b≠it->s.heap.get? b=some o->h'.get? b=some o:=λb o n e=>(S.2 b n).trans e;have g:=keep B _ h2 C;have z:h'.IsList l vals.toArray:=sl.at λo e=>keep l o h1 e;show wpAny (model P w) A.in1 (tryCatch (holding [Value.int ns[j] i,Value.int ns[j] i] (richCompare .Gt (Value.int ns[j] i) (Value.int m t) >>= _)) _ >>= _) _ _ _;refine bf (Fg (zL (bf (gt_int (show _ from (bf (zL (qH (bf (yS (cY ?_)))))))))));have D:ns.take (j+1)=ns.take j++[ns[j]]:=by rw [JC];simp [lt]
  by_cases M:m<ns[j]
  ·rw [fO M];simp only [tX];refine bf (Rm g rfl (bf (yS ?_)));rw [nm];refine cY ⟨BL yR _,O (j+1) _ ns[j] i _ (by lk) lt ?_ ?_ ?_ (Jt _ g rfl) λm' t' r tk I kk=>?_⟩
   ·exact L.at λo e=>(u_ _ _ h2).trans e
   ·exact z.at λo e=>(u_ _ _ h3).trans e
   ·rw [D];exact ⟨pN _ (yU.mpr rfl),λa J=>by
     rcases nM.mp J with q|q
     ·have:=y.2 a q;lk
     ·have:a=ns[j]:=by simpa using q
      lk⟩
   ·exact d m' t' r tk I λb o p v e=>kk b o p v ((u_ _ _ (bF v)).trans (keep b o p e))
  ·rw [lJ M];simp only [yV,rK];refine bf (yS ?_);rw [nm];refine cY ⟨BL yR _,O (j+1) _ m t c (by lk) lt L z ?_ g λm' t' r tk I kk=>?_⟩
   ·rw [D];exact ⟨S5 _ y.1,λa J=>by
     rcases nM.mp J with q|q
     ·exact y.2 a q
     ·have:a=ns[j]:=by simpa using q
      lk⟩
   ·exact d m' t' r tk I λb o p v e=>kk b o p v (keep b o p e)
def akT {B:Addr} {vals:bV} {d:Value} {c:Nat} (hh:A.handled=none) (hi:IntsAre vals ns) (h1:l≠it) (h2:B≠it) (h3:B≠l) (st:s.heap.IsListIter it l 0) (sl:s.heap.IsList l vals.toArray) (hB:s.heap.get? B=some { cls:=.type "list",dict:=none,data:=.seq #[] c,slots:=#[] }) (nil:ns=[]->∀ h',(∀ b o,b≠it->b≠B->s.heap.get? b=some o->h'.get? b=some o)->R (.ok (.ret d)) { s with heap:=h' }) (done:ns≠[]->∀ (m':Int) (t':Tok) h' tk,vV ns m'->(∀ b o,b≠it->b≠B->s.heap.get? b=some o->h'.get? b=some o)->R (.ok (.ret (.int m' t'))) { s with heap:=h',toks:=tk }) : codeAny (model P w) A (.builtin "max.loop" ⟨[.ref it,.none,.ref B],[("default",d)]⟩) R s:=by
 have nm:(toString "max"++toString ".loop":String)="max.loop":=by decide
 have C:=hi.length;refine w5 Rk ?_;rw [yQ yR _];show wpAny (model P w) A.in1 (seqItems? (.ref B) >>= _) _ _ s;refine bf (rM hB rfl ?_);show wpAny (model P w) A.in1 (tryCatch (pyNext (.ref it)) _ >>= _) _ _ s;cases ns with
 |nil =>refine bf (Fg (S8 hh st sl (by simpa using C) λh' z=>?_));refine bf (JD (cY ?_));exact nil rfl h' λb o k m e=>z b o k e
 |cons i rest =>
  obtain ⟨g,y⟩:∃ g,vals[0]?=some (.int i g):=by have I:((i::rest).map V.int)[0]?=some (.int i):=rfl;obtain ⟨u,t,g,rfl⟩:=(IW hi).get I;exact ⟨g,t⟩
  refine bf (Fg (S7 st sl (x:=.int i g) (by simpa using y) λh' v r=>?_));have keep:∀ b o,b≠it->s.heap.get? b=some o->h'.get? b=some o:=λb o n e=>(r.2 b n).trans e;have j:=keep B _ h2 hB;show wpAny (model P w) A.in1 (updateSeq B (λ_=>#[Value.int i g,Value.int i g]) >>= _) _ _ _;refine bf (Rm j rfl ?_);rw [nm];refine cY ⟨BL yR _,akS hh hi h1 h2 h3 _ 1 _ i g _ rfl (by simp) ?_ ?_ ?_ (Jt _ j rfl) λm' t' p tk q kk=>?_⟩
  ·exact v.at λo e=>(u_ _ _ h2).trans e
  ·exact (sl.at λo e=>keep l o h1 e).at λo e=>(u_ _ _ h3).trans e
  ·exact ⟨by simp,λa D=>by
    have:a=i:=by simpa using D
    lk⟩
  ·exact done (by simp) m' t' p tk q λb o k m e=>kk b o k m ((u_ _ _ (bF m)).trans (keep b o k e))
def aiL (a v:Value):argsOk "max" ⟨[a],[(ofString "default",v)]⟩:=by unfold argsOk;kernel_rfl
def aiM {vals:bV} {d:Value} (hh:A.handled=none) (hi:IntsAre vals ns) (sl:s.heap.IsList l vals.toArray) (nil:ns=[]->∀ h',(∀ b o,s.heap.get? b=some o->h'.get? b=some o)->Q d { s with heap:=h' }) (done:ns≠[]->∀ (m':Int) (t':Tok) h' tk,vV ns m'->(∀ b o,s.heap.get? b=some o->h'.get? b=some o)->Q (.int m' t') { s with heap:=h',toks:=tk }) : wpAny (model P w) A (call (.builtin "max") [.ref l] [(ofString "default",d)]) Q E s:=by
 have nm:(toString "max"++toString ".loop":String)="max.loop":=by decide
 have c:l<s.heap.objs.size:=by obtain ⟨o,e,_⟩:=sl;exact cF e
 refine kmk_tree F.kind_max F.plain_max F.entry_max (aiL _ _) ?_;show wpAny (model P w) A.in1 (Builtin.Builtins.bindParams "max" ["key","default"] 0 ⟨[],[(ofString "default",d)]⟩ >>= _) _ _ s;refine bf (wpAny_of_eq (show Builtin.Builtins.bindParams "max" ["key","default"] 0 ⟨[],[(ofString "default",d)]⟩=pure [none,some d] from rfl) (bf (cY (bf (FZ sl (bf (yP ?_)))))));rw [nm];have a:∀ b o,s.heap.get? b=some o->((s.heap.push { cls:=.type "list_iterator",data:=.fields #[.ref l,.int 0 0] }).push { cls:=.type "list",dict:=none,data:=.seq ([]:bV).toArray }).get? b=some o:=λb o e =>
  dF _ (dF _ e)
 have z:(s.heap.push { cls:=.type "list_iterator",data:=.fields #[.ref l,.int 0 0] }).objs.size=s.heap.objs.size+1:=pO ..;refine cY ⟨BL yR _,akT (l:=l) (B:=(s.heap.push { cls:=.type "list_iterator",data:=.fields #[.ref l,.int 0 0] }).objs.size) hh hi (fP c) (by rw [z];exact Rn _) (by rw [z];exact vB (Fi c)) ?_ (sl.at λo e=>a l o e) (fU _ rfl) (λe h' kk=>?_) λe m' t' h' tk g kk=>?_⟩
 ·exact ⟨_,dF _ (fU _ rfl),rfl,rfl⟩
 ·exact nil e h' λb o q=>kk b o (fP (cF q)) (by rw [z];exact fP (Fi (cF q))) (a b o q)
 ·exact done e m' t' h' tk g λb o q=>kk b o (fP (cF q)) (by rw [z];exact fP (Fi (cF q))) (a b o q)
def aqj (K:bG) (te td:TE):TE:=λσ H Q=>te σ H λx H1=>td σ H1 λd H2=>∃ (l:Addr) (ns:aF),x=.ref l/\dH K H2 l (ns.map V.int)/\(ns=[]->Q d H2)/\∀ m,vV ns m->Q (.int m) H2
def acz {d:Expr} {td:TE} {p kp:Pos} (hc:X.calm=true) (hg:Gl X "max") (hm:X.mg "max"=none) (he:PE X e te) (hd:PE X d td) (hst:starEach [e] X.env=[(false,eval e X.env)]:=by rfl):PE X (.Call (.Name "max" p) [e] [⟨some "default",d,kp⟩] pos) (aqj X.K te td):=by intro ak s σ H Q I h;refine xU (qK I hg hm JF ?_);rw [hst];refine PyProof.Rows.callWith_builtin_kwB rfl rfl (PyProof.Rows.evalArgs_kwB rfl ?_);refine Tj (bA (he ak s σ H _ I h) λu q ⟨x,H1,j,g,i⟩=>Tg ?_);refine PyProof.Rows.kws_cons (bA (hd ak q σ H1 _ j i) λz o ⟨dx,H2,a,c,r⟩=>PyProof.Rows.kws_nil ?_);obtain ⟨l,ns,rfl,k,t,m⟩:=r;cases g;obtain ⟨aJ,y,pl,B⟩:=a.list k;exact aiM (a.ok.hd hc) (intsAre_of y) pl.isList (λe h' kk=>⟨dx,H2,a.kept (t':=o.toks) kk,c,t e⟩) λe b t' h' n v kk=>⟨.int b,H2,a.kept (t':=n) kk,⟨_,rfl⟩,m b v⟩
end
structure pJ (P:Program) (w:World) (K:bG) (mg:dR) (au:Heap) (x:Str) (k:Nat) (ps:bK) (sp:Sp):Prop where
 ex:∃ (f:Addr) (fd:FuncData),dw P w K mg au jL k f fd ps sp/\mK K fd ps []/\keepIn K (.ref f)=true/\mg x=some (.ref f)
def pJ.mono {k:Nat} (C:pJ P w K mg au x k ps sp) (h:k<=j):pJ P w K mg au x j ps sp :=
 let ⟨f,fd,a,b,c,d⟩:=C.ex
 ⟨f,fd,a.mono h,b,c,d⟩
def pJ.imp {k:Nat} {uP:Sp} (C:pJ P w K mg au x k ps sp) (h:∀ vs H Q E,uP vs H Q E->sp vs H Q E):pJ P w K mg au x k ps uP :=
 let ⟨f,fd,a,b,c,d⟩:=C.ex
 ⟨f,fd,a.imp h,b,c,d⟩
def bH {k:Nat} {t:TA} {p:Pos} (C:pJ X.prog X.w X.K X.mg X.au x k ps sp) (hr:eN k X.A) (hg:Gl X x) (ha:PA X (e::es) t) (hdb:(x == ("__debug__":Str))=false:=by decide) (he:starEach (e::es) X.env=(false,eval e X.env)::starEach es X.env:=by rfl) (hpl:(backTo pos (starEach es X.env)).any (·.1)=false:=by rfl) : PE X (.Call (.Name x p) (e::es) [] pos) (Lb sp [] E0 t):=by obtain ⟨f,fd,F,c,a,b⟩:=C.ex;exact acs F hr hg b a c .nil Gs ha hdb he hpl
structure oW (K:bG) (mg:dR) (x:Str) (st:Stmt) (f:Addr) (fd:FuncData):Prop where
 fn:wF K x x st f fd
 at_:mg x=some (.ref f)
def oW.callee {st:Stmt} {k:Nat} (h:oW K mg x st f fd) (F:dw P w K mg au jL k f fd ps sp) (hb:∀ (kV doc pm:Value) (an:jy) (cdv ct:Value) (us:bV),us.length=ps.length->bindArgs (fnOf x x (kJ st) (jO st) (gJ st) .none kV doc pm an cdv ct) ⟨us,[]⟩=pure (ps.zip us)):pJ P w K mg au x k ps sp:=⟨f,fd,F,h.fn.binds hb,h.fn.kp,h.at_⟩
def Qf:bootBuiltins "int"=some (.type "int"):=by k_go
def Bf:bootBuiltins "list"=some (.type "list"):=by k_go
def Im:bootBuiltins "tuple"=some (.type "tuple"):=by k_go
def boot_isinstance:bootBuiltins "isinstance"=some (.builtin "isinstance"):=by k_go
def boot_all:bootBuiltins "all"=some (.builtin "all"):=by k_go
section
variable (K:bG) (hK:X.K=K)
include hK
def akU:DR X (GF K):=by subst hK;exact acw
def Ck:DR X (Dr K):=by subst hK;exact adz
def ahp:dO X (compareOp .In) (MF K false):=by subst hK;exact Qc
def afJ:dO X (compareOp .NotIn) (MF K true):=by subst hK;exact O1
def afK:jz X (.builtin "len") (Oq K):=by subst hK;exact Zh
def am5 {k:Nat} {t:yx} (hc:X.calm=true) (h:G3 X es t) (hn:(assignEach es X.env).length=n:=by rfl) (hst:(assignEach es X.env).findIdx? (·.1)=none:=by rfl):PG X (.Tuple es k pos) (aej K n t):=by subst hK;exact qM hc h hn hst
end
def cu (h:H p=none) (o:HO):aB H (upd H p o):=λb u q=>by rw [aV (cV q h)];exact q
def Kp (m:Addr) (H H':Hp):Prop:=∀ b o,H b=some o->b≠m->H' b=some o
def Kp.refl (m:Addr) (H:Hp):Kp m H H:=λ_ _ h _=>h
def Kp.trans {m:Addr} (a:Kp m H H1) (b:Kp m H1 H2):Kp m H H2:=λc o h n=>b c o (a c o h n) n
def yd:=@Kp.trans
def Kp.same {m:Addr} (h:aB H H'):Kp m H H':=λb o e _=>h b o e
def Kp.upd {m:Addr}:Kp m H (upd H m o):=λb u e n=>by rw [aV n];exact e
def Kp.tup {m:Addr} {H H':Hp} {xs ys:aA} (k:Kp m H H') (hm:H m=some (.lst xs)) {b:Addr} (h:H b=some (.tup ys)):H' b=some (.tup ys):=k b _ h (kY h hm (by intro z;cases z))
def wG (H:Hp) (p:Addr):Prop:=∃ a b c:Int,H p=some (.lst [.int a,.int b,.int c])
def dM (H:Hp):aA->aP->Prop:=Paired λr w=>∃ t,r=.ref t/\H t=some (.tup [.int w.1,.int w.2])
def dM.mono (k:∀ b xs,H b=some (.tup xs)->H' b=some (.tup xs)):∀ {rs:aA} {ws:aP},dM H rs ws->dM H' rs ws
 |_,_,.nil=>.nil
 |_,_,.cons ⟨t,e,h⟩ r=>.cons ⟨t,e,k t _ h⟩ (dM.mono k r)
def dM.same (k:aB H H') (h:dM H rs ws):dM H' rs ws:=h.mono λb xs e=>k b _ e
def dM.kp {m:Addr} (k:Kp m H H') (hm:H m=some (.lst xs)) (h:dM H rs ws):dM H' rs ws:=h.mono λb xs e=>k.tup hm e
def dM.len (h:dM H rs ws):rs.length=ws.length:=o7 h
def dM.app:∀ {rs qs:aA} {ws us:aP},dM H rs ws->dM H qs us->dM H (rs++qs) (ws++us)
 |_,_,_,_,.nil,s=>s
 |_,_,_,_,.cons r t,s=>.cons r (dM.app t s)
def dM.get:∀ {rs:aA} {ws:aP} {i:Nat} {r:V},dM H rs ws->rs[i]?=some r->∃ w t,ws[i]?=some w/\r=.ref t/\H t=some (.tup [.int w.1,.int w.2])
 |_,_,_,_,.nil,e=>by simp at e
 |_,_,0,_,.cons ⟨t,e1,h⟩ _,e=>by simp at e;subst e;exact ⟨_,t,rfl,e1,h⟩
 |_,_,i+1,r,.cons _ q,e=>by obtain ⟨w,t,a,b⟩:=dM.get (i:=i) (r:=r) q (by simpa using e);exact ⟨w,t,by simpa using a,b⟩
def m5 (H:Hp) (l:Addr) (ws:aP):Prop:=∃ rs,H l=some (.lst rs)/\dM H rs ws
def m5.same (k:aB H H') (h:m5 H l ws):m5 H' l ws:=let ⟨rs,a,b⟩:=h;⟨rs,k l _ a,b.same k⟩
def bJ (aj:Int) (ws:aP):Prop:=∀ w∈ws,0<=w.1/\w.1<aj/\0<=w.2/\w.2<aj/\w.1≠w.2
def bJ.nil:bJ aj []:=λ_ h=>nomatch h
def bJ.app {a b:aP} (x:bJ aj a) (y:bJ aj b):bJ aj (a++b):=λw h=>(nM.mp h).elim (x w) (y w)
def bJ.one {a b:Int} (h:0<=a/\a<aj/\0<=b/\b<aj/\a≠b):bJ aj [(a,b)]:=λw c=>by
 have:w=(a,b):=by simpa using c
 subst this;exact h
def eX (H:Hp) (v:V) (aj:Int) (ws:aP):Prop:=∃ n t rs,v=.ref n/\H n=some (.tup [.int aj,.ref t])/\H t=some (.tup rs)/\dM H rs ws
def eX.mono (k:∀ b xs,H b=some (.tup xs)->H' b=some (.tup xs)) (h:eX H v aj ws):eX H' v aj ws :=
 let ⟨n,t,rs,a,b,c,d⟩:=h
 ⟨n,t,rs,a,k _ _ b,k _ _ c,d.mono k⟩
def aW (h:n<=100000):n<=sizeLine:=gU h (by rw [vC];decide)
def nY (h:n<100000):n<sizeLine:=mL h (by rw [vC];decide)
def acA {c:Prop} [Decidable c] (h:¬ decide c=true):¬ c:=λz=>h (fO z)
end
variable {G:Hp} {d:aF} {z:Int}
section
structure Bn (mg:dR):Prop where
 zV:mg "len"=none
 Gu:mg "max"=none
 aqk:mg "min"=none
 Lf:mg "int"=none
 ao_:mg "bool"=none
 zR:mg "list"=none
 Cm:mg "tuple"=none
 o9:mg "str"=none
 asJ:mg "dict"=none
 lD:mg "range"=none
 Bc:mg "isinstance"=none
 Uc:mg "all"=none
 asT:mg "any"=none
 yI:mg "enumerate"=none
 asU:mg "sum"=none
 asV:mg "abs"=none
 abj:mg "sorted"=none
 aso:mg "reversed"=none
 Lg:mg "zip"=none
 asW:mg "ord"=none
 asK:mg "repr"=none
 aql:mg "set"=none
 asw:mg "divmod"=none
 asi:mg "ValueError"=none
 asp:mg "KeyError"=none
def aqm (i j:Int):Prop:=0<j/\j<2 ^ 250
def abk:dO X (binaryOp .FloorDiv) (rI aqm λi j=>.int (i / j)):=DQ λi j _ _ _ _ _ a q=>by
 have h1:(0:Int)<j:=a.1;have h2:j.natAbs<2 ^ 250:=by have:=a.2;lk
 refine PyProof.Rows.floordiv_int (by lk) (by rw [Tc i (by lk)];exact q) (.inl (PyProof.noPylong_of_log2 ?_));have b:j.natAbs.log2<250:=(Nat.log2_lt (by lk)).mpr h2;lk
def Kp.put {m:Addr} (hl:H l=none) (k:Kp m H H1):Kp m H (L2.upd H1 l o):=λb u e n=>by rw [aV (cV e hl)];exact k b u e n
def aB.put (hl:H l=none) (k:aB H H1):aB H (upd H1 l o):=λb u e=>by rw [aV (cV e hl)];exact k b u e
def bQ:=@aB.put
def lY {i:Int} (h0:0<=i) (h1:i<ns.length):jK (ns.map V.int) i=some (.int (ns.getD i.toNat 0)):=by
 obtain ⟨j,rfl⟩:∃ j:Nat,i=(j:Int):=⟨i.toNat,by lk⟩;have h2:j<ns.length:=by lk
 refine oO ?_;rw [jP,kO];simp [getD,h2]
def bR {c A:Prop} [Decidable c] (h:¬ c) (b:B):if c then A else B:=by rw [aK h];exact b
def cL {c A:Prop} [Decidable c] (h:c) (a:A):if c then A else B:=by rw [aQ h];exact a
def LQ {x y:α} [inst:Decidable (x=y)] (h:x=y):¬ (!decide (x=y))=true:=by simp [h]
def Lh {a b:Int} (g:decide (V.int a=V.int b)=true):a=b:=V.int.inj (jH g)
def MP {a b:Int} (g:¬ decide (V.int a=V.int b)=true):a≠b:=λz=>g (fO (by rw [z]))
def Z_ {u:Addr} (hp:H p=some (.lst xs)) (fu:H u=none) (o:HO):Kp p H (upd H u o)/\(upd H u o) p=some (.lst xs)/\(upd H u o) u=some o/\u≠p:=⟨Kp.same (cu fu o),(cu fu o) _ _ hp,aM,bF (cV hp fu)⟩
def acB (h:dM H rs ws) {i:Int} (h0:0<=i) (h1:i<rs.length):∃ t w,jK rs i=some (.ref t)/\w∈ws/\ws[i.toNat]?=some w/\H t=some (.tup [.int w.1,.int w.2]):=by
 obtain ⟨j,rfl⟩:∃ j:Nat,i=(j:Int):=⟨i.toNat,by lk⟩;have c:j<rs.length:=by lk
 have e:rs[j]?=some rs[j]:=by simp [c]
 obtain ⟨w,t,a,b,d⟩:=h.get e;rw [b] at e;exact ⟨t,w,oO e,fj a,by simpa using a,d⟩
inductive ao' (K:bG) (vs:aA) (H:Hp) (Q:VK):Prop
 |mk (a:Addr) (ns:aF) (k:Int) (h1:vs=[.ref a,.int k]) (h2:dH K H a (ns.map V.int)) (h3:ns.length<=63) (h4:0<=k) (h5:k<100) (h6:∀ (p:Addr) (a' b' c':Int),H p=none->Q (.ref p) (upd H p (.lst [.int a',.int b',.int c'])))
def aqn (K:bG):=nE (ao' K)
inductive am6 (vs:aA) (H:Hp) (Q:VK):Prop
 |mk (p:Addr) (a b c n:Int) (h1:vs=[.ref p,.int n]) (h2:H p=some (.lst [.int a,.int b,.int c])) (h3:0<n) (h4:n<2 ^ 250) (h5:∀ (v a' b' c':Int),0<=v->v<n->Q (.int v) (upd H p (.lst [.int a',.int b',.int c'])))
def apa:=nE am6
inductive ahq (vs:aA) (H:Hp) (Q:VK):Prop
 |mk (p:Addr) (aj many:Int) (h1:vs=[.ref p,.int aj,.int many]) (h2:wG H p) (h3:1<=aj) (h4:aj<=8) (h5:0<=many) (h6:many<=41) (h7:∀ (l:Addr) (ws:aP) (H':Hp),H l=none->Kp p H H'->wG H' p->m5 H' l ws->bJ aj ws->(ws.length:Int)<=many->Q (.ref l) H')
def aiN:=nE ahq
def kW (by_:Int) (w:Int×Int):Int×Int:=(w.1+by_,w.2+by_)
def ne1 (n:H b=none) (h:H a=some o):a≠b:=cV h n
def zW {ys:aA} (h1:H a=some (.tup xs)) (h2:H b=some (.lst ys)):a≠b:=kY h1 h2 (by intro z;cases z)
def aqo (n:H' l=none) (s:aB H H'):H l=none:=s.free n
def KT (H H':Hp):Prop:=∀ b xs,H b=some (.tup xs)->H' b=some (.tup xs)
def KT.refl (H:Hp):KT H H:=λ_ _ h=>h
def bY:=@KT.refl
def KT.trans (a:KT H H1) (b:KT H1 H2):KT H H2:=λc xs h=>b c xs (a c xs h)
def pW:=@KT.trans
def KT.same (s:aB H H') (k:KT G H):KT G H':=λb xs h=>s b _ (k b xs h)
def cG:=@KT.same
def KT.new (n:H l=none) (k:KT G H):KT G (upd H l o):=λb xs h=>by rw [aV (cV (k b xs h) n)];exact k b xs h
def KT.lst {G H:Hp} {l:Addr} {o:HO} {ys:aA} (n:H l=some (.lst ys)) (k:KT G H):KT G (upd H l o):=λb xs h=>by rw [aV (zW (k b xs h) n)];exact k b xs h
def lN:=@KT.lst
def eX.kt (n:eX H v aj ws) (k:KT H H'):eX H' v aj ws:=n.mono k
def dM.kt (n:dM H rs ws) (k:KT H H'):dM H' rs ws:=n.mono k
def Gv (x y:Int×Int):Bool:=(decide (x.1=y.1) || decide (x.1=y.2)) || (decide (x.2=y.1) || decide (x.2=y.2))
def am7 (a b c:Int):lM (.int a) [.int b,.int c]=(decide (a=b) || decide (a=c)):=by
 show (lA (.int b) (.int a) || (lA (.int c) (.int a) || false))=_;have e:∀ u v:Int,lA (.int u) (.int v)=decide (v=u):=λu v=>by
  show _=_;simp [lA];by_cases h:u=v
  ·subst h;simp
  ·have h':¬ v=u:=λz=>h z.symm;simp [h,h']
 rw [e,e,Rf]
def gk (a b:Int):Int:=if b<=a then a else b
def Qg (a b:Int):(if b>a then b else a)=gk a b:=by
 unfold gk;by_cases h:b<=a
 ·rw [aK (by lk),aQ h]
 ·rw [aQ (by lk),aK h]
def lq (st:aF×aF) (w:Int×Int):aF×aF :=
 let a:=1+gk (st.1.getD w.1.toNat 0) (st.1.getD w.2.toNat 0)
 ((st.1.set w.1.toNat a).set w.2.toNat a,st.2++[a])
def cj (aj:Int) (ws:aP):aF×aF:=ws.foldl lq (replicate aj.toNat 0,[])
def Qh (aj:Int) (ws:aP) (w:Int×Int):cj aj (ws++[w])=lq (cj aj ws) w:=by unfold cj;rw [yW];rfl
def am8 (st:aF×aF) (w:Int×Int):((st.1.map V.int).set w.1.toNat (V.int (1+(if st.1.getD w.2.toNat 0>st.1.getD w.1.toNat 0 then st.1.getD w.2.toNat 0 else st.1.getD w.1.toNat 0)))).set w.2.toNat (V.int (1+(if st.1.getD w.2.toNat 0>st.1.getD w.1.toNat 0 then st.1.getD w.2.toNat 0 else st.1.getD w.1.toNat 0)))=(lq st w).1.map V.int:=by rw [Qg];show _=map V.int ((st.1.set w.1.toNat (1+gk (st.1.getD w.1.toNat 0) (st.1.getD w.2.toNat 0))).set w.2.toNat (1+gk (st.1.getD w.1.toNat 0) (st.1.getD w.2.toNat 0)));rw [Fj,Fj]
def am9 (st:aF×aF) (w:Int×Int):st.2.map V.int++[V.int (1+(if st.1.getD w.2.toNat 0>st.1.getD w.1.toNat 0 then st.1.getD w.2.toNat 0 else st.1.getD w.1.toNat 0))]=(lq st w).2.map V.int:=by rw [Qg];show _=map V.int (st.2++[1+gk (st.1.getD w.1.toNat 0) (st.1.getD w.2.toNat 0)]);rw [cX];rfl
def Jk (aj:Int) (ws:aP):(cj aj ws).1.length=aj.toNat/\(cj aj ws).2.length=ws.length:=by
 have a:∀ (ws:aP) (st:aF×aF),(ws.foldl lq st).1.length=st.1.length/\(ws.foldl lq st).2.length=st.2.length+ws.length:=by
  intro ws;induction ws with
  |nil=>intro st;exact ⟨rfl,rfl⟩
  |cons w r b =>
   intro st;obtain ⟨h1,h2⟩:=b (lq st w);rw [jG];refine ⟨h1.trans ?_,h2.trans ?_⟩
   ·show ((st.1.set _ _).set _ _).length=_;rw [fV,fV]
   ·show (st.2++[_]).length+r.length=_;rw [dJ,yO,gA];lk
 obtain ⟨h1,h2⟩:=a ws (replicate aj.toNat 0,[]);exact ⟨by unfold cj;rw [h1];simp,by unfold cj;rw [h2];simp⟩
def sJ {i:Int} (h0:0<=i) (h1:i<n):q8 n i=some i.toNat:=by unfold q8;rw [aQ h0,aQ h1]
inductive aiO (vs:aA) (H:Hp) (Q:VK):Prop
 |mk (v:V) (aj:Int) (ws:aP) (h1:vs=[v]) (h2:eX H v aj ws) (h3:1<=aj) (h4:aj<=8) (h5:bJ aj ws) (h6:ws.length<=41) (h7:∀ (l:Addr) (H':Hp),H l=none->aB H H'->H' l=some (.lst ((cj aj ws).2.map V.int))->Q (.ref l) H')
def akV:=nE aiO
inductive akW (vs:aA) (H:Hp) (Q:VK):Prop
 |mk (v:V) (aj:Int) (ws:aP) (h1:vs=[v]) (h2:eX H v aj ws) (h3:1<=aj) (h4:aj<=8) (h5:bJ aj ws) (h6:ws.length<=41) (h7:∀ (m:Int) (H':Hp),aB H H'->((cj aj ws).2=[]->m=0)->((cj aj ws).2≠[]->vV (cj aj ws).2 m)->Q (.int m) H')
def am_:=nE akW
def Mx (v:Int) (S:Int->Prop):Prop:=0<=v/\(∀ a,S a->a<=v)/\(v=0\/S v)
def Mx.le {v u:Int} {S:Int->Prop} (a:Mx v S) (b:Mx u S):v<=u:=by
 rcases a.2.2 with h|h
 ·rw [h];exact b.1
 ·exact b.2.1 v h
def Mx.uniq {v u:Int} {S:Int->Prop} (a:Mx v S) (b:Mx u S):v=u:=Int.le_antisymm (a.le b) (b.le a)
def Mx.congr {v:Int} {S S':Int->Prop} (h:∀ a,S a↔S' a) (m:Mx v S):Mx v S':=⟨m.1,λa z=>m.2.1 a ((h a).mpr z),m.2.2.imp id (h v).mp⟩
def Mx.or {v u:Int} {S U:Int->Prop} (a:Mx v S) (b:Mx u U):Mx (gk v u) (λz=>S z\/U z):=by
 unfold gk;by_cases h:u<=v
 ·rw [aQ h];exact ⟨a.1,λz c=>c.elim (a.2.1 z) λq=>Ro (b.2.1 z q) h,a.2.2.imp id .inl⟩
 ·rw [aK h];exact ⟨b.1,λz c=>c.elim (λq=>Ro (a.2.1 z q) (by lk)) (b.2.1 z),b.2.2.imp id .inr⟩
def bT (ws:aP) (j:Nat):Int×Int:=ws.getD j (0,0)
def wH (ws:aP) (d:aF) (k:Nat) (a:Int):Prop:=∃ j,j<k/\Gv (bT ws j) (bT ws k)=true/\d.getD j 0=a
def vW (ws:aP) (d:aF) (n:Nat):Prop:=d.length=n/\∀ k,k<n->∃ v,d.getD k 0=1+v/\Mx v (wH ws d k)
def Bk (h:j<d.length):(d++[z]).getD j 0=d.getD j 0:=by simp [getD,qI h]
def getD_last:(d++[z]).getD d.length 0=z:=by simp [getD]
def wH.app {k:Nat} (h:k<=d.length) (a:Int):wH ws d k a↔wH ws (d++[z]) k a:=by
 constructor
 ·rintro ⟨j,h1,h2,b⟩;exact ⟨j,h1,h2,by rw [Bk (by lk)];exact b⟩
 ·rintro ⟨j,h1,h2,b⟩;exact ⟨j,h1,h2,by rw [Bk (by lk)] at b;exact b⟩
def vW.nil:vW ws [] 0:=⟨rfl,λk h=>absurd h (by lk)⟩
def vW.snoc {v:Int} (h:vW ws d n) (m:Mx v (wH ws d n)):vW ws (d++[1+v]) (n+1):=by
 obtain ⟨l,g⟩:=h;subst l;refine ⟨by simp,λk b=>?_⟩;by_cases e:k<d.length
 ·obtain ⟨u,h1,h2⟩:=g k e;exact ⟨u,by rw [Bk e];exact h1,h2.congr (wH.app (by lk))⟩
 ·have a:k=d.length:=by lk
  subst a;exact ⟨v,getD_last,m.congr (wH.app (bI _))⟩
def uT (ws:aP) (d:aF) (n:Nat) (x a:Int):Prop:=∃ j,j<n/\((bT ws j).1=x\/(bT ws j).2=x)/\d.getD j 0=a
def akX {k:Nat} (a:Int):(uT ws d k (bT ws k).1 a\/uT ws d k (bT ws k).2 a)↔wH ws d k a:=by
 have e:∀ x y:Int×Int,Gv x y=true↔((x.1=y.1\/x.2=y.1)\/(x.1=y.2\/x.2=y.2)):=λx y=>by
  simp only [Gv,JG,Fl];constructor
  ·rintro ((h|h)|(h|h))<;>simp [h]
  ·rintro ((h|h)|(h|h))<;>simp [h]
 constructor
 ·rintro (⟨j,h1,h2,b⟩|⟨j,h1,h2,b⟩)
  ·exact ⟨j,h1,(e _ _).mpr (.inl h2),b⟩
  ·exact ⟨j,h1,(e _ _).mpr (.inr h2),b⟩
 ·rintro ⟨j,h1,h2,b⟩;rcases (e _ _).mp h2 with z|z
  ·exact .inl ⟨j,h1,z,b⟩
  ·exact .inr ⟨j,h1,z,b⟩
def jY {l:aF} (hi:i<l.length):(l.set i z).getD j 0=if j=i then z else l.getD j 0:=by
 by_cases h:j=i
 ·subst h;simp [getD,hi]
 ·have h':¬ i=j:=λq=>h q.symm;simp [getD,h,h']
def akY (ok:bJ aj ws):∀ i,i<=ws.length->vW ws (cj aj (ws.take i)).2 i/\∀ x,0<=x->x<aj->Mx ((cj aj (ws.take i)).1.getD x.toNat 0) (uT ws (cj aj (ws.take i)).2 i x):=by
 intro i;induction i with
 |zero =>
  intro _;refine ⟨vW.nil,λx y h1=>?_⟩;have e:(cj aj (ws.take 0)).1.getD x.toNat 0=0:=by show (replicate aj.toNat (0:Int)).getD x.toNat 0=0;simp only [getD,uh];split<;>rfl
  rw [e];exact ⟨yX _,λa ⟨j,h,_⟩=>absurd h (by lk),.inl rfl⟩
 |succ i W =>
  intro hi;obtain ⟨M,k⟩:=W (by lk);have N:ws[i]?=some ws[i]:=by simp [show i<ws.length by lk]
  have U:bT ws i=ws[i]:=by simp [bT,getD,N]
  have O:ws.take (i+1)=ws.take i++[ws[i]]:=by rw [JC,N];rfl
  obtain ⟨r,v,t,m,D⟩:=ok ws[i] (Rj _);obtain ⟨l,n⟩:=Jk aj (ws.take i);rw [gW] at n;have p:(cj aj (ws.take i)).2.length=i:=by lk
  rw [O,Qh];generalize cj aj (ws.take i)=st at M k l p;rw [<-U] at r v t m D ⊢;generalize o:bT ws i=w at r v t m D ⊢;have u:Mx (gk (st.1.getD w.1.toNat 0) (st.1.getD w.2.toNat 0)) (wH ws st.2 i):=by refine ((k w.1 r v).or (k w.2 t m)).congr λa=>?_;rw [<-o];exact akX a
  refine ⟨M.snoc u,λx y h1=>?_⟩;show Mx (((st.1.set w.1.toNat (1+gk (st.1.getD w.1.toNat 0) (st.1.getD w.2.toNat 0))).set w.2.toNat (1+gk (st.1.getD w.1.toNat 0) (st.1.getD w.2.toNat 0))).getD x.toNat 0) (uT ws (st.2++[1+gk (st.1.getD w.1.toNat 0) (st.1.getD w.2.toNat 0)]) (i+1) x);generalize I:gk (st.1.getD w.1.toNat 0) (st.1.getD w.2.toNat 0)=L at u;have V:st.1.getD w.1.toNat 0<=L:=by rw [<-I];unfold gk;split<;>lk
  have S:st.1.getD w.2.toNat 0<=L:=by rw [<-I];unfold gk;split<;>lk
  rw [jY (by rw [fV];lk),jY (by lk)];have old:∀ a,uT ws st.2 i x a->uT ws (st.2++[1+L]) (i+1) x a:=λa ⟨j,z1,c,g⟩=>⟨j,by lk, c,by rw [Bk (by lk)];exact g⟩;have new:∀ a,uT ws (st.2++[1+L]) (i+1) x a->uT ws st.2 i x a\/((w.1=x\/w.2=x)/\a=1+L):=λa ⟨j,z1,c,g⟩=>by
   by_cases e:j<i
   ·exact .inl ⟨j,e,c,by rw [Bk (by lk)] at g;exact g⟩
   ·have R:j=i:=by lk
    subst R;rw [o] at c;have:(st.2++[1+L]).getD j 0=1+L:=by have q:=getD_last (d:=st.2) (z:=1+L);rw [p] at q;exact q
    exact .inr ⟨c,by lk⟩
  have b:(w.1=x\/w.2=x)->uT ws (st.2++[1+L]) (i+1) x (1+L):=λz=>⟨i,by lk, by rw [o];exact z,by have q:=getD_last (d:=st.2) (z:=1+L);rw [p] at q;exact q⟩;have C:=k x y h1;have up:(w.1=x\/w.2=x)->Mx (1+L) (uT ws (st.2++[1+L]) (i+1) x):=λz=>by
   have bx:st.1.getD x.toNat 0<=L:=by
    rcases z with z|z
    ·rw [<-z];exact V
    ·rw [<-z];exact S
   have m1:=u.1;refine ⟨by lk, λa Y=>?_,.inr (b z)⟩;rcases new a Y with q|⟨_,q⟩
   ·have:=C.2.1 a q;lk
   ·lk
  by_cases B:x.toNat=w.2.toNat
  ·rw [aQ B];exact up (.inr (by lk))
  ·rw [aK B];by_cases J:x.toNat=w.1.toNat
   ·rw [aQ J];exact up (.inl (by lk))
   ·rw [aK J];refine C.congr λa=>⟨old a,λq=>?_⟩;rcases new a q with q|⟨q,_⟩
    ·exact q
    ·lk
def acC (ok:bJ aj ws):vW ws (cj aj ws).2 ws.length:=by have h:=(akY ok ws.length (bI _)).1;rw [gw] at h;exact h
inductive apb (K:bG) (vs:aA) (H:Hp) (Q:VK):Prop
 |mk (a:Addr) (ns:aF) (h1:vs=[.ref a]) (h2:dH K H a (ns.map V.int)) (h3:ns.length<=63) (h4:∀ H',Q (.bl true) H')
def Li (K:bG):=nE (apb K)
end
variable {ys:h_} {h':Heap} {ta:TA} {tb:TS} {D:qJ}
section
open PySem.Spec PyProof.Rows
section
def QF {t:Addr} {x:Value} (gi:s.heap.IsTupleIter it t i) (gt:s.heap.IsTuple t ys) (gx:ys[i]?=some x) (q:∀ h',h'.IsTupleIter it t (i+1)->SameBut it s.heap h'->Q x { s with heap:=h' }):wpAny (model P w) A (nextOf (.ref it)) Q E s:=by obtain ⟨k,b,g,a⟩:=id gi;obtain ⟨j,d,_,l,e⟩:=gt;have c:¬ ((Value.ref t == Value.none)=true):=iQ;unfold nextOf;refine bf (JH (name:=ofString "__next__") gi.typeIs JK (JL JK gi.typeIs abP ?_ (abQ _)));show wpAny _ A.in1 (field (.ref it) 0 >>= _) _ _ s;refine bf (qz b a (x:=.ref t) rfl ?_);show wpAny _ _ (if (Value.ref t == Value.none)=true then _ else (field (.ref it) 1 >>= _)) _ _ s;rw [aK c];refine bf (qz b a (x:=.int i 0) rfl (show wpAny _ _ (seqItems? (.ref t) >>= _) _ _ s from bf (rM d e ?_)));simp only [gx,kO];refine bf (wpAny_setField b a (by simp) (cY ⟨x,rfl,cY (q _ ⟨_,Jt _ b (Obj.isFreed_of_fields (Obj.data_mapFields a _)),(Obj.cls_mapFields ..).trans g,?_⟩ (SameBut.update ..))⟩));rw [Obj.data_mapFields a];simp [rawInt]
def Zi {t:Addr} (hh:A.handled=none) (gi:s.heap.IsTupleIter it t i) (gt:s.heap.IsTuple t ys) (gx:ys[i]?=none) (q:∀ h' e,ExtBut it s.heap h'->(∃ o,h'.get? e=some o/\o.cls=.type "StopIteration")->E (.ref e) { s with heap:=h' }):wpAny (model P w) A (nextOf (.ref it)) Q E s:=by
 obtain ⟨l,c,p,b⟩:=id gi;obtain ⟨k,g,_,n,j⟩:=gt;have d:¬ ((Value.ref t == Value.none)=true):=iQ;unfold nextOf;refine bf (JH (name:=ofString "__next__") gi.typeIs JK (JL JK gi.typeIs abP ?_ (abQ _)));show wpAny _ A.in1 (field (.ref it) 0 >>= _) _ _ s;refine bf (qz c b (x:=.ref t) rfl ?_);show wpAny _ _ (if (Value.ref t == Value.none)=true then _ else (field (.ref it) 1 >>= _)) _ _ s;rw [aK d];refine bf (qz c b (x:=.int i 0) rfl (show wpAny _ _ (seqItems? (.ref t) >>= _) _ _ s from bf (rM g j ?_)));simp only [gx,kO];refine bf (JD (bf (wpAny_setField c b (by simp) (show wpAny _ _ (newExc (.type "StopIteration") [] >>= _) _ _ _ from bf ?_))));simp only [newTuple,newExc];refine bf (yP (bf (m:=firstArgMember _ _) (wpAny_of_eq (a:=Value.none) (by first|rfl|(simp only [firstArgMember];rfl)) (yP ?_ (by size_fits)))) (by size_fits));simp only [raiseNew];refine bf (wpAny_handled ?_)
 first|rw [show A.in1.handled=none from hh]|rw [hh]
 exact bf (cY (wpAny_throw (q _ _ (((SameBut.update ..).extBut.push _).push _) ⟨_,fU _ rfl,rfl⟩)))
def aaD (hh:A.handled=none) (it t:Addr) (hne:t≠it) (ys:h_):Draws P w A it [it,t] ys.size (λi v=>ys[i]?=some v) (λi h=>h.IsTupleIter it t i/\h.IsTuple t ys) where
 live:=λ_ _ g=>let ⟨o,b,_⟩:=g.1;⟨o,b⟩
 frame:=λ_ _ _ g k=>⟨g.1.at λo e=>k it (by simp) o e,let ⟨o,e,r⟩:=g.2;⟨o,k t (by simp) o e,r⟩⟩
 item:=λi s Q E hi g q=>QF g.1 g.2 (x:=ys[i]) (by simp [hi]) λh' c a=>q _ h' s.toks (by simp [hi]) ⟨c,let ⟨o,e,r⟩:=g.2;⟨o,a.extBut t o hne e,r⟩⟩ a
 done:=λs Q E g q=>Zi hh g.1 g.2 (by simp) q
def af7 (t:Addr) (ys:h_) (n:Nat) (dc:jy) (sl:uy) : Meets (Builtin.«enumerate.__new__» ⟨[.type "enumerate",.ref t],[]⟩) (λ_ R s=>s.heap.get? t=some { cls:=.type "tuple",dict:=dc,data:=.seq ys n,slots:=sl } /\R (.ok (.ret (.ref (s.heap.push { cls:=.type "tuple_iterator",data:=.fields #[.ref t,.int 0 0] }).objs.size))) { s with heap:=(s.heap.push { cls:=.type "tuple_iterator",data:=.fields #[.ref t,.int 0 0] }).push { cls:=.type "enumerate",data:=.fields #[.none,.bool false,.ref s.heap.objs.size,rawInt 0,.none,.none] } }):=.of_wp λprog w A R s h=>by
  obtain ⟨i,g,d,j,k⟩:=s;obtain ⟨a,q⟩:=h;have b:=sub_enumerate;have e:IsTuple (Shared.heap ⟨i,g,d,j,k⟩) t ys:=⟨_,a,rfl,n,rfl⟩
  wp_walk using Rp a
  refine wpAny_stack_any λst=>cY ?_;split
  ·rename_i c _ _ _ _ _;cases (c == type "enumerate")<;>(wp_walk using Rp a,K1 e)<;>exact ⟨_,rfl,q⟩
  ·wp_walk using Rp a,K1 e
   exact ⟨_,rfl,q⟩
def afL {t:Addr} (gT:s.heap.IsTuple t ys) (q:∀ h',IsEnum h' (s.heap.objs.size+1) s.heap.objs.size 0 .none->h'.IsTupleIter s.heap.objs.size t 0->h'.objs.size=s.heap.objs.size+2->(∀ b o,s.heap.get? b=some o->h'.get? b=some o)->Q (.ref (s.heap.objs.size+1)) { s with heap:=h' }) : wpAny (model P w) A (call (.type "enumerate") [.ref t]) Q E s:=by
 obtain ⟨⟨c,dc,d,sl⟩,j,g,n,i⟩:=gT;obtain rfl:c=.type "tuple":=g;obtain rfl:d=.seq ys n:=i;refine callType_new F.called_enumerate (by decide) (F.typeCall_enumerate_1 _) (F.newCall_enumerate_1 _) (λo=>F.args_object_init_2 o _) F.entry_enumerate_new (af7 t ys n dc sl) ⟨j,?_⟩;have z:(s.heap.push { cls:=.type "tuple_iterator",data:=.fields #[.ref t,.int 0 0] }).objs.size=s.heap.objs.size+1:=pO ..;have a:IsEnum ((s.heap.push { cls:=.type "tuple_iterator",data:=.fields #[.ref t,.int 0 0] }).push { cls:=.type "enumerate",data:=.fields #[.none,.bool false,.ref s.heap.objs.size,rawInt 0,.none,.none] }) (s.heap.objs.size+1) s.heap.objs.size 0 .none:=by have u:=fU (s.heap.push { cls:=.type "tuple_iterator",data:=.fields #[.ref t,.int 0 0] }) (o:={ cls:=.type "enumerate",data:=.fields #[.none,.bool false,.ref s.heap.objs.size,rawInt 0,.none,.none] }) rfl;rw [z] at u;exact u
 show _/\_;rw [z];exact ⟨⟨_,a,rfl⟩,q _ a ⟨_,dF _ (fU _ rfl),rfl,rfl⟩ (by rw [pO,z]) λb o e=>dF _ (dF _ e)⟩
end
def uG (sq:Hp->aA->Prop):It :=
 ⟨λi H=>∃ xs x,sq H xs/\xs[i]?=some x,λi H x H'=>∃ T v,H T=none/\x=.ref T/\H'=upd H T (.tup [.int i,v])/\∀ xs,sq H xs->xs[i]?=some v,λi H=>∃ xs,sq H xs/\xs.length=i⟩
def aD.acD {e:Addr} {ys:aA} (I:aD X ak σ H s) (k:∀ b o,b≠e->b≠it->s.heap.get? b=some o->h'.get? b=some o) (fe:n_ X ak H e) (fi:n_ X ak H it) (new:dZ X.prog X.w (upd H s.heap.objs.size (.tup ys)) h' s.heap.objs.size (.tup ys)):aD X ak σ (upd H s.heap.objs.size (.tup ys)) { s with heap:=h',toks:=t' }:=by
 have p:H s.heap.objs.size=none:=I.hok.fresh (bI _);have B:∀ b o,s.heap.get? b=some o->b≠s.heap.objs.size:=λb o q=>fP (cF q);have g:∀ b,b∉[e,it]->b≠e/\b≠it:=λb d=>⟨λz=>d (by simp [z]),λz=>d (by simp [z])⟩;have j:∀ b u,H b=some u->b≠e/\b≠it:=λb u q=>⟨(λz=>by rw [z,fe.1] at q;cases q),(λz=>by rw [z,fi.1] at q;cases q)⟩;have up:∀ b u,H b=some u->upd H s.heap.objs.size (.tup ys) b=some u:=λb u q=>by rw [aV (cV q p)];exact q
 refine I.step (g':=s.gens) (d':=s.drawn) (ch:=[e,it]) (λb d=>?_) (λb o _ _ a q _=>k b o (g b a).1 (g b a).2 q) (λb o _ _ a q _=>⟨o.slots,k b o (g b a).1 (g b a).2 q⟩) (λb o _ q n=>by rw [aV (B b o q)];exact n) (λb o a q=>⟨o,k b o (g b a).1 (g b a).2 q⟩) (λb xs q=>up b _ q) (λb o u q=>up b _ q) (λb ps q=>⟨up b _ q,λc o l x=>⟨up c _ l,k c o (j c _ l).1 (j c _ l).2 x⟩⟩) (λm t=>?_) (λb u q=>?_) I.bare
 ·have z:b=e\/b=it:=by simpa using d
  rcases z with rfl|rfl
  ·exact ⟨fe.2.2.2.1,fe.2.1,fe.2.2.2.2.1,fe.2.2.2.2.2⟩
  ·exact ⟨fi.2.2.2.1,fi.2.1,fi.2.2.2.2.1,fi.2.2.2.2.2⟩
 ·obtain ⟨o,es,C,y,r⟩:=t;exact ⟨o,es,C,k _ o (bF fe.2.1) (bF fi.2.1) y,r⟩
 ·by_cases d:b=s.heap.objs.size
  ·subst d;rw [aM] at q;cases q;exact new
  ·rw [aV d] at q;refine (I.hok b u q).stay (λc v a z=>?_) (λc z=>up c _ z) λc xs z=>up c _ z;have i:c≠e/\c≠it:=by
    rcases a with z|z
    ·rw [z];exact j b u q
    ·exact j c _ z
   exact k c v i.1 i.2 z
section
variable {elts:List Expr} {kk:Nat} {ps:Pos}
def ahr (a e it:Addr) (hei:e≠it):uq P w K (.Tuple elts kk ps) (uG (λH xs=>gG K H a xs)) [e,it] e (λi h=>(∃ old,IsEnum h e it i old)/\h.IsTupleIter it a i) where
 mem:=by simp
 obj:=λi h st b n=>by
  obtain ⟨⟨old,g⟩,o,O,c,d⟩:=st;have z:b=e\/b=it:=by simpa using n
  rcases z with rfl|rfl
  ·exact ⟨_,g,λv z=>by have z':Data.fields _=Data.cell v:=z;cases z'⟩
  ·exact ⟨o,O,λv z=>by rw [d] at z;cases z⟩
 keep:=λi h h' st k=>by obtain ⟨⟨old,g⟩,o,O,r⟩:=st;exact ⟨⟨old,k e (by simp) _ g⟩,o,k it (by simp) o O,r⟩
 item:=by
  intro X D M hK U i ak s σ H E I C st N;subst D M hK;obtain ⟨⟨old,g⟩,t⟩:=st;obtain ⟨xs,x,J,R⟩:=N;obtain ⟨aJ,V,p,hz⟩:=I.tuple J;obtain ⟨u,hu,ru⟩:=V.get R;have y:s.heap.IsTuple a aJ.toArray:=p;have Ah:a≠it:=λz=>by obtain ⟨o1,j,m,_⟩:=y;obtain ⟨B,l,Y,_⟩:=t;rw [z,l] at j;cases j;rw [Y] at m;exact absurd (BP m) (by decide)
  have Vp:e≠a:=λz=>by obtain ⟨o1,j,m,_⟩:=y;rw [<-z,g] at j;cases j;exact absurd (BP m) (by decide)
  have il:i<aJ.toArray.size:=by have:=(dY.mp hu).1;simpa using this
  refine wpAny_pyNext_enum_itemD (aaD (A:=X.A.in1) (I.ok.hd U) it a Ah aJ.toArray) g ⟨t,y⟩ il hei (by simp [hei,Vp]) λL h1 tk D ho hs hT hsz hk=>?_;have ex:L=u:=by
   have:aJ[i]?=some L:=by simpa using D
   rw [hu] at this;cases this;rfl
  subst ex;refine ⟨_,rfl,abR ho λh2 he2 S=>?_⟩;have eT:e<s.heap.objs.size:=cF g;have k2:∀ b o,b≠e->b≠it->s.heap.get? b=some o->h2.get? b=some o:=λb o n1 n2 q=>S.extBut b o n1 (hk b o n1 n2 q);have new:dZ X.prog X.w (upd H s.heap.objs.size (.tup [.int i,x])) h2 s.heap.objs.size (.tup [.int i,x]):=⟨by show 2<=sizeLine;rw [vC];decide,[.int i tk,L],.cons ⟨tk,rfl⟩ (.cons ru .nil),_,S.extBut _ _ (vB eT) hT,rfl,_,rfl,rfl⟩;have I2:aD X ak σ (upd H s.heap.objs.size (.tup [.int i,x])) { s with heap:=h2,toks:=tk+1 }:=aD.acD I k2 (C e (by simp)) (C it (by simp)) new;refine ⟨.ref s.heap.objs.size,_,I2,rfl,⟨s.heap.objs.size,x,I.hok.fresh (bI _),rfl,rfl,λzs W=>by rw [I.P0 W J];exact R⟩,⟨⟨L,by simpa using he2⟩,?_⟩,λb n=>?_⟩
  ·obtain ⟨⟨B,l,r2⟩,_⟩:=hs;exact ⟨B,S.extBut it B (bF hei) l,r2⟩
  ·have bl:b<s.heap.objs.size:=by
    have z:b=e\/b=it:=by simpa using n
    rcases z with rfl|rfl
    ·exact eT
    ·obtain ⟨B,l,_⟩:=t;exact cF l
   rw [aV (fP bl)];exact (C b n).1
 done:=by
  intro X D M hK U i ak s σ H E I C st N;subst D M hK;obtain ⟨⟨old,g⟩,t⟩:=st;obtain ⟨xs,J,R⟩:=N;obtain ⟨aJ,V,p,hz⟩:=I.tuple J;obtain ⟨f0,f1,f2,f3,f4,f5⟩:=C it (by simp);have y:s.heap.IsTuple a aJ.toArray:=p;have hl:=V.length;have Ah:a≠it:=λz=>by obtain ⟨o1,j,m,_⟩:=y;obtain ⟨B,l,Y,_⟩:=t;rw [z,l] at j;cases j;rw [Y] at m;exact absurd (BP m) (by decide)
  have ei:aJ.toArray.size=i:=by simp;lk
  exact wpAny_pyNext_enum_endD (aaD (A:=X.A.in1) (I.ok.hd U) it a Ah aJ.toArray) g (by rw [ei];exact ⟨t,y⟩) λh' eb=>⟨rfl,I.turned (t':=s.toks) (λb o n q=>eb b o n q) f0 f1 f3 f4 f5⟩
 self:=λ_ _ _ _ _ st h=>JM st.1.choose_spec h
def ahs (a e it:Addr) (hei:e≠it):uq P w K (.Tuple elts kk ps) (uG (λH xs=>dH K H a xs)) [e,it] e (λi h=>(∃ old,IsEnum h e it i old)/\h.IsListIter it a i) where
 mem:=by simp
 obj:=λi h st b n=>by
  obtain ⟨⟨old,g⟩,o,O,c,d⟩:=st;have z:b=e\/b=it:=by simpa using n
  rcases z with rfl|rfl
  ·exact ⟨_,g,λv z=>by have z':Data.fields _=Data.cell v:=z;cases z'⟩
  ·exact ⟨o,O,λv z=>by rw [d] at z;cases z⟩
 keep:=λi h h' st k=>by obtain ⟨⟨old,g⟩,o,O,r⟩:=st;exact ⟨⟨old,k e (by simp) _ g⟩,o,k it (by simp) o O,r⟩
 item:=by
  intro X D M hK U i ak s σ H E I C st N;subst D M hK;obtain ⟨⟨old,g⟩,t⟩:=st;obtain ⟨xs,x,J,R⟩:=N;obtain ⟨aJ,V,p,hz⟩:=I.list J;obtain ⟨u,hu,ru⟩:=V.get R;have y:=p.isList;have Ah:a≠it:=λz=>by obtain ⟨o1,j,m,_⟩:=y;obtain ⟨B,l,Y,_⟩:=t;rw [z,l] at j;cases j;rw [Y] at m;exact absurd (BP m) (by decide)
  have Vp:e≠a:=λz=>by obtain ⟨o1,j,m,_⟩:=y;rw [<-z,g] at j;cases j;exact absurd (BP m) (by decide)
  have il:i<aJ.toArray.size:=by have:=(dY.mp hu).1;simpa using this
  refine wpAny_pyNext_enum_itemD (Draws.list (A:=X.A.in1) (I.ok.hd U) it a Ah aJ.toArray) g ⟨t,y⟩ il hei (by simp [hei,Vp]) λL h1 tk D ho hs hT hsz hk=>?_;have ex:L=u:=by
   have:aJ[i]?=some L:=by simpa using D
   rw [hu] at this;cases this;rfl
  subst ex;refine ⟨_,rfl,abR ho λh2 he2 S=>?_⟩;have eT:e<s.heap.objs.size:=cF g;have k2:∀ b o,b≠e->b≠it->s.heap.get? b=some o->h2.get? b=some o:=λb o n1 n2 q=>S.extBut b o n1 (hk b o n1 n2 q);have new:dZ X.prog X.w (upd H s.heap.objs.size (.tup [.int i,x])) h2 s.heap.objs.size (.tup [.int i,x]):=⟨by show 2<=sizeLine;rw [vC];decide,[.int i tk,L],.cons ⟨tk,rfl⟩ (.cons ru .nil),_,S.extBut _ _ (vB eT) hT,rfl,_,rfl,rfl⟩;have I2:aD X ak σ (upd H s.heap.objs.size (.tup [.int i,x])) { s with heap:=h2,toks:=tk+1 }:=aD.acD I k2 (C e (by simp)) (C it (by simp)) new;refine ⟨.ref s.heap.objs.size,_,I2,rfl,⟨s.heap.objs.size,x,I.hok.fresh (bI _),rfl,rfl,λzs W=>by rw [I.Et W J];exact R⟩,⟨⟨L,by simpa using he2⟩,?_⟩,λb n=>?_⟩
  ·obtain ⟨⟨B,l,r2⟩,_⟩:=hs;exact ⟨B,S.extBut it B (bF hei) l,r2⟩
  ·have bl:b<s.heap.objs.size:=by
    have z:b=e\/b=it:=by simpa using n
    rcases z with rfl|rfl
    ·exact eT
    ·obtain ⟨B,l,_⟩:=t;exact cF l
   rw [aV (fP bl)];exact (C b n).1
 done:=by
  intro X D M hK U i ak s σ H E I C st N;subst D M hK;obtain ⟨⟨old,g⟩,t⟩:=st;obtain ⟨xs,J,R⟩:=N;obtain ⟨aJ,V,p,hz⟩:=I.list J;obtain ⟨f0,f1,f2,f3,f4,f5⟩:=C it (by simp);have y:=p.isList;have hl:=V.length;have Ah:a≠it:=λz=>by obtain ⟨o1,j,m,_⟩:=y;obtain ⟨B,l,Y,_⟩:=t;rw [z,l] at j;cases j;rw [Y] at m;exact absurd (BP m) (by decide)
  have ei:aJ.toArray.size=i:=by simp;lk
  exact wpAny_pyNext_enum_endD (Draws.list (A:=X.A.in1) (I.ok.hd U) it a Ah aJ.toArray) g (by rw [ei];exact ⟨t,y⟩) λh' eb=>⟨rfl,I.turned (t':=s.toks) (λb o n q=>eb b o n q) f0 f1 f3 f4 f5⟩
 self:=λ_ _ _ _ _ st h=>JM st.1.choose_spec h
def apc (K:bG) (ta:TA):TI:=λσ H R=>ta σ H λvs H1=>∃ a,vs=[.ref a]/\(∃ xs,gG K H1 a xs)/\R (uG (λH xs=>gG K H a xs)) H1
def apd (K:bG) (ta:TA):TI:=λσ H R=>ta σ H λvs H1=>∃ a,vs=[.ref a]/\(∃ xs,dH K H1 a xs)/\R (uG (λH xs=>dH K H a xs)) H1
def akZ {l:Expr} {p:Pos} (hg:Gl X "enumerate") (hm:X.mg "enumerate"=none) (ha:PA X [l] ta) (hs:starEach [l] X.env=[(false,eval l X.env)]:=by rfl):PI X (.Tuple elts kk ps) (.Call (.Name "enumerate" p) [l] [] pos) (apc X.K ta):=by
 intro ak s σ H R I h;refine Call_ (qK I hg hm boot_enumerate (xR (bA (ha pos ak s σ H _ I h) λus c ⟨vs,H1,d,i,m⟩=>?_) hs rfl));obtain ⟨a,e,⟨xs,o⟩,q⟩:=m;subst e;obtain ⟨u,rfl,j⟩:=bO.one i;cases j;obtain ⟨aJ,v,n,t⟩:=d.tuple o;refine afL (show c.heap.IsTuple a aJ.toArray from n) λh' g r sz kk=>JM (by simpa using g) ⟨c.heap.objs.size+1,[c.heap.objs.size+1,c.heap.objs.size],_,_,H1,rfl,d.kept (t':=c.toks) kk,ahr a _ _ (Rn _),⟨⟨_,by simpa using g⟩,r⟩,λb k=>?_,q⟩;have z:b=c.heap.objs.size+1\/b=c.heap.objs.size:=by simpa using k
 rcases z with rfl|rfl
 ·exact d.sW (vD _) (d.hok.fresh (vD _))
 ·exact d.sW (bI _) (d.hok.fresh (bI _))
def Bl {l:Expr} {p:Pos} (hg:Gl X "enumerate") (hm:X.mg "enumerate"=none) (ha:PA X [l] ta) (hs:starEach [l] X.env=[(false,eval l X.env)]:=by rfl):PI X (.Tuple elts kk ps) (.Call (.Name "enumerate" p) [l] [] pos) (apd X.K ta):=by
 intro ak s σ H R I h;refine Call_ (qK I hg hm boot_enumerate (xR (bA (ha pos ak s σ H _ I h) λus d ⟨vs,H1,c,i,m⟩=>?_) hs rfl));obtain ⟨a,e,⟨xs,o⟩,q⟩:=m;subst e;obtain ⟨u,rfl,j⟩:=bO.one i;cases j;obtain ⟨aJ,v,n,t⟩:=c.list o;refine call_enumerate_list n.isList λh' g r sz kk=>JM (by simpa using g) ⟨d.heap.objs.size+1,[d.heap.objs.size+1,d.heap.objs.size],_,_,H1,rfl,c.kept (t':=d.toks) kk,ahs a _ _ (Rn _),⟨⟨_,by simpa using g⟩,r⟩,λb k=>?_,q⟩;have z:b=d.heap.objs.size+1\/b=d.heap.objs.size:=by simpa using k
 rcases z with rfl|rfl
 ·exact c.sW (vD _) (c.hok.fresh (vD _))
 ·exact c.sW (bI _) (c.hok.fresh (bI _))
def Bm {sq:Hp->aA->Prop} (Pv:Nat->St->Hp->Prop) (h0:Pv 0 σ H) (hl:∀ i σ H,i<=xs.length->Pv i σ H->sq H xs) (hs:∀ i x T σ H,xs[i]?=some x->H T=none->Pv i σ H->g (.ref T) σ (upd H T (.tup [.int i,x])) λσ2 H2=>tb { D with nx:=Pv (i+1),ct:=Pv (i+1),bk:=D.nx } σ2 H2) (hd:∀ σ H,Pv xs.length σ H->D.nx σ H) : ∃ W:Nat->Nat->St->Hp->Prop,(∃ m,W 0 m σ H)/\∀ i m σ H,W i m σ H ->((uG sq).stop i H/\D.nx σ H)\/((uG sq).go i H/\∃ N:St->Hp->Prop,(∀ σ' H',N σ' H'->∃ m',m'<m/\W (i+1) m' σ' H')/\∀ x H',(uG sq).oG i H x H'->g x σ H' λσ2 H2=>tb { D with nx:=N,ct:=N,bk:=D.nx } σ2 H2):=by
 refine ⟨λi m σ H=>m=xs.length-i/\i<=xs.length/\Pv i σ H,⟨xs.length,by simp,fQ _,h0⟩,?_⟩;rintro i m σ H ⟨rfl,hi,p⟩;have q:=hl i σ H hi p;by_cases a:i<xs.length
 ·refine .inr ⟨⟨xs,xs[i],q,by simp [a]⟩,Pv (i+1),λσ' H' d=>⟨xs.length-(i+1),by lk, rfl,a,d⟩,λx H' y=>?_⟩;obtain ⟨T,v,b,j,c,y⟩:=y;subst j c;exact hs i v T σ H (y xs q) b p
 ·have e:i=xs.length:=by lk
  subst e;exact .inl ⟨⟨xs,q,rfl⟩,hd σ H p⟩
end
end
section
open PySem.Spec PyProof.Rows HT
end
variable {cs:aF}
section
def fJ (cs:aF) (w:Int×Int):Int:=cs.getD w.1.toNat 0+cs.getD w.2.toNat 0
def cM (cs:aF) (w:Int×Int):aF:=(cs.set w.1.toNat ((fJ cs w+1) / 2)).set w.2.toNat (fJ cs w / 2)
def bC (cs:aF) (ws:aP):aF:=ws.foldl cM cs
def qR:Nat->aF->aP->aF
 |_,_,[]=>[]
 |k,cs,w::r=>(if fJ cs w % 2=1 then [(k:Int)] else [])++qR (k+1) (cM cs w) r
def wW (cs:aF) (w:Int×Int):(cM cs w).length=cs.length:=by unfold cM;rw [fV,fV]
def jE (ws:aP):∀ cs:aF,(bC cs ws).length=cs.length:=by
 unfold bC;induction ws with
 |nil=>intro cs;rfl
 |cons w r a=>intro cs;rw [jG,a,wW]
def aiP (cs:aF):bC cs []=cs:=rfl
def Pu (cs:aF) (ws:aP) (w:Int×Int):bC cs (ws++[w])=cM (bC cs ws) w:=by unfold bC;rw [yW];rfl
def aht (ws:aP) (w:Int×Int):∀ (k:Nat) (cs:aF),qR k cs (ws++[w])=qR k cs ws++(if fJ (bC cs ws) w % 2=1 then [((k+ws.length:Nat):Int)] else []):=by
 induction ws with
 |nil=>intro k cs;simp [qR,bC];rfl
 |cons v r a =>
  intro k cs;show _++qR (k+1) (cM cs v) (r++[w])=(_++qR (k+1) (cM cs v) r)++_;rw [a,vh];have e:k+1+r.length=k+(v::r).length:=by simp;lk
  rw [e];rfl
def aiQ (ws:aP):∀ (k:Nat) (cs:aF),(qR k cs ws).length<=ws.length:=by
 induction ws with
 |nil=>intro k cs;simp [qR]
 |cons v r a =>intro k cs;show (_++qR (k+1) (cM cs v) r).length<=_;rw [dJ,gA];have:=a (k+1) (cM cs v);split<;>simp<;>lk
def gb {ws:List α} {w:α} (h:ws[i]?=some w):ws.take (i+1)=ws.take i++[w]:=by rw [JC,h];rfl
def zA (cs:aF) (i:Nat) (z:Int):(cs.map V.int).set i (V.int z)=(cs.set i z).map V.int:=by rw [Fj]
inductive am' (vs:aA) (H:Hp) (Q:VK):Prop
 |mk (v:V) (aj:Int) (ws:aP) (c:Addr) (cs:aF) (h1:vs=[v,.ref c]) (h2:eX H v aj ws) (h3:bJ aj ws) (h4:ws.length<=100) (h5:H c=some (.lst (cs.map V.int))) (h6:cs.length=aj.toNat) (h7:∀ (t a b:Addr) (H':Hp),H t=none->H a=none->H b=none->a≠b->aB H H'->H' t=some (.tup [.ref a,.ref b])->H' a=some (.lst ((bC cs ws).map V.int))->H' b=some (.lst ((qR 0 cs ws).map V.int))->Q (.ref t) H')
def ape:=nE am'
inductive ak0 (vs:aA) (H:Hp) (Q:VK):Prop
 |mk (v:V) (aj:Int) (ws:aP) (c:Addr) (cs:aF) (h1:vs=[v,.ref c]) (h2:eX H v aj ws) (h3:bJ aj ws) (h4:ws.length<=100) (h5:H c=some (.lst (cs.map V.int))) (h6:cs.length=aj.toNat) (h7:∀ (a:Addr) (H':Hp),H a=none->aB H H'->H' a=some (.lst ((bC cs ws).map V.int))->Q (.ref a) H')
def ana:=nE ak0
def bJ.mem (h:bJ aj ws) {x:Int×Int} (e:ws[i]?=some x):0<=x.1/\x.1<aj/\0<=x.2/\x.2<aj/\x.1≠x.2:=h x (fj e)
def FJ (h:i<cs.length):cs[i]?=some (cs.getD i 0):=by simp [getD,h]
def aac {w:Int×Int} (hl:cs.length=aj.toNat) (h:0<=w.1/\w.1<aj/\0<=w.2/\w.2<aj/\w.1≠w.2):(cM cs w).getD w.1.toNat 0=(fJ cs w+1) / 2:=by unfold cM;rw [jY (by rw [fV];lk),aK (by lk),jY (by lk),aQ rfl]
def Zx {w:Int×Int} (hl:cs.length=aj.toNat) (h:0<=w.1/\w.1<aj/\0<=w.2/\w.2<aj/\w.1≠w.2):(cM cs w).getD w.2.toNat 0=fJ cs w / 2:=by unfold cM;rw [jY (by rw [fV];lk),aQ rfl]
def aad {w:Int×Int} (hl:cs.length=aj.toNat) (h:0<=w.1/\w.1<aj/\0<=w.2/\w.2<aj/\w.1≠w.2) (h1:j≠w.1.toNat) (h2:j≠w.2.toNat):(cM cs w).getD j 0=cs.getD j 0:=by unfold cM;rw [jY (by rw [fV];lk),aK h2,jY (by lk),aK h1]
def all_true (n:Nat):(replicate n true).all id=true:=by simp
def aiR (h:vW ws d n):∀ k,k<n->1<=d.getD k 0/\d.getD k 0<=(k:Int)+1:=by
 have b:∀ m k,k<m->k<n->1<=d.getD k 0/\d.getD k 0<=(k:Int)+1:=by
  intro m;induction m with
  |zero=>intro k a;lk
  |succ m c =>
   intro k a g;obtain ⟨v,h1,h2,l,e⟩:=h.2 k g;rcases e with z|⟨j,p,o,i⟩
   ·lk
   ·have:=c j (by lk) (by lk);lk
 exact λk a=>b (k+1) k (CP _) a
def aaE (ok:bJ aj ws):∀ a∈(cj aj ws).2,1<=a/\a<=(ws.length:Int):=λa g=>by
 obtain ⟨k,d,i⟩:=JB.mp g;have c:=acC ok;have l:=c.1;have b:=aiR c k (by lk);have e:(cj aj ws).2.getD k 0=a:=by simp [getD,d,i]
 lk
def agG {m:Int} (ok:bJ aj ws) (h0:(cj aj ws).2=[]->m=0) (h1:(cj aj ws).2≠[]->vV (cj aj ws).2 m):0<=m/\m<=(ws.length:Int)/\∀ a∈(cj aj ws).2,a<=m:=by
 by_cases e:(cj aj ws).2=[]
 ·rw [h0 e];exact ⟨yX _,by lk, λa d=>by rw [e] at d;cases d⟩
 ·have c:=h1 e;have b:=aaE ok m c.1;exact ⟨by lk, b.2,c.2⟩
end
variable {m7 lB:Hp->aA->Prop} {cI:gB}
section
open PySem.Spec PyProof.Rows
def qj (m7 lB:Hp->aA->Prop):It :=
 ⟨λi H=>∃ xs x ys y,m7 H xs/\lB H ys/\xs[i]?=some x/\ys[i]?=some y,λi H x H'=>∃ T v u,H T=none/\x=.ref T/\H'=upd H T (.tup [v,u])/\(∀ xs,m7 H xs->xs[i]?=some v)/\∀ ys,lB H ys->ys[i]?=some u,
  λi H=>∃ xs ys,m7 H xs/\lB H ys/\(xs[i]?=none\/ys[i]?=none)⟩
def aD.acE (I:aD X ak σ H s) (k:∀ b o,b∉ch->s.heap.get? b=some o->h'.get? b=some o) (fe:∀ b∈ch,n_ X ak H b):aD X ak σ H { s with heap:=h',toks:=t' }:=by
 have e:∀ b u,H b=some u->b∉ch:=λb u q z=>by rw [(fe b z).1] at q;cases q
 refine I.step (g':=s.gens) (d':=s.drawn) (ch:=ch) (λb d=>?_) (λb o _ _ a q _=>k b o a q) (λb o _ _ a q _=>⟨o.slots,k b o a q⟩) (λ_ _ _ _ n=>n) (λb o a q=>⟨o,k b o a q⟩) (λb xs q=>q) (λb o u q=>q) (λb ps q=>⟨q,λc o g x=>⟨g,k c o (e c _ g) x⟩⟩) (λm i=>?_) (λb u q=>?_) I.bare
 ·exact ⟨(fe b d).2.2.2.1,(fe b d).2.1,(fe b d).2.2.2.2.1,(fe b d).2.2.2.2.2⟩
 ·obtain ⟨o,es,l,j,r⟩:=i;exact ⟨o,es,l,k _ o (λz=>(fe _ z).2.1 rfl) j,r⟩
 ·refine (I.hok b u q).stay (λc v a z=>k c v ?_ z) (λ_ z=>z) λ_ _ z=>z;rcases a with z|z
  ·rw [z];exact e b u q
  ·exact e c _ z
def aD.acF {ys:aA} (I:aD X ak σ H s) (k:∀ b o,b∉ch->s.heap.get? b=some o->h'.get? b=some o) (fe:∀ b∈ch,n_ X ak H b) (new:dZ X.prog X.w (upd H s.heap.objs.size (.tup ys)) h' s.heap.objs.size (.tup ys)):aD X ak σ (upd H s.heap.objs.size (.tup ys)) { s with heap:=h',toks:=t' }:=by
 have i:H s.heap.objs.size=none:=I.hok.fresh (bI _);have p:∀ b o,s.heap.get? b=some o->b≠s.heap.objs.size:=λb o q=>fP (cF q);have e:∀ b u,H b=some u->b∉ch:=λb u q z=>by rw [(fe b z).1] at q;cases q
 have up:∀ b u,H b=some u->upd H s.heap.objs.size (.tup ys) b=some u:=λb u q=>by rw [aV (cV q i)];exact q
 refine I.step (g':=s.gens) (d':=s.drawn) (ch:=ch) (λb a=>?_) (λb o _ _ d q _=>k b o d q) (λb o _ _ d q _=>⟨o.slots,k b o d q⟩) (λb o _ q n=>by rw [aV (p b o q)];exact n) (λb o d q=>⟨o,k b o d q⟩) (λb xs q=>up b _ q) (λb o u q=>up b _ q) (λb ps q=>⟨up b _ q,λc o g x=>⟨up c _ g,k c o (e c _ g) x⟩⟩) (λm j=>?_) (λb u q=>?_) I.bare
 ·exact ⟨(fe b a).2.2.2.1,(fe b a).2.1,(fe b a).2.2.2.2.1,(fe b a).2.2.2.2.2⟩
 ·obtain ⟨o,es,t,l,r⟩:=j;exact ⟨o,es,t,k _ o (λz=>(fe _ z).2.1 rfl) l,r⟩
 ·by_cases a:b=s.heap.objs.size
  ·subst a;rw [aM] at q;cases q;exact new
  ·rw [aV a] at q;refine (I.hok b u q).stay (λc v d z=>k c v ?_ z) (λc z=>up c _ z) λc xs z=>up c _ z;rcases d with z|z
   ·rw [z];exact e b u q
   ·exact e c _ z
section
variable {elts:List Expr} {kk:Nat} {ps:Pos}
def aiS (a1 a2 z TI TO i1 i2:Addr) (D:ZipApart z TI TO i1 i2 a1 a2):uq P w K (.Tuple elts kk ps) (qj (λH xs=>dH K H a1 xs) (λH xs=>dH K H a2 xs)) [z,TI,TO,i1,i2] z (λi h=>IsZip h z TI TO .none/\IsPair h TI (.ref i1) (.ref i2)/\(∃ a b,IsPair h TO a b)/\h.IsListIter i1 a1 i/\h.IsListIter i2 a2 i) where
 mem:=by simp
 obj:=λi h st b g=>by
  obtain ⟨l,c,⟨u,v,d⟩,⟨o1,e1,c1,d1⟩,⟨o2,e2,c2,d2⟩⟩:=st;have q:b=z\/b=TI\/b=TO\/b=i1\/b=i2:=by simpa using g
  rcases q with rfl|rfl|rfl|rfl|rfl
  ·exact ⟨_,l,λv q=>by have L:Data.fields _=Data.cell v:=q;cases L⟩
  ·exact ⟨_,c,λv q=>by have L:Data.seq _ _=Data.cell v:=q;cases L⟩
  ·exact ⟨_,d,λv q=>by have L:Data.seq _ _=Data.cell v:=q;cases L⟩
  ·exact ⟨o1,e1,λv q=>by rw [d1] at q;cases q⟩
  ·exact ⟨o2,e2,λv q=>by rw [d2] at q;cases q⟩
 keep:=λi h h' st k=>by obtain ⟨l,c,⟨u,v,d⟩,h1,h2⟩:=st;exact ⟨k z (by simp) _ l,k TI (by simp) _ c,⟨u,v,k TO (by simp) _ d⟩,h1.at λo e=>k i1 (by simp) o e,h2.at λo e=>k i2 (by simp) o e⟩
 item:=by
  intro X hP S hK hc i ak s σ H E I R st U;subst hP S hK;obtain ⟨l,c,⟨u0,v0,d⟩,h1,h2⟩:=st;obtain ⟨xs,x,ys,y,M,hr,O,hy⟩:=U;obtain ⟨aJ,rv,p,_⟩:=I.list M;obtain ⟨J,V,W,_⟩:=I.list hr;obtain ⟨u,hu,ru⟩:=rv.get O;obtain ⟨v,hv,Vq⟩:=V.get hy;refine wpAny_pyNext_zip_item D l c d h1 h2 p.isList W.isList (x:=u) (y:=v) (by simpa using hu) (by simpa using hv) λh' b1 b2 b3 b4 b5 b6 N=>⟨_,rfl,wpAny_letOwnedTupleGo_zip b1 λt Y B=>?_⟩;have eT:z<s.heap.objs.size:=cF l;have k2:∀ b o,b∉[z,TO,i1,i2]->s.heap.get? b=some o->t.get? b=some o:=λb o n q=>by
   have j:b≠z/\b≠TO/\b≠i1/\b≠i2:=by simpa using n
   exact B.extBut b o j.1 (N b o j.1 j.2.1 j.2.2.1 j.2.2.2 q)
  have new:dZ X.prog X.w (upd H s.heap.objs.size (.tup [x,y])) t s.heap.objs.size (.tup [x,y]):=⟨by show 2<=sizeLine;rw [vC];decide,[u,v],.cons ru (.cons Vq .nil),_,B.extBut _ _ (vB eT) b5,rfl,_,rfl,rfl⟩;have m:∀ b∈[z,TO,i1,i2],b∈[z,TI,TO,i1,i2]:=λb g=>by simp at g ⊢;rcases g with e|e|e|e<;>simp [e]
  have I2:aD X ak σ (upd H s.heap.objs.size (.tup [x,y])) { s with heap:=t,toks:=s.toks }:=aD.acF I k2 (λb g=>R b (m b g)) new;refine ⟨.ref s.heap.objs.size,_,I2,rfl,⟨s.heap.objs.size,x,y,I.hok.fresh (bI _),rfl,rfl,(λzs r=>by rw [I.Et r M];exact O),λzs r=>by rw [I.Et r hr];exact hy⟩,⟨Y,?_,⟨u,v,?_⟩,?_,?_⟩,λb g=>?_⟩
  ·exact B.extBut _ _ D.TIz (N _ _ D.TIz D.TITO D.TIi1 D.TIi2 c)
  ·exact B.extBut _ _ D.TOz b2
  ·exact b3.extBut B.extBut D.i1z
  ·exact b4.extBut B.extBut D.i2z
  ·have bl:b<s.heap.objs.size:=by
    have q:b=z\/b=TI\/b=TO\/b=i1\/b=i2:=by simpa using g
    rcases q with rfl|rfl|rfl|rfl|rfl
    ·exact eT
    ·exact cF c
    ·exact cF d
    ·obtain ⟨_,q,_⟩:=h1;exact cF q
    ·obtain ⟨_,q,_⟩:=h2;exact cF q
   rw [aV (fP bl)];exact (R b g).1
 done:=by
  intro X hP S hK hc i ak s σ H E I R st U;subst hP S hK;obtain ⟨l,c,⟨u0,v0,d⟩,h1,h2⟩:=st;obtain ⟨xs,ys,M,hr,O⟩:=U;obtain ⟨aJ,rv,p,_⟩:=I.list M;obtain ⟨J,V,W,_⟩:=I.list hr;have l1:=rv.length;have l2:=V.length;have C:aJ.toArray[i]?=none\/J.toArray[i]?=none:=by
   rcases O with q|q
   ·exact .inl (by rw [JN,BK] at *;lk)
   ·exact .inr (by rw [JN,BK] at *;lk)
  have m:∀ b∈[z,TO,i1,i2],b∈[z,TI,TO,i1,i2]:=λb g=>by simp at g ⊢;rcases g with e|e|e|e<;>simp [e]
  refine wpAny_pyNext_zip_end (I.ok.hd hc) D l c d h1 h2 p.isList W.isList C λh' N=>⟨rfl,?_⟩;exact aD.acE (t':=s.toks) (ch:=[z,TO,i1,i2]) I (λb o n q=>by
   have j:b≠z/\b≠TO/\b≠i1/\b≠i2:=by simpa using n
   exact N b o j.1 j.2.1 j.2.2.1 j.2.2.2 q) λb g=>R b (m b g)
 self:=λ_ _ _ _ _ st h=>JQ st.1 h
def aqp (K:bG) (ta:TA):TI:=λσ H R=>ta σ H λvs H1=>∃ a b,vs=[.ref a,.ref b]/\(∃ xs,dH K H1 a xs)/\(∃ ys,dH K H1 b ys)/\R (qj (λH xs=>dH K H a xs) (λH xs=>dH K H b xs)) H1
def anb {l r:Expr} {p:Pos} (hg:Gl X "zip") (hm:X.mg "zip"=none) (ha:PA X [l,r] ta) (hs:starEach [l,r] X.env=(false,eval l X.env)::starEach [r] X.env:=by rfl) (hpl:(backTo pos (starEach [r] X.env)).any (·.1)=false:=by rfl) : PI X (.Tuple elts kk ps) (.Call (.Name "zip" p) [l,r] [] pos) (aqp X.K ta):=by
 intro ak s σ H R I h;refine Call_ (qK I hg hm boot_zip (xR (bA (ha pos ak s σ H _ I h) λus d ⟨vs,H1,g,x,C⟩=>?_) hs hpl));obtain ⟨a,b,e,⟨xs,J⟩,⟨ys,hr⟩,q⟩:=C;subst e;obtain ⟨u,v,rfl,z,N⟩:=bO.two x;cases z;cases N;obtain ⟨aJ,_,t,_⟩:=g.list J;obtain ⟨D,_,k,_⟩:=g.list hr;have la:a<d.heap.objs.size:=by obtain ⟨o,n,e,_⟩:=t;exact cF e
 have S:b<d.heap.objs.size:=by obtain ⟨o,n,e,_⟩:=k;exact cF e
 refine call_zip_2 t.isList k.isList λh' j i y M O sz kk=>JQ (by simpa using j) ?_;have L:ZipApart (d.heap.objs.size+4) (d.heap.objs.size+2) (d.heap.objs.size+3) d.heap.objs.size (d.heap.objs.size+1) a b:=by generalize d.heap.objs.size=n at la S;constructor<;>exact λq=>by simp only [Addr] at *;lk
 refine ⟨d.heap.objs.size+4,[d.heap.objs.size+4,d.heap.objs.size+2,d.heap.objs.size+3,d.heap.objs.size,d.heap.objs.size+1],_,_,H1,rfl,g.kept (t':=d.toks) kk,aiS a b _ _ _ _ _ L,⟨j,i,⟨_,_,y⟩,M,O⟩,λc B=>?_,q⟩;have m:d.heap.objs.size<=c:=by
  have q:c=d.heap.objs.size+4\/c=d.heap.objs.size+2\/c=d.heap.objs.size+3\/c=d.heap.objs.size\/c=d.heap.objs.size+1:=by simpa using B
  rcases q with rfl|rfl|rfl|rfl|rfl
  ·exact vm _ _
  ·exact vm _ _
  ·exact vm _ _
  ·exact bI _
  ·exact vm _ _
 exact g.sW m (g.hok.fresh m)
def anc {ys:aA} (gD:xs.length=ys.length) (Pv:Nat->St->Hp->Prop) (h0:Pv 0 σ H) (hl:∀ i σ H,i<=xs.length->Pv i σ H->m7 H xs/\lB H ys) (hs:∀ i x y T σ H,xs[i]?=some x->ys[i]?=some y->H T=none->Pv i σ H->g (.ref T) σ (upd H T (.tup [x,y])) λσ2 H2=>tb { D with nx:=Pv (i+1),ct:=Pv (i+1),bk:=D.nx } σ2 H2) (hd:∀ σ H,Pv xs.length σ H->D.nx σ H) : ∃ W:Nat->Nat->St->Hp->Prop,(∃ m,W 0 m σ H)/\∀ i m σ H,W i m σ H ->((qj m7 lB).stop i H/\D.nx σ H)\/((qj m7 lB).go i H/\∃ N:St->Hp->Prop,(∀ σ' H',N σ' H'->∃ m',m'<m/\W (i+1) m' σ' H')/\∀ x H',(qj m7 lB).oG i H x H'->g x σ H' λσ2 H2=>tb { D with nx:=N,ct:=N,bk:=D.nx } σ2 H2):=by
 refine ⟨λi m σ H=>m=xs.length-i/\i<=xs.length/\Pv i σ H,⟨xs.length,by simp,fQ _,h0⟩,?_⟩;rintro i m σ H ⟨rfl,hi,p⟩;obtain ⟨c,d⟩:=hl i σ H hi p;by_cases a:i<xs.length
 ·have b:i<ys.length:=by lk
  refine .inr ⟨⟨xs,xs[i],ys,ys[i],c,d,by simp [a],by simp [b]⟩,Pv (i+1),λσ' H' o=>⟨xs.length-(i+1),by lk, rfl,a,o⟩,λx H' y=>?_⟩;obtain ⟨T,v,u,j,q,l,k,n⟩:=y;subst q l;exact hs i v u T σ H (k xs c) (n ys d) j p
 ·have e:i=xs.length:=by lk
  subst e;exact .inl ⟨⟨xs,ys,c,d,.inl (by simp)⟩,hd σ H p⟩
def abl {ys':aA} {own:Nat} {R:Hp->Prop} (gD:xs.length=ys'.length) (Pv:Nat->aA->Hp->Prop) (h0:Pv 0 [] (upd H1 l (.lst []))) (hz:xs.length<=sizeLine) (hl:∀ i ys H,i<=xs.length->Pv i ys H->m7 H xs/\lB H ys'/\H l=some (.lst ys)/\ys.length<=i) (hs:∀ i x y T ys H,xs[i]?=some x->ys'[i]?=some y->H T=none->Pv i ys H->g (.ref T) (gM own cI σ) (upd H T (.tup [x,y])) λσ2 H2=>Wk (gM own cI σ) σ2 /\tt σ2 H2 λb H3=>if b=true then te σ2 H3 λy H4=>H4 l=some (.lst ys)/\Pv (i+1) (ys++[y]) (upd H4 l (.lst (ys++[y]))) else Pv (i+1) ys H3) (hd:∀ ys H,Pv xs.length ys H->R H) : ∃ W:Nat->Nat->aA->Hp->Prop,(∃ m,W 0 m [] (upd H1 l (.lst []))) /\∀ i m ys H,W i m ys H->H l=some (.lst ys)/\(((qj m7 lB).stop i H/\R H)\/((qj m7 lB).go i H/\ys.length<sizeLine/\∃ N:aA->Hp->Prop,(∀ ys' H',N ys' H'->∃ m',m'<m/\W (i+1) m' ys' H') /\∀ x H',(qj m7 lB).oG i H x H'->g x (gM own cI σ) H' λσ2 H2=>Wk (gM own cI σ) σ2 /\tt σ2 H2 λb H3=>if b=true then te σ2 H3 λy H4=>H4 l=some (.lst ys)/\N (ys++[y]) (upd H4 l (.lst (ys++[y]))) else N ys H3)):=by
 refine ⟨λi m ys H=>m=xs.length-i/\i<=xs.length/\Pv i ys H,⟨xs.length,by simp,fQ _,h0⟩,?_⟩;rintro i m ys H ⟨rfl,hi,p⟩;obtain ⟨d,j,t,B⟩:=hl i ys H hi p;refine ⟨t,?_⟩;by_cases a:i<xs.length
 ·have c:i<ys'.length:=by lk
  refine .inr ⟨⟨xs,xs[i],ys',ys'[i],d,j,by simp [a],by simp [c]⟩,by lk, Pv (i+1),λzs H' r=>⟨xs.length-(i+1),by lk, rfl,a,r⟩,λx H' y=>?_⟩;obtain ⟨T,v,u,k,o,z,n,q⟩:=y;subst o z;exact hs i v u T ys H (n xs d) (q ys' j) k p
 ·have e:i=xs.length:=by lk
  subst e;exact .inl ⟨⟨xs,ys',d,j,.inl (by simp)⟩,hd ys H p⟩
end
section
def ipM:Ad:=λx y H Q=>∃ i j,x=.int i/\y=.int j/\Dq i j/\Q (.int (i*j)) H
def apf:G4 X .Mult ipM:=by rintro ak s σ H x y v u Q I b a ⟨i,j,e,c,d,q⟩;subst e;subst c;obtain ⟨t,rfl⟩:=b;obtain ⟨t',rfl⟩:=a;exact PyProof.Rows.imul_int ⟨.int _,H,I.tok _,⟨_,rfl⟩,q⟩ d.ok
end
end
variable {M:List aF}
section
def QG {a b:aF} (h:a.length=b.length) (g:∀ i,i<a.length->a.getD i 0=b.getD i 0):a=b:=by refine List.ext_getElem h λi h1 h2=>?_;have:=g i h1;simpa [getD,h1,h2] using this
def vX (aj:Nat) (i:Nat) (n:Int):aF:=(replicate aj 0).set i n
def I_ (aj i:Nat) (n:Int):(vX aj i n).length=aj:=by unfold vX;rw [fV,vG]
abbrev zT (aj:Int) (w:Int×Int):Prop:=0<=w.1/\w.1<aj/\0<=w.2/\w.2<aj/\w.1≠w.2
def aaF {w:Int×Int} (hl:cs.length=aj.toNat) (h:zT aj w) (x:Nat) : (cM cs w).getD x 0=if x=w.2.toNat then fJ cs w / 2 else if x=w.1.toNat then (fJ cs w+1) / 2 else cs.getD x 0:=by obtain ⟨h1,h2,a,b,h5⟩:=h;unfold cM;rw [jY (by rw [fV];lk),jY (by lk)]
def sum_set {l:aF}:∀ {i:Nat} {z:Int},i<l.length->(l.set i z).sum=l.sum-l.getD i 0+z:=by
 induction l with
 |nil=>intro i z h;simp at h
 |cons a r b =>
  intro i z h;cases i with
  |zero=>simp [getD];lk
  |succ i =>have:=b (i:=i) (z:=z) (by simpa using h);simp [getD] at this ⊢;lk
def ak1 {w:Int×Int} (hl:cs.length=aj.toNat) (h:zT aj w):(cM cs w).sum=cs.sum:=by obtain ⟨h1,h2,a,b,h5⟩:=h;unfold cM;rw [sum_set (by rw [fV];lk),sum_set (by lk),jY (by lk),aK (by lk)];unfold fJ;lk
def aiT (ws:aP):∀ cs:aF,bJ aj ws->cs.length=aj.toNat->(bC cs ws).sum=cs.sum:=by
 induction ws with
 |nil=>intro cs _ _;rfl
 |cons w r b =>intro cs ok a;show (bC (cM cs w) r).sum=_;rw [b _ (λx c=>ok x (fH _ c)) (by rw [wW];exact a),ak1 a (ok w iz)]
def aiU {aj:Nat} {n:Int} (hi:i<aj):(vX aj i n).sum=n:=by
 unfold vX;have z:∀ k:Nat,(replicate k (0:Int)).sum=0:=by
  intro k;induction k with
  |zero=>rfl
  |succ k a=>rw [ju,qC,a];rfl
 have e:(replicate aj (0:Int)).getD i 0=0:=by simp only [getD,uh];split<;>rfl
 rw [sum_set (by rw [vG];exact hi),e,z];lk
def oX (aj D:Nat) (ws:aP) (i:Nat):aF:=bC (vX aj i ((2 ^ D:Nat):Int)) ws
def ahu (aj D:Nat) (ws:aP) (i:Nat):(oX aj D ws i).length=aj:=by unfold oX;rw [jE,I_]
def Vs (L:aF):Int:=L.foldl gk 0
def ane (L:aF):∀ x:Int,x<=L.foldl gk x/\(∀ a∈L,a<=L.foldl gk x)/\(L.foldl gk x=x\/L.foldl gk x∈L):=by
 induction L with
 |nil=>intro x;exact ⟨yX _,(λ_ h=>nomatch h),.inl rfl⟩
 |cons b r i =>
  intro x;obtain ⟨h1,h2,d⟩:=i (gk x b);rw [jG];generalize r.foldl gk (gk x b)=z at h1 h2 d;unfold gk at h1 d;by_cases c:b<=x
  ·rw [aQ c] at h1 d;refine ⟨h1,λa g=>?_,d.imp id (fH _)⟩;rcases fX.mp g with e|e
   ·lk
   ·exact h2 a e
  ·rw [aK c] at h1 d;refine ⟨by lk, λa g=>?_,?_⟩
   ·rcases fX.mp g with e|e
    ·lk
    ·exact h2 a e
   ·rcases d with e|e
    ·exact .inr (by rw [e];exact iz)
    ·exact .inr (fH _ e)
def Gf (L:aF):Mx (Vs L) (·∈L):=ane L 0
def dX (aj:Int) (ws:aP):Nat:=(Vs (cj aj ws).2).toNat
def Ja (aj:Int) (ws:aP):(dX aj ws:Int)=Vs (cj aj ws).2:=by have:=(Gf (cj aj ws).2).1;unfold dX;lk
def Kv {m:Int} (ok:bJ aj ws) (h0:(cj aj ws).2=[]->m=0) (h1:(cj aj ws).2≠[]->vV (cj aj ws).2 m):m=(dX aj ws:Int):=by
 rw [Ja];refine Mx.uniq (S:=(·∈(cj aj ws).2)) ?_ (Gf _);obtain ⟨a,c,b⟩:=agG ok h0 h1;refine ⟨a,b,?_⟩;by_cases e:(cj aj ws).2=[]
 ·exact .inl (h0 e)
 ·exact .inr (h1 e).1
def acG (ok:bJ aj ws):dX aj ws<=ws.length:=by
 have h:=Gf (cj aj ws).2;have c:=Ja aj ws;rcases h.2.2 with e|e
 ·lk
 ·have:=(aaE ok _ e).2;lk
abbrev whole (aj:Int) (ws:aP):Int:=((2 ^ dX aj ws:Nat):Int)
def Rows (H:Hp):aA->List aF->Prop:=Paired λr w=>∃ t,r=.ref t/\H t=some (.lst (w.map V.int))
def Rows.len (h:Rows H rs M):rs.length=M.length:=o7 h
def Rows.get:∀ {rs:aA} {M:List aF} {i:Nat} {r:V},Rows H rs M->rs[i]?=some r->∃ w t,M[i]?=some w/\r=.ref t/\H t=some (.lst (w.map V.int))
 |_,_,_,_,.nil,e=>by simp at e
 |_,_,0,_,.cons ⟨t,e1,h⟩ _,e=>by simp at e;subst e;exact ⟨_,t,rfl,e1,h⟩
 |_,_,i+1,r,.cons _ q,e=>by obtain ⟨w,t,a,b⟩:=Rows.get (i:=i) (r:=r) q (by simpa using e);exact ⟨w,t,by simpa using a,b⟩
def fG (G H:Hp) (l:Addr):aA->List aF->Prop:=Paired λr w=>∃ t,r=.ref t/\t≠l/\G t=none/\H t=some (.lst (w.map V.int))
def fG.rows:∀ {rs:aA} {M:List aF},fG G H l rs M->Rows H rs M
 |_,_,.nil=>.nil
 |_,_,.cons ⟨t,e,_,_,h⟩ r=>.cons ⟨t,e,h⟩ (fG.rows r)
def fG.same (k:aB H H'):∀ {rs:aA} {M:List aF},fG G H l rs M->fG G H' l rs M
 |_,_,.nil=>.nil
 |_,_,.cons ⟨t,e,a,b,h⟩ r=>.cons ⟨t,e,a,b,k t _ h⟩ (fG.same k r)
def fG.put:∀ {rs:aA} {M:List aF},fG G H l rs M->fG G (upd H l o) l rs M
 |_,_,.nil=>.nil
 |_,_,.cons ⟨t,e,a,b,h⟩ r=>.cons ⟨t,e,a,b,by rw [aV a];exact h⟩ (fG.put r)
def fG.app:∀ {rs qs:aA} {M N:List aF},fG G H l rs M->fG G H l qs N->fG G H l (rs++qs) (M++N)
 |_,_,_,_,.nil,s=>s
 |_,_,_,_,.cons r t,s=>.cons r (fG.app t s)
def fG.more {t:Addr} {w:aF} (h:fG G H l rs M) (k:aB H H') (ht:H' t=some (.lst (w.map V.int))) (n:t≠l) (g:G t=none):fG G (upd H' l o) l (rs++[.ref t]) (M++[w]):=((h.same k).app (.cons ⟨t,rfl,n,g,ht⟩ .nil)).put
def fG.len (h:fG G H l rs M):rs.length=M.length:=o7 h
def fG.get:∀ {rs:aA} {M:List aF} {i:Nat} {r:V},fG G H l rs M->rs[i]?=some r->∃ w t,M[i]?=some w/\r=.ref t/\t≠l/\G t=none/\H t=some (.lst (w.map V.int))
 |_,_,_,_,.nil,e=>by simp at e
 |_,_,0,_,.cons ⟨t,e1,h⟩ _,e=>by simp at e;subst e;exact ⟨_,t,rfl,e1,h⟩
 |_,_,i+1,r,.cons _ q,e=>by obtain ⟨w,t,a,b⟩:=fG.get (i:=i) (r:=r) q (by simpa using e);exact ⟨w,t,by simpa using a,b⟩
def ahv (f:Nat->α) (j:Nat):(range (j+1)).map f=(range j).map f++[f j]:=by rw [rN,cX];rfl
def aiV {f:Nat->α} {x:α} (h:((range n).map f)[i]?=some x):i<n/\x=f i:=by
 rw [jP] at h;have hi:i<n:=by
  by_cases c:i<n
  ·exact c
  ·rw [yZ (by simp;lk)] at h;cases h
 rw [JR hi] at h;exact ⟨hi,(iB h).symm⟩
def u5 {x:V} (h:(cs.map V.int)[j]?=some x):∃ z,cs[j]?=some z/\x=V.int z:=by
 rw [jP] at h;cases e:cs[j]? with
 |none=>rw [e] at h;cases h
 |some z=>rw [e] at h;exact ⟨z,rfl,(iB h).symm⟩
def pK (aj:Int) (ws:aP):List aF:=(range aj.toNat).map (oX aj.toNat (dX aj ws) ws)
inductive ak2 (vs:aA) (H:Hp) (Q:VK):Prop
 |mk (v:V) (aj:Int) (ws:aP) (h1:vs=[v]) (h2:eX H v aj ws) (h3:1<=aj) (h4:aj<=8) (h5:bJ aj ws) (h6:ws.length<=41) (h7:∀ H',aB H H'->Q (.int (whole aj ws)) H')
def anf:=nE ak2
inductive ak3 (vs:aA) (H:Hp) (Q:VK):Prop
 |mk (aj cC n:Int) (h1:vs=[.int aj,.int cC,.int n]) (h2:1<=aj) (h3:aj<=8) (h4:0<=cC) (h5:cC<aj) (h6:∀ (a:Addr) (H':Hp),H a=none->aB H H'->H' a=some (.lst ((vX aj.toNat cC.toNat n).map V.int))->Q (.ref a) H')
def ang:=nE ak3
inductive aiW (vs:aA) (H:Hp) (Q:VK):Prop
 |mk (v:V) (aj:Int) (ws:aP) (h1:vs=[v]) (h2:eX H v aj ws) (h3:1<=aj) (h4:aj<=8) (h5:bJ aj ws) (h6:ws.length<=41) (h7:∀ (l:Addr) (rs:aA) (H':Hp),H l=none->aB H H'->H' l=some (.lst rs)->fG H H' l rs (pK aj ws)->Q (.ref l) H')
def ak4:=nE aiW
def Zy (aj:Int) (ws:aP):(pK aj ws).length=aj.toNat:=by unfold pK;simp
def Zz {r:aF} (h:(pK aj ws)[i]?=some r):i<aj.toNat/\r=oX aj.toNat (dX aj ws) ws i:=aiV h
def Cp (h:cs[j]?=some z):cs.getD j 0=z:=by simp [getD,h]
def ak5 (h:n<=xs.length):ou xs (some (n:Int)) none=xs.drop n:=by unfold ou;rw [HT.amZ,HT.akN,tY h,zc (by rw [xW];lk)]
def arw:ou xs (some 1) none=xs.drop 1:=by
 by_cases h:1<=xs.length
 ·exact ak5 (n:=1) h
 ·have e:xs=[]:=Rq.mp (by lk);subst e;rfl
def ak6 {x:V} (h:rs[rs.length-1]?=some x):jK rs (-1)=some x:=by have a:=(dY.mp h).1;unfold jK q8;rw [aK (by decide),aQ (by lk)];show rs[((-1:Int)+(rs.length:Int)).toNat]?=some x;rw [show ((-1:Int)+(rs.length:Int)).toNat=rs.length-1 by lk];exact h
end
section
open PySem.Spec PyProof.Rows PyProof.V PySem.SeqAt
mutual
inductive o_ (H:Hp):V->PyData->Prop
 |non:o_ H .non .none
 |bl (b:Bool):o_ H (.bl b) (.bool b)
 |int (i:Int):o_ H (.int i) (.int i)
 |str (x:Str):o_ H (.str x) (.str x)
 |lst {a:Addr} {xs:aA} {ds:List PyData}:H a=some (.lst xs)->Du H xs ds->o_ H (.ref a) (.list ds)
 |tup {a:Addr} {xs:aA} {ds:List PyData}:H a=some (.tup xs)->Du H xs ds->o_ H (.ref a) (.tuple ds)
inductive Du (H:Hp):aA->List PyData->Prop
 |nil:Du H [] []
 |cons {v:V} {vs:aA} {d:PyData} {ds:List PyData}:o_ H v d->Du H vs ds->Du H (v::vs) (d::ds)
end
def o_.reads (I:aD X ak σ H s) {d:PyData} (h:o_ H v d):∀ u,cA v u->∃ as,Reads s.heap u d as:=by
 refine o_.rec (H:=H) (motive_1:=λv d _=>∀ u,cA v u->∃ as,Reads s.heap u d as) (motive_2:=λvs ds _=>∀ us,bO vs us->∃ as,ReadsAll s.heap us ds as) ?_ ?_ ?_ ?_ ?_ ?_ ?_ ?_ h
 ·intro u r;cases r;exact ⟨_,.none⟩
 ·intro b u r;cases r;exact ⟨_,.bool b⟩
 ·rintro i u ⟨t,rfl⟩;exact ⟨_,.int i t⟩
 ·rintro x u ⟨t,rfl⟩;exact ⟨_,.str x t⟩
 ·intro a xs ds e _ l u r;cases r;obtain ⟨aJ,q,pl,_⟩:=I.list (aN (K:=X.K) e);obtain ⟨as,c⟩:=l aJ q;obtain ⟨o,k,m,n,p⟩:=pl.isList;exact ⟨_,.list k m p (by simpa using c)⟩
 ·intro a xs ds e _ l u r;cases r;obtain ⟨aJ,q,pl,_⟩:=I.tuple (aZ (K:=X.K) e);obtain ⟨as,c⟩:=l aJ q;obtain ⟨o,k,m,n,p⟩:=(show s.heap.IsTuple a aJ.toArray from pl);exact ⟨_,.tuple k m p (by simpa using c)⟩
 ·intro us r;cases r;exact ⟨_,.nil⟩
 ·intro v vs d ds _ _ g j us r;cases r with
  |cons z y =>obtain ⟨as,c⟩:=g _ z;obtain ⟨bs,B⟩:=j _ y;exact ⟨_,.cons c B⟩
section
def aey (neg:Bool):R2:=λx y H Q=>∃ dx a,o_ H x dx/\o_ H y a/\shaped dx=true/\shaped a=true/\noMix dx a=true/\Q (.bl (if neg then !same dx a else same dx a)) H
def adB (hu:X.A.units+64<cLine):dO X (compareOp .Eq) (aey false):=by rintro ak s σ H x y v u Q I a d ⟨dx,k,i,j,g,e,nm,q⟩;obtain ⟨l,c⟩:=i.reads I v a;obtain ⟨bs,b⟩:=j.reads I u d;exact eq_dataH_same c b g e hu nm ⟨.bl _,H,I,rfl,q⟩
def apg (hu:X.A.units+64<cLine):dO X (compareOp .NotEq) (aey true):=by rintro ak s σ H x y v u Q I a d ⟨dx,k,i,j,g,e,nm,q⟩;obtain ⟨l,c⟩:=i.reads I v a;obtain ⟨bs,b⟩:=j.reads I u d;exact ne_dataH_same c b g e hu nm ⟨.bl _,H,I,rfl,q⟩
end
end
section
open PySem.SeqAt
abbrev qX (M:List aF) (i:Nat):aF:=M.getD i []
def Ud (r:aF):Prop:=∀ x,x<r.length->r.getD x 0=r.getD 0 0
def aqq (M:List aF):Prop:=∀ i,i<M.length->Ud (qX M i)
def LR (M:List aF) (i k:Nat):Prop:=i<M.length/\(∀ j,j<i->Ud (qX M j))/\k<(qX M i).length/\(qX M i).getD k 0≠(qX M i).getD 0 0/\∀ x,x<k->(qX M i).getD x 0=(qX M i).getD 0 0
def anh {r:aF} (h:M[i]?=some r):qX M i=r:=by simp [qX,getD,h]
inductive aiX (vs:aA) (H:Hp) (Q:VK):Prop
 |mk (v:V) (aj:Int) (ws:aP) (h1:vs=[v]) (h2:eX H v aj ws) (h3:1<=aj) (h4:aj<=8) (h5:bJ aj ws) (h6:ws.length<=41) (h7:(∀ H',aB H H'->aqq (pK aj ws)->Q .non H')) (h8:∀ (T:Addr) (i k:Nat) (H':Hp),H T=none->aB H H'->H' T=some (.tup [.int i,.int 0,.int k])->LR (pK aj ws) i k->Q (.ref T) H')
def ak7:=nE aiX
end
section
open PySem.Spec PyProof.Rows PyProof.V PySem.SeqAt
section
variable {a:Expr} {ta:TE}
def ani (ha:PE X a ta):PE X (.UnaryOp .Not a pos) (λσ H Q=>ta σ H λx H'=>∃ k,Uy X.K x H' k/\Q (.bl (!k)) H'):=by intro ak s σ H Q I h;exact UnaryOp_ (bA (ha ak s σ H _ I h) λv i ⟨x,H1,g,d,e⟩=>not_of (bA (ady ak i σ H1 x v (λk H'=>Q (.bl (!k)) H') g d e) λc l ⟨H2,b,j⟩=>⟨.bl (!c),H2,b,rfl,j⟩))
end
def ak8 {ys:aA} (h1:n<=xs.length) (h2:n<=ys.length) (h3:xs.length=n\/ys.length=n) (Pv:Nat->St->Hp->Prop) (h0:Pv 0 σ H) (hl:∀ i σ H,i<=n->Pv i σ H->m7 H xs/\lB H ys) (hs:∀ i x y T σ H,i<n->xs[i]?=some x->ys[i]?=some y->H T=none->Pv i σ H->g (.ref T) σ (upd H T (.tup [x,y])) λσ2 H2=>tb { D with nx:=Pv (i+1),ct:=Pv (i+1),bk:=D.nx } σ2 H2) (hd:∀ σ H,Pv n σ H->D.nx σ H) : ∃ W:Nat->Nat->St->Hp->Prop,(∃ m,W 0 m σ H)/\∀ i m σ H,W i m σ H ->((qj m7 lB).stop i H/\D.nx σ H)\/((qj m7 lB).go i H/\∃ N:St->Hp->Prop,(∀ σ' H',N σ' H'->∃ m',m'<m/\W (i+1) m' σ' H')/\∀ x H',(qj m7 lB).oG i H x H'->g x σ H' λσ2 H2=>tb { D with nx:=N,ct:=N,bk:=D.nx } σ2 H2):=by
 refine ⟨λi m σ H=>m=n-i/\i<=n/\Pv i σ H,⟨n,by simp,fQ _,h0⟩,?_⟩;rintro i m σ H ⟨rfl,hi,p⟩;obtain ⟨b,c⟩:=hl i σ H hi p;by_cases a:i<n
 ·have l:i<xs.length:=by lk
  have t:i<ys.length:=by lk
  refine .inr ⟨⟨xs,xs[i],ys,ys[i],b,c,by simp [l],by simp [t]⟩,Pv (i+1),λσ' H' q=>⟨n-(i+1),by lk, rfl,a,q⟩,λx H' y=>?_⟩;obtain ⟨T,v,u,d,r,k,j,o⟩:=y;subst r k;exact hs i v u T σ H a (j xs b) (o ys c) d p
 ·have e:i=n:=by lk
  subst e;refine .inl ⟨⟨xs,ys,b,c,?_⟩,hd σ H p⟩;rcases h3 with z|z
  ·exact .inl (by rw [<-z];simp)
  ·exact .inr (by rw [<-z];simp)
end
section
open PySem.Spec PyProof.Rows
structure j7 (P:Program) (w:World) (K:bG) (mg:dR) (au:Heap) (C:Addr) (m:Str) (k:Nat) (ps:bK) (sp:Sp):Prop where
 ex:∃ (f:Addr) (fd:FuncData),dw P w K mg au jL k f fd ps sp/\mK K fd ps []/\CW K C m f
structure Kw (P:Program) (w:World) (K:bG) (mg:dR) (au:Heap) (x:Str) (C:Addr) (k:Nat) (ps:bK) (sp:Sp):Prop where
 ex:∃ (f:Addr) (fd:FuncData),dw P w K mg au jL k f fd ps sp/\mK K fd ps []/\LK K C f
 at_:mg x=some (.ref C)
section
variable {m:Str} {k:Nat} {o:Expr} {ta:TE} {t:TA} {p apos:Pos}
def jN {pl:Sem Bool} (he:PE X o ta) (c:nW X.K C) (M:j7 X.prog X.w X.K X.mg X.au C m k ps sp) (hr:eN k X.A) (ha:PA X (e::es) t) (hst:starEach (e::es) X.env=(false,eval e X.env)::starEach es X.env:=by rfl) (hpl:(backTo pos (starEach es X.env)).any (·.1)=false:=by rfl) (ht:eval (.Call (.Attribute o m apos) (e::es) [] pos) X.env=(do
   let ov <-eval o X.env
   standAt apos.atName
   let (f,first) <-holding [ov] (getMethod ov m pl)
   callWith pos f first (backTo pos (starEach (e::es) X.env)) (backToKw pos (keywordEach [] X.env))):=by rfl) :
  PE X (.Call (.Attribute o m apos) (e::es) [] pos) (Ld C m sp [] E0 ta t):=by
 obtain ⟨f,fd,F,b,a⟩:=M.ex;exact amW he c a F hr b .nil Gs ha hst hpl ht
def yJ {pl:Sem Bool} (he:PE X o ta) (c:nW X.K C) (M:j7 X.prog X.w X.K X.mg X.au C m k ps sp) (hr:eN k X.A) (ht:eval (.Call (.Attribute o m apos) [] [] pos) X.env=(do
   let ov <-eval o X.env
   standAt apos.atName
   let (f,first) <-holding [ov] (getMethod ov m pl)
   callWith pos f first (backTo pos (starEach [] X.env)) (backToKw pos (keywordEach [] X.env))):=by rfl) :
  PE X (.Call (.Attribute o m apos) [] [] pos) (Ld C m sp [] E0 ta wB):=by
 obtain ⟨f,fd,F,b,a⟩:=M.ex;exact akL he c a F hr b .nil Gs ht
def ak9 (M:Kw X.prog X.w X.K X.mg X.au x C k ps sp) (hr:eN (k+1) X.A) (hg:Gl X x) (ha:PA X (e::es) t) (hdb:(x == ("__debug__":Str))=false:=by decide) (he:starEach (e::es) X.env=(false,eval e X.env)::starEach es X.env:=by rfl) (hpl:(backTo pos (starEach es X.env)).any (·.1)=false:=by rfl) : PE X (.Call (.Name x p) (e::es) [] pos) (Le C sp [] E0 t):=by obtain ⟨f,fd,F,b,a⟩:=M.ex;exact amX a F hr hg M.at_ b .nil Gs ha hdb he hpl
def aqr (K:bG):V->V->Hp->VK->Prop:=λx y H Q=>∃ p xs i v,x=.ref p/\y=.int i/\dH K H p xs/\0<=i/\xs[i.toNat]?=some v/\Q v H
def ak_:ael X (aqr X.K):=by rintro ak s σ H o i u k Q I g c ⟨p,xs,i,z,rfl,rfl,j,b,a,q⟩;cases g;obtain ⟨t,rfl⟩:=c;obtain ⟨aJ,r,pl,v⟩:=I.list j;obtain ⟨w,d,e⟩:=r.get a;have l:=r.length;have m:=xX;have n:=(dY.mp a).1;exact wpAny_getItem_list pl.isList b (by lk) (by simpa using d) ⟨z,H,I,e,q⟩
end
structure vY (K:bG) (mg:dR) (C:Addr) (x q:Str) (st:Stmt) (f:Addr) (fd:FuncData):Prop where
 fn:wF K x q st f fd
 mt:CW K C x f
def vY.arx {q:Str} {st:Stmt} {k:Nat} (h:vY K mg C x q st f fd) (F:dw P w K mg au jL k f fd ps sp) (hb:∀ (kV doc pm:Value) (an:jy) (cdv ct:Value) (us:bV),us.length=ps.length->bindArgs (fnOf x q (kJ st) (jO st) (gJ st) .none kV doc pm an cdv ct) ⟨us,[]⟩=pure (ps.zip us)):j7 P w K mg au C x k ps sp:=⟨f,fd,F,h.fn.binds hb,h.mt⟩
end
variable {l':Int}
section
open PySem.SeqAt
inductive Place where
 |before (k:Nat) (l:Int)
 |exit (l:Int)
 |out (l n:Int)
def rm:Place->aA
 |.before k l=>[.str "before",.int k,.int l]
 |.exit l=>[.str "exit",.int l]
 |.out l n=>[.str "out",.int l,.int n]
def L_ (H:Hp) (r:V) (pl:Place):Prop:=∃ t,r=.ref t/\H t=some (.tup (rm pl))
def j8 (w:Int×Int) (l:Int):Bool:=decide (l=w.1) || decide (l=w.2)
def lZ (ws:aP) (l:Int):Nat->Nat->Place
 |0,_=>.exit l
 |n+1,s=>if j8 (bT ws s) l then .before s l else lZ ws l n (s+1)
def gF (ws:aP) (l:Int) (s:Nat):Place:=lZ ws l (ws.length-s) s
def Ze {l:Int}:∀ {n s k:Nat} {l':Int},lZ ws l n s=.before k l'->s<=k/\k<s+n/\j8 (bT ws k) l=true/\l'=l
 |0,_,_,_,h=>by simp [lZ] at h
 |n+1,s,k,l',h=>by
  unfold lZ at h;by_cases c:j8 (bT ws s) l=true
  ·rw [aQ c] at h;injection h with h1 h2
   exact ⟨by lk, by lk, by rw [<-h1];exact c,h2.symm⟩
  ·rw [aK c] at h;obtain ⟨a,b,d,e⟩:=Ze h;exact ⟨by lk, by lk, d,e⟩
def afM {l:Int} {s k:Nat} (h:gF ws l s=.before k l'):s<=k/\k<ws.length/\j8 (bT ws k) l=true/\l'=l:=by obtain ⟨a,b,c,d⟩:=Ze h;exact ⟨a,by lk, c,d⟩
def ZC {l:Int}:∀ {n s:Nat},lZ ws l n s=.exit l'->l'=l
 |0,_,h=>by unfold lZ at h;injection h with h;exact h.symm
 |n+1,s,h=>by
  unfold lZ at h;by_cases c:j8 (bT ws s) l=true
  ·rw [aQ c] at h;cases h
  ·rw [aK c] at h;exact ZC h
def aae {l n':Int}:∀ {n s:Nat},lZ ws l n s≠.out l' n'
 |0,_,h=>by simp [lZ] at h
 |n+1,s,h=>by
  unfold lZ at h;by_cases c:j8 (bT ws s) l=true
  ·rw [aQ c] at h;cases h
  ·rw [aK c] at h;exact aae h
structure cH where
 iI:aF
 bM:aF
 aX:List Place
 chg:aF
structure dB where
 dx:Addr
 lf:Addr
 lt:Addr
 lp:Addr
 lc:Addr
def m8 (v:V) (L:dB):List (Str×V):=cZ "changes" (.ref L.lc) (cZ "places" (.ref L.lp) (cZ "tally" (.ref L.lt) (cZ "facing" (.ref L.lf) (cZ "net" v []))))
def qy (f:Str) (v:V):∀ fs:List (Str×V),(cZ f v fs).length<=fs.length+1
 |[]=>by simp [cZ]
 |(g,x)::r=>by
  unfold cZ;split
  ·simp
  ·have:=qy f v r;simp;lk
def vq (v:V) (L:dB):(m8 v L).lookup ("net":Str)=some v:=by unfold m8;rw [iJ,aK (by k_go),iJ,aK (by k_go),iJ,aK (by k_go),iJ,aK (by k_go),iJ,aQ rfl]
def Em (v:V) (L:dB):(m8 v L).lookup ("facing":Str)=some (.ref L.lf):=by unfold m8;rw [iJ,aK (by k_go),iJ,aK (by k_go),iJ,aK (by k_go),iJ,aQ rfl]
def yK (v:V) (L:dB):(m8 v L).lookup ("tally":Str)=some (.ref L.lt):=by unfold m8;rw [iJ,aK (by k_go),iJ,aK (by k_go),iJ,aQ rfl]
def tR (v:V) (L:dB):(m8 v L).lookup ("places":Str)=some (.ref L.lp):=by unfold m8;rw [iJ,aK (by k_go),iJ,aQ rfl]
def O8 (v:V) (L:dB):(m8 v L).lookup ("changes":Str)=some (.ref L.lc):=by unfold m8;rw [iJ,aQ rfl]
def oY (v:V) (L:dB) {m:Str} (h1:¬ m="changes") (h2:¬ m="places") (h3:¬ m="tally") (h4:¬ m="facing") (h5:¬ m="net"):(m8 v L).lookup m=none:=by unfold m8;rw [iJ,aK h1,iJ,aK h2,iJ,aK h3,iJ,aK h4,iJ,aK h5];rfl
structure cN (C:Addr) (H:Hp) (p:Addr) (v:V) (L:dB) (st:cH):Prop where
 ob:H p=some (.ins C L.dx (m8 v L))
 fa:H L.lf=some (.lst (st.iI.map V.int))
 ta:H L.lt=some (.lst (st.bM.map V.int))
 pl:∃ rs,H L.lp=some (.lst rs)/\Paired (L_ H) rs st.aX
 ch:H L.lc=some (.lst (st.chg.map V.int))
 ft:L.lf≠L.lt
 fp:L.lf≠L.lp
 fc:L.lf≠L.lc
 tp:L.lt≠L.lp
 tc:L.lt≠L.lc
 pc:L.lp≠L.lc
def dW (L:dB) (H H':Hp):Prop:=∀ b o,H b=some o->b≠L.lf->b≠L.lt->b≠L.lp->b≠L.lc->H' b=some o
def dW.trans {L:dB} (a:dW L H H1) (b:dW L H1 H2):dW L H H2:=λc o e h1 h2 d g=>b c o (a c o e h1 h2 d g) h1 h2 d g
def dW.same {L:dB} (s:aB H H'):dW L H H':=λb o e _ _ _ _=>s b o e
def dW.kt {L:dB} {st:cH} (P:cN C H p v L st) (k:dW L H H'):KT H H':=λb xs e=>by obtain ⟨rs,a,_⟩:=P.pl;exact k b _ e (zW e P.fa) (zW e P.ta) (zW e a) (zW e P.ch)
def L_.kt {r:V} {pl:Place} (k:KT H H') (h:L_ H r pl):L_ H' r pl:=let ⟨t,e,x⟩:=h;⟨t,e,k _ _ x⟩
def cN.same {L:dB} {st:cH} (P:cN C H p v L st) (s:aB H H'):cN C H' p v L st :=
 let ⟨rs,a,b⟩:=P.pl
 ⟨s _ _ P.ob,s _ _ P.fa,s _ _ P.ta,⟨rs,s _ _ a,vO b λ_ _ z=>z.kt (cG s (bY _))⟩,s _ _ P.ch,P.ft,P.fp,P.fc,P.tp,P.tc,P.pc⟩
def cN.M4 {L:dB} {st:cH} (P:cN C H p v L st):p≠L.lf/\p≠L.lt/\p≠L.lp/\p≠L.lc:=by obtain ⟨rs,a,_⟩:=P.pl;exact ⟨kY P.ob P.fa (by intro z;cases z),kY P.ob P.ta (by intro z;cases z),kY P.ob a (by intro z;cases z),kY P.ob P.ch (by intro z;cases z)⟩
def Paired.Dv {F:α->β->Prop}:∀ {l:List α} {m:List β} {i:Nat} {b:β},Paired F l m->m[i]?=some b->∃ a,l[i]?=some a/\F a b
 |_,_,_,_,.nil,e=>by simp at e
 |_,_,0,_,.cons h _,e=>by simp at e;subst e;exact ⟨_,rfl,h⟩
 |_,_,i+1,b,.cons _ t,e=>by obtain ⟨a,h1,h2⟩:=Paired.Dv (i:=i) (b:=b) t (by simpa using e);exact ⟨a,by simpa using h1,h2⟩
def Paired.aez {F:α->β->Prop} {a:α} {b:β} (h:F a b):∀ {l:List α} {m:List β} (i:Nat),Paired F l m->Paired F (l.set i a) (m.set i b)
 |_,_,_,.nil=>.nil
 |_,_,0,.cons _ t=>.cons h t
 |_,_,i+1,.cons g t=>.cons g (Paired.aez h i t)
def Paired.aeA {F:α->β->Prop}:∀ {l:List α} {m:List β} {l':List α} {m':List β},Paired F l m->Paired F l' m'->Paired F (l++l') (m++m')
 |_,_,_,_,.nil,s=>s
 |_,_,_,_,.cons r t,s=>.cons r (Paired.aeA t s)
structure ad4 (K:bG) (C:Addr):Prop where
 cl:nW K C
 nN:pQ K C "net"
 nF:pQ K C "facing"
 nT:pQ K C "tally"
 nP:pQ K C "places"
 nC:pQ K C "changes"
structure Wf (aj:Int) (ws:aP) (st:cH):Prop where
 fl:st.iI.length=ws.length
 tl:st.bM.length=aj.toNat
 cl:st.chg.length=st.aX.length
 ml:st.aX.length<=400
 fs:∀ k w,ws[k]?=some w->st.iI.getD k 0=w.1\/st.iI.getD k 0=w.2
 cs:∀ i,i<st.chg.length->st.chg.getD i 0=1\/st.chg.getD i 0=-1
 ps:∀ pl∈st.aX,match pl with|.before k l=>k<ws.length/\0<=l/\l<aj|.exit l=>0<=l/\l<aj|.out _ _=>True
def jF (aj:Int) (ws:aP):cH:=⟨ws.map (·.1),replicate aj.toNat 0,[],[]⟩
def mO (ws:aP) (st:cH) (cC c:Int):cH:=⟨st.iI,st.bM,st.aX++[gF ws cC 0],st.chg++[c]⟩
def sO (w:Int×Int) (f:Int):Int:=if f=w.1 then w.2 else w.1
def Gw (ws:aP) (st:cH) (k:Nat):cH:=⟨st.iI.set k (sO (bT ws k) (st.iI.getD k 0)),st.bM,st.aX,st.chg⟩
def jq (ws:aP) (st:cH) (k:Nat) (c:Int):Int:=if c=1 then st.iI.getD k 0 else sO (bT ws k) (st.iI.getD k 0)
def Gg (st:cH) (l c:Int):cH:=⟨st.iI,st.bM.set l.toNat (st.bM.getD l.toNat 0+c),st.aX,st.chg⟩
def jR (aj:Int) (st:cH) (l c:Int):Int:=l+aj*(if c=1 then st.bM.getD l.toNat 0 else st.bM.getD l.toNat 0+c)
def GJ (st:cH) (i:Nat) (pl:Place):cH:=⟨st.iI,st.bM,st.aX.set i pl,st.chg⟩
def jA (aj:Int) (ws:aP) (st:cH) (i:Nat) (pl:Place):Place:=match pl with
 |.before k _=>gF ws (jq ws st k (st.chg.getD i 0)) (k+1)
 |.exit l=>.out l (jR aj st l (st.chg.getD i 0))
 |.out l n=>.out l n
def kZ (aj:Int) (ws:aP) (st:cH) (i:Nat) (pl:Place):cH:=match pl with
 |.before k l=>GJ (Gw ws st k) i (jA aj ws st i (.before k l))
 |.exit l=>GJ (Gg st l (st.chg.getD i 0)) i (jA aj ws st i (.exit l))
 |.out l n=>st
def cB:Place->Bool
 |.out _ _=>true
 |_=>false
def gR:Nat->List Place->aF
 |_,[]=>[]
 |i,pl::r=>(if cB pl then [] else [(i:Int)])++gR (i+1) r
def af8 (ps:List Place) (pl:Place):∀ i,gR i (ps++[pl])=gR i ps++(if cB pl then [] else [((i+ps.length:Nat):Int)]):=by
 induction ps with
 |nil=>intro i;simp [gR]
 |cons q r a =>
  intro i;show _++gR (i+1) (r++[pl])=(_++gR (i+1) r)++_;rw [a,vh];have e:i+1+r.length=i+(q::r).length:=by simp;lk
  rw [e]
def agH (ps:List Place):∀ i,(gR i ps).length<=ps.length:=by
 induction ps with
 |nil=>intro i;simp [gR]
 |cons q r a =>intro i;show (_++gR (i+1) r).length<=_;rw [dJ,gA];have:=a (i+1);split<;>simp<;>lk
abbrev eG (H:Hp) (v:V) (aj:Int) (ws:aP):Prop:=eX H v aj ws/\1<=aj/\aj<=8/\bJ aj ws/\ws.length<=41
def eG.kt (n:eG H v aj ws) (k:KT H H'):eG H' v aj ws:=⟨n.1.kt k,n.2⟩
inductive ahw (vs:aA) (H:Hp) (Q:VK):Prop
 |mk (i:Int) (h1:vs=[.int i]) (h2:Q (.bl true) H)
def aaG:=nE ahw
inductive aiY (vs:aA) (H:Hp) (Q:VK):Prop
 |mk (aj i:Int) (h1:vs=[.int aj,.int i]) (h2:0<=i) (h3:i<aj) (h4:Q (.bl true) H)
def ak':=nE aiY
inductive ahx (vs:aA) (H:Hp) (Q:VK):Prop
 |mk (v:V) (aj:Int) (ws:aP) (l:Int) (s:Nat) (h1:vs=[v,.int l,.int s]) (h2:eG H v aj ws) (h3:s<=ws.length) (h4:∀ (t:Addr) (H':Hp),H t=none->aB H H'->H' t=some (.tup (rm (gF ws l s)))->Q (.ref t) H')
def aaH:=nE ahx
inductive ala (C:Addr) (vs:aA) (H:Hp) (Q:VK):Prop
 |mk (p dx:Addr) (v:V) (aj:Int) (ws:aP) (h1:vs=[.ref p,v]) (h2:H p=some (.ins C dx [])) (h3:eG H v aj ws) (h4:∀ (L:dB) (H':Hp),H L.lf=none->H L.lt=none->H L.lp=none->H L.lc=none->cN C H' p v L (jF aj ws)->(∀ b o,H b=some o->b≠p->H' b=some o)->Q .non H')
def R_ (C:Addr):=nE (ala C)
inductive aiZ (C:Addr) (vs:aA) (H:Hp) (Q:VK):Prop
 |mk (p:Addr) (v:V) (aj:Int) (ws:aP) (L:dB) (st:cH) (cC c:Int) (h1:vs=[.ref p,.int cC,.int c]) (h2:eG H v aj ws) (h3:cN C H p v L st) (h4:Wf aj ws st) (h5:0<=cC) (h6:cC<aj) (h7:∀ H',cN C H' p v L (mO ws st cC c)->dW L H H'->Q (.int st.aX.length) H')
def alb (C:Addr):=nE (aiZ C)
inductive alc (C:Addr) (c:Int) (vs:aA) (H:Hp) (Q:VK):Prop
 |mk (p:Addr) (v:V) (aj:Int) (ws:aP) (L:dB) (st:cH) (cC:Int) (h1:vs=[.ref p,.int cC]) (h2:eG H v aj ws) (h3:cN C H p v L st) (h4:Wf aj ws st) (h5:0<=cC) (h6:cC<aj) (h7:∀ H',cN C H' p v L (mO ws st cC c)->dW L H H'->Q (.int st.aX.length) H')
def Ky (C:Addr) (c:Int):=nE (alc C c)
inductive ald (C:Addr) (vs:aA) (H:Hp) (Q:VK):Prop
 |mk (p:Addr) (v:V) (L:dB) (st:cH) (i:Nat) (pl:Place) (h1:vs=[.ref p,.int i]) (h2:cN C H p v L st) (h3:st.aX[i]?=some pl) (h4:∀ (t:Addr),H t=some (.tup (rm pl))->Q (.ref t) H)
def anj (C:Addr):=nE (ald C)
inductive ank (C:Addr) (vs:aA) (H:Hp) (Q:VK):Prop
 |mk (p:Addr) (v:V) (aj:Int) (ws:aP) (L:dB) (st:cH) (k:Nat) (h1:vs=[.ref p,.int k]) (h2:eG H v aj ws) (h3:cN C H p v L st) (h4:st.iI.length=ws.length) (h5:k<ws.length) (h6:∀ H',cN C H' p v L (Gw ws st k)->dW L H H'->Q .non H')
def aph (C:Addr):=nE (ank C)
inductive anl (C:Addr) (vs:aA) (H:Hp) (Q:VK):Prop
 |mk (p:Addr) (v:V) (aj:Int) (ws:aP) (L:dB) (st:cH) (k:Nat) (c:Int) (h1:vs=[.ref p,.int k,.int c]) (h2:eG H v aj ws) (h3:cN C H p v L st) (h4:st.iI.length=ws.length) (h5:k<ws.length) (h6:∀ (t:Addr) (H':Hp),cN C H' p v L (Gw ws st k)->dW L H H'->H' t=some (.tup (rm (gF ws (jq ws st k c) (k+1))))->Q (.ref t) H')
def apj (C:Addr):=nE (anl C)
inductive ale (C:Addr) (vs:aA) (H:Hp) (Q:VK):Prop
 |mk (p:Addr) (v:V) (aj:Int) (ws:aP) (L:dB) (st:cH) (l c:Int) (h1:vs=[.ref p,.int l,.int c]) (h2:eG H v aj ws) (h3:cN C H p v L st) (h4:st.bM.length=aj.toNat) (h5:0<=l) (h6:l<aj) (h7:∀ (t:Addr) (H':Hp),cN C H' p v L (Gg st l c)->dW L H H'->H' t=some (.tup (rm (.out l (jR aj st l c))))->Q (.ref t) H')
def anm (C:Addr):=nE (ale C)
inductive ano (C:Addr) (vs:aA) (H:Hp) (Q:VK):Prop
 |mk (p:Addr) (v:V) (aj:Int) (ws:aP) (L:dB) (st:cH) (i:Nat) (pl:Place) (h1:vs=[.ref p,.int i]) (h2:eG H v aj ws) (h3:cN C H p v L st) (h4:Wf aj ws st) (h5:st.aX[i]?=some pl) (h6:cB pl=false) (h7:∀ (t:Addr) (H':Hp),cN C H' p v L (kZ aj ws st i pl)->dW L H H'->H' t=some (.tup (rm (jA aj ws st i pl)))->Q (.ref t) H')
def K8 (C:Addr):=nE (ano C)
inductive ai0 (C:Addr) (vs:aA) (H:Hp) (Q:VK):Prop
 |mk (p:Addr) (v:V) (L:dB) (st:cH) (h1:vs=[.ref p]) (h2:cN C H p v L st) (h3:st.aX.length<=1000) (h4:∀ (a:Addr) (H':Hp),H a=none->aB H H'->H' a=some (.lst ((gR 0 st.aX).map V.int))->Q (.ref a) H')
def alf (C:Addr):=nE (ai0 C)
inductive ahy (C:Addr) (vs:aA) (H:Hp) (Q:VK):Prop
 |mk (p:Addr) (v:V) (L:dB) (st:cH) (h1:vs=[.ref p]) (h2:cN C H p v L st) (h3:∀ (a:Addr) (H':Hp),H a=none->aB H H'->H' a=some (.lst (st.bM.map V.int))->Q (.ref a) H')
def ai1 (C:Addr):=nE (ahy C)
end
section
open PySem.Spec PyProof.Rows
def ai2 {sq:Hp->aA->Prop} {own:Nat} {R:Hp->Prop} (Pv:Nat->aA->Hp->Prop) (h0:Pv 0 [] (upd H1 l (.lst []))) (hz:xs.length<=sizeLine) (hl:∀ i ys H,i<=xs.length->Pv i ys H->sq H xs/\H l=some (.lst ys)/\ys.length<=i) (hs:∀ i x T ys H,xs[i]?=some x->H T=none->Pv i ys H->g (.ref T) (gM own cI σ) (upd H T (.tup [.int i,x])) λσ2 H2=>Wk (gM own cI σ) σ2 /\tt σ2 H2 λb H3=>if b=true then te σ2 H3 λy H4=>H4 l=some (.lst ys)/\Pv (i+1) (ys++[y]) (upd H4 l (.lst (ys++[y]))) else Pv (i+1) ys H3) (hd:∀ ys H,Pv xs.length ys H->R H) : ∃ W:Nat->Nat->aA->Hp->Prop,(∃ m,W 0 m [] (upd H1 l (.lst []))) /\∀ i m ys H,W i m ys H->H l=some (.lst ys)/\(((uG sq).stop i H/\R H)\/((uG sq).go i H/\ys.length<sizeLine/\∃ N:aA->Hp->Prop,(∀ ys' H',N ys' H'->∃ m',m'<m/\W (i+1) m' ys' H') /\∀ x H',(uG sq).oG i H x H'->g x (gM own cI σ) H' λσ2 H2=>Wk (gM own cI σ) σ2 /\tt σ2 H2 λb H3=>if b=true then te σ2 H3 λy H4=>H4 l=some (.lst ys)/\N (ys++[y]) (upd H4 l (.lst (ys++[y]))) else N ys H3)):=by
 refine ⟨λi m ys H=>m=xs.length-i/\i<=xs.length/\Pv i ys H,⟨xs.length,by simp,fQ _,h0⟩,?_⟩;rintro i m ys H ⟨rfl,hi,p⟩;obtain ⟨q,k,o⟩:=hl i ys H hi p;refine ⟨k,?_⟩;by_cases a:i<xs.length
 ·refine .inr ⟨⟨xs,xs[i],q,by simp [a]⟩,by lk, Pv (i+1),λys' H' j=>⟨xs.length-(i+1),by lk, rfl,a,j⟩,λx H' y=>?_⟩;obtain ⟨T,v,c,d,n,y⟩:=y;subst d n;exact hs i v T ys H (y xs q) c p
 ·have e:i=xs.length:=by lk
  subst e;exact .inl ⟨⟨xs,q,rfl⟩,hd ys H p⟩
end
variable {st:L2.cH} {cC:Int} {pl:L2.Place}
section
open PySem.SeqAt
def alg:Wf aj ws (jF aj ws) where
 fl:=by simp [jF]
 tl:=by simp [jF]
 cl:=rfl
 ml:=by simp [jF]
 fs:=λk w h=>by refine .inl ?_;show (ws.map (·.1)).getD k 0=w.1;simp [getD,h]
 cs:=λi hi=>absurd hi (by simp [jF])
 ps:=λpl h=>by simp [jF] at h
def Qi {l:Int} {s:Nat} (h0:0<=l) (h1:l<aj):match gF ws l s with|.before k l=>k<ws.length/\0<=l/\l<aj|.exit l=>0<=l/\l<aj|.out _ _=>True:=by
 cases e:gF ws l s with
 |before k l' =>obtain ⟨_,a,_,b⟩:=afM e;exact ⟨a,by lk, by lk⟩
 |exit l' =>have:=ZC e;exact ⟨by lk, by lk⟩
 |out l' c=>trivial
def alh {c:Int} (wf:Wf aj ws st) (h0:0<=cC) (h1:cC<aj) (hc:c=1\/c=-1) (hm:st.aX.length<400):Wf aj ws (mO ws st cC c) where
 fl:=wf.fl
 tl:=wf.tl
 cl:=by have:=wf.cl;simp [mO];lk
 ml:=by simp [mO];lk
 fs:=wf.fs
 cs:=λi hi=>by
  have a:i<st.chg.length+1:=by simpa [mO] using hi
  show (st.chg++[c]).getD i 0=1\/(st.chg++[c]).getD i 0=-1;by_cases z:i<st.chg.length
  ·rw [Bk z];exact wf.cs i z
  ·have e:i=st.chg.length:=by lk
   subst e;rw [getD_last];exact hc
 ps:=λpl h=>by
  rcases nM.mp h with z|z
  ·exact wf.ps pl z
  ·have e:pl=gF ws cC 0:=by simpa using z
   subst e;exact Qi h0 h1
def aaI {w:Int×Int} (f:Int):sO w f=w.1\/sO w f=w.2:=by
 unfold sO;split
 ·exact .inr rfl
 ·exact .inl rfl
def anp {k:Nat} (wf:Wf aj ws st):Wf aj ws (Gw ws st k) where
 fl:=by show (st.iI.set k _).length=_;rw [fV];exact wf.fl
 tl:=wf.tl
 cl:=wf.cl
 ml:=wf.ml
 fs:=λj w h=>by
  have a:j<ws.length:=(dY.mp h).1;show (st.iI.set k _).getD j 0=w.1\/(st.iI.set k _).getD j 0=w.2;by_cases c:k<st.iI.length
  ·rw [jY c];by_cases e:j=k
   ·rw [aQ e,<-e,show bT ws j=w by simp [bT,getD,h]];exact aaI _
   ·rw [aK e];exact wf.fs j w h
  ·rw [JT (by lk)];exact wf.fs j w h
 cs:=wf.cs
 ps:=wf.ps
def ali {l c:Int} (wf:Wf aj ws st):Wf aj ws (Gg st l c) where
 fl:=wf.fl
 tl:=by show (st.bM.set _ _).length=_;rw [fV];exact wf.tl
 cl:=wf.cl
 ml:=wf.ml
 fs:=wf.fs
 cs:=wf.cs
 ps:=wf.ps
def acH (wf:Wf aj ws st) (h:match pl with|.before k l=>k<ws.length/\0<=l/\l<aj|.exit l=>0<=l/\l<aj|.out _ _=>True):Wf aj ws (GJ st i pl) where
 fl:=wf.fl
 tl:=wf.tl
 cl:=by show _=(st.aX.set i pl).length;rw [fV];exact wf.cl
 ml:=by show (st.aX.set i pl).length<=_;rw [fV];exact wf.ml
 fs:=wf.fs
 cs:=wf.cs
 ps:=λq a=>by
  rcases List.mem_or_eq_of_mem_set a with z|z
  ·exact wf.ps q z
  ·subst z;exact h
def Sd {k:Nat} {c:Int} (ok:bJ aj ws) (wf:Wf aj ws st) (hk:k<ws.length):0<=jq ws st k c/\jq ws st k c<aj:=by
 have a:ws[k]?=some ws[k]:=by simp [hk]
 obtain ⟨d,j,i,e,g⟩:=bJ.mem ok a;have b:bT ws k=ws[k]:=by simp [bT,getD,a]
 unfold jq;rw [b];split
 ·rcases wf.fs k _ a with h|h<;>rw [h]<;>lk
 ·rcases aaI (w:=ws[k]) (st.iI.getD k 0) with h|h<;>rw [h]<;>lk
def acI (ok:bJ aj ws) (wf:Wf aj ws st) (h:st.aX[i]?=some pl):Wf aj ws (kZ aj ws st i pl):=by
 have d:=wf.ps pl (fj h);cases pl with
 |before k l=>exact acH (anp wf) (by obtain ⟨a,b⟩:=Sd (c:=st.chg.getD i 0) ok wf d.1;exact Qi a b)
 |exit l=>exact acH (ali wf) trivial
 |out l n=>exact wf
end
section
end
variable {S:jk} {L:L2.dB}
section
open PySem.SeqAt
def aaJ:∀ {rs:aA} {ws:aP},dM H rs ws->Du H rs (ws.map λx=>PyData.tuple [.int x.1,.int x.2])
 |_,_,.nil=>.nil
 |_,_,.cons ⟨t,e,h⟩ r=>by subst e;exact .cons (.tup h (.cons (.int _) (.cons (.int _) .nil))) (aaJ r)
def aaK:∀ ws:aP,canLayAll0 (ws.map λx=>PyData.tuple [.int x.1,.int x.2])=true/\depthAll (ws.map λx=>PyData.tuple [.int x.1,.int x.2])<=5
 |[]=>by simp [canLayAll0,depthAll]
 |w::r=>by
  obtain ⟨a,b⟩:=aaK r;constructor
  ·simp [canLayAll0,canLay0,a]
  ·simp only [gj,depthAll,PyData.depth];lk
def dI (S:jk) (H H':Hp):Prop:=∀ b o,H b=some o->b∉S->H' b=some o
def dI.refl (S:jk) (H:Hp):dI S H H:=λ_ _ e _=>e
def dI.trans (a:dI S H H1) (b:dI S H1 H2):dI S H H2:=λc o e n=>b c o (a c o e n) n
def ur:=@dI.trans
def dI.same (s:aB H H'):dI S H H':=λb o e _=>s b o e
def dI.upd {x:Addr} (h:x∈S):dI S H (upd H x o):=λb _ e n=>(aV (λz=>n (by rw [z];exact h))).trans e
def sS:=@dI.upd
def dI.mono {T:jk} (k:dI S H H') (h:∀ x∈S,x∈T):dI T H H':=λb o e n=>k b o e λz=>n (h b z)
def dI.M5 (k:dW L H H') (h1:L.lf∈S) (h2:L.lt∈S) (h3:L.lp∈S) (h4:L.lc∈S):dI S H H':=λb o e n=>k b o e (λz=>n (z ▸ h1)) (λz=>n (z ▸ h2)) (λz=>n (z ▸ h3)) (λz=>n (z ▸ h4))
def dI.old (k:dI S H H') (s:aB G H) (h:∀ x∈S,G x=none):aB G H':=λb o e=>k b o (s b o e) λz=>by rw [h b z] at e;cases e
def dB.own (L:dB) (p:Addr):jk:=[p,L.lf,L.lt,L.lp,L.lc]
def Dj (S T:jk):Prop:=∀ x∈S,x∉T
def Dj.symm {T:jk} (h:Dj S T):Dj T S:=λx a b=>h x b a
def cN.keep (P:cN C H p v L st) (k:dI S H H') (kt:KT H H') (d:Dj (L.own p) S):cN C H' p v L st :=
 let ⟨rs,a,b⟩:=P.pl
 ⟨k _ _ P.ob (d _ (by simp [dB.own])),k _ _ P.fa (d _ (by simp [dB.own])),k _ _ P.ta (d _ (by simp [dB.own])),⟨rs,k _ _ a (d _ (by simp [dB.own])),vO b λ_ _ z=>z.kt kt⟩,k _ _ P.ch (d _ (by simp [dB.own])),P.ft,P.fp,P.fc,P.tp,P.tc,P.pc⟩
def cN.live (P:cN C H p v L st):∀ x∈L.own p,H x≠none:=λx b z=>by
 obtain ⟨rs,a,_⟩:=P.pl;simp only [dB.own,fX,tZ,JV] at b;rcases b with rfl|rfl|rfl|rfl|rfl
 ·rw [P.ob] at z;cases z
 ·rw [P.fa] at z;cases z
 ·rw [P.ta] at z;cases z
 ·rw [a] at z;cases z
 ·rw [P.ch] at z;cases z
def ZD {x:Int}:∀ (ps:List Place) (j:Nat),x∈gR j ps->∃ i pl,x=((j+i:Nat):Int)/\ps[i]?=some pl/\cB pl=false
 |[],j,h=>by simp [gR] at h
 |q::r,j,h=>by
  rcases nM.mp (show x∈(if cB q then [] else [(j:Int)])++gR (j+1) r from h) with z|z
  ·by_cases c:cB q=true
   ·rw [aQ c] at z;simp at z
   ·rw [aK c] at z;have e:x=(j:Int):=by simpa using z
    exact ⟨0,q,by simpa using e,rfl,by simpa using c⟩
  ·obtain ⟨i,pl,e,h1,h2⟩:=ZD r (j+1) z;exact ⟨i+1,pl,by rw [e];congr 1;lk, by simpa using h1,h2⟩
def rE:(kZ aj ws st i pl).aX.length=st.aX.length:=by
 cases pl with
 |before k l=>show (st.aX.set _ _).length=_;rw [fV]
 |exit l=>show (st.aX.set _ _).length=_;rw [fV]
 |out l n=>rfl
def step_at (h:st.aX[i]?=some pl):(kZ aj ws st i pl).aX[i]?=some (jA aj ws st i pl):=by
 have a:=(dY.mp h).1;cases pl with
 |before k l=>show (st.aX.set _ _)[i]?=_;rw [zJ a]
 |exit l=>show (st.aX.set _ _)[i]?=_;rw [zJ a]
 |out l n=>exact h
def Sg {x:Addr}:x∈L.own p↔x=p\/x=L.lf\/x=L.lt\/x=L.lp\/x=L.lc:=by simp [dB.own]
end
section
section
variable (K:bG) (hK:X.K=K)
include hK
end
end
section
open PySem.SeqAt
section
def Vf (ws:aP) (e:Int->Int) (P:Nat->Int):Nat->Int->Int
 |0,x=>e x
 |k+1,x=>if x=(bT ws k).1 then (P k+1) / 2 else if x=(bT ws k).2 then P k / 2 else Vf ws e P k x
def iC (p:Place->Bool):aF->List Place->Int
 |c::cs,pl::ps=>(if p pl then c else 0)+iC p cs ps
 |_,_=>0
def j9 (k:Nat):Place->Bool
 |.before j _=>decide (j=k)
 |_=>false
def mF (l:Int):Place->Bool
 |.exit x=>decide (x=l)
 |_=>false
structure xY (aj:Int) (ws:aP) (st:cH) (e:Int->Int) (P:Nat->Int):Prop where
 fa:∀ k w,ws[k]?=some w->st.iI.getD k 0=if P k % 2=0 then w.1 else w.2
 pa:∀ k,k<ws.length->P k=Vf ws e P k (bT ws k).1+Vf ws e P k (bT ws k).2-iC (j9 k) st.chg st.aX
 ta:∀ l,0<=l->l<aj->st.bM.getD l.toNat 0=Vf ws e P ws.length l-iC (mF l) st.chg st.aX
def Qj (p:Place->Bool) (c:Int) (pl:Place):∀ (cs:aF) (ps:List Place),cs.length=ps.length->iC p (cs++[c]) (ps++[pl])=iC p cs ps+if p pl then c else 0
 |[],[],_=>by simp [iC]
 |[],_::_,h=>by simp at h
 |_::_,[],h=>by simp at h
 |a::cs,q::ps,h=>by show (if p q then a else 0)+iC p (cs++[c]) (ps++[pl])=(if p q then a else 0)+iC p cs ps+_;rw [Qj p c pl cs ps (by simpa using h)];lk
def Ey (p:Place->Bool) (i_:Place):∀ (cs:aF) (ps:List Place) (i:Nat) (pl:Place),cs.length=ps.length->ps[i]?=some pl->iC p cs (ps.set i i_)=iC p cs ps+(if p i_ then cs.getD i 0 else 0)-(if p pl then cs.getD i 0 else 0)
 |[],[],i,pl,_,h=>by simp at h
 |[],_::_,_,_,h,_=>by simp at h
 |_::_,[],_,_,h,_=>by simp at h
 |a::cs,q::ps,0,pl,_,h=>by
  have e:q=pl:=by simpa using h
  subst e;show (if p i_ then a else 0)+iC p cs ps=(if p q then a else 0)+iC p cs ps+(if p i_ then a else 0)-(if p q then a else 0);lk
 |a::cs,q::ps,i+1,pl,hl,h=>by
  show (if p q then a else 0)+iC p cs (ps.set i i_)=(if p q then a else 0)+iC p cs ps+_-_;rw [Ey p i_ cs ps i pl (by simpa using hl) (by simpa using h)];have e:(a::cs).getD (i+1) 0=cs.getD i 0:=by simp [getD]
  rw [e];lk
def Qk (p:Place->Bool):∀ (cs:aF) (ps:List Place),(∀ pl∈ps,p pl=false)->iC p cs ps=0
 |[],_,_=>rfl
 |_::_,[],_=>rfl
 |a::cs,q::ps,h=>by show (if p q then a else 0)+iC p cs ps=0;rw [h q (by simp),Qk p cs ps λx b=>h x (by simp [b])];rfl
def clear (ws:aP) (l:Int) (s k:Nat):Prop:=∀ j,s<=j->j<k->j8 (bT ws j) l=false
def place_spec (ws:aP) (l:Int):∀ (n s:Nat),(lZ ws l n s=.exit l/\clear ws l s (s+n))\/∃ k,lZ ws l n s=.before k l/\s<=k/\k<s+n/\j8 (bT ws k) l=true/\clear ws l s k
 |0,s=>.inl ⟨rfl,λj a b=>by lk⟩
 |n+1,s=>by
  unfold lZ;by_cases c:j8 (bT ws s) l=true
  ·rw [aQ c];exact .inr ⟨s,rfl,bI _,by lk, c,λj a b=>by lk⟩
  ·rw [aK c];have g:j8 (bT ws s) l=false:=by simpa using c
   rcases place_spec ws l n (s+1) with ⟨a,b⟩|⟨k,a,b,d,e,f⟩
   ·refine .inl ⟨a,λj h1 h2=>?_⟩;by_cases z:j=s
    ·rw [z];exact g
    ·exact b j (by lk) (by lk)
   ·refine .inr ⟨k,a,by lk, by lk, e,λj h1 h2=>?_⟩;by_cases z:j=s
    ·rw [z];exact g
    ·exact f j (by lk) h2
def wR (ws:aP) (l:Int) {s:Nat} (hs:s<=ws.length):(gF ws l s=.exit l/\clear ws l s ws.length)\/∃ k,gF ws l s=.before k l/\s<=k/\k<ws.length/\j8 (bT ws k) l=true/\clear ws l s k:=by have h:=place_spec ws l (ws.length-s) s;rw [show s+(ws.length-s)=ws.length by lk] at h;exact h
def Jl {e:Int->Int} {P P':Nat->Int}:∀ (k:Nat),(∀ j,j<k->P' j=P j)->∀ x,Vf ws e P' k x=Vf ws e P k x
 |0,_,_=>rfl
 |k+1,h,x=>by show (if x=(bT ws k).1 then (P' k+1) / 2 else if x=(bT ws k).2 then P' k / 2 else Vf ws e P' k x)=(if x=(bT ws k).1 then (P k+1) / 2 else if x=(bT ws k).2 then P k / 2 else Vf ws e P k x);rw [h k (by lk),Jl k (λj a=>h j (by lk)) x]
open Classical in
def adC {ws:aP} {e e':Int->Int} {P P':Nat->Int} {s:Nat} {l c:Int} (hb:∀ x,Vf ws e' P' s x=Vf ws e P s x+if x=l then c else 0) (hP:∀ j,s<=j->P' j=P j) :
  ∀ (n:Nat) (x:Int),Vf ws e' P' (s+n) x=Vf ws e P (s+n) x+if x=l/\clear ws l s (s+n) then c else 0
 |0,x=>by
  rw [JW,hb x]
  have m:clear ws l s s:=λj a b=>by lk
  by_cases z:x=l
  ·rw [aQ z,aQ ⟨z,m⟩]
  ·rw [aK z,aK λh=>z h.1]
 |n+1,x=>by
  have k:=adC hb hP n x
  rw [<-Nat.add_assoc]
  show (if x=(bT ws (s+n)).1 then (P' (s+n)+1) / 2 else if x=(bT ws (s+n)).2 then P' (s+n) / 2 else Vf ws e' P' (s+n) x)=(if x=(bT ws (s+n)).1 then (P (s+n)+1) / 2 else if x=(bT ws (s+n)).2 then P (s+n) / 2 else Vf ws e P (s+n) x)+_
  rw [hP (s+n) (by lk)]
  by_cases i:x=(bT ws (s+n)).1
  ·rw [aQ i,aQ i,aK,Rr]
   rintro ⟨rfl,h⟩
   have:=h (s+n) (by lk) (by lk)
   simp [j8,<-i] at this
  ·rw [aK i,aK i]
   by_cases d:x=(bT ws (s+n)).2
   ·rw [aQ d,aQ d,aK,Rr]
    rintro ⟨rfl,h⟩
    have:=h (s+n) (by lk) (by lk)
    simp [j8,<-d] at this
   ·rw [aK d,aK d,k]
    congr 1
    by_cases h:x=l/\clear ws l s (s+n)
    ·have o:clear ws l s (s+n+1):=λj a b=>by
      by_cases e:j=s+n
      ·rw [e,<-h.1]
       simp [j8,i,d]
      ·exact h.2 j a (by lk)
     rw [aQ h,aQ ⟨h.1,o⟩]
    ·rw [aK h,aK λg=>h ⟨g.1,λj a b=>g.2 j a (by lk)⟩]
-- one more on cC l from level s on,and aJ place
open Classical in
def aaL {aj:Int} {ws:aP} {e e':Int->Int} {P P':Nat->Int} {s:Nat} {l c:Int} (ok:bJ aj ws) (hs:s<=ws.length) (hb:∀ x,Vf ws e' P' s x=Vf ws e P s x+if x=l then c else 0) (hP:∀ j,s<=j->P' j=P j) :
  (∀ k,s<=k->k<ws.length->Vf ws e' P' k (bT ws k).1+Vf ws e' P' k (bT ws k).2=Vf ws e P k (bT ws k).1+Vf ws e P k (bT ws k).2+if j9 k (gF ws l s) then c else 0) /\
  ∀ x,Vf ws e' P' ws.length x=Vf ws e P ws.length x+if mF x (gF ws l s) then c else 0:=by
 have m:=adC (l:=l) (c:=c) hb hP
 constructor
 ·intro k h1 h2
  obtain ⟨n,rfl⟩:∃ n,k=s+n:=⟨k-s,by lk⟩
  have C:ws[s+n]?=some (bT ws (s+n)):=by simp [bT,getD,h2]
  obtain ⟨I,L,J,D,y⟩:=bJ.mem ok C
  rw [m n,m n]
  have t:((if (bT ws (s+n)).1=l/\clear ws l s (s+n) then c else 0)+if (bT ws (s+n)).2=l/\clear ws l s (s+n) then c else 0)=if j9 (s+n) (gF ws l s) then c else 0:=by
   rcases wR ws l hs with ⟨a,b⟩|⟨k,a,b,d,f,g⟩
   ·rw [a]
    have u:=b (s+n) (by lk) h2
    simp [j8] at u
    rw [aK λz=>u.1 z.1.symm,aK λz=>u.2 z.1.symm]
    rfl
   ·rw [a]
    by_cases B:k=s+n
    ·subst B
     have i:j9 (s+n) (.before (s+n) l)=true:=by simp [j9]
     rw [i,aQ rfl]
     simp [j8] at f
     rcases f with f|f
     ·rw [aQ ⟨f.symm,g⟩,aK λz=>y (by rw [z.1,f]),Rr]
     ·rw [aK λz=>y (by rw [z.1,f]),aQ ⟨f.symm,g⟩,rO]
    ·have i:j9 (s+n) (.before k l)=false:=by simp [j9,B]
     rw [i]
     have v:∀ q:Int,((q=(bT ws (s+n)).1\/q=(bT ws (s+n)).2)/\q=l/\clear ws l s (s+n))->False:=λq ⟨o,p,r⟩=>by
      by_cases lt:k<s+n
      ·have:=r k b lt
       rw [f] at this;cases this
      ·have:=g (s+n) (by lk) (by lk)
       simp [j8] at this
       rcases o with o|o
       ·exact this.1 (p ▸ o)
       ·exact this.2 (p ▸ o)
     rw [aK λz=>v _ ⟨.inl rfl,z⟩,aK λz=>v _ ⟨.inr rfl,z⟩]
     rfl
  rw [<-t]
  lk
 ·intro x
  have h:=m (ws.length-s) x
  rw [show s+(ws.length-s)=ws.length by lk] at h
  rw [h]
  congr 1
  rcases wR ws l hs with ⟨a,b⟩|⟨k,a,b,d,f,g⟩
  ·rw [a]
   by_cases z:x=l
   ·have:mF x (.exit l)=true:=by simp [mF,z]
    rw [this,aQ ⟨z,b⟩];rfl
   ·have:mF x (.exit l)=false:=by simp [mF];exact λh=>z h.symm
    rw [this,aK λh=>z h.1];rfl
  ·rw [a,aK]
   ·rfl
   ·intro z
    have:=z.2 k b d
    rw [f] at this;cases this
def ahz {e e':Int->Int} {P:Nat->Int} {l c:Int} (ok:bJ aj ws) (wf:Wf aj ws st) (F:xY aj ws st e P) (he:∀ x,e' x=e x+if x=l then c else 0):xY aj ws (mO ws st l c) e' P:=by
 obtain ⟨b,g⟩:=aaL (P:=P) (P':=P) ok (fQ _) (l:=l) (c:=c) (s:=0) he (λ_ _=>rfl);refine ⟨F.fa,λk a=>?_,λx d h1=>?_⟩
 ·show P k=_+_-iC (j9 k) (st.chg++[c]) (st.aX++[gF ws l 0]);rw [Qj _ _ _ _ _ wf.cl,b k (fQ _) a];have:=F.pa k a;lk
 ·show st.bM.getD x.toNat 0=_-iC (mF x) (st.chg++[c]) (st.aX++[gF ws l 0]);rw [Qj _ _ _ _ _ wf.cl,g x];have:=F.ta x d h1;lk
def aaM {l:Int} {s k:Nat} (hs:s<=ws.length) (h:k<s):j9 k (gF ws l s)=false:=by
 rcases wR ws l hs with ⟨a,_⟩|⟨c,a,b,_⟩
 ·rw [a];rfl
 ·rw [a];simp [j9];lk
def ai3 {e:Int->Int} {P:Nat->Int} (ok:bJ aj ws) (wf:Wf aj ws st) (F:xY aj ws st e P) (hi:st.aX[i]?=some pl):∃ P',xY aj ws (kZ aj ws st i pl) e P':=by
 have S:i<st.aX.length:=(dY.mp hi).1;have y:=wf.cl;have u:=wf.cs i (by lk);have q:=wf.ps pl (fj hi);cases pl with
 |out l n=>exact ⟨P,F⟩
 |exit l =>
  refine ⟨P,F.fa,λk C=>?_,λx B h1=>?_⟩
  ·show P k=_+_-iC (j9 k) st.chg (st.aX.set i (.out l (jR aj st l (st.chg.getD i 0))));rw [Ey _ _ _ _ _ _ y hi];have:=F.pa k C;have g:j9 k (.out l (jR aj st l (st.chg.getD i 0)))=false:=rfl;have r:j9 k (.exit l)=false:=rfl;rw [g,r];simp;exact this
  ·show (st.bM.set l.toNat (st.bM.getD l.toNat 0+st.chg.getD i 0)).getD x.toNat 0=_-iC (mF x) st.chg (st.aX.set i (.out l (jR aj st l (st.chg.getD i 0))));rw [Ey _ _ _ _ _ _ y hi];have tl:=wf.tl;have W:=F.ta x B h1;have Y:=q.1;have p2:=q.2;rw [jY (by lk)];have g:mF x (.out l (jR aj st l (st.chg.getD i 0)))=false:=rfl;rw [g];by_cases z:x=l
   ·subst z;have r:mF x (.exit x)=true:=by simp [mF]
    rw [r,aQ rfl];simp only [tX,yV,rK];lk
   ·have r:mF x (.exit l)=false:=by simp [mF];exact λh=>z h.symm
    rw [r,aK (by lk)];simp only [yV,rK];lk
 |before k l =>
  have C:=q.1;have I:ws[k]?=some (bT ws k):=by simp [bT,getD,C]
  obtain ⟨V,o2,o3,O,v⟩:=bJ.mem ok I;have J:=F.fa k _ I;have U:=wf.fl
  -- the count of the asL
  have p:∀ x,Vf ws e (λj=>if j=k then P k+st.chg.getD i 0 else P j) (k+1) x=Vf ws e P (k+1) x+if x=jq ws st k (st.chg.getD i 0) then st.chg.getD i 0 else 0:=λx=>by
   show (if x=(bT ws k).1 then ((if k=k then P k+st.chg.getD i 0 else P k)+1) / 2 else if x=(bT ws k).2 then (if k=k then P k+st.chg.getD i 0 else P k) / 2 else Vf ws e (λj=>if j=k then P k+st.chg.getD i 0 else P j) k x)=(if x=(bT ws k).1 then (P k+1) / 2 else if x=(bT ws k).2 then P k / 2 else Vf ws e P k x)+_;rw [aQ rfl,Jl k (λj o=>by show (if j=k then _ else _)=_;rw [aK (by lk)]) x];have pv:jq ws st k (st.chg.getD i 0)=if (P k % 2=0/\st.chg.getD i 0=1)\/(¬ P k % 2=0/\st.chg.getD i 0=-1) then (bT ws k).1 else (bT ws k).2:=by unfold jq sO;rw [J];generalize st.chg.getD i 0=c at u;rcases u with h|h<;>by_cases d:P k % 2=0<;>simp [h,d,bF v]
   rw [pv];generalize st.chg.getD i 0=c at u;generalize (bT ws k)=w at v;have D:((P k % 2=0/\c=1)\/(¬ P k % 2=0/\c=-1))\/((P k % 2=0/\c=-1)\/(¬ P k % 2=0/\c=1)):=by lk
   rcases D with h|h
   ·rw [aQ h];by_cases a:x=w.1
    ·rw [aQ a,aQ a,aQ a];lk
    ·rw [aK a,aK a,aK a];by_cases b:x=w.2
     ·rw [aQ b,aQ b];lk
     ·rw [aK b,aK b];lk
   ·rw [aK (by lk : ¬ ((P k % 2=0/\c=1)\/(¬ P k % 2=0/\c=-1)))];by_cases a:x=w.1
    ·rw [aQ a,aQ a,aK (by rw [a];exact v)];lk
    ·rw [aK a,aK a];by_cases b:x=w.2
     ·rw [aQ b,aQ b,aQ b];lk
     ·rw [aK b,aK b,aK b];lk
  obtain ⟨L,M⟩:=aaL ok (s:=k+1) (by lk) p (λj o=>by show (if j=k then _ else _)=_;rw [aK (by lk)]);refine ⟨λj=>if j=k then P k+st.chg.getD i 0 else P j,λj w o=>?_,λj o=>?_,λx B h1=>?_⟩
  ·show (st.iI.set k (sO (bT ws k) (st.iI.getD k 0))).getD j 0=_;rw [jY (by lk)];by_cases z:j=k
   ·subst z;rw [I] at o;cases o;rw [aQ rfl,J];unfold sO;show _=if (if j=j then P j+st.chg.getD i 0 else P j) % 2=0 then _ else _
    rw [aQ rfl];by_cases d:P j % 2=0
    ·rw [aQ d,aQ rfl,aK (by rcases u with h|h<;>rw [h]<;>lk)]
    ·rw [aK d,aK (bF v),aQ (by rcases u with h|h<;>rw [h]<;>lk)]
   ·rw [aK z];show _=if (if j=k then P k+st.chg.getD i 0 else P j) % 2=0 then _ else _
    rw [aK z];exact F.fa j w o
  ·show (if j=k then P k+st.chg.getD i 0 else P j)=_+_-iC (j9 j) st.chg (st.aX.set i (gF ws (jq ws st k (st.chg.getD i 0)) (k+1)));rw [Ey _ _ _ _ _ _ y hi];have R:=F.pa j o;by_cases z:j=k
   ·subst z;have t:∀ x,Vf ws e (λm=>if m=j then P j+st.chg.getD i 0 else P m) j x=Vf ws e P j x:=Jl j (λm N=>by show (if m=j then _ else _)=_;rw [aK (by lk)]);rw [aQ rfl,t,t];have g:j9 j (.before j l)=true:=by simp [j9]
    rw [g,aaM (by lk) (by lk)];simp only [tX,yV,rK];lk
   ·rw [aK z];have g:j9 j (.before k l)=false:=by simp [j9];exact λh=>z h.symm
    rw [g];by_cases lt:k<j
    ·rw [L j (by lk) o];simp only [yV,rK];lk
    ·have t:∀ x,Vf ws e (λm=>if m=k then P k+st.chg.getD i 0 else P m) j x=Vf ws e P j x:=Jl j (λm N=>by show (if m=k then _ else _)=_;rw [aK (by lk)]);rw [aaM (by lk) (by lk),t,t];simp only [yV,rK];lk
  ·show st.bM.getD x.toNat 0=_-iC (mF x) st.chg (st.aX.set i (gF ws (jq ws st k (st.chg.getD i 0)) (k+1)));rw [Ey _ _ _ _ _ _ y hi,M x];have:=F.ta x B h1;have g:mF x (.before k l)=false:=rfl;rw [g];simp only [yV,rK];lk
def lQ (cs:aF) (x:Int):Int:=if 0<=x then cs.getD x.toNat 0 else 0
def ahA (h:0<=aj):xY aj ws (jF aj ws) (lQ (replicate aj.toNat 0)) (λ_=>0):=by
 have z:∀ k x,Vf ws (lQ (replicate aj.toNat 0)) (λ_=>0) k x=0:=λk=>by
  induction k with
  |zero =>
   intro x;show lQ _ x=0;unfold lQ;split
   ·simp [getD,uh];split<;>rfl
   ·rfl
  |succ k b =>
   intro x;show (if x=(bT ws k).1 then ((0:Int)+1) / 2 else if x=(bT ws k).2 then 0 / 2 else _)=0;rw [b x];split
   ·rfl
   ·split<;>rfl
 refine ⟨λk w a=>?_,λk d=>?_,λl c h1=>?_⟩
 ·show (ws.map (·.1)).getD k 0=_;simp [getD,a]
 ·rw [z,z];rfl
 ·rw [z];show (replicate aj.toNat (0:Int)).getD l.toNat 0=_;simp [getD,uh,jF,iC];split<;>rfl
def anq {l c:Int} (h0:0<=l) (h1:l.toNat<cs.length) (x:Int):lQ (cs.set l.toNat (cs.getD l.toNat 0+c)) x=lQ cs x+if x=l then c else 0:=by
 unfold lQ;by_cases z:0<=x
 ·rw [aQ z,aQ z,jY h1];by_cases e:x=l
  ·subst e;rw [aQ rfl,aQ rfl]
  ·rw [aK (by lk),aK e];lk
 ·rw [aK z,aK z,aK (by lk)];rfl
def ai4 {P:Nat->Int} (ok:bJ aj ws) (wf:Wf aj ws st) (hl:cs.length=aj.toNat) (F:xY aj ws st (lQ cs) P) (out:∀ pl∈st.aX,cB pl=true) : st.bM=bC cs ws/\∀ k w,ws[k]?=some w->st.iI.getD k 0=if fJ (bC cs (ws.take k)) w % 2=0 then w.1 else w.2:=by
 have y:∀ k,iC (j9 k) st.chg st.aX=0:=λk=>Qk _ _ _ λpl g=>by have:=out pl g;cases pl<;>simp [cB] at this<;>rfl
 have D:∀ l,iC (mF l) st.chg st.aX=0:=λk=>Qk _ _ _ λpl g=>by have:=out pl g;cases pl<;>simp [cB] at this<;>rfl
 have n:∀ k,k<=ws.length->∀ x,0<=x->x<aj->Vf ws (lQ cs) P k x=(bC cs (ws.take k)).getD x.toNat 0:=λk=>by
  induction k with
  |zero =>intro _ x d _;show lQ cs x=_;unfold lQ;rw [aQ d];rfl
  |succ k m =>
   intro u x d h1;have b:ws[k]?=some (bT ws k):=by simp [bT,getD,show k<ws.length by lk]
   have o:=bJ.mem ok b;obtain ⟨p,t,r,e,B⟩:=id o;have tl:(bC cs (ws.take k)).length=aj.toNat:=by rw [jE];exact hl
   rw [gb b,Pu];have c:=F.pa k (by lk);rw [y,Fo,m (by lk) _ p t,m (by lk) _ r e] at c;have v:fJ (bC cs (ws.take k)) (bT ws k)=P k:=c.symm;show (if x=(bT ws k).1 then (P k+1) / 2 else if x=(bT ws k).2 then P k / 2 else Vf ws (lQ cs) P k x)=_;by_cases q:x=(bT ws k).1
   ·rw [aQ q,q,aac tl o,v]
   ·rw [aK q];by_cases i:x=(bT ws k).2
    ·rw [aQ i,i,Zx tl o,v]
    ·rw [aK i,aad tl o (by lk) (by lk)];exact m (by lk) x d h1
 constructor
 ·refine Rt λj=>?_;have tl:=wf.tl;have C:(bC cs ws).length=aj.toNat:=by rw [jE];exact hl
  by_cases I:j<aj.toNat
  ·rw [FJ (show j<st.bM.length by lk),FJ (show j<(bC cs ws).length by lk)];have a:=F.ta (j:Int) (by lk) (by lk);rw [D,Fo,n ws.length (bI _) _ (by lk) (by lk),gw,kO] at a;rw [a]
  ·rw [yZ (by lk),yZ (by lk)]
 ·intro k w b;have u:k<ws.length:=(dY.mp b).1;have z:bT ws k=w:=by simp [bT,getD,b]
  obtain ⟨p,t,r,e,B⟩:=bJ.mem ok b;have c:=F.pa k u;rw [y,Fo,z,n k (by lk) _ p t,n k (by lk) _ r e] at c;rw [F.fa k w b,c];rfl
end
end
section
open PySem.Spec PyProof.Rows
def Sh {c:TT} (Pv:Nat->St->Hp->Prop) (m0:Nat) (h0:Pv m0 σ H) (hs:∀ m σ H,Pv m σ H->c σ H λb H1=>if b=true then tb { D with nx:=λσ' H'=>∃ m',m'<m/\Pv m' σ' H',ct:=λσ' H'=>∃ m',m'<m/\Pv m' σ' H',bk:=D.nx } σ H1 else D.nx σ H1) (mono:∀ σ H Q Q',(∀ b H1,Q b H1->Q' b H1)->c σ H Q->c σ H Q'):adp c tb D σ H:=by
 refine ⟨Pv,⟨m0,h0⟩,?_⟩;rintro m σ H p;refine mono σ H _ _ (λb H1 q=>?_) (hs m σ H p);cases b with
 |true=>exact ⟨_,λσ' H' z=>z,q⟩
 |false=>exact q
end
variable {is:aF}
section
open PySem.SeqAt
inductive vZ (aj:Int) (ws:aP) (i:Nat):cH->cH->Prop
 |done {st:cH} {pl:Place}:st.aX[i]?=some pl->cB pl=true->vZ aj ws i st st
 |more {st dG:cH} {pl:Place}:st.aX[i]?=some pl->cB pl=false->vZ aj ws i (kZ aj ws st i pl) dG->vZ aj ws i st dG
inductive oZ (aj:Int) (ws:aP):aF->cH->cH->Prop
 |nil {st:cH}:oZ aj ws [] st st
 |cons {i:Int} {is:aF} {st st1 st2:cH}:vZ aj ws i.toNat st st1->oZ aj ws is st1 st2->oZ aj ws (i::is) st st2
def ahB (h:j≠i):(kZ aj ws st i pl).aX[j]?=st.aX[j]?:=by
 cases pl with
 |before k l=>show (st.aX.set _ _)[j]?=_;rw [zK (bF h)]
 |exit l=>show (st.aX.set _ _)[j]?=_;rw [zK (bF h)]
 |out l n=>rfl
def vZ.other {a:cH} (h:vZ aj ws i st a):(∀ j,j≠i->a.aX[j]?=st.aX[j]?)/\a.aX.length=st.aX.length/\∃ pl,a.aX[i]?=some pl/\cB pl=true:=by
 induction h with
 |done e o=>exact ⟨λ_ _=>rfl,rfl,_,e,o⟩
 |more e o _ g =>
  obtain ⟨a,b,c⟩:=g;refine ⟨λj d=>?_,?_,c⟩
  ·rw [a j d,ahB d]
  ·rw [b,rE]
def oZ.len {a:cH} (h:oZ aj ws is st a):a.aX.length=st.aX.length:=by
 induction h with
 |nil=>rfl
 |cons r _ b=>rw [b,r.other.2.1]
def oZ.out {a:cH} (h:oZ aj ws is st a):∀ (j:Nat) (pl:Place),a.aX[j]?=some pl->((∃ q,st.aX[j]?=some q/\cB q=true)\/(j:Int)∈is)->cB pl=true:=by
 induction h with
 |nil =>
  intro j pl e h;rcases h with ⟨q,a,b⟩|h
  ·rw [e] at a;cases a;exact b
  ·cases h
 |@cons i is st k g r _ l =>
  intro j pl e h;obtain ⟨d,m,c⟩:=r.other;refine l j pl e ?_;by_cases z:j=i.toNat
  ·rw [<-z] at c;exact .inl c
  ·rcases h with ⟨q,a,b⟩|h
   ·exact .inl ⟨q,by rw [d j z];exact a,b⟩
   ·rcases fX.mp h with h|h
    ·exact absurd (by lk) z
    ·exact .inr h
def ZF:∀ (ps:List Place) (j i:Nat) (pl:Place),ps[i]?=some pl->cB pl=false->((j+i:Nat):Int)∈gR j ps
 |[],_,_,_,h,_=>by simp at h
 |q::r,j,0,pl,h,o=>by
  have e:q=pl:=by simpa using h
  subst e;show _∈(if cB q then [] else [(j:Int)])++gR (j+1) r;rw [o];simp
 |q::r,j,i+1,pl,h,o=>by have:=ZF r (j+1) i pl (by simpa using h) o;refine pN _ ?_;rw [show j+(i+1)=j+1+i by lk];exact this
def oZ.all {a:cH} (h:oZ aj ws (gR 0 st.aX) st a):∀ pl∈a.aX,cB pl=true:=λpl d=>by
 obtain ⟨j,b⟩:=abS d;refine h.out j pl b ?_;have c:j<st.aX.length:=by rw [<-h.len];exact (dY.mp b).1
 have e:st.aX[j]?=some st.aX[j]:=by simp [c]
 by_cases o:cB st.aX[j]=true
 ·exact .inl ⟨_,e,o⟩
 ·have:=ZF st.aX 0 j _ e (by simpa using o);rw [oM] at this;exact .inr this
def Ma (n:Nat):Place->Nat
 |.before k _=>n+2-k
 |.exit _=>1
 |.out _ _=>0
def ai5 (wf:Wf aj ws st) (h:st.aX[i]?=some pl) (no:cB pl=false):Ma ws.length (jA aj ws st i pl)<Ma ws.length pl:=by
 have e:=wf.ps pl (fj h);cases pl with
 |before k l =>
  have g:=e.1;show Ma ws.length (gF ws (jq ws st k (st.chg.getD i 0)) (k+1))<ws.length+2-k;rcases wR ws (jq ws st k (st.chg.getD i 0)) (s:=k+1) (by lk) with ⟨a,_⟩|⟨d,a,b,c,_⟩
  ·rw [a];show 1<_;lk
  ·rw [a];show ws.length+2-d<_;lk
 |exit l=>show 0<1;lk
 |out l n=>simp [cB] at no
inductive anr (C:Addr) (vs:aA) (H:Hp) (Q:VK):Prop
 |mk (p:Addr) (v:V) (aj:Int) (ws:aP) (L:dB) (st:cH) (h1:vs=[.ref p]) (h2:eG H v aj ws) (h3:cN C H p v L st) (h4:Wf aj ws st) (h5:∀ (dG:cH) (H':Hp),oZ aj ws (gR 0 st.aX) st dG->cN C H' p v L dG->dW L H H'->Q .non H')
def apk (C:Addr):=nE (anr C)
section
variable {A:Sts} {en:Addr}
def dW.own (k:dW L H H'):dI (L.own p) H H':=dI.M5 k (by simp [dB.own]) (by simp [dB.own]) (by simp [dB.own]) (by simp [dB.own])
end
end
section
open PySem.Spec PyProof.Rows
section
def aaN:∀ {xs ys:aA} {us vs:bV},bO xs us->bO ys vs->bO (xs++ys) (us++vs)
 |_,_,_,_,.nil,s=>s
 |_,_,_,_,.cons r t,s=>.cons r (aaN t s)
def alj (r:bO xs us):bO xs.reverse us.reverse:=by
 induction r with
 |nil=>exact .nil
 |cons a b c =>rw [List.reverse_cons,List.reverse_cons];exact aaN c (.cons a .nil)
end
def Zj:∀ {us:bV} {ns:aF},IntsAre us ns->bO (ns.map V.int) us
 |_,_,.nil=>.nil
 |_,_,.cons n t h=>.cons ⟨t,rfl⟩ (Zj h)
inductive aft (K:bG) (xs:aA) (H:Hp) (Q:VK):Prop
 |mk (p:Addr) (ns:aF) (h1:xs=[.ref p]) (h2:dH K H p (ns.map V.int)) (h3:ns.length<64) (h4:∀ (l:Addr) (ns':aF),H l=none->ns'.Perm ns->ns'.Pairwise (·<=·)->Q (.ref l) (upd H l (.lst (ns'.map V.int))))
def Zk:jz X (.builtin "sorted") (aft X.K):=by
 rintro ak s σ H xs us Q I r ⟨p,ns,rfl,k,n,q⟩;obtain ⟨u,rfl,g⟩:=r.one;cases g;obtain ⟨aJ,c,pl,v⟩:=I.list k;have i:=c.length;rw [bh] at i;refine sorted_ints pl.isList (intsAre_of c) (by lk) λout a l d m=>?_;obtain ⟨e,j⟩:=sortedAll_at s.heap aJ out;have t:=d.length_eq;refine ⟨.ref (s.heap.objs.size+1),upd H (s.heap.objs.size+1) (.lst (a.map V.int)),I.laid (t':=s.toks) (λb o e=>sortedAll_old e) (vD _) ⟨?_,out.toList,e,Zj l,?_⟩,rfl,q _ a (I.hok.fresh (vD _)) d m⟩
 ·rw [bh];exact CK (aaC (by lk))
 ·rw [JX];exact j
def agI {st:Expr} {ts:TE} {p2:Pos} (he:PE X e te) (hs:PE X st ts) : PE X (.Subscript e (.Slice none none (some st) p2) pos) (λσ H Q=>te σ H λx H1=>ts σ H1 λy H2=>∃ a xs,x=.ref a/\y=.int (-1)/\dH X.K H2 a xs/\∀ l,H2 l=none->Q (.ref l) (upd H2 l (.lst xs.reverse))):=by intro ak s σ H Q I h;refine Subscript_ (bA (he ak s σ H _ I h) λv t ⟨x,H1,p,k,n⟩=>wpAny_Slice ?_);rw [evalPart_none];refine cY (cY ?_);rw [evalPart_some];refine bA (hs ak t σ H1 _ p n) λu c ⟨y,m,B,C,D⟩=>?_;obtain ⟨a,xs,rfl,rfl,J,q⟩:=D;cases k;obtain ⟨d,rfl⟩:=C;have g:aD X ak σ m { c with heap:=c.heap.push { cls:=.type "slice",data:=.fields #[.none,.none,.int (-1) d] } }:=B.kept (t':=c.toks) λb j q=>dF _ q;obtain ⟨aJ,r,i,z⟩:=g.list J;have L:=r.length;show wpAny (model X.prog X.w) X.A (subscriptTail e (.Slice none none (some st) p2) (.ref a) (.ref c.heap.objs.size)) (EP X ak σ Q) X.xe { c with heap:=c.heap.push { cls:=.type "slice",data:=.fields #[.none,.none,.int (-1) d] } };refine tail_any (ops:=[.ref a,.ref c.heap.objs.size]) i.isList.typeIs Rc.lookup ?_ (by with_unfolding_all rfl);refine wpAny_getItem_list_slice i.isList (Heap.IsSliceOf.new ..) .none .none (.int (-1) d) (by simp) ?_ (by rw [gV]<;>lk);rw [PySem.W.krv_pick];refine ⟨.ref _,_,g.laid (t':=c.toks) (o:=.lst xs.reverse) (λb j q=>dF _ q) (bI _) ?_,rfl,q _ (g.hok.fresh (bI _))⟩;exact ⟨by rw [List.length_reverse];exact z,_,0,alj r,fU _ rfl⟩
end
section
open PySem.SeqAt
end
section
def t_ {a b:TS} (h:∀ N:St->Hp->Prop,(∀ σ H,b D σ H->N σ H)->a { D with nx:=N } σ H):Uu a b D σ H:=h (b D) (λ_ _ z=>z)
end
variable {to:TE}
section
open PySem.Spec PyProof.Rows
def bmK (K:bG) (hK:X.K=K) {r:V->aA->Hp->VK->Prop} {t:TA} (h:PE X e (Vh X.K T r to t)):PE X e (Vh K T r to t):=by subst hK;exact h
end
section
open PySem.SeqAt
end
section
open PySem.Spec PyProof.Rows
end
section
open PySem.SeqAt
def pairD (w:Int×Int):PyData:=.tuple [.int w.1,.int w.2]
def ai6 (a w:Int×Int):PySem.Spec.same (pairD a) (pairD w)=decide (a=w):=by
 obtain ⟨b,g⟩:=a;obtain ⟨d,e⟩:=w;by_cases h:(b,g)=(d,e)
 ·cases h;rw [PyProof.Rows.same_refl];simp
 ·rw [lJ h];simp only [pairD,PySem.Spec.same,PySem.Spec.sameAll,Bool.and_true];rw [Bool.and_eq_false_iff];by_cases c:b=d
  ·subst c;right;simp only [Df,ne_eq];intro z;subst z;exact h rfl
  ·left;simpa using c
def jJ (aj:Int) (w:Int×Int):Int×Int:=(aj-1-w.2,aj-1-w.1)
def adD {w:Int×Int} (ok:zT aj w):zT aj (jJ aj w):=by obtain ⟨a,e,d,b,c⟩:=ok;unfold jJ;refine ⟨?_,?_,?_,?_,?_⟩<;>dsimp only<;>lk
def Sq (ok:bJ aj ws):bJ aj (ws.map (jJ aj)):=λw a=>by obtain ⟨u,b,rfl⟩:=fW.mp a;exact adD (ok u b)
def ant (aj:Int) (ws:aP):(ws.map (jJ aj)).map (jJ aj)=ws:=by
 rw [xq]
 conv=>rhs;rw [<-List.map_id ws]
 refine xu λw _=>?_;unfold jJ;refine Prod.ext ?_ ?_
 ·show aj-1-(aj-1-w.1)=w.1;lk
 ·show aj-1-(aj-1-w.2)=w.2;lk
def m9 (cs:aF):aF:=cs.reverse.map λx=>0-x
def zB (cs:aF):(m9 cs).length=cs.length:=by simp [m9]
def Bo {x:Nat} (h:x<cs.length):(m9 cs).getD x 0=- cs.getD (cs.length-1-x) 0:=by unfold m9;simp only [getD,jP];rw [List.getElem?_reverse h,Fp (by lk)];show 0-_=- _;simp
def aaO {a:Int} (h0:0<=a) (h1:a<aj):(aj-1-a).toNat=aj.toNat-1-a.toNat:=by lk
def lt_toNat {a:Int} (h0:0<=a) (h1:a<aj):a.toNat<aj.toNat:=by lk
def alk {a b:Int} (h0:0<=a) (h1:0<=b) (h:a≠b):a.toNat≠b.toNat:=by lk
def adE {a:Nat} (h:a<n):n-1-a<n:=by lk
def Bh {a:Nat} (h:a<n):n-1-(n-1-a)=a:=by lk
def alm (a b:Int):-b+-a=-(a+b):=by lk
def aln (s:Int):-s / 2=-((s+1) / 2):=by lk
def ai7 (s:Int):(-s+1) / 2=-(s / 2):=by lk
def anu (hl:cs.length=aj.toNat) {w:Int×Int} (ok:zT aj w):cM (m9 cs) (jJ aj w)=m9 (cM cs w):=by
 have j:=adD ok;obtain ⟨k,p,n,q,r⟩:=id ok;refine QG (by rw [wW,zB,zB,wW]) λx c=>?_;rw [wW,zB] at c;have l:(jJ aj w).1.toNat=aj.toNat-1-w.2.toNat:=aaO n q;have i:(jJ aj w).2.toNat=aj.toNat-1-w.1.toNat:=aaO k p;have la:=lt_toNat k p;have o:=lt_toNat n q;have g:=alk k n r;have a:x<aj.toNat:=hl ▸ c;have t:fJ (m9 cs) (jJ aj w)=- fJ cs w:=by unfold fJ;rw [Bo (by rw [l,hl];exact adE o),Bo (by rw [i,hl];exact adE la),l,i,hl,Bh o,Bh la];exact alm _ _
 rw [aaF (by rw [zB,hl]) j,Bo (cs:=cM cs w) (by rw [wW];exact c),aaF hl ok,t,l,i,wW,Bo c,hl];by_cases d:x=aj.toNat-1-w.1.toNat
 ·have e:aj.toNat-1-x=w.1.toNat:=by rw [d];exact Bh la
  rw [aQ d,aK (λz=>g (e.symm.trans z)),aQ e];exact aln _
 ·have e:¬ aj.toNat-1-x=w.1.toNat:=λz=>d (by rw [<-z];exact (Bh a).symm);rw [aK d];by_cases b:x=aj.toNat-1-w.2.toNat
  ·have m:aj.toNat-1-x=w.2.toNat:=by rw [b];exact Bh o
   rw [aQ b,aQ m];exact ai7 _
  ·have m:¬ aj.toNat-1-x=w.2.toNat:=λz=>b (by rw [<-z];exact (Bh a).symm);rw [aK b,aK m,aK e]
def alo (ws:aP):∀ cs:aF,cs.length=aj.toNat->bJ aj ws->bC (m9 cs) (ws.map (jJ aj))=m9 (bC cs ws):=by
 induction ws with
 |nil=>intro cs _ _;rfl
 |cons w r b =>intro cs a ok;show bC (cM (m9 cs) (jJ aj w)) (r.map (jJ aj))=m9 (bC (cM cs w) r);rw [anu a (ok w (iz ..)),b _ (by rw [wW,a]) λx c=>ok x (fH _ c)]
inductive agJ (vs:aA) (H:Hp) (Q:VK):Prop
 |mk (v:V) (aj:Int) (ws:aP) (h1:vs=[v]) (h2:eX H v aj ws) (h3:ws.length<=100) (h4:∀ (v':V) (H':Hp),aB H H'->eX H' v' aj (ws.map (jJ aj))->Q v' H')
def aaf:=nE agJ
end
variable {ea:Addr}
section
open PySem.Spec PyProof.Rows
def dZ.ex (x:dZ P w H h a o):∃ ob,h.get? a=some ob:=by
 cases o with
 |lst xs=>exact let ⟨_,_,_,_,e⟩:=x;⟨_,e⟩
 |tup xs=>exact let ⟨_,_,_,ob,e,_⟩:=x;⟨ob,e⟩
 |dK aY=>exact let ⟨_,_,_,_,ob,_,_,e,_⟩:=x;⟨ob,e⟩
 |dT aY=>exact let ⟨_,_,_,_,ob,_,_,e,_⟩:=x;⟨ob,e⟩
 |set S n=>exact let ⟨ob,_,_,_,e,_⟩:=x;⟨ob,e⟩
 |ins C dx fs=>exact let ⟨_,_,_,e,_⟩:=x;⟨_,e⟩
 |own y=>exact x
 |xd fs=>exact let ⟨_,⟨ob,_,_,e,_⟩,_⟩:=x;⟨ob,e⟩
 |rng lo hi=>exact let ⟨_,_,_,e⟩:=x;⟨_,e⟩
 |oE ob u=>exact ⟨ob,x.1⟩
 |yt q=>exact match (show h.get? a=some { cls:=.none,data:=.fields #[] }\/∃ c,h.get? a=some { cls:=.none,data:=.fields #[rawInt q.2.1,rawInt q.2.2,.ref c] }/\H c=some (.own a)/\h.CodeRec (.ref c) q.1 from x) with|.inl e=>⟨_,e⟩|.inr ⟨_,e,_⟩=>⟨_,e⟩
 |met f y=>exact ⟨_,x⟩
 |ext φ=>exact x.2.1
def lU (P:Program) (w:World):qg:=λouter H s E e s'=>∃ (ea:Addr) (cls a0:Value) (B:Heap) (H':Hp),e=.ref ea/\s'.os=s.os/\AllBare s'.gens/\Un (d7 outer) [] H H' s.heap s'.heap/\gP P w H' s'.heap /\
 FlyingW B outer ea cls a0 s'.heap/\H' ea=none/\(∀ b o,s'.heap.get? b=some o->b∉d7 outer->((∃ u,s.heap.get? b=some u)\/∃ u,H' b=some u)->B.get? b=some o)/\E cls none H'
def Un.left {L:Addr} {fs:jk} {H₀:Hp} {g h2:Heap} (tr:Un (L::fs) [] H₀ H' g h) (hL:∀ b o,g.get? b=some o->b≠L) (hf:∀ b∈fs,H₀ b=none) (k2:∀ b o,h.get? b=some o->b∉L::fs->(∃ u,g.get? b=some u)->h2.get? b=some o) (up:∀ b o,b∈fs->h.get? b=some o->∃ sl,h2.get? b=some { o with slots:=sl }):Un fs [] H₀ H' g h2:=by
 have nm:∀ {b o},g.get? b=some o->b∉fs->b∉L::fs:=λq n z=>by
  rcases fX.mp z with z|z
  ·exact hL _ _ q z
  ·exact n z
 refine ⟨λb o q n a d=>k2 b o (tr.keep b o q n (nm q a) d) (nm q a) ⟨o,q⟩,λb o q n a d=>?_,tr.free,λb o q d=>?_,tr.tups,tr.mq,λb ps q=>⟨(tr.jf b ps q).1,λc o j x=>let z:=(tr.jf b ps q).2 c o j x;⟨z.1,k2 c o z.2 (nm x λm=>by rw [hf c m] at j;cases j) ⟨o,x⟩⟩⟩⟩
 ·obtain ⟨sl,e⟩:=tr.slot b o q n (fH _ a) d;obtain ⟨k,i⟩:=up b _ a e;exact ⟨k,i⟩
 ·obtain ⟨o',e⟩:=tr.there b o q d;by_cases a:b∈fs
  ·obtain ⟨sl,i⟩:=up b o' a e;exact ⟨_,i⟩
  ·exact ⟨o',k2 b o' e (nm q a) ⟨o,q⟩⟩
section
variable {s₀:Shared} {H₀:Hp} {E:XK}
abbrev XC (P:Program) (w:World) (K:bG) (mg:dR) (au:Heap) (N:bK) (bZ:Str) (scope:Scope) (f:Addr) (cd:Value) (A:Around) (outer:nQ) (s₀:Shared) (H₀:Hp) (E:XK):Cx :=
 z9 (lU P w) P w K mg au N bZ scope f cd A outer s₀ H₀ E
def ai8 {l:nQ} (he:env∈l) (hb:env.frame=some b):b∈d7 l:=S_.mpr ⟨env,he,hb⟩
def aD.Mf (I:aD (XC P w K mg au N bZ scope f cd A outer s₀ H₀ E) ak σ H s):∀ b o,s₀.heap.get? b=some o->b≠s₀.heap.objs.size:=λb o q z=>by have:=cF q;rw [z] at this;exact uf _ this
def alp (I:aD (XC P w K mg au N bZ scope f cd A outer s₀ H₀ E) ak σ H s) {cls:Value} (hx:Heap.MadeExcOf s.heap h' ea cls vs) (hE:E cls none H) : (XC P w K mg au N bZ scope f cd A outer s₀ H₀ E).xe (.ref ea) { s with heap:=h' }:=by
 have i:=I.stack;have m:=I.ok.frames;have mem:∀ {b:Addr},b∈d7 (envOfC bZ scope s₀.heap.objs.size f cd::outer)↔b=s₀.heap.objs.size\/b∈d7 outer:=λ{b}=>by show b∈s₀.heap.objs.size::d7 outer↔_;exact fX
 refine wpAny_leaves_madeW (base:=hideAll s.heap (d7 (envOfC bZ scope s₀.heap.objs.size f cd::outer))) (h:=s.heap) (outer:=outer) m rfl (λb o q=>PySem.W.of_hideAll _ q) (PySem.W.funFrames_hide i (λenv x b d=>ai8 x d)) hx λh2 t r tup C p=>?_;have l:∀ b o,s.heap.get? b=some o->b∉d7 (envOfC bZ scope s₀.heap.objs.size f cd::outer)->h2.get? b=some o:=λb o q n=>r.1 _ _ (SQ _ q n);have free:=I.Fy;have mZ:∀ b u,H b=some u->b∉d7 (envOfC bZ scope s₀.heap.objs.size f cd::outer):=λb u q z=>by rw [free b z] at q;cases q
 refine ⟨ea,cls,.ref t,_,H,rfl,I.os,I.bare,?_,?_,r,?_,?_,hE⟩
 ·refine Un.left (I.au.mono (fs':=s₀.heap.objs.size::d7 outer) (λb d=>fH _ d) (λb d=>d)) I.Mf I.ok.uL (λb o q n _=>l b o q n) λb o d q=>?_;obtain ⟨_,o',j,B⟩:=i.mem (b:=b) (mem.mpr (.inr d));rw [q] at j;cases j;exact p b o (hx.keeps b o q) B
 ·exact λa o e=>(I.hok a o e).stay (λb u d q=>by
   rcases d with rfl|d
   ·exact l b u q (mZ b _ e)
   ·exact l b u q (mZ b _ d)) (λ_ q=>q) λ_ _ q=>q
 ·cases e:H ea with
  |none=>rfl
  |some u =>obtain ⟨g,z⟩:=(I.hok ea u e).ex;rw [hx.new] at z;cases z
 ·intro b o q n c;have k:∀ g,s.heap.get? b=some g->b∉d7 (envOfC bZ scope s₀.heap.objs.size f cd::outer)->(hideAll s.heap (d7 (envOfC bZ scope s₀.heap.objs.size f cd::outer))).get? b=some o:=λg z v=>by have:=l b g z v;rw [q] at this;cases this;exact SQ _ z v
  rcases c with ⟨u,c⟩|⟨u,c⟩
  ·obtain ⟨g,z⟩:=I.au.there b u c (tZ (a:=b));refine k g z λy=>?_;rcases mem.mp y with e|e
   ·exact I.Mf b u c e
   ·exact n e
  ·obtain ⟨g,z⟩:=(I.hok b u c).ex;exact k g z (mZ b u c)
def ad5:uZ (lU P w) (XC P w K mg au N bZ scope f cd A outer s₀ H₀ E) E:=by
 rintro ak σ H s e s' I ⟨ea,cls,a0,B,H',rfl,S,i,un,l,C,J,v,M⟩;have p:=I.stack;have r:=I.ok.frames;have mem:∀ {b:Addr},b∈d7 (envOfC bZ scope s₀.heap.objs.size f cd::outer)↔b=s₀.heap.objs.size\/b∈d7 outer:=λ{b}=>by show b∈s₀.heap.objs.size::d7 outer↔_;exact fX
 have free:∀ b∈d7 (envOfC bZ scope s₀.heap.objs.size f cd::outer),H' b=none:=λb d=>by obtain ⟨_,o,O,_⟩:=p.mem (b:=b) d;exact un.free b o O (I.Fy b d) (tZ (a:=b))
 have mZ:∀ b u,H' b=some u->b∉d7 (envOfC bZ scope s₀.heap.objs.size f cd::outer):=λb u q z=>by rw [free b z] at q;cases q
 have x:Un (s₀.heap.objs.size::d7 outer) [] H₀ H' s₀.heap s'.heap:=(I.au.mono (fs':=s₀.heap.objs.size::d7 outer) (λb d=>fH _ d) (λb d=>d)).trans un;refine wpAny_leaves_onW (outer:=outer) r rfl C λh2 y t=>?_;have m:∀ b o,s'.heap.get? b=some o->b∉d7 (envOfC bZ scope s₀.heap.objs.size f cd::outer)->((∃ u,s.heap.get? b=some u)\/∃ u,H' b=some u)->h2.get? b=some o:=λb o q n c=>y.1 _ _ (v b o q n c);refine ⟨ea,cls,a0,B,H',rfl,S.trans I.os,i,?_,?_,y,J,?_,M⟩
 ·refine Un.left x I.Mf I.ok.uL (λb o q n ⟨u,c⟩=>m b o q n (.inl (I.au.there b u c (tZ (a:=b))))) λb o d q=>?_;obtain ⟨_,o',j,R⟩:=C.2.2.1.mem (b:=b) (mem.mpr (.inr d));rw [q] at j;cases j;exact t b o q R
 ·exact λa o e=>(l a o e).stay (λb u d q=>by
   rcases d with rfl|d
   ·exact m b u q (mZ b _ e) (.inr ⟨_,e⟩)
   ·exact m b u q (mZ b _ d) (.inr ⟨_,d⟩)) (λ_ q=>q) λ_ _ q=>q
 ·intro b o q n c;have k:∀ g,s'.heap.get? b=some g->b∉d7 (envOfC bZ scope s₀.heap.objs.size f cd::outer)->((∃ u,s.heap.get? b=some u)\/∃ u,H' b=some u)->B.get? b=some o:=λg z D c=>by have:=m b g z D c;rw [q] at this;cases this;exact v b _ z D c
  rcases c with ⟨u,c⟩|⟨u,c⟩
  ·obtain ⟨g,z⟩:=x.there b u c (tZ (a:=b));refine k g z (λL=>?_) (.inl (I.au.there b u c (tZ (a:=b))));rcases mem.mp L with e|e
   ·exact I.Mf b u c e
   ·exact n e
  ·obtain ⟨g,z⟩:=(l b u c).ex;exact k g z (mZ b u c) (.inr ⟨u,c⟩)
end
def wF.Vt {st:Stmt} {k:Nat} (F:wF K x bZ st f fd) (S:rT N ps (gJ st)) (len:∀ vs H Q E,sp vs H Q E->vs.length=ps.length) (hbody:∀ (cdv:Value) (A:Around) (outer:nQ) (s:Shared) (H:Hp) (vs:aA) (Q:VK) (E:XK),eN k (A.deeper (envOfC bZ (gJ st) s.heap.objs.size f cdv))->sp vs H Q E ->∃ t,oF (XC P w K mg au N bZ (gJ st) f cdv A outer s H E) (jO st) t/\t { nx:=λ_ H'=>Q .non H',rt:=Q } (start N vs) H):dw P w K mg au (lU P w) (k+1) f fd ps sp:=by obtain ⟨oc,od,kV,c,pm,an,cdv,ct,osl,rfl,d,b⟩:=F.ex;exact ad2 d b S len λA outer s H vs Q E hr a=>hbody cdv A outer s H vs Q E hr a
def dw.up {k:Nat} (F:dw P w K mg au jL k f fd ps sp):dw P w K mg au (lU P w) k f fd ps sp:=⟨F.len,λA outer s H a us vs Q E hr d c r h=>su (F.run A outer s H a us vs Q E hr d c r h) λb s' q=>by
  cases b with
  |ok g=>cases g with
   |ret u=>exact q
   |next=>exact q
   |brk=>exact q
   |cont=>exact q
  |error e=>exact q.elim⟩
structure rW (P:Program) (w:World) (K:bG) (mg:dR) (au:Heap) (x:Str) (k:Nat) (ps:bK) (sp:Sp):Prop where
 ex:∃ (f:Addr) (fd:FuncData),dw P w K mg au (lU P w) k f fd ps sp/\mK K fd ps []/\keepIn K (.ref f)=true/\mg x=some (.ref f)
def oW.Ss {st:Stmt} {k:Nat} (h:oW K mg x st f fd) (F:dw P w K mg au (lU P w) k f fd ps sp) (hb:∀ (kV doc pm:Value) (an:jy) (cdv ct:Value) (us:bV),us.length=ps.length->bindArgs (fnOf x x (kJ st) (jO st) (gJ st) .none kV doc pm an cdv ct) ⟨us,[]⟩=pure (ps.zip us)):rW P w K mg au x k ps sp:=⟨f,fd,F,h.fn.binds hb,h.fn.kp,h.at_⟩
def nG {s₀:Shared} {H₀:Hp} {E:XK} {k:Nat} {t:TA} {p:Pos} (C:rW P w K mg au x k ps sp) (hr:eN k (XC P w K mg au N bZ scope f cd A outer s₀ H₀ E).A) (hg:Gl (XC P w K mg au N bZ scope f cd A outer s₀ H₀ E) x) (ha:PA (XC P w K mg au N bZ scope f cd A outer s₀ H₀ E) (e::es) t) (hdb:(x == ("__debug__":Str))=false:=by decide) (he:starEach (e::es) (XC P w K mg au N bZ scope f cd A outer s₀ H₀ E).env=(false,eval e (XC P w K mg au N bZ scope f cd A outer s₀ H₀ E).env)::starEach es (XC P w K mg au N bZ scope f cd A outer s₀ H₀ E).env:=by rfl) (hpl:(backTo pos (starEach es (XC P w K mg au N bZ scope f cd A outer s₀ H₀ E).env)).any (·.1)=false:=by rfl) : PE (XC P w K mg au N bZ scope f cd A outer s₀ H₀ E) (.Call (.Name x p) (e::es) [] pos) (Lb sp [] E t):=by obtain ⟨d,fd,F,c,a,b⟩:=C.ex;exact acs F hr hg b a c .nil ad5 ha hdb he hpl
structure ExcAt (h:Heap) (C:Addr) (bmB:bV) (newId:String):Prop where
 ex:∃ (bm:bV) (N:Addr) (nm qn:Str) (bs:bV) (hd:Bool) (sn:bK) (sub:bV) (ab:Bool) (col:Option Bool) (dd:jy) (k0 k1 k2 k3 k5:sG) (mN:dR),
  h.get? C=some (excClassObj nm qn C N bs bm hd sn sub ab col dd k0 k1 k2 k3 k5 newId)/\h.Ns N mN/\mN "__init__"=none/\OwnTail h bmB bm
def alq {bmB:bV} {newId:String} (X:K.In h) (q:excIn K C bmB newId=true):ExcAt h C bmB newId:=by
 unfold excIn at q;split at q
 case h_1 dd cd sl ho =>
  split at q
  case h_1 C' bm k0 k1 k2 k3 n k5 hm hs =>
   simp only [Bu,zN,Bool.not_eq_true'] at q;obtain ⟨⟨⟨⟨⟨t,g⟩,e⟩,r⟩,c⟩,d⟩:=q;subst t g;cases cd with
   |mk nm bs j ns m p i b o a k =>
    dsimp only at hm e c d;subst hm e;have es:sl=#[k0,k1,k2,k3,some (.builtin n),k5]:=by
     cases sl with
     |mk l=>exact je Array.mk hs
    subst es;exact ⟨bm,ns,nm,m,bs,p,i,b,o,a,dd,k0,k1,k2,k3,k5,_,X _ _ ho,.of_isNs (PySem.W.isNs_of_in X c),PySem.W.nsMap_none_of_in X c d,PySem.W.tail_of_in X r⟩
  all_goals cases q
 all_goals cases q
section
variable {s₀:Shared} {H₀:Hp} {E:XK}
abbrev Ai:bV:=[.type "ValueError",.type "Exception",.type "BaseException",.type "object"]
def Bp {np cpos:Pos} (hq:excIn K C Ai "ValueError.__new__"=true) (hg:Gl (XC P w K mg au N bZ scope f cd A outer s₀ H₀ E) x) (hm:mg x=some (.ref C)) (ha:PA (XC P w K mg au N bZ scope f cd A outer s₀ H₀ E) [e] ta) (hd:(x == ("__debug__":Str))=false:=by decide) (he:starEach [e] (XC P w K mg au N bZ scope f cd A outer s₀ H₀ E).env=[(false,eval e (XC P w K mg au N bZ scope f cd A outer s₀ H₀ E).env)]:=by rfl) : PS (XC P w K mg au N bZ scope f cd A outer s₀ H₀ E) (.Raise (some (.Call (.Name x np) [e] [] cpos)) none pos) (λ_ σ H=>ta σ H λvs H1=>vs.length<=1000/\E (.ref C) none H1):=by intro ak s σ H D I h;obtain ⟨bm,i,nm,k,bs,c,sn,sub,ab,col,dd,k0,k1,k2,k3,k5,mN,j,g,b,T⟩:=(alq I.ok.mod.yu hq).ex;refine wpAny_Raise_call_subT (C:=C) (nm:=nm) (q:=k) (N:=i) (bs:=bs) (bm:=bm) (hdct:=c) (sn:=sn) (sub:=sub) (ab:=ab) (col:=col) (dd:=dd) (k0:=k0) (k1:=k1) (k2:=k2) (k3:=k3) (k5:=k5) abT (mN:=mN) (T.hasType abT.hasBase) (I.ok.hd rfl) (by rw [he];rfl) b (Ce I hg hm ⟨rfl,?_⟩ hd);have d:=ha cpos ak s σ H _ I h;rw [he] at d ⊢;refine Calls.evalArgs_plain (bA d λus n ⟨vs,H1,a,r,l,q⟩=>⟨rfl,?_,a.bk _ _ j,g.keeps a.bk,T.keeps a.bk,λh' ea m=>alp a m q⟩);rw [<-r.length];exact CK (aaC l)
end
def UJ (ea:Addr) (cls:Value):HO:=.ext λh=>∃ o,h.get? ea=some o/\o.cls=cls
section
variable {s':Shared} {B h5:Heap} {cls a0:Value}
def landed (I:aD X ak σ H s) (os:s'.os=s.os) (bare:AllBare s'.gens) (un:Un (d7 X.stack) [] H H' s.heap s'.heap) (hok:gP X.prog X.w H' s'.heap) (fl:FlyingW B X.stack ea cls a0 s'.heap) (sZ:H' ea=none) (kB:∀ b o,s'.heap.get? b=some o->b∉d7 X.stack->((∃ u,s.heap.get? b=some u)\/∃ u,H' b=some u)->B.get? b=some o) (yE:FlyingW B X.stack ea cls a0 h5) (up:s'.heap.UpToSlots h5) : aD X ak σ (upd H' ea (UJ ea cls)) { s' with heap:=h5 }:=by
 have v:∀ b:Addr,b∉([]:jk):=λb=>tZ (a:=b);have free:∀ b∈d7 X.stack,H' b=none:=λb d=>by obtain ⟨_,o,N,_⟩:=I.stack.mem (b:=b) d;exact un.free b o N (I.Fy b d) (v b)
 have mZ:∀ b u,H' b=some u->b∉d7 X.stack:=λb u q z=>by rw [free b z] at q;cases q
 have l:∀ b o,s'.heap.get? b=some o->b∉d7 X.stack->((∃ u,s.heap.get? b=some u)\/∃ u,H' b=some u)->h5.get? b=some o:=λb o q n c=>yE.1 _ _ (kB b o q n c);have t:∀ b o,s.heap.get? b=some o->b≠ea:=λb o q z=>by
  subst z;obtain ⟨o',i⟩:=un.there b o q (v b);by_cases J:b∈d7 X.stack
  ·obtain ⟨_,W,y,C⟩:=fl.2.2.1.mem (b:=b) J;obtain ⟨V,vs,h1,_,h2,_⟩:=fl.first;rw [y] at h1;cases h1;exact C vs h2
  ·have:=kB b o' i J (.inl ⟨o,q⟩);rw [fl.2.1] at this;cases this
 have p:∀ b o,b∈d7 X.stack->s'.heap.get? b=some o->∃ sl,h5.get? b=some { o with slots:=sl }:=λb o d e=>by obtain ⟨_,o',m,C⟩:=fl.2.2.1.mem (b:=b) d;rw [e] at m;cases m;exact up b o e C
 refine I.call' (ch:=[]) os ⟨λb o q n d g=>l b o (un.keep b o q n d g) d (.inl ⟨o,q⟩),λb o q n d g=>?_,λb o q n g=>by rw [aV (t b o q)];exact un.free b o q n g,λb o q g=>?_,
  λb xs q=>by rw [aV (cV (un.tups b xs q) sZ)];exact un.tups b xs q,λb u xs q=>by rw [aV (cV (un.mq b u xs q) sZ)];exact un.mq b u xs q,λb ps q=>?_⟩ ?_ bare (λb z=>absurd z (v b))
 ·obtain ⟨sl,e⟩:=un.slot b o q n d g;obtain ⟨r,i⟩:=p b _ d e;exact ⟨r,i⟩
 ·obtain ⟨o',e⟩:=un.there b o q g;by_cases d:b∈d7 X.stack
  ·obtain ⟨sl,i⟩:=p b o' d e;exact ⟨_,i⟩
  ·exact ⟨o',l b o' e d (.inl ⟨o,q⟩)⟩
 ·have e:=un.jf b ps q;exact ⟨by rw [aV (cV e.1 sZ)];exact e.1,λc o S x=>let z:=e.2 c o S x;⟨by rw [aV (cV z.1 sZ)];exact z.1,l c o z.2 (mZ c _ z.1) (.inl ⟨o,x⟩)⟩⟩
 ·intro a o e;by_cases c:a=ea
  ·subst c;rw [aM] at e;cases e;obtain ⟨D,j,R⟩:=yE.there;exact ⟨⟨D,j,R⟩,⟨D,j⟩,λh1 h2 ⟨M,U,O⟩ k=>⟨M,k M U,O⟩⟩
  ·rw [aV c] at e;have L:∀ b u,H' b=some u->b≠ea:=λb u q=>cV q sZ;exact (hok a o e).stay (λb u d q=>by
    rcases d with rfl|d
    ·exact l b u q (mZ b _ e) (.inr ⟨_,e⟩)
    ·exact l b u q (mZ b _ d) (.inr ⟨_,d⟩)) (λb q=>by rw [aV (L b _ q)];exact q) λb xs q=>by rw [aV (L b _ q)];exact q
abbrev Cx.inside (X:Cx) (ea:Addr):Cx:={ X with A:=X.A.mark (some (.ref ea)),calm:=false,xe:=λ_ _=>False }
def aD.inside (I:aD X ak σ H s) (ea:Addr):aD (X.inside ea) ak σ H s:=⟨⟨I.ok.mod,I.ok.kind,I.ok.glob,I.ok.blt,I.ok.above,I.ok.inj,I.ok.has,I.ok.cab,(λz=>by cases z),I.ok.frames,I.ok.stk,I.ok.Mv,I.ok.bs,I.ok.uK,I.ok.Dn,I.ok.Dp,I.ok.pZ,I.ok.uL⟩,I.os,I.bare,I.au,I.loc,I.cell,I.free,I.o8,I.pin,I.hok,I.len⟩
def aD.outside (ok:X.Ok) (I:aD (X.inside ea) ak σ H s):aD X ak σ H s:=⟨ok,I.os,I.bare,I.au,I.loc,I.cell,I.free,I.o8,I.pin,I.hok,I.len⟩
def SP.outside {f:Flow} (ok:X.Ok) (h:SP (X.inside ea) ak D f s):SP X ak D f s:=by
 cases f with
 |next=>exact let ⟨a,b,I,q⟩:=h;⟨a,b,I.outside ok,q⟩
 |brk=>exact let ⟨a,b,I,q⟩:=h;⟨a,b,I.outside ok,q⟩
 |cont=>exact let ⟨a,b,I,q⟩:=h;⟨a,b,I.outside ok,q⟩
 |ret u=>exact let ⟨v,a,b,I,r,q⟩:=h;⟨v,a,b,I.outside ok,r,q⟩
end
def PX (X:Cx) (e:Expr) (t:St->Hp->VK->XK->Prop):Prop:=∀ (ak:List (Addr×Obj)) (s:Shared) (σ:St) (H:Hp) (Q:VK) (E:XK) (b:lF),aD X ak σ H s->t σ H Q E ->
 (∀ H1 a e s',aD X ak σ H1 a->lU X.prog X.w X.stack H1 a E e s'->b e s')->wpAny (model X.prog X.w) X.A (eval e X.env) (EP X ak σ Q) b s
def PSX (X:Cx) (st:Stmt) (t:qJ->XK->St->Hp->Prop):Prop:=∀ (ak:List (Addr×Obj)) (s:Shared) (σ:St) (H:Hp) (D:qJ) (E:XK) (b:lF),aD X ak σ H s->t D E σ H ->
 (∀ H1 a e s',aD X ak σ H1 a->lU X.prog X.w X.stack H1 a E e s'->b e s')->wpAny (model X.prog X.w) X.A (exec st X.env) (SP X ak D) b s
section
def anv {tx:St->Hp->VK->XK->Prop} (hN:X.N.Nodup) (hi:X.N[i]?=some x) (hx:vP X.env.scope x) (he:PX X e tx) (hs:swapsWith e (some (.Name x pos')) pos.line X.env=pure false:=by rfl) (hf:X.fn x=true\/X.env.scope.names.lookup x=some .local:=by first|exact .inl rfl|exact .inr rfl|assumption):PSX X (.Assign [.Name x pos'] e pos) (λD E σ H=>tx σ H (λv H1=>D.nx (σ.set i (some v)) H1) E):=by intro ak s σ H D E j I h a;refine wpAny_Assign_Name (bA (he ak s σ H _ E j I h a) λv l ⟨y,H1,g,c,d⟩=>?_) hs;exact Jj g hN hi hx c (λk b=>⟨_,H1,b,d⟩) hf
def anw {st:Stmt} {tx:qJ->XK->St->Hp->Prop} {b₀:Stmt} {suite:List Stmt} {np hpos:Pos} {ts:TS} (hst:X.stack=X.env::X.outer) (hf:X.env.frame=some X.env.locals) (hb:PSX X st tx) (hg:Gl X x) (hm:X.mg x=some (.ref C)) (hs:∀ ea,oF (X.inside ea) (b₀::suite) ts) (hd:(x == ("__debug__":Str))=false:=by decide) : PS X (.Try [st] [.ExceptHandler (some (.Name x np)) none (b₀::suite) hpos] [] [] pos) (λD σ H=>tx D (λcls _ H1=>exmOne X.K cls (.ref C)=some true/\∀ ea,H1 ea=none->ts D σ (upd H1 ea (UJ ea cls))) σ H):=by
 intro ak s σ H D I h;refine wpAny_Try_except (S6 (bA (hb ak s σ H D _ _ I h λH1 R e s' o c=>?_) λj R q=>?_))
 ·obtain ⟨ea,cls,a0,B,H',rfl,M,a,un,i,j,m,y,L⟩:=c;have d:=o.ok.frames;rw [hst] at d;have J:=j;rw [hst] at J;refine wpAny_looks_onW d hf J λV g p=>wpAny_landsW g λh5 k n=>?_;have b:=p.trans n;rw [<-hst] at k;have v:=(landed o M a un i j m y k b).inside ea;obtain ⟨U,l,S⟩:=k.there;have N:Looks (model X.prog X.w) h5 (typeOf (.ref ea)) cls:=S ▸ (Looks.ld l).andThen .now;refine wpAny_handleBy_cons (codeAny_handlers_test (Ce v hg hm ?_ hd)) (by intro q;cases q);refine PySem.W.exm_one (h:=h5) v.gq N L.1 _ _ _ _ (λ_ _ z=>z) ?_;show codeAny _ _ _ _ _;refine codeAny_handlers_suite (lands_againW k λh6 r t=>?_);have O:=landed o M a un i j m y r (b.trans t);exact lE (hs ea ak _ σ _ D (O.inside ea) (L.2 ea m)) (λf Y q=>SP.outside I.ok q) (λ_ _ z=>z.elim)
 ·cases j with
  |next=>exact CN (CN q)
  |brk=>exact q
  |cont=>exact q
  |ret u=>exact q
end
end
section
open PySem.Spec PyProof.Rows PySem.W Builtin Builtin.ObjectAttr Builtin.Getset_descriptor
end
section
open PySem.Spec PyProof.Rows
section
def clV:V->sG
 |.ref a=>some (.ref a)
 |.ty n=>some (.type n)
 |_=>none
def anx {c:V} {t:Value} (e:clV c=some t) (r:cA c u):u=t:=by
 cases c with
 |ref a=>cases e;exact r
 |ty n=>cases e;exact r
 |_=>cases e
def GK:aA->Option bV
 |[]=>some []
 |c::r=>match clV c,GK r with
  |some t,some ts=>some (t::ts)
  |_,_=>none
def QH:∀ {cs:aA} {us ts:bV},GK cs=some ts->bO cs us->us=ts
 |[],_,_,e,.nil=>by cases e;rfl
 |c::r,_,_,e,.cons h1 h2=>by
  unfold GK at e;split at e
  case h_1 t ts e1 e2 =>
   cases e;rw [anx e1 h1,QH e2 h2]
  case h_2=>cases e
end
end
section
open PySem.Spec PyProof.Rows PySem.W PySem.Builtin PySem.Builtin.ObjectAttr
end
section
open PySem.Spec PyProof.Rows
section
variable {M:Model}
end
section
variable {s₀:Shared} {H₀:Hp} {E:XK}
end
section
variable {Nm:bK} {asM:Scope} {s₀:Shared} {H₀:Hp} {E:XK}
variable {elt jo:Expr} {ifs:List Expr} {wi:TI}
end
end
variable {c:aF}
section
def iG (c:aF):Prop:=∀ i j,i<=j->j<c.length->0<=c.getD i 0-c.getD j 0/\c.getD i 0-c.getD j 0<=1
def dN (n:Nat) (total:Int):aF:=(range n).map λi:Nat=>-(((0:Int)+(i:Int)-total) / (n:Int))
def Bg (n:Nat) (t:Int):(dN n t).length=n:=by unfold dN;simp
def O9 {t:Int} (h:i<n):(dN n t).getD i 0=-(((0:Int)+(i:Int)-t) / (n:Int)):=by unfold dN;simp only [getD];rw [jP,JR h];rfl
def mQ (n k:Nat) (m:Int):aF:=(range n).map λi:Nat=>if i<k then m+1 else m
def Px (n k:Nat) (m:Int):(mQ n k m).length=n:=by unfold mQ;simp
def Io {k:Nat} {m:Int} (h:i<n):(mQ n k m).getD i 0=if i<k then m+1 else m:=by unfold mQ;simp only [getD];rw [jP,JR h];rfl
def ahC (n k:Nat) (m:Int) (h:k<=n):(mQ n k m).sum=n*m+k:=by
 induction n generalizing k with
 |zero =>
  have:k=0:=by lk
  subst this;simp [mQ]
 |succ n a =>
  have e:mQ (n+1) k m=mQ n k m++[if n<k then m+1 else m]:=by unfold mQ;rw [rN,cX];rfl
  rw [e,List.sum_append_int];have b:((n+1:Nat):Int)*m=(n:Int)*m+m:=by rw [Int.natCast_add,Int.add_mul];lk
  by_cases c:n<k
  ·rw [aQ c];have d:k=n+1:=by lk
   subst d;have g:mQ n (n+1) m=mQ n n m:=by unfold mQ;refine xu λi hi=>?_;have:i<n:=pL.mp hi;rw [aQ (by lk),aQ this]
   rw [g,a n (bI _),b];simp;lk
  ·rw [aK c,a k (by lk),b];simp;lk
def agK (h:iG c) (pos:0<c.length):∃ k m,k<c.length/\c=mQ c.length k m:=by
 have b:∀ q,q<c.length->(∀ i,i<q->c.getD i 0=c.getD (c.length-1) 0+1)->∃ k,k<c.length/\∀ i,i<c.length->c.getD i 0=if i<k then c.getD (c.length-1) 0+1 else c.getD (c.length-1) 0:=by
  intro q;induction hd:c.length-q generalizing q with
  |zero=>intro j;lk
  |succ d n =>
   intro j hi;by_cases e:c.getD q 0=c.getD (c.length-1) 0
   ·refine ⟨q,j,λi g=>?_⟩;by_cases a:i<q
    ·rw [aQ a];exact hi i a
    ·rw [aK a];have h1:=h q i (by lk) g;have h2:=h i (c.length-1) (by lk) (by lk);lk
   ·have h2:=h q (c.length-1) (by lk) (by lk);have p:q≠c.length-1:=λz=>e (by rw [z]);refine n (q+1) (by lk) (by lk) λi g=>?_;by_cases a:i<q
    ·exact hi i a
    ·have:i=q:=by lk
     subst this;lk
 obtain ⟨k,l,o⟩:=b 0 pos (λi hi=>absurd hi (by lk));refine ⟨k,c.getD (c.length-1) 0,l,QG (Px _ _ _).symm λi hi=>?_⟩;rw [Io hi];exact o i hi
def agL (n k:Nat) (m:Int):iG (mQ n k m):=λi j b a=>by rw [Px] at a;rw [Io (by lk),Io a];split<;>split<;>lk
def aag {k:Nat} {m:Int} (hk:k<n):dN n (n*m+k)=mQ n k m:=by
 refine QG (by rw [Bg,Px]) λi hi=>?_;rw [Bg] at hi;rw [O9 hi,Io hi];have a:(0:Int)<(n:Int):=by lk
 by_cases c:i<k
 ·rw [aQ c];have e:(0:Int)+(i:Int)-((n:Int)*m+(k:Int))=((n:Int)+(i:Int)-(k:Int))+(n:Int)*(-(m+1)):=by rw [BR,Int.mul_add];lk
  rw [e,zj _ _ (by lk),Fq (by lk) (by lk)];lk
 ·rw [aK c];have e:(0:Int)+(i:Int)-((n:Int)*m+(k:Int))=((i:Int)-(k:Int))+(n:Int)*(-m):=by rw [BR];lk
  rw [e,zj _ _ (by lk),Fq (by lk) (by lk)];lk
def af9 (hn:0<n) (t:Int):∃ k m,k<n/\t=n*m+k/\dN n t=mQ n k m:=by
 have h1:=rP t (b:=(n:Int)) (by lk);have h2:=rQ t (b:=(n:Int)) (by lk);have a:=Int.mul_ediv_add_emod t (n:Int);refine ⟨(t % (n:Int)).toNat,t / (n:Int),by lk, by lk, ?_⟩;rw [<-aag (by lk)]
 congr 1
 lk
def af_ (hn:0<n) (t:Int):iG (dN n t):=by obtain ⟨k,m,b,a,e⟩:=af9 hn t;rw [e];exact agL n k m
def Bq (h:iG c) (pos:0<c.length):dN c.length c.sum=c:=by obtain ⟨k,m,a,e⟩:=agK h pos;have s:=ahC c.length k m (by lk);rw [<-e] at s;rw [s,aag a,<-e]
def aaP (pos:0<c.length):iG c↔dN c.length c.sum=c:=⟨λh=>Bq h pos,λe=>by rw [<-e];exact af_ pos _⟩
def zE (c:aF):Prop:=∀ i,i+1<c.length->c.getD (i+1) 0<=c.getD i 0
def zE.le (h:zE c):∀ {i j:Nat},i<=j->j<c.length->c.getD j 0<=c.getD i 0:=by
 intro i j d;induction j with
 |zero=>intro _;have:i=0:=by lk
        subst this;exact yX _
 |succ j b =>
  intro a;by_cases e:i=j+1
  ·subst e;exact yX _
  ·have:=b (by lk) (by lk);have:=h j a;lk
def O_ (pos:0<c.length):iG c↔zE c/\c.getD 0 0-c.getD (c.length-1) 0<=1:=by
 constructor
 ·intro h;exact ⟨λi hi=>by have:=h i (i+1) (by lk) hi;lk, (h 0 (c.length-1) (by lk) (by lk)).2⟩
 ·rintro ⟨h,l⟩ i j a b;have h1:=h.le a b;have h2:=h.le (fQ i) (by lk);have d:=h.le (i:=j) (j:=c.length-1) (by lk) (by lk);lk
inductive alr (vs:aA) (H:Hp) (Q:VK):Prop
 |mk (c:Addr) (cs:aF) (h1:vs=[.ref c]) (h2:H c=some (.lst (cs.map V.int))) (h3:cs.length<=100) (h4:∀ (b:Bool) (H':Hp),aB H H'->(b=true↔zE cs)->Q (.bl b) H')
def anz:=nE alr
inductive als (vs:aA) (H:Hp) (Q:VK):Prop
 |mk (c:Addr) (cs:aF) (h1:vs=[.ref c]) (h2:H c=some (.lst (cs.map V.int))) (h3:0<cs.length) (h4:cs.length<=100) (h5:∀ (b:Bool) (H':Hp),aB H H'->(b=true↔iG cs)->Q (.bl b) H')
def anA:=nE als
end
section
open PySem.SeqAt
def UL (a b:Int):Int:=if b<a then b else a
def Dw (cs:aF) (w:Int×Int):aF:=(cs.set w.1.toNat (gk (cs.getD w.1.toNat 0) (cs.getD w.2.toNat 0))).set w.2.toNat (UL (cs.getD w.1.toNat 0) (cs.getD w.2.toNat 0))
def qY (cs:aF) (ws:aP):aF:=ws.foldl Dw cs
def alu (cs:aF) (w:Int×Int):(Dw cs w).length=cs.length:=by unfold Dw;rw [fV,fV]
def abm (ws:aP):∀ cs:aF,(qY cs ws).length=cs.length:=by
 unfold qY;induction ws with
 |nil=>intro cs;rfl
 |cons w r a=>intro cs;rw [jG,a,alu]
def ai9 (cs:aF) (ws:aP) (w:Int×Int):qY cs (ws++[w])=Dw (qY cs ws) w:=by unfold qY;rw [yW];rfl
def sU (M:List aF) (ns:aF):List aF:=M.flatMap λr=>ns.map λn=>r++[n]
def j5 (C:List aF):List aF:=C.foldl sU [[]]
def Iv (C:List aF) (ns:aF):j5 (C++[ns])=sU (j5 C) ns:=by unfold j5;rw [yW];rfl
def Ql (M:List aF) (ns:aF):(sU M ns).length=M.length*ns.length:=by
 unfold sU;induction M with
 |nil=>simp
 |cons r q a=>rw [List.flatMap_cons,dJ,a,bh,gA,Ru];lk
def Ue (C:List aF) (r:aF):Prop:=r.length=C.length/\∀ i,i<C.length->r.getD i 0∈C.getD i []
def Jb (C:List aF):∀ r,r∈j5 C↔Ue C r:=by
 have j:∀ (k:Nat) (C:List aF),C.length=k->∀ r,r∈j5 C↔Ue C r:=by
  intro k;induction k with
  |zero =>
   intro C b r;have:C=[]:=Rq.mp b;subst this;show r∈[[]]↔_;constructor
   ·intro h;have:r=[]:=by simpa using h
    subst this;exact ⟨rfl,λi hi=>absurd hi (by simp)⟩
   ·intro h;have:r=[]:=Rq.mp h.1;simp [this]
  |succ k m =>
   intro C b r;obtain ⟨D,ns,rfl⟩:∃ D ns,C=D++[ns]:=⟨C.dropLast,C.getLast (by intro z;rw [z] at b;simp at b),(abU _).symm⟩;have d:D.length=k:=by simpa using b
   rw [Iv];unfold sU;rw [List.mem_flatMap];constructor
   ·rintro ⟨q,u,hr⟩;obtain ⟨n,t,rfl⟩:=fW.mp hr;obtain ⟨l,g⟩:=(m D d q).mp u;refine ⟨by simp [l],λi hi=>?_⟩;by_cases c:i<D.length
    ·rw [show (q++[n]).getD i 0=q.getD i 0 by simp [getD,qI (show i<q.length by lk)],show (D++[ns]).getD i []=D.getD i [] by simp [getD,qI c]];exact g i c
    ·have:i=D.length:=by simp at hi;lk
     subst this;rw [show (q++[n]).getD D.length 0=n by rw [<-l];simp [getD],show (D++[ns]).getD D.length []=ns by simp [getD]];exact t
   ·rintro ⟨l,g⟩;have o:r.length=k+1:=by rw [l];simp [d]
    have a:r≠[]:=λz=>by rw [z] at o;simp at o
    have e:r=r.dropLast++[r.getLast a]:=(abU a).symm;have p:r.dropLast.length=k:=by rw [List.length_dropLast];lk
    refine ⟨r.dropLast,(m D d _).mpr ⟨by lk, λi hi=>?_⟩,fW.mpr ⟨r.getLast a,?_,e.symm⟩⟩
    ·have:=g i (by simp;lk);rw [e,show (r.dropLast++[r.getLast a]).getD i 0=r.dropLast.getD i 0 by simp only [getD];rw [qI (by lk)],show (D++[ns]).getD i []=D.getD i [] by simp [getD,qI hi]] at this;exact this
    ·have:=g D.length (by simp);rw [e,show (r.dropLast++[r.getLast a]).getD D.length 0=r.getLast a by simp only [getD];rw [d,<-p,xV (bI _),Rv];rfl,show (D++[ns]).getD D.length []=ns by simp [getD]] at this;exact this
 exact j C.length C rfl
def Aa (n:Nat) (r:aF):Prop:=r.length=n/\∀ i,i<n->r.getD i 0=0\/r.getD i 0=1
def aaQ (n:Nat) (r:aF):r∈j5 (replicate n [0,1])↔Aa n r:=by
 rw [Jb];unfold Ue Aa;rw [vG];refine and_congr_right λl=>⟨λh i hi=>?_,λh i hi=>?_⟩
 ·have:=h i hi;rw [show (replicate n ([0,1]:aF)).getD i []=[0,1] by simp [getD,hi]] at this;simpa using this
 ·rw [show (replicate n ([0,1]:aF)).getD i []=[0,1] by simp [getD,hi]];simpa using h i hi
def aeC (n:Nat) (ws:aP):Prop:=∀ r,Aa n r->zE (qY r ws)
end
section
inductive apl (vs:aA) (H:Hp) (Q:VK):Prop
 |mk (v:V) (aj:Int) (ws:aP) (c:Addr) (cs:aF) (h1:vs=[v,.ref c]) (h2:eX H v aj ws) (h3:bJ aj ws) (h4:ws.length<=100) (h5:H c=some (.lst (cs.map V.int))) (h6:cs.length=aj.toNat) (h7:∀ (a:Addr) (H':Hp),H a=none->aB H H'->H' a=some (.lst ((qY cs ws).map V.int))->Q (.ref a) H')
def aqs:=nE apl
inductive ai_ (vs:aA) (H:Hp) (Q:VK):Prop
 |mk (a b:Addr) (rs:aA) (M:List aF) (ns:aF) (h1:vs=[.ref a,.ref b]) (h2:H a=some (.lst rs)) (h3:Rows H rs M) (h4:H b=some (.lst (ns.map V.int))) (h5:M.length*ns.length<=50000) (h6:ns.length<=50000) (h7:(∀ r∈M,r.length<=50)) (h8:∀ (l:Addr) (rs':aA) (H':Hp),H l=none->aB H H'->H' l=some (.lst rs')->fG H H' l rs' (sU M ns)->Q (.ref l) H')
def alv:=nE ai_
inductive ai' (vs:aA) (H:Hp) (Q:VK):Prop
 |mk (a:Addr) (cs:aA) (C:List aF) (h1:vs=[.ref a]) (h2:H a=some (.lst cs)) (h3:Rows H cs C) (h4:C.length<=40) (h5:(∀ i,i<=C.length->(j5 (C.take i)).length<=50000)) (h6:(∀ r∈C,r.length<=50000)) (h7:∀ (l:Addr) (rs':aA) (H':Hp),H l=none->aB H H'->H' l=some (.lst rs')->fG H H' l rs' (j5 C)->Q (.ref l) H')
def alw:=nE ai'
inductive aja (vs:aA) (H:Hp) (Q:VK):Prop
 |mk (v:V) (aj:Int) (ws:aP) (h1:vs=[v]) (h2:eX H v aj ws) (h3:1<=aj) (h4:aj<=8) (h5:bJ aj ws) (h6:ws.length<=41) (h7:(∀ (T:Addr) (H':Hp),H T=none->aB H H'->H' T=some (.tup [.str "orders"])->aeC aj.toNat ws->Q (.ref T) H')) (h8:∀ (T l:Addr) (r:aF) (H':Hp),H T=none->H l=none->aB H H'->H' T=some (.tup [.str "not",.ref l])->H' l=some (.lst (r.map V.int))->Aa aj.toNat r->¬ zE (qY r ws)->Q (.ref T) H')
def alx:=nE aja
def Ot (n:Nat):(j5 (replicate n [0,1])).length=2 ^ n:=by
 induction n with
 |zero=>rfl
 |succ n a=>rw [Ft,Iv,Ql,a];rfl
def ajb (h:i<=n):(replicate n ([0,1]:aF)).take i=replicate i [0,1]:=by rw [List.take_replicate,tY h]
end
section
open PySem.SeqAt
def zF (w u:Int×Int):Prop:=w.1≠u.1/\w.1≠u.2/\w.2≠u.1/\w.2≠u.2
def zF.symm {w u:Int×Int} (h:zF w u):zF u w:=⟨bF h.1,bF h.2.2.1,bF h.2.1,bF h.2.2.2⟩
def First (ws:aP) (i:Nat) (w:Int×Int):Prop:=ws[i]?=some w/\∀ j u,j<i->ws[j]?=some u->zF w u
def gK (ws:aP) (d:aF):aP:=((ws.zip d).filter λp=>decide (p.2=1)).map (·.1)
def acJ {w:Int×Int} (h:ws[i]?=some w):bT ws i=w:=by simp [bT,getD,h]
def abn (ok:bJ aj ws) {w:Int×Int} (hw:ws[i]?=some w) (hd:(cj aj ws).2.getD i 0=1):First ws i w:=by
 have k:=acC ok;have o:i<ws.length:=(dY.mp hw).1;obtain ⟨v,e,n⟩:=k.2 i o;have m:v=0:=by lk
 subst m;refine ⟨hw,λj u p l=>?_⟩;obtain ⟨t,r,g⟩:=k.2 j (by lk);have q:=g.1;have nm:¬ Gv (bT ws j) (bT ws i)=true:=λz=>by have:=n.2.1 _ ⟨j,p,z,rfl⟩;lk
 rw [acJ hw,acJ l] at nm;unfold Gv at nm;simp only [JG,Fl,not_or] at nm;obtain ⟨⟨a,b⟩,c,d⟩:=nm;exact ⟨bF a,bF c,bF b,bF d⟩
def aah (ok:bJ aj ws) {w:Int×Int} (h:w∈gK ws (cj aj ws).2):∃ i,First ws i w:=by unfold gK at h;obtain ⟨p,b,rfl⟩:=fW.mp h;obtain ⟨a,h1⟩:=CJ.mp b;obtain ⟨i,hi⟩:=List.mem_iff_getElem?.mp a;rw [Rw] at hi;exact ⟨i,abn ok hi.1 (by simpa [getD,hi.2] using h1)⟩
def aly (P:Int×Int->Int->Prop) (hP:∀ (i j:Nat) (w u:Int×Int) (x y:Int),i<j->ws[i]?=some w->ws[j]?=some u->d[i]?=some x->d[j]?=some y->x=1->y=1->zF w u) : ((ws.zip d).filter λp=>decide (p.2=1)).Pairwise λa b=>zF a.1 b.1:=by rw [List.pairwise_filter,abV];intro i j hi k c a b;have m:(ws.zip d)[i]?=some (ws.zip d)[i]:=Fp hi;have l:(ws.zip d)[j]?=some (ws.zip d)[j]:=Fp k;obtain ⟨e,o⟩:=Rw.mp m;obtain ⟨g,n⟩:=Rw.mp l;exact hP i j _ _ _ _ c e g o n (by simpa using a) (by simpa using b)
def Zm (ok:bJ aj ws):(gK ws (cj aj ws).2).Pairwise zF:=by unfold gK;rw [List.pairwise_map];refine aly (λ_ _=>True) λi j w u x y a c d g e ex b=>?_;have f:=abn ok d (by simp [getD,e,b]);exact (f.2 i w a c).symm
def Jm (aj:Int) (ws:aP):aF:=(gK ws (cj aj ws).2).map (·.2)
def Ez (aj:Int) (ws:aP):List aF:=(range aj.toNat).map λl:Nat=>if (l:Int)∈Jm aj ws then [0] else (range (2 ^ dX aj ws)).map λk:Nat=>(k:Int)
def af' (aj:Int) (ws:aP):(Ez aj ws).length=aj.toNat:=by simp [Ez]
end
variable {i1 i2:Addr}
section
open PySem.Spec PyProof.Rows
section
structure ZT (h:Heap) (TI i1 i2 t l:Addr) (k:Nat) (xs ys:h_):Prop where
 pr:IsPair h TI (.ref i1) (.ref i2)
 g1:h.IsTupleIter i1 t k
 g2:h.IsListIter i2 l k
 gt:h.IsTuple t xs
 gl:h.IsList l ys
def acK {xs:h_} (g:h.IsTuple a xs) (k:ExtBut b h h') (n:a≠b):h'.IsTuple a xs:=let ⟨o,e,r⟩:=g;⟨o,k a o n e,r⟩
def ahD {z TI TO t:Addr} {k:Nat} {xs:h_} {x y v:Value} (D:ZipApart z TI TO i1 i2 t l) (gz:IsZip s.heap z TI TO .none) (gO:IsPair s.heap TO u v) (Z:ZT s.heap TI i1 i2 t l k xs ys) (gx:xs[k]?=some x) (gy:ys[k]?=some y) (q:∀ h',IsZip h' z TI TO (rawInt s.heap.objs.size)->IsPair h' TO x y->h'.IsTupleIter i1 t (k+1)->h'.IsListIter i2 l (k+1)->IsPair h' s.heap.objs.size x y ->(∀ c o,c≠z->c≠TO->c≠i1->c≠i2->s.heap.get? c=some o->h'.get? c=some o)->Q (.ref s.heap.objs.size) { s with heap:=h' }) : wpAny (model P w) A (Builtin.«zip.__next__» ⟨[.ref z],[]⟩) (λcU s'=>∃ r,cU=.done (.ret r)/\Q r s') E s:=by
 obtain ⟨gI,g1,g2,gt,gl⟩:=Z;have free:wpAny (model P w) A (ownedTupleIsFree (.ref z)) (λb s'=>b=true/\s'=s) E s:=by unfold ownedTupleIsFree;exact bf (qz gz rfl (x:=.none) rfl (cY ⟨rfl,rfl⟩))
 refine show wpAny _ _ (field (.ref z) 2 >>= _) _ _ _ from bf (qz gz rfl (x:=.bool false) rfl (show wpAny _ _ (field (.ref z) 3 >>= _) _ _ _ from bf (qz gz rfl (x:=.ref TI) rfl (bf (rM gI rfl (show wpAny _ _ (ownedTupleIsFree (.ref z) >>= _) _ _ _ from bf (lE free (λb s' e=>?_) λ_ _ e=>e)))))));obtain ⟨rfl,rfl⟩:=e;simp only [tX];refine bf (JD (bf (qz gz rfl (x:=.ref TO) rfl (bf (BW gz (by simp) λha ga d=>?_)))));have za:IsZip ha z TI TO .ellipsis:=ga;refine bf ?_;simp only [List.zipIdx_cons,List.zipIdx_nil,Bw,List.forIn_nil];refine bf (bf (JZ (show wpAny _ _ (nextOf (.ref i1) >>= _) _ _ _ from bf (QF (g1.extBut d.extBut D.i1z) (acK gt d.extBut D.l1z) gx λhb S g=>cY ?_))));have Ob:IsPair hb TO u v:=g.extBut _ _ D.TOi1 (d.extBut _ _ D.TOz gO);refine bf (rM Ob rfl (bf (Rx Ob λhc I i=>?_)));have Oc:IsPair hc TO x v:=I;have Vu:=((g2.extBut d.extBut D.i2z).extBut g.extBut (bF D.i12)).extBut i.extBut (bF D.TOi2);have Vv:=((gl.extBut d.extBut D.l2z).extBut g.extBut D.l2i1).extBut i.extBut D.l2TO;refine bf (yS (cY (bf (bf (JZ (show wpAny _ _ (nextOf (.ref i2) >>= _) _ _ _ from bf (wpAny_nextOf_list_item Vu Vv gy λhd N j=>cY ?_)))))));have Od:IsPair hd TO x v:=j.extBut _ _ D.TOi2 Oc;refine bf (rM Od rfl (bf (Rx Od λa J p=>?_)));have Oe:IsPair a TO x y:=J;refine bf (yS (cY (cY (bf (rM Oe rfl (bf (wpAny_newTuple ?_)))))));have size:a.objs.size=s'.heap.objs.size:=by rw [p.1,j.1,i.1,g.1,d.1]
 have W:IsZip a z TI TO .ellipsis:=p.extBut _ _ (bF D.TOz) (j.extBut _ _ (bF D.i2z) (i.extBut _ _ (bF D.TOz) (g.extBut _ _ (bF D.i1z) za)));have ke:∀ c o,c≠z->c≠TO->c≠i1->c≠i2->s'.heap.get? c=some o->a.get? c=some o:=λc o B C O V e=>p.extBut _ _ C (j.extBut _ _ V (i.extBut _ _ C (g.extBut _ _ O (d.extBut _ _ B e))));have L:a.IsTupleIter i1 t (k+1):=((S.extBut i.extBut (bF D.TOi1)).extBut j.extBut D.i12).extBut p.extBut (bF D.TOi1);have R:a.IsListIter i2 l (k+1):=N.extBut p.extBut (bF D.TOi2);have m:z<a.objs.size:=cF W;refine show wpAny _ _ (ownedTupleHandOut (.ref z) (.ref a.objs.size) >>= _) _ _ _ from bf ?_;unfold ownedTupleHandOut;have zf:IsZip (a.push { cls:=.type "tuple",data:=.seq #[x,y] }) z TI TO .ellipsis:=dF _ W;refine bf (BW zf (by simp) λhg U sg=>?_);have zg:IsZip hg z TI TO (rawInt a.objs.size):=U;refine BW zg (by simp) λhi M si=>?_;have Y:IsZip hi z TI TO (rawInt a.objs.size):=M;have up:∀ c o,c≠z->a.get? c=some o->hi.get? c=some o:=λc o n e=>si.extBut _ _ n (sg.extBut _ _ n (dF _ e));have Ti:IsPair hi a.objs.size x y:=si.extBut _ _ (vB m) (sg.extBut _ _ (vB m) (fU _ rfl));rw [size] at Y Ti;refine cY ⟨_,rfl,show Q (.ref a.objs.size) _ from ?_⟩;rw [size];exact q hi Y (up _ _ D.TOz Oe) (L.at λo e=>up _ o D.i1z e) (R.at λo e=>up _ o D.i2z e) Ti λc o B C O V e=>up c o B (ke c o B C O V e)
def ajc {z TI TO t:Addr} {k:Nat} {xs:h_} {v:Value} {Q:Fin->Shared->Prop} (hh:A.handled=none) (D:ZipApart z TI TO i1 i2 t l) (gz:IsZip s.heap z TI TO .none) (gO:IsPair s.heap TO u v) (Z:ZT s.heap TI i1 i2 t l k xs ys) (no:xs[k]?=none\/ys[k]?=none) (q:∀ h' e,(∀ c o,c≠z->c≠TO->c≠i1->c≠i2->s.heap.get? c=some o->h'.get? c=some o)->(∃ o,h'.get? e=some o/\o.cls=.type "StopIteration")->E (.ref e) { s with heap:=h' }) : wpAny (model P w) A (Builtin.«zip.__next__» ⟨[.ref z],[]⟩) Q E s:=by
 obtain ⟨gI,g1,g2,gt,gl⟩:=Z;have free:wpAny (model P w) A (ownedTupleIsFree (.ref z)) (λb s'=>b=true/\s'=s) E s:=by unfold ownedTupleIsFree;exact bf (qz gz rfl (x:=.none) rfl (cY ⟨rfl,rfl⟩))
 refine show wpAny _ _ (field (.ref z) 2 >>= _) _ _ _ from bf (qz gz rfl (x:=.bool false) rfl (show wpAny _ _ (field (.ref z) 3 >>= _) _ _ _ from bf (qz gz rfl (x:=.ref TI) rfl (bf (rM gI rfl (show wpAny _ _ (ownedTupleIsFree (.ref z) >>= _) _ _ _ from bf (lE free (λb s' e=>?_) λ_ _ e=>e)))))));obtain ⟨rfl,rfl⟩:=e;simp only [tX];refine bf (JD (bf (qz gz rfl (x:=.ref TO) rfl (bf (BW gz (by simp) λha ga i=>?_)))));have W:IsZip ha z TI TO .ellipsis:=ga;have a:∀ {h:Heap} {e:Addr},IsZip h z TI TO .ellipsis->(∃ o,h.get? e=some o/\o.cls=.type "StopIteration")->e≠z:=λg ⟨o,m,r⟩ n=>by rw [n,g] at m;cases m;simp at r
 refine bf ?_;simp only [List.zipIdx_cons,List.zipIdx_nil,Bw,List.forIn_nil];refine bf (bf (JZ (show wpAny _ _ (nextOf (.ref i1) >>= _) _ _ _ from ?_)));have B:=g1.extBut i.extBut D.i1z;have p:=acK gt i.extBut D.l1z;cases C:xs[k]? with
 |none =>refine bf (Zi hh B p C λI e d st=>?_);have U:IsZip I z TI TO .ellipsis:=d _ _ (bF D.i1z) W;have L:=a U st;obtain ⟨J,m,r⟩:=st;exact BW U (by simp) λR _ j=>q R e (λc o y _ M _ g=>j.extBut _ _ y (d _ _ M (i.extBut _ _ y g))) ⟨J,j.extBut _ _ L m,r⟩
 |some x =>have gy:ys[k]?=none:=no.elim (λh=>by rw [C] at h;cases h) id;refine bf (QF B p C λI g1b d=>cY ?_);have O:IsPair I TO u v:=d.extBut _ _ D.TOi1 (i.extBut _ _ D.TOz gO);refine bf (rM O rfl (bf (Rx O λR gOc j=>?_)));have Vu:=((g2.extBut i.extBut D.i2z).extBut d.extBut (bF D.i12)).extBut j.extBut (bF D.TOi2);have Y:=((gl.extBut i.extBut D.l2z).extBut d.extBut D.l2i1).extBut j.extBut D.l2TO;refine bf (yS (cY (bf (bf (JZ (show wpAny _ _ (nextOf (.ref i2) >>= _) _ _ _ from bf (wpAny_nextOf_list_end hh Vu Y gy λhd e N st=>?_)))))));have V:IsZip hd z TI TO .ellipsis:=N _ _ (bF D.i2z) (j.extBut _ _ (bF D.TOz) (d.extBut _ _ (bF D.i1z) W));have L:=a V st;obtain ⟨J,m,r⟩:=st;exact BW V (by simp) λhe _ S=>q he e (λc o y n2 M n4 g=>S.extBut _ _ y (N _ _ n4 (j.extBut _ _ n2 (d.extBut _ _ M (i.extBut _ _ y g))))) ⟨J,S.extBut _ _ L m,r⟩
def ahE {z TI TO t:Addr} {k:Nat} {xs:h_} {x y v:Value} {Q:sG->Shared->Prop} (D:ZipApart z TI TO i1 i2 t l) (gz:IsZip s.heap z TI TO .none) (gO:IsPair s.heap TO u v) (Z:ZT s.heap TI i1 i2 t l k xs ys) (gx:xs[k]?=some x) (gy:ys[k]?=some y) (q:∀ h',IsZip h' z TI TO (rawInt s.heap.objs.size)->IsPair h' TO x y->h'.IsTupleIter i1 t (k+1)->h'.IsListIter i2 l (k+1)->IsPair h' s.heap.objs.size x y ->(∀ c o,c≠z->c≠TO->c≠i1->c≠i2->s.heap.get? c=some o->h'.get? c=some o)->Q (some (.ref s.heap.objs.size)) { s with heap:=h' }):wpAny (model P w) A (pyNext (.ref z)) Q E s:=by have ty:s.TypeIs (.ref z) "zip":=⟨_,gz,rfl⟩;unfold pyNext;refine bf (wpAny_attempt (JH (name:=ofString "__next__") ty J0 (JL J0 ty F.entry_zip_next ?_ (F.args_zip_next_1 _))));exact ahD D gz gO Z gx gy λh' a i b d e g=>cY (q h' a i b d e g)
def afu {z TI TO t:Addr} {k:Nat} {xs:h_} {v:Value} {Q:sG->Shared->Prop} (hh:A.handled=none) (D:ZipApart z TI TO i1 i2 t l) (gz:IsZip s.heap z TI TO .none) (gO:IsPair s.heap TO u v) (Z:ZT s.heap TI i1 i2 t l k xs ys) (no:xs[k]?=none\/ys[k]?=none) (q:∀ h',(∀ c o,c≠z->c≠TO->c≠i1->c≠i2->s.heap.get? c=some o->h'.get? c=some o)->Q none { s with heap:=h' }):wpAny (model P w) A (pyNext (.ref z)) Q E s:=by have ty:s.TypeIs (.ref z) "zip":=⟨_,gz,rfl⟩;unfold pyNext;refine bf (wpAny_attempt (JH (name:=ofString "__next__") ty J0 (JL J0 ty F.entry_zip_next ?_ (F.args_zip_next_1 _))));exact ajc hh D gz gO Z no λh' e kk ⟨o,a,d⟩=>bf (wpAny_isInstance (T:="StopIteration") (b:=true) ⟨o,a,d⟩ isSubtype_stop (cY (q _ kk)))
abbrev Hi (h:Heap) (t:Addr):Heap:=h.push { cls:=.type "tuple_iterator",data:=.fields #[.ref t,.int 0 0] }
abbrev M6 (h:Heap) (t l:Addr):Heap:=(Hi h t).push { cls:=.type "list_iterator",data:=.fields #[.ref l,.int 0 0] }
abbrev M7 (h:Heap) (t l:Addr):Heap:=(M6 h t l).push { cls:=.type "tuple",data:=.seq #[.ref h.objs.size,.ref (Hi h t).objs.size] }
abbrev M8 (h:Heap) (t l:Addr):Heap:=(M7 h t l).push { cls:=.type "tuple",data:=.seq #[.none,.none] }
abbrev Aj (h:Heap) (t l:Addr):Heap:=(M8 h t l).push { cls:=.type "zip",data:=.fields #[.none,.bool false,.bool false,.ref (M6 h t l).objs.size,.ref (M7 h t l).objs.size] }
def ajd (t l:Addr) (xs ys:h_):Meets (Builtin.«zip.__new__» ⟨[.type "zip",.ref t,.ref l],[]⟩) (λ_ R s=>s.heap.IsTuple t xs/\s.heap.IsList l ys/\R (.ok (.ret (.ref (M8 s.heap t l).objs.size))) { s with heap:=Aj s.heap t l }):=.of_wp λprog w A R s h=>by
  obtain ⟨b,g,d,c,e⟩:=s;obtain ⟨m,i,q⟩:=h;have a:=sub_zip;have k:IsTuple (Shared.heap ⟨b,g,d,c,e⟩) t xs:=m;have j:IsList (Shared.heap ⟨Hi b t,g,d,c,e⟩) l ys:=IsList.push i _
  wp_walk using K1 k,FZ j
  exact ⟨_,rfl,q⟩
def ahF {t:Addr} {xs:h_} (gt:s.heap.IsTuple t xs) (gl:s.heap.IsList l ys) (q:∀ h',IsZip h' (s.heap.objs.size+4) (s.heap.objs.size+2) (s.heap.objs.size+3) .none->ZT h' (s.heap.objs.size+2) s.heap.objs.size (s.heap.objs.size+1) t l 0 xs ys->IsPair h' (s.heap.objs.size+3) .none .none ->(∀ c o,s.heap.get? c=some o->h'.get? c=some o)->Q (.ref (s.heap.objs.size+4)) { s with heap:=h' }):wpAny (model P w) A (call (.type "zip") [.ref t,.ref l]) Q E s:=by
 refine callType_new F.called_zip (by decide) (F.typeCall_zip_2 _ _) (F.newCall_zip_2 _ _) (λu=>F.args_object_init_3 u _ _) F.entry_zip_new (ajd t l xs ys) ⟨gt,gl,?_⟩;have b:(Hi s.heap t).objs.size=s.heap.objs.size+1:=pO ..;have d:(M6 s.heap t l).objs.size=s.heap.objs.size+2:=by rw [pO,b]
 have g:(M7 s.heap t l).objs.size=s.heap.objs.size+3:=by rw [pO,d]
 have n:(M8 s.heap t l).objs.size=s.heap.objs.size+4:=by rw [pO,g]
 have a:∀ {h:Heap} {c:Addr} {o:Obj} (o':Obj),h.get? c=some o->(h.push o').get? c=some o:=λo' e=>dF o' e;have i:(Aj s.heap t l).get? (M8 s.heap t l).objs.size=some _:=fU _ rfl;have k:(Aj s.heap t l).get? (M7 s.heap t l).objs.size=some _:=a _ (fU _ rfl);have m:(Aj s.heap t l).get? (M6 s.heap t l).objs.size=some _:=a _ (a _ (fU _ rfl));have j:(Aj s.heap t l).get? (Hi s.heap t).objs.size=some _:=a _ (a _ (a _ (fU _ rfl)));have y:(Aj s.heap t l).get? s.heap.objs.size=some _:=a _ (a _ (a _ (a _ (fU _ rfl))));have kk:∀ c o,s.heap.get? c=some o->(Aj s.heap t l).get? c=some o:=λc o e=>a _ (a _ (a _ (a _ (a _ e))));obtain ⟨z,B,v⟩:=gt;obtain ⟨p,x,r⟩:=gl;rw [d,g,n] at i;rw [g] at k;rw [b,d] at m;rw [b] at j;refine show _/\_ from ?_;rw [n];exact ⟨⟨_,i,rfl⟩,q _ i ⟨m,⟨_,y,rfl,rfl⟩,⟨_,j,rfl,rfl⟩,⟨z,kk _ _ B,v⟩,⟨p,kk _ _ x,r⟩⟩ k kk⟩
end
section
variable {elts:List Expr} {kk:Nat} {ps:Pos}
def ztS (z TI TO i1 i2 a1 a2:Addr) (i:Nat) (h:Heap):Prop:=IsZip h z TI TO .none/\IsPair h TI (.ref i1) (.ref i2)/\(∃ a b,IsPair h TO a b)/\h.IsTupleIter i1 a1 i/\h.IsListIter i2 a2 i
def ahG (a1 a2 z TI TO i1 i2:Addr) (D:ZipApart z TI TO i1 i2 a1 a2):uq P w K (.Tuple elts kk ps) (qj (λH xs=>gG K H a1 xs) (λH xs=>dH K H a2 xs)) [z,TI,TO,i1,i2] z (ztS z TI TO i1 i2 a1 a2) where
 mem:=by simp
 obj:=λi h st b d=>by
  obtain ⟨j,a,⟨u,v,c⟩,⟨o1,e1,c1,d1⟩,⟨o2,e2,c2,d2⟩⟩:=st;have q:b=z\/b=TI\/b=TO\/b=i1\/b=i2:=by simpa using d
  rcases q with rfl|rfl|rfl|rfl|rfl
  ·exact ⟨_,j,λv q=>by have J:Data.fields _=Data.cell v:=q;cases J⟩
  ·exact ⟨_,a,λv q=>by have J:Data.seq _ _=Data.cell v:=q;cases J⟩
  ·exact ⟨_,c,λv q=>by have J:Data.seq _ _=Data.cell v:=q;cases J⟩
  ·exact ⟨o1,e1,λv q=>by rw [d1] at q;cases q⟩
  ·exact ⟨o2,e2,λv q=>by rw [d2] at q;cases q⟩
 keep:=λi h h' st k=>by obtain ⟨j,a,⟨u,v,c⟩,h1,h2⟩:=st;exact ⟨k z (by simp) _ j,k TI (by simp) _ a,⟨u,v,k TO (by simp) _ c⟩,h1.at λo e=>k i1 (by simp) o e,h2.at λo e=>k i2 (by simp) o e⟩
 item:=by
  intro X hP R hK hc i ak s σ H E I O st S;subst hP R hK;obtain ⟨j,a,⟨u0,v0,c⟩,h1,h2⟩:=st;obtain ⟨xs,x,ys,y,L,hr,N,hy⟩:=S;obtain ⟨aJ,Y,p,_⟩:=I.tuple L;obtain ⟨C,U,V,_⟩:=I.list hr;obtain ⟨u,hu,ru⟩:=Y.get N;obtain ⟨v,hv,Vq⟩:=U.get hy;refine ahE D j c ⟨a,h1,h2,p,V.isList⟩ (x:=u) (y:=v) (by simpa using hu) (by simpa using hv) λh' b1 b2 b3 b4 b5 M=>⟨_,rfl,wpAny_letOwnedTupleGo_zip b1 λr W t=>?_⟩;have eT:z<s.heap.objs.size:=cF j;have k2:∀ b o,b∉[z,TO,i1,i2]->s.heap.get? b=some o->r.get? b=some o:=λb o n q=>by
   have g:b≠z/\b≠TO/\b≠i1/\b≠i2:=by simpa using n
   exact t.extBut b o g.1 (M b o g.1 g.2.1 g.2.2.1 g.2.2.2 q)
  have new:dZ X.prog X.w (upd H s.heap.objs.size (.tup [x,y])) r s.heap.objs.size (.tup [x,y]):=⟨by show 2<=sizeLine;rw [vC];decide,[u,v],.cons ru (.cons Vq .nil),_,t.extBut _ _ (vB eT) b5,rfl,_,rfl,rfl⟩;have l:∀ b∈[z,TO,i1,i2],b∈[z,TI,TO,i1,i2]:=λb d=>by simp at d ⊢;rcases d with e|e|e|e<;>simp [e]
  have I2:aD X ak σ (upd H s.heap.objs.size (.tup [x,y])) { s with heap:=r,toks:=s.toks }:=aD.acF I k2 (λb d=>O b (l b d)) new;refine ⟨.ref s.heap.objs.size,_,I2,rfl,⟨s.heap.objs.size,x,y,I.hok.fresh (bI _),rfl,rfl,(λzs m=>by rw [I.P0 m L];exact N),λzs m=>by rw [I.Et m hr];exact hy⟩,⟨W,?_,⟨u,v,?_⟩,?_,?_⟩,λb d=>?_⟩
  ·exact t.extBut _ _ D.TIz (M _ _ D.TIz D.TITO D.TIi1 D.TIi2 a)
  ·exact t.extBut _ _ D.TOz b2
  ·exact b3.extBut t.extBut D.i1z
  ·exact b4.extBut t.extBut D.i2z
  ·have bl:b<s.heap.objs.size:=by
    have q:b=z\/b=TI\/b=TO\/b=i1\/b=i2:=by simpa using d
    rcases q with rfl|rfl|rfl|rfl|rfl
    ·exact eT
    ·exact cF a
    ·exact cF c
    ·obtain ⟨_,q,_⟩:=h1;exact cF q
    ·obtain ⟨_,q,_⟩:=h2;exact cF q
   rw [aV (fP bl)];exact (O b d).1
 done:=by
  intro X hP R hK hc i ak s σ H E I O st S;subst hP R hK;obtain ⟨j,a,⟨u0,v0,c⟩,h1,h2⟩:=st;obtain ⟨xs,ys,L,hr,N⟩:=S;obtain ⟨aJ,Y,p,_⟩:=I.tuple L;obtain ⟨C,U,V,_⟩:=I.list hr;have l1:=Y.length;have l2:=U.length;have B:aJ.toArray[i]?=none\/C.toArray[i]?=none:=by
   rcases N with q|q
   ·exact .inl (by rw [JN,BK] at *;lk)
   ·exact .inr (by rw [JN,BK] at *;lk)
  have l:∀ b∈[z,TO,i1,i2],b∈[z,TI,TO,i1,i2]:=λb d=>by simp at d ⊢;rcases d with e|e|e|e<;>simp [e]
  refine afu (I.ok.hd hc) D j c ⟨a,h1,h2,p,V.isList⟩ B λh' M=>⟨rfl,?_⟩;exact aD.acE (t':=s.toks) (ch:=[z,TO,i1,i2]) I (λb o n q=>by
   have g:b≠z/\b≠TO/\b≠i1/\b≠i2:=by simpa using n
   exact M b o g.1 g.2.1 g.2.2.1 g.2.2.2 q) λb d=>O b (l b d)
 self:=λ_ _ _ _ _ st h=>JQ st.1 h
def apm (K:bG) (ta:TA):TI:=λσ H R=>ta σ H λvs H1=>∃ a b,vs=[.ref a,.ref b]/\(∃ xs,gG K H1 a xs)/\(∃ ys,dH K H1 b ys)/\R (qj (λH xs=>gG K H a xs) (λH xs=>dH K H b xs)) H1
def QJ {l r:Expr} {p:Pos} (hg:Gl X "zip") (hm:X.mg "zip"=none) (ha:PA X [l,r] ta) (hs:starEach [l,r] X.env=(false,eval l X.env)::starEach [r] X.env:=by rfl) (hpl:(backTo pos (starEach [r] X.env)).any (·.1)=false:=by rfl) : PI X (.Tuple elts kk ps) (.Call (.Name "zip" p) [l,r] [] pos) (apm X.K ta):=by
 intro ak s σ H R I h;refine Call_ (qK I hg hm boot_zip (xR (bA (ha pos ak s σ H _ I h) λus d ⟨vs,H1,g,t,B⟩=>?_) hs hpl));obtain ⟨a,b,e,⟨xs,L⟩,⟨ys,hr⟩,q⟩:=B;subst e;obtain ⟨u,v,rfl,y,J⟩:=bO.two t;cases y;cases J;obtain ⟨aJ,_,m,_⟩:=g.tuple L;obtain ⟨C,_,j,_⟩:=g.list hr;have la:a<d.heap.objs.size:=by obtain ⟨o,e,_⟩:=m;exact cF e
 have M:b<d.heap.objs.size:=by obtain ⟨o,n,e,_⟩:=j;exact cF e
 refine ahF m j.isList λh' i Z x kk=>JQ (by simpa using i) ?_;have D:ZipApart (d.heap.objs.size+4) (d.heap.objs.size+2) (d.heap.objs.size+3) d.heap.objs.size (d.heap.objs.size+1) a b:=by generalize d.heap.objs.size=n at la M;constructor<;>exact λq=>by simp only [Addr] at *;lk
 refine ⟨d.heap.objs.size+4,[d.heap.objs.size+4,d.heap.objs.size+2,d.heap.objs.size+3,d.heap.objs.size,d.heap.objs.size+1],_,_,H1,rfl,g.kept (t':=d.toks) kk,ahG a b _ _ _ _ _ D,⟨i,Z.pr,⟨_,_,x⟩,Z.g1,Z.g2⟩,λc z=>?_,q⟩;have k:d.heap.objs.size<=c:=by
  have q:c=d.heap.objs.size+4\/c=d.heap.objs.size+2\/c=d.heap.objs.size+3\/c=d.heap.objs.size\/c=d.heap.objs.size+1:=by simpa using z
  rcases q with rfl|rfl|rfl|rfl|rfl
  ·exact vm _ _
  ·exact vm _ _
  ·exact vm _ _
  ·exact bI _
  ·exact vm _ _
 exact g.sW k (g.hok.fresh k)
end
inductive agM (K:bG) (xs:aA) (H:Hp) (Q:VK):Prop
 |mk (i j:Int) (h1:xs=[.int i,.int j]) (h2:∀ r,H r=none->Q (.ref r) (upd H r (.rng i j)))
def aje:jz X (.type "range") (agM X.K):=by rintro ak s σ H xs us Q I r ⟨i,j,rfl,q⟩;obtain ⟨u,v,rfl,⟨t,rfl⟩,⟨t',rfl⟩⟩:=Kr r;refine call_range_2 ⟨.ref s.heap.objs.size,_,I.laid (t':=s.toks+1) (o:=.rng i j) (λb o e=>dF _ e) (bI _) ⟨_,_,_,fU _ rfl⟩,rfl,q _ (I.hok.fresh (bI _))⟩
inductive agN (K:bG) (xs:aA) (H:Hp) (Q:VK):Prop
 |mk (j:Int) (h1:xs=[.int j]) (h2:∀ r,H r=none->Q (.ref r) (upd H r (.rng 0 j)))
def Qm:jz X (.type "range") (agN X.K):=by rintro ak s σ H xs us Q I r ⟨j,rfl,q⟩;obtain ⟨u,rfl,⟨t,rfl⟩⟩:=qG r;refine call_range_1 ⟨.ref s.heap.objs.size,_,I.laid (t':=s.toks+1+1) (o:=.rng 0 j) (λb o e=>dF _ e) (bI _) ⟨_,_,_,fU _ rfl⟩,rfl,q _ (I.hok.fresh (bI _))⟩
def Qn (i:Int):∀ (l:bV) (k:Nat),(∀ (j:Nat) (v:Value),l[j]?=some v->∃ t,v=.int (i+((k+j:Nat):Int)) t)->bO ((range' k l.length).map λm:Nat=>V.int (i+(m:Int))) l
 |[],_,_=>.nil
 |v::r,k,h=>by
  rw [gA,List.range'_succ,gj];refine .cons ?_ (Qn i r (k+1) λj u e=>?_)
  ·obtain ⟨t,e⟩:=h 0 v rfl;exact ⟨t,e⟩
  ·obtain ⟨t,a⟩:=h (j+1) u (by simpa using e);exact ⟨t,by rw [a];congr 3;lk⟩
def mz (i j:Int):aF:=(range (j-i).toNat).map λk:Nat=>i+(k:Int)
inductive afv (K:bG) (xs:aA) (H:Hp) (Q:VK):Prop
 |mk (r:Addr) (i j:Int) (h1:xs=[.ref r]) (h2:H r=some (.rng i j)) (h3:-(2 ^ 62)<=i) (h4:i<2 ^ 62) (h5:-(2 ^ 62)<=j) (h6:j<2 ^ 62) (h7:(j-i).toNat<=50000) (h8:∀ l,H l=none->Q (.ref l) (upd H l (.lst ((mz i j).map V.int))))
def Zn (hc:X.calm=true):jz X (.type "list") (afv X.K):=by
 rintro ak s σ H xs us Q I r ⟨p,i,j,rfl,y,i1,i2,B,D,M,q⟩;obtain ⟨u,rfl,m⟩:=qG r;cases m;obtain ⟨t,N,v,e⟩:=(show dZ X.prog X.w H s.heap p (.rng i j) from I.hok p _ y);have C:rangeSize i j 1=((j-i).toNat:Nat):=by rw [rangeSize_one];split<;>lk
 refine call_list_range (I.ok.hd hc) e (small_one i1 i2 B D) C (by lk) λh' x b J n l ⟨L,g⟩=>?_;have a:bO ((mz i j).map V.int) b.toList:=by
  have z:=Qn i b.toList 0 λk v e=>by obtain ⟨t,d⟩:=g k v (by simpa using e);exact ⟨t,by rw [d,S9,oM]⟩
  have c:b.toList.length=(j-i).toNat:=by rw [xQ,L]
  rw [c,<-abW] at z;unfold mz;rw [xq];exact z
 refine ⟨.ref s.heap.objs.size,_,I.laid (t':=x) (o:=.lst ((mz i j).map V.int)) n (bI _) ⟨?_,b.toList,J,a,?_⟩,rfl,q _ (I.hok.fresh (bI _))⟩
 ·simp only [mz,bh,BX];exact aW (by lk)
 ·rw [JX];exact l
def Cq {i:Int} (hg:Gl X x) (h:∃ t,X.mg x=some (.int i t)) (hd:(x == ("__debug__":Str))=false:=by decide):PE X (.Name x pos) (tC (.int i)):=by obtain ⟨t,h⟩:=h;exact Cg hg h ⟨t,rfl⟩ hd
structure ad6 (P:Program) (w:World) (K:bG) (mg:dR) (au:Heap) (f:Addr) (k:Nat) (ps:bK) (sp:Sp):Prop where
 ex:∃ fd:FuncData,dw P w K mg au (lU P w) k f fd ps sp/\mK K fd ps []/\keepIn K (.ref f)=true
def Ip:bootBuiltins "range"=some (.type "range"):=by k_go
def Lj {w1 w2:TI} (h1:PI X tg e w1) (h2:PI X tg e w2):PI X tg e (λσ H R=>w1 σ H R\/w2 σ H R):=λak s σ H R I h=>h.elim (h1 ak s σ H R I) (h2 ak s σ H R I)
end
section
open PySem.SeqAt
inductive Out where
 |net (aj:Int) (ws:aP)|none|many
def FN (a:Int) (us:aP) (b:Int) (vs:aP):Out:=if a≠b then .none else if 40<us.length+vs.length then .many else .net a (us++vs)
structure Dy where
 net:Addr
 d_:Addr
 asN:Addr
 asx:Addr
 many:Addr
 asO:Addr
 asY:Addr
 asQ:Addr
inductive ajf (a:Dy) (vs:aA) (H:Hp) (Q:VK) (E:XK):Prop
 |mk (aj:Int) (t:Addr) (rs:aA) (ws:aP) (h1:vs=[.int aj,.ref t]) (h2:H t=some (.tup rs)) (h3:dM H rs ws) (h4:ws.length<=1000) (h5:((40<ws.length/\E (.ref a.many) none H)\/(ws.length<=40/\∀ (v':V) (H':Hp),aB H H'->eX H' v' aj ws->Q v' H')))
def alz (a:Dy):Sp:=λvs H Q E=>ajf a vs H Q E
def adF (a:Dy) (g:Int->aP->Int->aP->Out):Sp:=λvs H Q E=>∃ (d i:V) (c b:Int) (us ws:aP),vs=[d,i]/\eX H d c us/\eX H i b ws/\1<=c/\c<=8/\1<=b/\b<=8/\bJ c us/\bJ b ws/\us.length<=100/\ws.length<=100 /\
 match g c us b ws with
 |.none=>∀ H',aB H H'->E (.ref a.d_) none H'
 |.many=>∀ H',aB H H'->E (.ref a.many) none H'
 |.net w us'=>∀ (e:V) (H':Hp),aB H H'->eX H' e w us'->Q e H'
end
section
open PySem.Spec PyProof.Rows
end
section
open PySem.Spec PyProof.Rows PyProof.V PySem.SeqAt
section
def eN.anB {k:Nat} (r:eN k A):A.units+65<cLine:=by have:=r.un;lk
def arz:R2:=λx y H Q=>∃ dx ds,o_ H x dx/\o_ H y (.list ds)/\shaped dx=true/\shaped (PyData.list ds)=true/\(∀ d∈ds,noMix d dx=true)/\Q (.bl (decide (countIn dx ds≠0))) H
def apn (hu:X.A.units+65<cLine):dO X (compareOp .In) arz:=by rintro ak s σ H x y v u Q I a d ⟨dx,ds,i,j,g,e,nm,q⟩;obtain ⟨k,c⟩:=i.reads I v a;obtain ⟨bs,b⟩:=j.reads I u d;exact in_list_dataH b c e g hu nm ⟨.bl _,H,I,rfl,q⟩
end
end
section
open PySem.SeqAt PySem.Spec PyProof.Rows
def alA (a b:Int×Int):same (.tuple [.int a.1,.int a.2]) (.tuple [.int b.1,.int b.2])=decide (a=b):=ai6 a b
def Zo (x:PyData):∀ l:List PyData,0<=countIn x l
 |[]=>by simp [countIn]
 |y::r=>by have:=Zo x r;unfold countIn;split<;>lk
def Pa (w:Int×Int):∀ ws:aP,countIn (.tuple [.int w.1,.int w.2]) (ws.map λx=>PyData.tuple [.int x.1,.int x.2])≠0↔w∈ws
 |[]=>by simp [countIn]
 |u::r=>by
  have a:=Pa w r;have b:=Zo (.tuple [.int w.1,.int w.2]) (r.map λx=>PyData.tuple [.int x.1,.int x.2]);rw [gj,countIn,alA];by_cases c:u=w
  ·subst c;simp;lk
  ·rw [fX,aK (by simpa using c),<-a];constructor
   ·intro z;right;lk
   ·rintro (z|z)
    ·exact absurd z.symm c
    ·lk
def ahH (w:Int×Int):shaped (.tuple [.int w.1,.int w.2])=true:=by show (canLay0 _ && decide (PyData.depth _<=64))=true;simp [canLay0,canLayAll0,PyData.depth,depthAll]
def aga (ws:aP):shaped (.list (ws.map λx=>PyData.tuple [.int x.1,.int x.2]))=true:=by
 obtain ⟨a,b⟩:=aaK ws;show (canLay0 _ && decide (PyData.depth _<=64))=true;rw [Bu];constructor
 ·simp only [canLay0,a]
 ·refine fO ?_;simp only [PyData.depth];lk
def anC (w:Int×Int) (ws:aP):∀ d∈ws.map (λx=>PyData.tuple [.int x.1,.int x.2]),noMix d (.tuple [.int w.1,.int w.2])=true:=λd a=>by obtain ⟨u,_,rfl⟩:=fW.mp a;simp [noMix,noMixAll]
def gZ (a:Int) (us:aP) (b:Int) (ws:aP):aF:=((gK us (cj a us).2).filter λw=>decide (w∈gK ws (cj b ws).2)).map (·.2)
def nZ (a:Int) (us:aP) (b:Int) (ws:aP):Nat:=if dX b ws<dX a us then dX a us else dX b ws
def mC (n:Nat) (secs:aF) (d:Nat):List aF:=(range n).map λl:Nat=>if (l:Int)∈secs then [0] else (range (2 ^ d)).map λk:Nat=>(k:Int)
def Qo (a:Int) (us:aP):gZ a us a us=Jm a us:=by unfold gZ Jm;rw [List.filter_eq_self.mpr (λw b=>fO b)]
def Qp (a:Int) (us:aP):nZ a us a us=dX a us:=by unfold nZ;rw [aK (uf _)]
def alB (a:Int) (us:aP):mC a.toNat (gZ a us a us) (nZ a us a us)=Ez a us:=by unfold mC Ez;rw [Qo,Qp]
def QK:∀ (n:Nat) (l:gB),l.Nodup->(∀ x∈l,x<n)->l.length<=n
 |0,l,_,h=>by
  cases l with
  |nil=>exact bI _
  |cons a r=>exact absurd (h a (.head _)) (zm _)
 |n+1,l,nd,h=>by
  by_cases c:n∈l
  ·have e:=abX c;have:=QK n (l.erase n) (nd.erase n) λx b=>by
    have h1:=h x (abY b);have h2:x≠n:=λz=>by subst z;exact absurd b (by rw [nd.mem_erase_iff];exact λq=>q.1 rfl)
    lk
   lk
  ·have:=QK n l nd λx b=>by
    have h1:=h x b;have h2:x≠n:=λz=>by subst z;exact c b
    lk
   lk
def acL {a b:Int} {us:aP} (ok:bJ a us) (h1:1<=a):(gZ a us b ws).length<a.toNat:=by
 have t:=Zm ok;have n:∀ w∈gK us (cj a us).2,0<=w.1/\w.1<a/\0<=w.2/\w.2<a/\w.1≠w.2:=λw k=>by obtain ⟨i,f⟩:=aah ok k;exact ok w (fj f.1)
 unfold gZ;have g:=t.filter (λw=>decide (w∈gK ws (cj b ws).2));have c:∀ w∈(gK us (cj a us).2).filter (λw=>decide (w∈gK ws (cj b ws).2)),0<=w.1/\w.1<a/\0<=w.2/\w.2<a/\w.1≠w.2:=λw k=>n w ((CJ.mp k).1);generalize (gK us (cj a us).2).filter (λw=>decide (w∈gK ws (cj b ws).2))=o at g c;cases o with
 |nil=>simp;lk
 |cons w r =>
  have j:=QK a.toNat (w.1.toNat::(w::r).map λx=>x.2.toNat) (by
   rw [sE];constructor
   ·intro z;obtain ⟨u,d,e⟩:=fW.mp z;have p:=c u d;have v:=c w (.head _);rcases fX.mp d with q|q
    ·subst q;lk
    ·have:=(List.pairwise_cons.mp g).1 u q;exact this.2.1 (by lk)
   ·refine zp _ (R:=λx y:Int×Int=>x.2.toNat≠y.2.toNat) (λx y h=>h) (abZ (λ{x y} l m h=>?_) g);have p:=c x l;have v:=c y m;exact λe=>h.2.2.2 (by lk)) (λx l=>by
   rcases fX.mp l with q|q
   ·have:=c w (.head _);lk
   ·obtain ⟨u,d,e⟩:=fW.mp q;have:=c u d;lk)
  simp at j ⊢;lk
def alC (M:List aF) (ns:aF):(sU M ns).length=M.length*ns.length:=by
 unfold sU;rw [List.length_flatMap];induction M with
 |nil=>simp
 |cons r M a =>simp at a ⊢;rw [a,Ru,Nat.one_mul,Rh]
def ajg (C:List aF) (ns:aF):(j5 (C++[ns])).length=(j5 C).length*ns.length:=by unfold j5;rw [yW];exact alC _ _
def alD (n:Nat) (secs:aF) (d i:Nat) (h:i<=n):(mC n secs d).take i=mC i secs d:=by unfold mC;rw [<-List.map_take,List.take_range,tY h]
def abo (i:Nat) (secs:aF) (d:Nat):mC (i+1) secs d=mC i secs d++[if (i:Int)∈secs then [0] else (range (2 ^ d)).map λk:Nat=>(k:Int)]:=by unfold mC;rw [rN,cX];rfl
def abp (secs:aF) (d:Nat):∀ n:Nat,(j5 (mC n secs d)).length=2 ^ (d*((range n).filter λl:Nat=>decide ((l:Int)∉secs)).length)
 |0=>by simp [mC,j5]
 |n+1=>by
  rw [abo,ajg,abp secs d n,rN,zq,dJ];by_cases c:(n:Int)∈secs
  ·simp [c]
  ·simp [c,Nat.mul_add,Nat.pow_add]
def QL:∀ (n:Nat) (l:gB),l.Nodup->(∀ x∈l,x<n)->((range n).filter λx=>decide (x∈l)).length=l.length
 |0,l,_,h=>by
  cases l with
  |nil=>rfl
  |cons a r=>exact absurd (h a (.head _)) (zm _)
 |n+1,l,nd,h=>by
  rw [rN,zq,dJ];by_cases c:n∈l
  ·have e:=abX c;have pos:=List.length_pos_of_mem c;have d:=QL n (l.erase n) (nd.erase n) λx b=>by
    have h1:=h x (abY b);have h2:x≠n:=λz=>by subst z;exact absurd b (by rw [nd.mem_erase_iff];exact λq=>q.1 rfl)
    lk
   have g:(range n).filter (λx=>decide (x∈l))=(range n).filter (λx=>decide (x∈l.erase n)):=List.filter_congr λx b=>by
    have:x<n:=pL.mp b;have i:x≠n:=by lk
    exact decide_eq_decide.mpr (by rw [nd.mem_erase_iff];exact ⟨λh=>⟨i,h⟩,λh=>h.2⟩)
   rw [g,d,show ([n].filter λx=>decide (x∈l))=[n] by simp [c]];simp;lk
  ·have d:=QL n l nd λx b=>by
    have h1:=h x b;have h2:x≠n:=λz=>by subst z;exact c b
    lk
   rw [d,show ([n].filter λx=>decide (x∈l))=[] by simp [c]];simp
def abq (p:Nat->Bool):∀ l:gB,(l.filter p).length+(l.filter λx=>!p x).length=l.length
 |[]=>rfl
 |a::r=>by have:=abq p r;rw [Ry,Ry];cases h:p a<;>simp<;>lk
def anD {a b:Int} {us:aP} (ok:bJ a us):((gZ a us b ws).map Int.toNat).Nodup/\∀ x∈gZ a us b ws,0<=x/\x<a:=by
 have m:=Zm ok;have l:∀ w∈gK us (cj a us).2,0<=w.1/\w.1<a/\0<=w.2/\w.2<a/\w.1≠w.2:=λw c=>by obtain ⟨i,f⟩:=aah ok c;exact ok w (fj f.1)
 unfold gZ;have j:=m.filter (λw=>decide (w∈gK ws (cj b ws).2));have d:∀ w∈(gK us (cj a us).2).filter (λw=>decide (w∈gK ws (cj b ws).2)),0<=w.1/\w.1<a/\0<=w.2/\w.2<a/\w.1≠w.2:=λw c=>l w (CJ.mp c).1;generalize (gK us (cj a us).2).filter (λw=>decide (w∈gK ws (cj b ws).2))=n at j d;constructor
 ·rw [xq];refine zp _ (R:=λx y:Int×Int=>x.2.toNat≠y.2.toNat) (λx y h=>h) (abZ (λ{x y} g k h=>?_) j);have o:=d x g;have p:=d y k;exact λe=>h.2.2.2 (by lk)
 ·intro x g;obtain ⟨w,c,rfl⟩:=fW.mp g;have:=d w c;lk
def alE {a b:Int} {us:aP} (ok:bJ a us):((range a.toNat).filter λl:Nat=>decide ((l:Int)∉gZ a us b ws)).length+(gZ a us b ws).length=a.toNat:=by
 obtain ⟨nd,d⟩:=anD (b:=b) (ws:=ws) ok;have f:=QL a.toNat _ nd λx i=>by obtain ⟨y,c,rfl⟩:=fW.mp i;have:=d y c;lk
 have g:=abq (λx=>decide (x∈(gZ a us b ws).map Int.toNat)) (range a.toNat);rw [f,bh,BX] at g;have e:(range a.toNat).filter (λl:Nat=>decide ((l:Int)∉gZ a us b ws))=(range a.toNat).filter (λx=>!decide (x∈(gZ a us b ws).map Int.toNat)):=List.filter_congr λx _=>by
  have:x∈(gZ a us b ws).map Int.toNat↔(x:Int)∈gZ a us b ws:=by
   rw [fW];constructor
   ·rintro ⟨y,c,rfl⟩;have:=d y c;rw [show ((y.toNat:Nat):Int)=y by lk];exact c
   ·exact λh=>⟨_,h,by lk⟩
  simp only [this,decide_not]
 rw [e];lk
def ahI {a b:Int} {us:aP} (ok:bJ a us) {d:Nat} (h:(d:Int)*(a-((gZ a us b ws).length:Int))<=10) (h1:1<=a) : d<=10/\∀ i,i<=a.toNat->(j5 (mC i (gZ a us b ws) d)).length<=1024:=by
 have k:=alE (b:=b) (ws:=ws) ok;have lt:=acL (b:=b) (ws:=ws) ok h1;obtain ⟨m,n⟩:∃ m:Nat,(gZ a us b ws).length+m=a.toNat:=⟨_,Nat.add_sub_of_le (CK lt)⟩;have e:a-((gZ a us b ws).length:Int)=(m:Int):=by lk
 have c:d*m<=10:=by
  rw [e] at h
  exact_mod_cast h
 have g:1<=m:=by lk
 refine ⟨gU (Nat.le_mul_of_pos_right d g) c,λi hi=>?_⟩;rw [abp];have up:2 ^ (d*m)<=2 ^ 10:=J1 (by decide) c;refine gU (J1 (by decide) (Nat.mul_le_mul_left d (m:=m) ?_)) up;have j:((range i).filter λl:Nat=>decide ((l:Int)∉gZ a us b ws)).length<=((range a.toNat).filter λl:Nat=>decide ((l:Int)∉gZ a us b ws)).length:=by refine Sublist.length_le (Sublist.filter _ ?_);rw [<-tY hi,<-List.take_range];exact List.take_sublist _ _
 lk
structure ad7 (K:bG) (mg:dR) (a:Addr):Prop where
 Qq:excIn K a Ai "ValueError.__new__"=true
 Iw:mg "TooMany"=some (.ref a)
 ajh:exmOne K (.ref a) (.ref a)=some true
inductive alF (vs:aA) (H:Hp) (Q:VK):Prop
 |mk (v:V) (aj:Int) (ws:aP) (h1:vs=[v]) (h2:eX H v aj ws) (h3:1<=aj) (h4:aj<=8) (h5:bJ aj ws) (h6:ws.length<=41) (h7:∀ (l:Addr) (H':Hp),H l=none->aB H H'->m5 H' l (gK ws (cj aj ws).2)->Q (.ref l) H')
def anE:=nE alF
inductive aji (am:Addr) (vs:aA) (H:Hp) (Q:VK) (E:XK):Prop
 |mk (v1 v2:V) (a b:Int) (us ws:aP) (h1:vs=[v1,v2]) (h2:eX H v1 a us) (h3:eX H v2 b ws) (h4:1<=a) (h5:a<=8) (h6:1<=b) (h7:b<=8) (h8:bJ a us) (h9:bJ b ws) (h10:us.length<=41) (h11:ws.length<=41) (h12:(10<((nZ a us b ws:Nat):Int)*(a-((gZ a us b ws).length:Int))->∀ H',aB H H'->E (.ref am) none H')) (h13:(((nZ a us b ws:Nat):Int)*(a-((gZ a us b ws).length:Int))<=10->∀ (l:Addr) (rs':aA) (H':Hp),H l=none->aB H H'->H' l=some (.lst rs')->fG H H' l rs' (j5 (mC a.toNat (gZ a us b ws) (nZ a us b ws)))->Q (.ref l) H'))
def alG (am:Addr):Sp:=λvs H Q E=>aji am vs H Q E
def Ug (aj:Int) (ws:aP):Prop:=10<((dX aj ws:Nat):Int)*(aj-((Jm aj ws).length:Int))
inductive ajj (am:Addr) (vs:aA) (H:Hp) (Q:VK) (E:XK):Prop
 |mk (v:V) (aj:Int) (ws:aP) (h1:vs=[v]) (h2:eX H v aj ws) (h3:1<=aj) (h4:aj<=8) (h5:bJ aj ws) (h6:ws.length<=41) (h7:(Ug aj ws->∀ H',aB H H'->E (.ref am) none H')) (h8:(¬ Ug aj ws->∀ (l:Addr) (rs':aA) (H':Hp),H l=none->aB H H'->H' l=some (.lst rs')->fG H H' l rs' (j5 (Ez aj ws))->Q (.ref l) H'))
def alH (am:Addr):Sp:=λvs H Q E=>ajj am vs H Q E
end
section
open PySem.Spec PyProof.Rows
section
inductive agO (K:bG) (xs:aA) (H:Hp) (Q:VK):Prop
 |mk (a:_) (tp:_) (ys:_) (cs:_) (ts:_) (b:_) (h1:xs=[.ref a,.ref tp]) (h2:H a=some (.lst ys)) (h3:H tp=some (.tup cs)) (h4:GK cs=some ts) (h5:kitAny K (.type "list") ts=some b) (h6:Q (.bl b) H)
def ajk:jz X (.builtin "isinstance") (agO X.K):=by
 rintro ak s σ H xs us Q I r ⟨a,t,ys,cs,ts,b,rfl,i,k,m,e,q⟩;obtain ⟨u,v,rfl,g,d⟩:=r.two;cases g;cases d;obtain ⟨_,_,n,_,h1⟩:=(show dZ X.prog X.w H s.heap a (.lst ys) from I.hok a _ i);obtain ⟨aJ,d,pl,_⟩:=I.tuple (aZ (K:=X.K) k);obtain ⟨o,l,c,n,p⟩:=(show s.heap.IsTuple t aJ.toArray from pl);cases QH m d;cases o with
 |mk oc od x osl =>cases c;cases p;exact PySem.W.kia_tup Tf I.gq ⟨_,h1,rfl⟩ l e (λz=>nomatch z) λj=>⟨.bl b,H,I.tok j,rfl,q⟩
end
end
section
open PySem.SeqAt
def arA (aj:Int) (ws:aP):Bool:=ws.all λw=>decide (0<=w.1/\w.1<aj/\0<=w.2/\w.2<aj/\w.1≠w.2)
def CZ (h:arA aj ws=true):bJ aj ws:=λw a=>by have:=wZ.mp h w a;exact jH this
def anF {w:Int×Int} (hb:Aa aj.toNat c) (h:0<=w.1/\w.1<aj/\0<=w.2/\w.2<aj/\w.1≠w.2):cM c w=Dw c w/\Aa aj.toNat (cM c w):=by
 have b:=hb.2 w.1.toNat (by lk);have e:=hb.2 w.2.toNat (by lk);have j:(fJ c w+1) / 2=gk (c.getD w.1.toNat 0) (c.getD w.2.toNat 0):=by unfold fJ gk;rcases b with x|x<;>rcases e with y|y<;>rw [x,y]<;>decide
 have k:fJ c w / 2=UL (c.getD w.1.toNat 0) (c.getD w.2.toNat 0):=by unfold fJ UL;rcases b with x|x<;>rcases e with y|y<;>rw [x,y]<;>decide
 have g:(fJ c w+1) / 2=0\/(fJ c w+1) / 2=1:=by unfold fJ;lk
 have m:fJ c w / 2=0\/fJ c w / 2=1:=by unfold fJ;lk
 constructor
 ·unfold cM Dw;rw [j,k]
 ·unfold cM;refine ⟨by rw [fV,fV];exact hb.1,λi hi=>?_⟩;have l:=hb.1;rw [getD,List.getElem?_set];by_cases d:w.2.toNat=i
  ·rw [aQ d,aQ (by rw [fV];lk)];exact m
  ·rw [aK d,List.getElem?_set];by_cases a:w.1.toNat=i
   ·rw [aQ a,aQ (by lk)];exact g
   ·rw [aK a];exact hb.2 i hi
structure adG (K:bG) (mg:dR) (a:Addr):Prop where
 FP:excIn K a Ai "ValueError.__new__"=true
 EY:mg "NoNet"=some (.ref a)
inductive agP (vs:aA) (H:Hp) (Q:VK):Prop
 |mk (aj:Int) (t:Addr) (w:Int×Int) (h1:vs=[.int aj,.ref t]) (h2:H t=some (.tup [.int w.1,.int w.2])) (h3:(0<=w.1/\w.1<aj/\0<=w.2/\w.2<aj/\w.1≠w.2)) (h4:Q (.bl true) H)
def ahJ:=nE agP
inductive alI (vs:aA) (H:Hp) (Q:VK):Prop
 |mk (aj:Int) (l:Addr) (ws:aP) (h1:vs=[.int aj,.ref l]) (h2:m5 H l ws) (h3:1<=aj) (h4:aj<=8) (h5:bJ aj ws) (h6:ws.length<=40) (h7:∀ H',aB H H'->Q (.bl true) H')
def acM:=nE alI
inductive alJ (vs:aA) (H:Hp) (Q:VK):Prop
 |mk (aj:Int) (l:Addr) (ws:aP) (h1:vs=[.int aj,.ref l]) (h2:m5 H l ws) (h3:1<=aj) (h4:aj<=8) (h5:bJ aj ws) (h6:ws.length<=40) (h7:∀ (v:V) (H':Hp),aB H H'->eX H' v aj ws->Q v H')
def acN:=nE alJ
def alK (ws:aP):∀ c:aF,Aa aj.toNat c->bJ aj ws->bC c ws=qY c ws:=by
 induction ws with
 |nil=>intro c _ _;rfl
 |cons w r d =>intro c g ok;obtain ⟨e,a⟩:=anF g (ok w (.head _));have:=d (cM c w) a λu b=>ok u (.tail _ b);unfold bC qY at *;rw [jG,jG,<-e];exact this
end
section
def dw.down {k:Nat} (F:dw P w K mg au (lU P w) k f fd ps sp) (h:∀ vs H Q E,sp vs H Q E->sp vs H Q λ_ _ _=>False):dw P w K mg au jL k f fd ps sp:=⟨F.len,λA outer s H a us vs Q E hr d c r i=>su (F.run A outer s H a us vs Q (λ_ _ _=>False) hr d c r (h _ _ _ _ i)) λb s' q=>by
  cases b with
  |ok g=>cases g with
   |ret u=>exact q
   |next=>exact q
   |brk=>exact q
   |cont=>exact q
  |error e =>obtain ⟨_,_,_,_,_,_,_,_,_,_,_,_,_,z⟩:=q;exact z.elim⟩
end
section
open PySem.SeqAt
end
section
open PySem.Spec PyProof.Rows
end
section
open PySem.SeqAt
def rF (c:aF) (us ws:aP):bC c (us++ws)=bC (bC c us) ws:=by unfold bC;rw [yW]
def alL {a:Int} (hl:c.length=a.toNat) {w:Int×Int} (h:zT a w):cM (c++d) w=cM c w++d:=by
 obtain ⟨h1,h2,e,i,h5⟩:=h;have g:∀ x:Nat,x<c.length->(c++d).getD x 0=c.getD x 0:=λx b=>by simp only [getD];rw [qI b]
 unfold cM fJ;rw [g _ (by lk),g _ (by lk),ab0 _ _ (by lk),ab0 _ _ (by rw [fV];lk)]
def ajl {a:Int} (h0:0<=a) (hl:c.length=a.toNat) {w:Int×Int} (h1:0<=w.1) (h3:0<=w.2):cM (c++d) (kW a w)=c++cM d w:=by
 have g:∀ x:Nat,(c++d).getD (c.length+x) 0=d.getD x 0:=λx=>by simp only [getD];rw [xV (by lk)];simp
 have e:(w.1+a).toNat=c.length+w.1.toNat:=by lk
 have b:(w.2+a).toNat=c.length+w.2.toNat:=by lk
 unfold cM fJ kW;simp only [];rw [e,b,g,g,ab1 _ _ (by lk),ab1 _ _ (by lk)];simp
def aaR {a:Int} (us:aP):∀ c:aF,c.length=a.toNat->bJ a us->bC (c++d) us=bC c us++d:=by
 induction us with
 |nil=>intro c _ _;rfl
 |cons w r i =>intro c b ok;have e:=alL (d:=d) b (ok w (.head _));have:=i (cM c w) (by unfold cM;rw [fV,fV];exact b) λu g=>ok u (.tail _ g);unfold bC at *;rw [jG,jG,e];exact this
def aai {a b:Int} (h0:0<=a) (hl:c.length=a.toNat) (ws:aP):∀ d:aF,bJ b ws->bC (c++d) (ws.map (kW a))=c++bC d ws:=by
 induction ws with
 |nil=>intro d _;rfl
 |cons w r i =>intro d ok;have o:=ok w (.head _);have e:=ajl (d:=d) h0 hl o.1 o.2.2.1;have:=i (cM d w) λu g=>ok u (.tail _ g);unfold bC at *;rw [gj,jG,jG,e];exact this
def ZG {a b:Int} (h0:0<=a) (hc:c.length=a.toNat) {us:aP} (ok1:bJ a us) (ok2:bJ b ws) : bC (c++d) (us++ws.map (kW a))=bC c us++bC d ws/\bC (c++d) (ws.map (kW a)++us)=bC c us++bC d ws:=by
 constructor
 ·rw [rF,aaR us c hc ok1,aai h0 (by rw [jE];exact hc) ws d ok2]
 ·rw [rF,aai h0 hc ws d ok2,aaR us c hc ok1]
def aqt (c:aF):m9 (m9 c)=c:=by
 unfold m9;rw [<-List.map_reverse,xq,List.reverse_reverse]
 conv=>rhs;rw [<-List.map_id c]
 exact xu λx _=>by simp
def alM (h:iG c):iG (m9 c):=λi j b a=>by rw [zB] at a;rw [Bo (by lk),Bo a];have:=h (c.length-1-j) (c.length-1-i) (by lk) (by lk);lk
def aaS (ok:bJ aj ws) (h:∀ c:aF,c.length=aj.toNat->iG (bC c ws)):∀ c:aF,c.length=aj.toNat->iG (bC c (ws.map (jJ aj))):=λc a=>by have e:=alo ws (m9 c) (by rw [zB];exact a) ok;rw [aqt] at e;rw [e];exact alM (h _ (by rw [zB];exact a))
structure aeD (K:bG) (mg:dR) (a:Dy):Prop where
 FP:excIn K a.d_ Ai "ValueError.__new__"=true
 Qq:excIn K a.many Ai "ValueError.__new__"=true
 EY:mg "NoNet"=some (.ref a.d_)
 Iw:mg "TooMany"=some (.ref a.many)
def afN (ok:bJ aj ws):(∀ c:aF,c.length=aj.toNat->iG (bC c (ws.map (jJ aj))))↔∀ c:aF,c.length=aj.toNat->iG (bC c ws):=by
 constructor
 ·intro h;have:=aaS (Sq ok) h;rw [ant] at this;exact this
 ·exact aaS ok
inductive anG (vs:aA) (H:Hp) (Q:VK):Prop
 |mk (aj n:Int) (h1:vs=[.int aj,.int n]) (h2:1<=aj) (h3:aj<=8) (h4:∀ (l:Addr) (rs:aA) (H':Hp),H l=none->aB H H'->H' l=some (.lst rs)->fG H H' l rs ((range aj.toNat).map λi:Nat=>vX aj.toNat i n)->Q (.ref l) H')
def apo:=nE anG
inductive afO (vs:aA) (H:Hp) (Q:VK):Prop
 |mk (v1 v2:V) (aj:Int) (us ws:aP) (l:Addr) (rs:aA) (M:List aF) (h1:vs=[v1,v2,.ref l]) (h2:eX H v1 aj us) (h3:eX H v2 aj ws) (h4:1<=aj) (h5:aj<=8) (h6:bJ aj us) (h7:bJ aj ws) (h8:us.length<=100) (h9:ws.length<=100) (h10:H l=some (.lst rs)) (h11:Rows H rs M) (h12:(∀ r∈M,r.length=aj.toNat)) (h13:(∀ H',aB H H'->(∀ r∈M,bC r us=bC r ws)->Q .non H')) (h14:∀ (i:Nat) (t:Addr) (r:aF) (H':Hp),aB H H'->rs[i]?=some (.ref t)->M[i]?=some r->H' t=some (.lst (r.map V.int))->bC r us≠bC r ws->Q (.ref t) H')
def agb:=nE afO
end
section
open PySem.Spec PyProof.Rows
end
section
open PySem.SeqAt
end
section
open PySem.Spec PyProof.Rows
section
inductive agQ (K:bG) (xs:aA) (H:Hp) (Q:VK):Prop
 |mk (a:_) (tp:_) (ys:_) (cs:_) (ts:_) (b:_) (h1:xs=[.ref a,.ref tp]) (h2:((H a=some (.lst ys)/\kitAny K (.type "list") ts=some b)\/(H a=some (.tup ys)/\kitAny K (.type "tuple") ts=some b))) (h3:H tp=some (.tup cs)) (h4:GK cs=some ts) (h5:Q (.bl b) H)
def ajm:jz X (.builtin "isinstance") (agQ X.K):=by
 rintro ak s σ H xs us Q I r ⟨a,p,ys,cs,ts,b,rfl,c,l,m,q⟩;rcases c with ⟨c,e⟩|⟨c,e⟩
 ·exact ajk ak s σ H _ us Q I r ⟨a,p,ys,cs,ts,b,rfl,c,l,m,e,q⟩
 ·obtain ⟨u,v,rfl,t,k⟩:=r.two;cases t;cases k;obtain ⟨j,_,B,_⟩:=I.tuple (aZ (K:=X.K) c);obtain ⟨J,i,d,_⟩:=(show s.heap.IsTuple a j.toArray from B);obtain ⟨aJ,k,pl,_⟩:=I.tuple (aZ (K:=X.K) l);obtain ⟨o,y,g,n,C⟩:=(show s.heap.IsTuple p aJ.toArray from pl);cases QH m k;cases o with
  |mk oc od D osl =>cases g;cases C;exact PySem.W.kia_tup PySem.W.kitx_tuple I.gq ⟨_,i,d⟩ y e (λz=>nomatch z) λx=>⟨.bl b,H,I.tok x,rfl,q⟩
def acO:G4 X .FloorDiv (rI Ux λi j=>.int (i / j)):=akH
end
end
section
open PySem.SeqAt
def pw (k:Nat):Int:=((2 ^ k:Nat):Int)
def FQ (k:Nat):pw (k+1)=2*pw k:=by unfold pw;rw [Nat.pow_succ];lk
def vL (k:Nat):1<=pw k:=by have:0<2 ^ k:=Rz (by decide);unfold pw;lk
def zX {k:Nat} (h:k<=3):pw k<=8:=by
 have:k=0\/k=1\/k=2\/k=3:=by lk
 rcases this with z|z|z|z<;>subst z<;>decide
def jd (aj:Int):aP:=(range (aj / 2).toNat).map λk:Nat=>((k:Int),aj-1-(k:Int))
def iY:Nat->aP
 |0=>[]
 |k+1=>jd (pw (k+1))++(iY k++(iY k).map (kW (pw k)))
def qb (k:Nat):aP:=(replicate k (iY k)).flatten
def acP {k:Nat} (h:k<=3):(iY k).length<=12:=by
 have:k=0\/k=1\/k=2\/k=3:=by lk
 rcases this with z|z|z|z<;>subst z<;>decide
def acQ {k:Nat} (h:k<=3):bJ (pw k) (qb k)/\(qb k).length<=40:=by
 have:k=0\/k=1\/k=2\/k=3:=by lk
 rcases this with z|z|z|z<;>subst z<;>exact ⟨CZ (by decide),by decide⟩
inductive uH (H:Hp):V->Prop
 |bl (b:Bool):uH H (.bl b)
 |non:uH H .non
 |str (s:Str):uH H (.str s)
 |lst {a:Addr} {xs:aA} (h:H a=some (.lst xs)):uH H (.ref a)
 |tup {a:Addr} {xs:aA} (h:H a=some (.tup xs)):uH H (.ref a)
 |dct {a:Addr} {aY:dU} (h:H a=some (.dK aY)):uH H (.ref a)
def vM (i:Int):Prop:=i=1\/i=2\/i=4\/i=8
instance (i:Int):Decidable (vM i):=inferInstanceAs (Decidable (i=1\/i=2\/i=4\/i=8))
structure ad8 (K:bG) (mg:dR):Prop where
 ex:∃ (a:Addr),mg "HALVED_WIDES"=some (.ref a)/\∀ H:Hp,gG K H a [.int 1,.int 2,.int 4,.int 8]
inductive ajn (vs:aA) (H:Hp) (Q:VK):Prop
 |mk (x:_) (h1:vs=[x]) (h2:((∃ i,x=.int i/\Q (.bl true) H)\/(uH H x/\Q (.bl false) H)))
def abr:=nE ajn
def alN (vs:aA) (H:Hp) (Q:VK) (E:XK) (h:aaG vs H Q E):abr vs H Q E:=by obtain ⟨i,rfl,q⟩:=h;exact ⟨_,rfl,.inl ⟨i,rfl,q⟩⟩
def M9 (H:Hp) (l:Addr) (ws:aP):Prop:=∃ rs,(H l=some (.lst rs)\/H l=some (.tup rs))/\dM H rs ws
inductive alO (vs:aA) (H:Hp) (Q:VK):Prop
 |mk (aj:Int) (l:Addr) (ws:aP) (h1:vs=[.int aj,.ref l]) (h2:M9 H l ws) (h3:bJ aj ws) (h4:ws.length<=40) (h5:∀ H',aB H H'->Q (.bl true) H')
def anH:=nE alO
inductive ajo (vs:aA) (H:Hp) (Q:VK):Prop
 |mk (aj:Int) (l:Addr) (ws:aP) (h1:vs=[.int aj,.ref l]) (h2:M9 H l ws) (h3:1<=aj) (h4:aj<=8) (h5:bJ aj ws) (h6:ws.length<=40) (h7:∀ H',aB H H'->Q (.bl true) H')
def abt:=nE ajo
def makes_of (vs:aA) (H:Hp) (Q:VK) (E:XK) (h:acM vs H Q E):abt vs H Q E:=by obtain ⟨aj,l,ws,rfl,⟨rs,b,hr⟩,d,c,e,a,g⟩:=h;exact ⟨aj,l,ws,rfl,⟨rs,.inl b,hr⟩,d,c,e,a,g⟩
inductive ajp (an:Addr) (vs:aA) (H:Hp) (Q:VK) (E:XK):Prop
 |mk (x:_) (h1:vs=[x]) (h2:((∃ i,x=.int i/\vM i/\Q .non H)\/((uH H x\/∃ i,x=.int i/\¬ vM i)/\E (.ref an) none H)))
def alP (an:Addr):Sp:=λvs H Q E=>ajp an vs H Q E
inductive ajq (vs:aA) (H:Hp) (Q:VK):Prop
 |mk (l:Addr) (ws:aP) (k:Int) (h1:vs=[.ref l,.int k]) (h2:m5 H l ws) (h3:ws.length<=100) (h4:∀ (a:Addr) (H':Hp),H a=none->aB H H'->m5 H' a (ws++ws.map (kW k))->Q (.ref a) H')
def abu:=nE ajq
inductive ajr (vs:aA) (H:Hp) (Q:VK):Prop
 |mk (aj:Int) (h1:vs=[.int aj]) (h2:1<=aj) (h3:aj<=8) (h4:∀ (a:Addr) (H':Hp),H a=none->aB H H'->m5 H' a (jd aj)->Q (.ref a) H')
def alQ:=nE ajr
inductive apq (n:Nat) (vs:aA) (H:Hp) (Q:VK):Prop
 |mk (k:Nat) (h1:vs=[.int (pw k)]) (h2:k<n) (h3:k<=3) (h4:∀ (a:Addr) (H':Hp),H a=none->aB H H'->m5 H' a (iY k)->Q (.ref a) H')
def Gx (n:Nat):=nE (apq n)
def Qs (an:Addr):Sp:=λvs H Q E=>(∃ (k:Nat),vs=[.int (pw k)]/\k<=3/\∀ (v:V) (H':Hp),aB H H'->eX H' v (pw k) (qb k)->Q v H')\/(∃ x,vs=[x]/\(uH H x\/∃ i,x=.int i/\¬ vM i)/\E (.ref an) none H)
inductive ahK (vs:aA) (H:Hp) (Q:VK):Prop
 |mk (k:Nat) (h1:vs=[.int (pw k)]) (h2:k<=3) (h3:∀ (v:V) (H':Hp),aB H H'->eX H' v (pw k) (qb k)->Q v H')
def ajs:=nE ahK
def asy {an:Addr} (vs:aA) (H:Hp) (Q:VK) (E:XK) (h:ajs vs H Q E):Qs an vs H Q E:=by obtain ⟨k,e,l,q⟩:=h;exact .inl ⟨k,e,l,q⟩
end
section
open PySem.Spec PyProof.Rows
section
end
end
section
open PySem.SeqAt
inductive anI (vs:aA) (H:Hp) (Q:VK):Prop
 |mk (aj:Int) (l:Addr) (ws:aP) (h1:vs=[.int aj,.ref l]) (h2:M9 H l ws) (h3:1<=aj) (h4:aj<=8) (h5:bJ aj ws) (h6:ws.length<=40) (h7:∀ (v:V) (H':Hp),aB H H'->eX H' v aj ws->Q v H')
def TJ:=nE anI
end
section
open PySem.Spec PyProof.Rows
structure Dh (P:Program) (w:World) (K:bG) (mg:dR) (au:Heap) (C:Addr) (m:Str) (k:Nat) (ps:bK) (sp:Sp):Prop where
 ex:∃ (f:Addr) (fd:FuncData),dw P w K mg au (lU P w) k f fd ps sp/\mK K fd ps []/\CW K C m f
def vY.aqu {q:Str} {st:Stmt} {k:Nat} (h:vY K mg C x q st f fd) (F:dw P w K mg au (lU P w) k f fd ps sp) (hb:∀ (kV doc pm:Value) (an:jy) (cdv ct:Value) (us:bV),us.length=ps.length->bindArgs (fnOf x q (kJ st) (jO st) (gJ st) .none kV doc pm an cdv ct) ⟨us,[]⟩=pure (ps.zip us)):Dh P w K mg au C x k ps sp:=⟨f,fd,F,h.fn.binds hb,h.mt⟩
end
section
open PySem.SeqAt
end
variable {aY:List (List eF×V)}
section
open PySem.Spec PyProof.Rows
section
variable {κ:Type} [DecidableEq κ]
def dh (aY:List (κ×V)) (k:κ):Option V:=(aY.find? λa=>decide (a.1=k)).map (·.2)
def cD (aY:List (κ×V)) (k:κ) (v:V):List (κ×V) :=
 if (aY.any λa=>decide (a.1=k))=true then aY.map (λa=>if a.1=k then (a.1,v) else a) else aY++[(k,v)]
def rG {p:κ×V} {r:List (κ×V)} {k:κ} (e:p.1=k):dh (p::r) k=some p.2:=by simp [dh,xG,e]
def rH {p:κ×V} {r:List (κ×V)} {k:κ} (e:¬ p.1=k):dh (p::r) k=dh r k:=by simp [dh,xG,e]
def E_ (k:κ):∀ aY:List (κ×V),(aY.any λkv=>decide (kv.1=k))=(dh aY k).isSome
 |[]=>rfl
 |p::r=>by
  rw [yN];by_cases e:p.1=k
  ·simp only [rG e,fO e,Bool.true_or,Option.isSome_some]
  ·rw [rH e,lJ e,Bool.false_or];exact E_ k r
def abv (k j:κ) (y:V):∀ aY:List (κ×V),dh (aY.map λkv=>if kv.1=k then (kv.1,y) else kv) j=(dh aY j).map λx=>if j=k then y else x
 |[]=>rfl
 |p::r=>by
  have a:=abv k j y r;rw [gj];by_cases h:p.1=k
  ·rw [aQ h];by_cases e:p.1=j
   ·rw [rG (p:=(p.1,y)) e,rG e,BJ,aQ (e.symm.trans h)]
   ·rw [rH (p:=(p.1,y)) e,rH e,a]
  ·rw [aK h];by_cases e:p.1=j
   ·rw [rG (p:=p) e,rG e,BJ,aK (λz=>h (e.trans z))]
   ·rw [rH (p:=p) e,rH e,a]
def aaT (k j:κ) (y:V):∀ aY:List (κ×V),dh aY k=none->dh (aY++[(k,y)]) j=if j=k then some y else dh aY j
 |[],_=>by
  by_cases e:k=j
  ·rw [aQ e.symm];exact rG (p:=(k,y)) e
  ·rw [aK (λz=>e z.symm)];exact rH (p:=(k,y)) e
 |p::r,hn=>by
  rw [RB];have a:¬ p.1=k:=λz=>by rw [rG z] at hn;cases hn
  rw [rH a] at hn;have b:=aaT k j y r hn;by_cases e:p.1=j
  ·rw [rG e,rG e,aK (λz=>a (e.trans z))]
  ·rw [rH e,rH e,b]
def rJ (aY:List (κ×V)) (k j:κ) (y:V):dh (cD aY k y) j=if j=k then some y else dh aY j:=by
 unfold cD;by_cases a:(aY.any λb=>decide (b.1=k))=true
 ·rw [aQ a,abv];rw [E_] at a;by_cases e:j=k
  ·obtain ⟨x,c⟩:=adn.mp a;rw [aQ e,e,c,BJ,aQ rfl]
  ·rw [aK e];cases dh aY j with
   |none=>rfl
   |some x=>rw [BJ,aK e]
 ·rw [aK a];refine aaT k j y aY ?_;rw [E_] at a;cases q:dh aY k with
  |none=>rfl
  |some x=>rw [q] at a;exact (a rfl).elim
def ZJ (aY:List (κ×V)) (k:κ) (v:V):(cD aY k v).length<=aY.length+1:=by
 unfold cD;split
 ·rw [bh];lk
 ·rw [dJ,gA,List.length_nil];lk
def mW.Qt {o:Option V} {u:sG} (r:mW o u):o.isSome=u.isSome:=by
 cases o with
 |none=>cases u with
  |none=>rfl
  |some _=>exact (show False from r).elim
 |some _=>cases u with
  |none=>exact (show False from r).elim
  |some _=>rfl
def KV.val {aY:List (κ×V)} {vs:List (κ×Value)} (r:KV aY vs) (k:κ):mW (dh aY k) (valueAt vs k):=by
 unfold KV at r;induction r with
 |nil=>exact rY
 |@cons p q ps c h t d =>
  obtain ⟨h1,h2⟩:=h;by_cases e:p.1=k
  ·have a:q.1=k:=h1.symm.trans e;have b:valueAt (q::c) k=some q.2:=by simp [valueAt,xG,a]
   rw [rG e,b];exact h2
  ·have a:¬ q.1=k:=λz=>e (h1.trans z);have b:valueAt (q::c) k=valueAt c k:=by simp [valueAt,xG,a]
   rw [rH e,b];exact d
def KV.any {aY:List (κ×V)} {vs:List (κ×Value)} (r:KV aY vs) (k:κ):(aY.any λkv=>decide (kv.1=k))=vs.any λkv=>decide (kv.1=k):=by
 unfold KV at r;induction r with
 |nil=>rfl
 |cons h t a=>rw [yN,yN,a,h.1]
def KV.repl {aY:List (κ×V)} {vs:List (κ×Value)} (r:KV aY vs) (k:κ) (ry:cA y u) : KV (aY.map λkv=>if kv.1=k then (kv.1,y) else kv) (vs.map λkv=>if kv.1=k then (kv.1,u) else kv):=by
 unfold KV at r ⊢;induction r with
 |nil=>exact .nil
 |@cons p q ps b h t a =>
  rw [gj,gj];refine .cons ?_ a;obtain ⟨h1,h2⟩:=h;by_cases e:p.1=k
  ·rw [aQ e,aQ (h1.symm.trans e)];exact ⟨h1,ry⟩
  ·rw [aK e,aK (λz=>e (h1.trans z))];exact ⟨h1,h2⟩
def KV.put {aY:List (κ×V)} {vs:List (κ×Value)} (r:KV aY vs) (k:κ) (ry:cA y u):KV (cD aY k y) (stored vs k u):=by
 unfold cD stored;rw [r.any k];by_cases e:(vs.any λa=>decide (a.1=k))=true
 ·rw [aQ e,aQ e];exact r.repl k ry
 ·rw [aK e,aK e];exact Paired.snoc r ⟨rfl,ry⟩
def KV.length {aY:List (κ×V)} {vs:List (κ×Value)} (r:KV aY vs):aY.length=vs.length:=o7 r
end
def Di {k:eF} (r:cA (kV k) u):(kE P w).is k u=true:=by
 cases k with
 |inl i=>obtain ⟨t,e⟩:=(show ∃ t,u=Value.int i t from r);subst e;exact agy P w i t
 |inr x=>obtain ⟨t,e⟩:=(show ∃ t,u=Value.str x t from r);subst e;exact O6 P w x t
def aaU:∀ {ks:List eF} {us:bV},bO (ks.map kV) us->ItemsAre (kE P w) ks us
 |[],_,r=>by rw [zO] at r;cases r;exact .nil
 |k::ks,_,r=>by
  rw [gj] at r;cases r with
  |cons h t=>exact .cons (Di h) (aaU t)
abbrev pC (H:Hp):List (List eF×V)->List (List eF×Addr×Value)->Prop:=Paired λp q=>p.1=q.1/\H q.2.1=some (.tup (p.1.map kV))/\cA p.2 q.2.2
def pC.val {xs:List (List eF×Addr×Value)} (r:pC H aY xs) (k:List eF):mW (dh aY k) ((atKey xs k).map (·.2)):=by
 induction r with
 |nil=>exact rY
 |@cons p q ps c h t d =>
  obtain ⟨h1,_,h2⟩:=h;by_cases e:p.1=k
  ·have a:q.1=k:=h1.symm.trans e;have b:atKey (q::c) k=some q.2:=by simp [atKey,xG,a]
   rw [rG e,b];exact h2
  ·have a:¬ q.1=k:=λz=>e (h1.trans z);have b:atKey (q::c) k=atKey c k:=by simp [atKey,xG,a]
   rw [rH e,b];exact d
def pC.repl {xs:List (List eF×Addr×Value)} (r:pC H aY xs) (k:List eF) (ry:cA y u) : pC H (aY.map λkv=>if kv.1=k then (kv.1,y) else kv) (xs.map (putAt k u)):=by
 induction r with
 |nil=>exact .nil
 |@cons p q ps c h t a =>
  rw [gj,gj];refine .cons ?_ a;obtain ⟨h1,h2,b⟩:=h;unfold putAt;by_cases e:p.1=k
  ·rw [aQ e,aQ (h1.symm.trans e)];exact ⟨h1,h2,ry⟩
  ·rw [aK e,aK (λz=>e (h1.trans z))];exact ⟨h1,h2,b⟩
def pC.put {xs:List (List eF×Addr×Value)} (r:pC H aY xs) (k:List eF) (hb:H b=some (.tup (k.map kV))) (ry:cA y u) : pC H (cD aY k y) (storedH xs k b u):=by
 have e:(aY.any λa=>decide (a.1=k))=(atKey xs k).isSome:=by rw [E_,(r.val k).Qt,Option.isSome_map]
 unfold cD storedH;rw [e];by_cases q:(atKey xs k).isSome=true
 ·rw [aQ q,aQ q];exact r.repl k ry
 ·rw [aK q,aK q];exact Paired.snoc r ⟨rfl,hb,ry⟩
def pC.keeps {xs:List (List eF×Addr×Value)} (r:pC H aY xs) (ht:∀ b ys,H b=some (.tup ys)->H' b=some (.tup ys)):pC H' aY xs:=vO r λ_ _ z=>⟨z.1,ht _ _ z.2.1,z.2.2⟩
section
def ad9 {u:HO} (ok:gP P w H h) (e:Rd H a u):dZ P w H h a u:=e.ok ok
def Lk {aY:dU} (ok:gP P w H h) (e:Rd H a (.dK aY)):aY.length<=sizeLine/\(a == sysModules)=false/\∃ vs,KV aY vs/\h.DictOf (kE P w) a vs :=
 show dZ P w H h a (.dK aY) from ad9 ok e
def aqv {aY:dU} (ok:gP P w H h) (e:H a=some (.dK aY)):aY.length<=sizeLine/\(a == sysModules)=false/\∃ vs,KV aY vs/\h.DictOf (kE P w) a vs:=Lk ok (.inl e)
def K9 {ks:List eF} (ok:gP P w H h) (e:H a=some (.tup (ks.map kV))):(tupleKind (kE P w)).is h ks a:=by obtain ⟨_,aJ,r,o,h1,h2,n,b,_⟩:=(show dZ P w H h a (.tup (ks.map kV)) from ok a _ e);exact ⟨o,aJ.toArray,n,h1,h2,b,by simpa using aaU r⟩
def Ln (ok:gP P w H h) (e:Rd H a (.dT aY)):aY.length<=sizeLine/\(a == sysModules)=false /\∃ xs,pC H aY xs/\h.DictOfH (tupleKind (kE P w)) a xs:=by
 obtain ⟨z,y,xs,r,o,es,j,h1,h2,d,g,h5⟩:=(show dZ P w H h a (.dT aY) from ad9 ok e);refine ⟨z,y,xs,r,o,es,j,h1,h2,d,g,λx b=>?_,h5⟩;have all:∀ {l:List (List eF×V)} {m:List (List eF×Addr×Value)},pC H l m->∀ x∈m,(tupleKind (kE P w)).is h x.1 x.2.1:=by
  intro l m q;induction q with
  |nil=>intro x b;exact nomatch b
  |@cons p q ps k c t i =>
   intro x b;rcases fX.mp b with e|b
   ·subst e;exact K9 ok (by rw [<-c.1];exact c.2.1)
   ·exact i x b
 exact all r x b
def aqw (ok:gP P w H h) (e:H a=some (.dT aY)):aY.length<=sizeLine/\(a == sysModules)=false /\∃ xs,pC H aY xs/\h.DictOfH (tupleKind (kE P w)) a xs:=Ln ok (.inl e)
end
def qZ (H:Hp) (a:Addr) (y:V) (r:Option V):Prop :=
 (∃ aY k,Rd H a (.dK aY)/\y=kV k/\r=dh aY k)\/∃ aY k b,Rd H a (.dT aY)/\y=.ref b/\H b=some (.tup (k.map kV))/\r=dh aY k
def uJ (H:Hp) (a:Addr) (y v:V) (H':Hp):Prop :=
 (∃ aY k,H a=some (.dK aY)/\y=kV k/\aY.length<sizeLine/\H'=upd H a (.dK (cD aY k v))) \/
 ∃ aY k b,H a=some (.dT aY)/\y=.ref b/\H b=some (.tup (k.map kV))/\aY.length<sizeLine/\H'=upd H a (.dT (cD aY k v))
def qZ.k {aY:dU} {k:eF} (e:H a=some (.dK aY)):qZ H a (kV k) (dh aY k):=.inl ⟨aY,k,.inl e,rfl,rfl⟩
def uJ.k {aY:dU} {k:eF} (e:H a=some (.dK aY)) (hl:aY.length<sizeLine):uJ H a (kV k) v (upd H a (.dK (cD aY k v))):=.inl ⟨aY,k,e,rfl,hl,rfl⟩
section
variable {r:Value} {o:Option V}
def aD.big (I:aD X ak σ H s):sysModules<s.heap.objs.size:=by have h:mainGlobals<s.heap.objs.size:=(I.mod.glob.keeps I.bk).lt;exact Nat.lt_trans (by decide) h
def ajt (hu:A.units+1<cLine) (I:aD X ak σ H s) (g:qZ H a y (some v)) (ry:cA y u) (h:∀ w' s',aD X ak σ H s'->cA v w'->Q w' s') : wpAny (model X.prog X.w) A (getItem (.ref a) u) Q E s:=by
 rcases g with ⟨aY,k,e,i,l⟩|⟨aY,k,b,e,i,t,l⟩
 ·subst i;obtain ⟨z,r,vs,c,m⟩:=Lk I.hok e;obtain ⟨w',n,j⟩:=mW.some_of (v:=v) (o:=valueAt vs k) (by rw [l];exact c.val k);exact wpAny_getItem_of (Di ry) m.mapOf n (h w' _ (I.tok _) j)
 ·subst i;cases (show u=Value.ref b from ry);obtain ⟨z,r,xs,c,m⟩:=Ln I.hok e;obtain ⟨w',n,j⟩:=mW.some_of (v:=v) (o:=(atKey xs k).map (·.2)) (by rw [l];exact c.val k);obtain ⟨p,q,d⟩:=ab2.mp n;refine wpAny_getItem_heap (RD hu) (K9 I.hok t) m q ?_;rw [d];exact h w' _ (I.tok _) j
def anJ (hu:A.units+1<cLine) (I:aD X ak σ H s) (g:qZ H a y o) (ry:cA y u) (h:∀ s',aD X ak σ H s'->Q (.bool (!o.isSome)) s') : wpAny (model X.prog X.w) A (compareOp .NotIn u (.ref a)) Q E s:=by
 rcases g with ⟨aY,k,e,i,l⟩|⟨aY,k,b,e,i,m,l⟩
 ·subst i;obtain ⟨z,j,vs,c,d⟩:=Lk I.hok e;refine wpAny_notIn_of (Di ry) j d.mapOf ?_;rw [<-(c.val k).Qt,<-l];exact h _ (I.tok _)
 ·subst i;cases (show u=Value.ref b from ry);obtain ⟨z,j,xs,c,d⟩:=Ln I.hok e;refine wpAny_notIn_heap (RD hu) (K9 I.hok m) j d ?_;have q:=(c.val k).Qt;rw [Option.isSome_map] at q;rw [<-q,<-l];exact h _ (I.tok _)
def acR {ob:HO} (I:aD X ak σ H s) (mu:GX (H a)) (hs:SameBut a s.heap h') (he:∃ q,h'.get? a=some q) (new:dZ X.prog X.w (upd H a ob) h' a ob) : aD X ak σ (upd H a ob) { s with heap:=h',toks:=t' }:=I.write (x:=a) (e:=a) mu (.inl rfl) (λb q c z=>(hs.2 b c).trans z) he new
def apr {aY:dU} {vs:iT} (z:aY.length<=sizeLine) (hd:(a == sysModules)=false) (rel:KV aY vs) (dd:h'.DictOf (kE P w) a vs) : dZ P w H' h' a (.dK aY):=⟨z,hd,vs,rel,dd⟩
def aju {Q:CT} (hu:A.units+1<cLine) (I:aD X ak σ H s) (g:uJ H a y v H') (ry:cA y u) (rv:cA v r) (h:∀ s',aD X ak σ H' s'->Q () s') : wpAny (model X.prog X.w) A (setItem (.ref a) u r) Q E s:=by
 rcases g with ⟨aY,k,e,m,l,n⟩|⟨aY,k,b,e,m,C,l,n⟩
 ·subst m n;obtain ⟨z,t,vs,d,x⟩:=aqv I.hok e;have B:vs.length<=sizeLine:=by rw [<-d.length];exact z
  have o:(cD aY k v).length<=sizeLine:=by have:=ZJ aY k v;lk
  refine wpAny_setItem_pairs (hsz:=B) (Di ry) x λh' i p=>h _ ?_;have L:∃ q,h'.get? a=some q:=let ⟨q,_,_,j,_⟩:=i;⟨q,j⟩;exact acR I (by rw [e];exact rY) p L (apr o t (d.put k rv) i)
 ·subst m n;cases (show u=Value.ref b from ry);obtain ⟨z,t,xs,d,x⟩:=aqw I.hok e;have B:xs.length<=sizeLine:=by rw [<-o7 d];exact z
  have o:(cD aY k v).length<=sizeLine:=by have:=ZJ aY k v;lk
  refine wpAny_setItem_heap (hsz:=B) (RD hu) (K9 I.hok C) x λh' i p=>h _ ?_;obtain ⟨q,es,N,j,h2,J,M,_,h5⟩:=i;refine acR I (by rw [e];exact rY) p ⟨q,j⟩ ⟨o,t,_,(d.put k C rv).keeps λc ys D=>?_,q,es,N,j,h2,J,M,h5⟩;rw [aV (kY D e (λz=>nomatch z))];exact D
end
def UW (i:Expr):Prop:=∀ b a,subscripted i false b a=operate [b,a] (getItem b a)
def acS {value slice:Expr} {id:String} (hl:typeLookup (.type T) "__getitem__"=pure (some (.builtin id))) (hs:UW slice) (h:wpAny (model prog w) A (eval value env) (λo s₁=>wpAny (model prog w) A (eval slice env) (λi s₂=>s₂.TypeIs o T/\wpAny (model prog w) A (getItem o i) Q E s₂) E s₁) E s) : wpAny (model prog w) A (eval (.Subscript value slice pos) env) Q E s:=by
 refine Subscript_ (lE h (λo s₁ g=>lE g (λi s₂ b=>?_) λ_ _ x=>x) λ_ _ x=>x);obtain ⟨c,b⟩:=b;unfold subscriptTail;refine bf ?_;rw [getitemInPython_of_ne c.not_modules];refine bf (wpAny_specialOf c hl ?_);have a:wpAny (model prog w) A (subscripted slice false o i) (λr d=>wpAny (model prog w) A (letTemporaryGo value o r >>= λ_=>pure r) Q E d) E s₂:=by rw [hs o i];exact wpAny_operating (lE b (λr d e=>bf (wpAny_letTemporaryGo (cY e))) λ_ _ x=>x)
 first
  |exact cY (bf a)
  |exact bf (cY (bf a))
  |exact bf a
def agR {o:Option V} (I:aD X ak σ H s) (g:qZ H a y o):s.TypeIs (.ref a) "dict":=by
 rcases g with ⟨aY,k,e,_,_⟩|⟨aY,k,b,e,_,_,_⟩
 ·obtain ⟨_,_,vs,_,c⟩:=Lk I.hok e;exact c.typeIs
 ·obtain ⟨_,_,xs,_,c⟩:=Ln I.hok e;exact c.typeIs
def aqx (td ty:TE):TE:=λσ H Q=>td σ H λx H1=>ty σ H1 λy H2=>∃ a v,x=.ref a/\qZ H2 a y (some v)/\Q v H2
def anK (ty td:TE):TE:=λσ H Q=>ty σ H λy H1=>td σ H1 λx H2=>∃ a o,x=.ref a/\qZ H2 a y o/\Q (.bl (!o.isSome)) H2
def aqy (td ty tv:TE):TS:=λD σ H=>tv σ H λv H1=>td σ H1 λx H2=>ty σ H2 λy c=>∃ a b,x=.ref a/\uJ c a y v b/\D.nx σ b
section
variable {o i value:Expr} {tpos:Pos} {td ty tv:TE}
def acT (hu:X.A.units+1<cLine) (ho:PE X o td) (hi:PE X i ty) (hs:UW i):PE X (.Subscript o i pos) (aqx td ty):=by intro ak s σ H Q I h;refine acS ab3.lookup hs (bA (ho ak s σ H _ I h) λu l ⟨x,H1,e,c,d⟩=>bA (hi ak l σ H1 _ e d) λp t ⟨y,H2,b,j,a,v,ex,g,m⟩=>?_);subst ex;obtain rfl:u=Value.ref a:=c;exact ⟨agR b g,ajt hu b g j λr q n k=>⟨v,H2,n,k,m⟩⟩
def aaV (hu:X.A.units+1<cLine) (hi:PE X i ty) (ho:PE X o td):PC X .NotIn i o (anK ty td):=by intro ak s σ H Q I h;refine bA (hi ak s σ H _ I h) λp k ⟨y,H1,e,j,d⟩=>bA (ho ak k σ H1 _ e d) λu r ⟨x,H2,b,c,a,m,ex,g,l⟩=>?_;subst ex;obtain rfl:u=Value.ref a:=c;exact anJ hu b g j λq n=>⟨.bl (!m.isSome),H2,n,rfl,l⟩
def Kz (hu:X.A.units+1<cLine) (ho:PE X o td) (hi:PE X i ty) (hv:PE X value tv) (hs:swapsWith value (some (.Subscript o i pos')) pos.line X.env=pure false) : PS X (.Assign [.Subscript o i pos'] value pos) (aqy td ty tv):=by intro ak s σ H D I h;refine wpAny_Assign_Subscript (bA (hv ak s σ H _ I h) λr n ⟨v,H1,e,t,d⟩=>bA (ho ak n σ H1 _ e d) λu m ⟨x,H2,b,c,p⟩=>bA (hi ak m σ H2 _ b p) λB C ⟨y,J,q,k,a,j,ex,g,z⟩=>?_) hs;subst ex;obtain rfl:u=Value.ref a:=c;exact aju hu q g k t λL l=>⟨σ,j,l,z⟩
end
def alR (h:Heap) (hb:sysModules<h.objs.size):dZ P w H (h.push { cls:=.type "dict",data:=.dict #[] }) h.objs.size (.dK []):=⟨fQ _,Df.mpr (bF (fP hb)),[],.nil,Heap.DictOf.new h⟩
def aps:TE:=λ_ H Q=>∀ p,H p=none->Q (.ref p) (upd H p (.dK []))
section
def Jo:PE X (.Dict [] [] pos) aps:=λak s σ H Q I h =>
 wpAny_Dict_empty ⟨.ref s.heap.objs.size,_,I.laid (a:=s.heap.objs.size) (o:=.dK []) (t':=s.toks) (λ_ _ q=>dF _ q) (bI _) (alR s.heap I.big),rfl,h _ (I.hok.fresh (bI _))⟩
end
end
variable {q:Int}
section
open PySem.SeqAt
def gQ (q:Int) (c:aF):aF:=c.map λx=>x+q
def Gh (q:Int) (c:aF):(gQ q c).length=c.length:=by simp [gQ]
def KC {x:Nat} (h:x<c.length):(gQ q c).getD x 0=c.getD x 0+q:=by simp [gQ,getD,h]
def apt (hl:c.length=aj.toNat) {w:Int×Int} (h:zT aj w):cM (gQ q c) w=gQ q (cM c w):=by
 obtain ⟨e,k,j,g,i⟩:=h;have b:fJ (gQ q c) w=fJ c w+2*q:=by unfold fJ;rw [KC (by lk),KC (by lk)];lk
 unfold cM;rw [b];have a:(fJ c w+2*q+1) / 2=(fJ c w+1) / 2+q:=by lk
 have d:(fJ c w+2*q) / 2=fJ c w / 2+q:=by lk
 rw [a,d];unfold gQ;rw [Fj,Fj]
def KH (ws:aP):∀ c:aF,c.length=aj.toNat->bJ aj ws->bC (gQ q c) ws=gQ q (bC c ws):=by
 induction ws with
 |nil=>intro c _ _;rfl
 |cons w r d =>intro c a ok;have e:=apt (q:=q) a (ok w (.head _));have:=d (cM c w) (by unfold cM;rw [fV,fV];exact a) λu b=>ok u (.tail _ b);unfold bC at *;rw [jG,jG,e];exact this
def Jp (h:iG c):iG (gQ q c):=λi j a b=>by rw [Gh] at b;rw [KC (by lk),KC b];have:=h i j a b;lk
def aqz:∀ c:aF,c.length=8->∃ c0 c1 c2 c3 c4 c5 c6 c7,c=[c0,c1,c2,c3,c4,c5,c6,c7]
 |[c0,c1,c2,c3,c4,c5,c6,c7],_=>⟨c0,c1,c2,c3,c4,c5,c6,c7,rfl⟩
def Uh:∀ c:aF,c.length=4->∃ c0 c1 c2 c3,c=[c0,c1,c2,c3]
 |[c0,c1,c2,c3],_=>⟨c0,c1,c2,c3,rfl⟩
def Ui:∀ c:aF,c.length=2->∃ c0 c1,c=[c0,c1]
 |[c0,c1],_=>⟨c0,c1,rfl⟩
def Nb (a b c d:Int):aF:=[(a+1) / 2,a / 2,(b+1) / 2,b / 2,(c+1) / 2,c / 2,(d+1) / 2,d / 2]
def Lp (a b:Int):aF:=[(a+1) / 2,a / 2,(b+1) / 2,b / 2]
def Vw (c0 c1 c2 c3 c4 c5 c6 c7:Int):cM [c0,c1,c2,c3,c4,c5,c6,c7] (0,7)=[(c0+c7+1) / 2,c1,c2,c3,c4,c5,c6,(c0+c7) / 2]:=rfl
def Vx (c0 c1 c2 c3 c4 c5 c6 c7:Int):cM [c0,c1,c2,c3,c4,c5,c6,c7] (1,6)=[c0,(c1+c6+1) / 2,c2,c3,c4,c5,(c1+c6) / 2,c7]:=rfl
def Vy (c0 c1 c2 c3 c4 c5 c6 c7:Int):cM [c0,c1,c2,c3,c4,c5,c6,c7] (2,5)=[c0,c1,(c2+c5+1) / 2,c3,c4,(c2+c5) / 2,c6,c7]:=rfl
def Vz (c0 c1 c2 c3 c4 c5 c6 c7:Int):cM [c0,c1,c2,c3,c4,c5,c6,c7] (3,4)=[c0,c1,c2,(c3+c4+1) / 2,(c3+c4) / 2,c5,c6,c7]:=rfl
def t03 (c0 c1 c2 c3 c4 c5 c6 c7:Int):cM [c0,c1,c2,c3,c4,c5,c6,c7] (0,3)=[(c0+c3+1) / 2,c1,c2,(c0+c3) / 2,c4,c5,c6,c7]:=rfl
def t12 (c0 c1 c2 c3 c4 c5 c6 c7:Int):cM [c0,c1,c2,c3,c4,c5,c6,c7] (1,2)=[c0,(c1+c2+1) / 2,(c1+c2) / 2,c3,c4,c5,c6,c7]:=rfl
def t01 (c0 c1 c2 c3 c4 c5 c6 c7:Int):cM [c0,c1,c2,c3,c4,c5,c6,c7] (0,1)=[(c0+c1+1) / 2,(c0+c1) / 2,c2,c3,c4,c5,c6,c7]:=rfl
def t23 (c0 c1 c2 c3 c4 c5 c6 c7:Int):cM [c0,c1,c2,c3,c4,c5,c6,c7] (2,3)=[c0,c1,(c2+c3+1) / 2,(c2+c3) / 2,c4,c5,c6,c7]:=rfl
def t47 (c0 c1 c2 c3 c4 c5 c6 c7:Int):cM [c0,c1,c2,c3,c4,c5,c6,c7] (4,7)=[c0,c1,c2,c3,(c4+c7+1) / 2,c5,c6,(c4+c7) / 2]:=rfl
def t56 (c0 c1 c2 c3 c4 c5 c6 c7:Int):cM [c0,c1,c2,c3,c4,c5,c6,c7] (5,6)=[c0,c1,c2,c3,c4,(c5+c6+1) / 2,(c5+c6) / 2,c7]:=rfl
def t45 (c0 c1 c2 c3 c4 c5 c6 c7:Int):cM [c0,c1,c2,c3,c4,c5,c6,c7] (4,5)=[c0,c1,c2,c3,(c4+c5+1) / 2,(c4+c5) / 2,c6,c7]:=rfl
def t67 (c0 c1 c2 c3 c4 c5 c6 c7:Int):cM [c0,c1,c2,c3,c4,c5,c6,c7] (6,7)=[c0,c1,c2,c3,c4,c5,(c6+c7+1) / 2,(c6+c7) / 2]:=rfl
def VB (c0 c1 c2 c3:Int):cM [c0,c1,c2,c3] (0,3)=[(c0+c3+1) / 2,c1,c2,(c0+c3) / 2]:=rfl
def VD (c0 c1 c2 c3:Int):cM [c0,c1,c2,c3] (1,2)=[c0,(c1+c2+1) / 2,(c1+c2) / 2,c3]:=rfl
def u01 (c0 c1 c2 c3:Int):cM [c0,c1,c2,c3] (0,1)=[(c0+c1+1) / 2,(c0+c1) / 2,c2,c3]:=rfl
def u23 (c0 c1 c2 c3:Int):cM [c0,c1,c2,c3] (2,3)=[c0,c1,(c2+c3+1) / 2,(c2+c3) / 2]:=rfl
def eb8:iY 3=[(0,7),(1,6),(2,5),(3,4),(0,3),(1,2),(0,1),(2,3),(4,7),(5,6),(4,5),(6,7)]:=by decide
def eb4:iY 2=[(0,3),(1,2),(0,1),(2,3)]:=by decide
def arC (c0 c1 c2 c3 c4 c5 c6 c7:Int):∃ q a b c d:Int,0<=a/\a<=5/\0<=b/\b<=5/\0<=c/\c<=5/\0<=d/\d<=5/\bC [c0,c1,c2,c3,c4,c5,c6,c7] (iY 3)=gQ q (Nb a b c d):=by
 have e:bC [c0,c1,c2,c3,c4,c5,c6,c7] (iY 3)=Nb ((((c0+c7+1) / 2+(c3+c4+1) / 2+1) / 2)+(((c1+c6+1) / 2+(c2+c5+1) / 2+1) / 2)) ((((c1+c6+1) / 2+(c2+c5+1) / 2) / 2)+(((c0+c7+1) / 2+(c3+c4+1) / 2) / 2)) (((((c3+c4) / 2+(c0+c7) / 2)+1) / 2)+((((c2+c5) / 2+(c1+c6) / 2)+1) / 2)) ((((c2+c5) / 2+(c1+c6) / 2) / 2)+(((c3+c4) / 2+(c0+c7) / 2) / 2)):=by rw [eb8];simp only [bC,jG,J2];rw [Vw,Vx,Vy,Vz,t03,t12,t01,t23,t47,t56,t45,t67];rfl
 rw [e];have i:∀ t:Int,0<=(t+1) / 2-t / 2/\(t+1) / 2-t / 2<=1:=λt=>by lk
 have two:∀ x y:Int,0<=x-y->x-y<=2->0<=x / 2-y / 2/\(x+1) / 2-y / 2<=2/\0<=(y+1) / 2-y / 2/\(y+1) / 2-y / 2<=1/\0<=(x+1) / 2-x / 2:=λx y h1 h2=>by lk
 have B:=i (c0+c7);have h1:=i (c1+c6);have h2:=i (c2+c5);have I:=i (c3+c4);clear e i;generalize (c0+c7+1) / 2=a0 at *;generalize (c0+c7) / 2=p at *;generalize (c1+c6+1) / 2=n at *;generalize (c1+c6) / 2=o at *;generalize (c2+c5+1) / 2=z at *;generalize (c2+c5) / 2=m at *;generalize (c3+c4+1) / 2=u at *;generalize (c3+c4) / 2=r at *;have S:=two (a0+u) (r+p) (by lk) (by lk);have R:=two (n+z) (m+o) (by lk) (by lk);clear two B h1 h2 I;generalize (a0+u+1) / 2=J at *;generalize (a0+u) / 2=N at *;generalize (r+p+1) / 2=C at *;generalize (r+p) / 2=j at *;generalize (n+z+1) / 2=O at *;generalize (n+z) / 2=M at *;generalize (m+o+1) / 2=D at *;generalize (m+o) / 2=l at *;have au:∀ v:Int,0<=v-2*(v / 2)/\v-2*(v / 2)<=1:=λv=>by lk
 have L:=au (l+j);have g:∀ x k:Int,(x-2*k+1) / 2+k=(x+1) / 2/\(x-2*k) / 2+k=x / 2:=λx k=>by lk
 refine ⟨(l+j) / 2,J+O-2*((l+j) / 2),M+N-2*((l+j) / 2),C+D-2*((l+j) / 2),l+j-2*((l+j) / 2),?_⟩;generalize (l+j) / 2=k at L ⊢;refine ⟨by lk, by lk, by lk, by lk, by lk, by lk, by lk, by lk, ?_⟩;unfold gQ Nb;simp only [gj,zO];rw [(g _ k).1,(g _ k).2,(g _ k).1,(g _ k).2,(g _ k).1,(g _ k).2,(g _ k).1,(g _ k).2]
def arD (c0 c1 c2 c3:Int):∃ q a b:Int,0<=a/\a<=5/\0<=b/\b<=5/\bC [c0,c1,c2,c3] (iY 2)=gQ q (Lp a b):=by
 have e:bC [c0,c1,c2,c3] (iY 2)=Lp ((c0+c3+1) / 2+(c1+c2+1) / 2) ((c1+c2) / 2+(c0+c3) / 2):=by rw [eb4];simp only [bC,jG,J2];rw [VB,VD,u01,u23];rfl
 rw [e];have c:∀ t:Int,0<=(t+1) / 2-t / 2/\(t+1) / 2-t / 2<=1:=λt=>by lk
 have m:=c (c0+c3);have h1:=c (c1+c2);clear e c;generalize (c0+c3+1) / 2=a0 at *;generalize (c0+c3) / 2=g at *;generalize (c1+c2+1) / 2=j at *;generalize (c1+c2) / 2=i at *;have au:∀ v:Int,0<=v-2*(v / 2)/\v-2*(v / 2)<=1:=λv=>by lk
 have l:=au (i+g);have d:∀ x k:Int,(x-2*k+1) / 2+k=(x+1) / 2/\(x-2*k) / 2+k=x / 2:=λx k=>by lk
 refine ⟨(i+g) / 2,a0+j-2*((i+g) / 2),i+g-2*((i+g) / 2),?_⟩;generalize (i+g) / 2=k at l ⊢;refine ⟨by lk, by lk, by lk, by lk, ?_⟩;unfold gQ Lp;simp only [gj,zO];rw [(d _ k).1,(d _ k).2,(d _ k).1,(d _ k).2]
def Hj (c:aF):Bool:=decide (dN c.length c.sum=c)
def Jc (pos:0<c.length) (h:Hj c=true):iG c:=(aaP pos).mpr (jH h)
def arE:∀ a b:Fin 6,Hj (bC (Lp a.val b.val) (iY 2))=true:=by k_go
def arF (a b c d:Fin 6):Hj (bC (Nb a.val b.val c.val d.val) (iY 3++iY 3))=true:=by
 revert c d;obtain ⟨a,g⟩:=a;obtain ⟨b,i⟩:=b;have ea:a=0\/a=1\/a=2\/a=3\/a=4\/a=5:=by lk
 have e:b=0\/b=1\/b=2\/b=3\/b=4\/b=5:=by lk
 dsimp only;clear g i;rcases ea with z|z|z|z|z|z<;>subst z<;>rcases e with z|z|z|z|z|z<;>subst z<;>k_go
def Cr {x:Int} (h0:0<=x) (h5:x<=5):∃ f:Fin 6,x=(f.val:Int):=⟨⟨x.toNat,by lk⟩,by show x=((x.toNat:Nat):Int);lk⟩
def wb8:bJ 8 (iY 3):=CZ (by decide)
def wb4:bJ 4 (iY 2):=CZ (by decide)
def Zq {k:Nat} (h1:1<=k) (h3:k<=3) (hl:c.length=(pw k).toNat):iG (bC c (qb k)):=by
 have D:k=1\/k=2\/k=3:=by lk
 rcases D with z|z|z<;>subst z
 ·obtain ⟨g,i,rfl⟩:=Ui c hl;have e:bC [g,i] (qb 1)=[(g+i+1) / 2,(g+i) / 2]:=rfl;rw [e];refine (aaP (c:=[(g+i+1) / 2,(g+i) / 2]) (RG _)).mpr ?_;show dN 2 ([(g+i+1) / 2,(g+i) / 2].sum)=_;unfold dN;simp only [qC,List.sum_nil,range,range.loop,gj,zO,List.cons.injEq,and_true];constructor<;>lk
 ·obtain ⟨g,i,j,r,rfl⟩:=Uh c hl;have e:qb 2=iY 2++iY 2:=by decide
  obtain ⟨q,a,b,a0,m,p,o,z⟩:=arD g i j r;obtain ⟨n,rfl⟩:=Cr a0 m;obtain ⟨l,rfl⟩:=Cr p o;rw [e,rF,z,KH (aj:=4) _ _ rfl wb4];exact Jp (Jc (by rw [jE];exact RG _) (arE n l))
 ·obtain ⟨g,i,j,r,J,B,I,v,rfl⟩:=aqz c hl;have e:qb 3=iY 3++(iY 3++iY 3):=by decide
  obtain ⟨q,a,b,c,d,a0,m,p,o,t,x,u,y,z⟩:=arC g i j r J B I v;obtain ⟨n,rfl⟩:=Cr a0 m;obtain ⟨l,rfl⟩:=Cr p o;obtain ⟨C,rfl⟩:=Cr t x;obtain ⟨fd,rfl⟩:=Cr u y;rw [e,rF,z,KH (aj:=8) _ _ rfl (wb8.app wb8)];exact Jp (Jc (by rw [jE];exact RG _) (arF n l C fd))
def GP (aj gap:Int):aP:=((range aj.toNat).filter λk:Nat=>decide ((k:Int) / gap % 2=0)).map λk:Nat=>((k:Int),(k:Int)+gap)
def mV:Nat->Int->aP
 |0,_=>[]
 |j+1,aj=>GP aj (pw j)++mV j aj
def iK:Nat->aP
 |0=>[]
 |k+1=>(iK k++(iK k).map (kW (pw k)))++jd (pw (k+1))++mV k (pw (k+1))
def fold_all {k:Nat} (h:k<=3):bJ (pw k) (iK k)/\(iK k).length<=24:=by
 have:k=0\/k=1\/k=2\/k=3:=by lk
 rcases this with z|z|z|z<;>subst z<;>exact ⟨CZ (by decide),by decide⟩
def Ir (hn:0<n) (p r:Int):dN n ((n:Int)*p+r)=gQ p (dN n r):=by
 unfold dN gQ;rw [xq];refine xu λi _=>?_;show -(((0:Int)+(i:Int)-((n:Int)*p+r)) / (n:Int))=-(((0:Int)+(i:Int)-r) / (n:Int))+p;have e:(0:Int)+(i:Int)-((n:Int)*p+r)=(0+(i:Int)-r)+(n:Int)*(-p):=by rw [BR];lk
 rw [e,zj _ _ (by lk)];lk
def ac8 {c0 c1 c2 c3 c4 c5 c6 c7 e0 e1 e2 e3 e4 e5 e6 e7:Int} (h0:c0+c7=e0+e7) (h1:c1+c6=e1+e6) (h2:c2+c5=e2+e5) (h3:c3+c4=e3+e4) : bC [c0,c1,c2,c3,c4,c5,c6,c7] (jd 8)=bC [e0,e1,e2,e3,e4,e5,e6,e7] (jd 8):=by
 have e:jd 8=[(0,7),(1,6),(2,5),(3,4)]:=by decide
 rw [e];simp only [bC,jG,J2];rw [Vw,Vx,Vy,Vz,Vw,Vx,Vy,Vz,h0,h1,h2,h3]
def ac4 {c0 c1 c2 c3 e0 e1 e2 e3:Int} (h0:c0+c3=e0+e3) (h1:c1+c2=e1+e2) : bC [c0,c1,c2,c3] (jd 4)=bC [e0,e1,e2,e3] (jd 4):=by
 have e:jd 4=[(0,3),(1,2)]:=by decide
 rw [e];simp only [bC,jG,J2];rw [VB,VD,VB,VD,h0,h1]
def aqA:∀ (r t:Fin 4) (e:Fin 2),Hj (bC (gQ (e.val:Int) (dN 4 (r.val:Int))++dN 4 (t.val:Int)) (jd 8++mV 2 8))=true:=by k_go
def aqB:∀ (r t:Fin 2) (e:Fin 2),Hj (bC (gQ (e.val:Int) (dN 2 (r.val:Int))++dN 2 (t.val:Int)) (jd 4++mV 1 4))=true:=by k_go
def C_ {x:Int} (h0:0<=x) (h5:x<n):∃ f:Fin n,x=(f.val:Int):=⟨⟨x.toNat,by lk⟩,by show x=((x.toNat:Nat):Int);lk⟩
def Nf (q a b c d:Int):gQ q [a,b,c,d]=[a+q,b+q,c+q,d+q]:=rfl
def Ng (q a b:Int):gQ q [a,b]=[a+q,b+q]:=rfl
def adH (q:Int) (a b:aF):gQ q (a++b)=gQ q a++gQ q b:=cX
def ad_ (p q:Int) (a:aF):gQ p (gQ q a)=gQ (q+p) a:=by unfold gQ;rw [xq];exact xu λx _=>by show x+q+p=x+(q+p);lk
def wa8:bJ 8 (jd 8++mV 2 8):=CZ (by decide)
def wa4:bJ 4 (jd 4++mV 1 4):=CZ (by decide)
def aqC (lc:c.length=4) (ld:d.length=4) (hc:iG c) (hd:iG d):iG (bC (c++d) (jd 8++mV 2 8)):=by
 have a:=Bq hc (by lk);have b:=Bq hd (by lk);rw [lc] at a;rw [ld] at b;obtain ⟨r,B⟩:=C_ (n:=4) (x:=c.sum % 4) (by lk) (by lk);obtain ⟨t,m⟩:=C_ (n:=4) (x:=d.sum % 4) (by lk) (by lk);obtain ⟨e,i⟩:=C_ (n:=2) (x:=(c.sum / 4+d.sum / 4) % 2) (by lk) (by lk);have j:c.sum=((4:Nat):Int)*(c.sum / 4)+(r.val:Int):=by lk
 have k:d.sum=((4:Nat):Int)*(d.sum / 4)+(t.val:Int):=by lk
 rw [j,Ir (by decide)] at a;rw [k,Ir (by decide)] at b;generalize c.sum / 4=p at a i;generalize d.sum / 4=q at b i;have g:bC (c++d) (jd 8)=bC (gQ ((p+q) / 2) (gQ (e.val:Int) (dN 4 (r.val:Int))++dN 4 (t.val:Int))) (jd 8):=by rw [adH,ad_,<-a,<-b];obtain ⟨a0,u,D,C,ea⟩:=Uh (dN 4 (r.val:Int)) (by unfold dN;simp);obtain ⟨y,v,o,z,l⟩:=Uh (dN 4 (t.val:Int)) (by unfold dN;simp);rw [ea,l,Nf,Nf,Nf,Nf];refine ac8 ?_ ?_ ?_ ?_<;>lk
 rw [rF,g,<-rF,KH (aj:=8) _ _ (by rw [dJ,Gh];unfold dN;simp) wa8];exact Jp (Jc (by rw [jE,dJ,Gh];unfold dN;simp) (aqA r t e))
def aqD (lc:c.length=2) (ld:d.length=2) (hc:iG c) (hd:iG d):iG (bC (c++d) (jd 4++mV 1 4)):=by
 have a:=Bq hc (by lk);have b:=Bq hd (by lk);rw [lc] at a;rw [ld] at b;obtain ⟨r,y⟩:=C_ (n:=2) (x:=c.sum % 2) (by lk) (by lk);obtain ⟨t,m⟩:=C_ (n:=2) (x:=d.sum % 2) (by lk) (by lk);obtain ⟨e,i⟩:=C_ (n:=2) (x:=(c.sum / 2+d.sum / 2) % 2) (by lk) (by lk);have j:c.sum=((2:Nat):Int)*(c.sum / 2)+(r.val:Int):=by lk
 have k:d.sum=((2:Nat):Int)*(d.sum / 2)+(t.val:Int):=by lk
 rw [j,Ir (by decide)] at a;rw [k,Ir (by decide)] at b;generalize c.sum / 2=p at a i;generalize d.sum / 2=q at b i;have g:bC (c++d) (jd 4)=bC (gQ ((p+q) / 2) (gQ (e.val:Int) (dN 2 (r.val:Int))++dN 2 (t.val:Int))) (jd 4):=by rw [adH,ad_,<-a,<-b];obtain ⟨a0,o,ea⟩:=Ui (dN 2 (r.val:Int)) (by unfold dN;simp);obtain ⟨v,u,l⟩:=Ui (dN 2 (t.val:Int)) (by unfold dN;simp);rw [ea,l,Ng,Ng,Ng,Ng];refine ac4 ?_ ?_<;>lk
 rw [rF,g,<-rF,KH (aj:=4) _ _ (by rw [dJ,Gh];unfold dN;simp) wa4];exact Jp (Jc (by rw [jE,dJ,Gh];unfold dN;simp) (aqB r t e))
def Pb (hl:c.length=2):iG (bC c (iK 1)):=by
 have e:iK 1=qb 1:=by decide
 rw [e];exact Zq (k:=1) (by decide) (by decide) hl
def Pg (hl:c.length=4):iG (bC c (iK 2)):=by
 have e:iK 2=(iK 1++(iK 1).map (kW 2))++(jd 4++mV 1 4):=by decide
 rw [e,rF,<-ab4 2 c,(ZG (a:=2) (b:=2) (by decide) (by simp;lk) (fold_all (k:=1) (by decide)).1 (fold_all (k:=1) (by decide)).1).1];exact aqD (by rw [jE];simp;lk) (by rw [jE];simp;lk) (Pb (by simp;lk)) (Pb (by simp;lk))
def agS (hl:c.length=8):iG (bC c (iK 3)):=by
 have e:iK 3=(iK 2++(iK 2).map (kW 4))++(jd 8++mV 2 8):=by decide
 rw [e,rF,<-ab4 4 c,(ZG (a:=4) (b:=4) (by decide) (by simp;lk) (fold_all (k:=2) (by decide)).1 (fold_all (k:=2) (by decide)).1).1];exact aqC (by rw [jE];simp;lk) (by rw [jE];simp;lk) (Pg (by simp;lk)) (Pg (by simp;lk))
def ahL {k:Nat} (h1:1<=k) (h3:k<=3) (hl:c.length=(pw k).toNat):iG (bC c (iK k)):=by
 have a:k=1\/k=2\/k=3:=by lk
 rcases a with z|z|z<;>subst z
 ·exact Pb hl
 ·exact Pg hl
 ·exact agS hl
def jh (aj:Int) (ws:aP):Prop:=∀ c:aF,c.length=aj.toNat->iG (bC c ws)
def jh.ahead {us:aP} (h:jh aj ws):jh aj (us++ws):=λc a=>by rw [rF];exact h _ (by rw [jE];exact a)
def jh.come (h:jh aj ws) (ok:bJ aj ws) (w1:1<=aj) (hl:c.length=aj.toNat):bC c ws=dN aj.toNat c.sum:=by have e:=Bq (h c hl) (by rw [jE];lk);rw [jE,aiT ws c ok hl,hl] at e;exact e.symm
end
section
open PySem.Spec PyProof.Rows
section
open AutoSeq1 (wpAny_loadPart')
section
def agT {Q:bV->Shared->Prop} {r:Addr} {a b c:Int} {t u v:Tok} (hh:A.handled=none) (hr:IsRange s.heap r a b c t u v) (hsmall:Builtin.Range.small a b c=true) (hn:rangeSize a b c=n) (gD:n<=2 ^ 24) (hQ:∀ h' tk bU,(∀ b o',s.heap.get? b=some o'->h'.get? b=some o')->ItemsOf (λi v=>∃ t,v=.int (a+i*c) t) bU n->Q bU.toList { s with heap:=h',toks:=tk }) : wpAny (model prog w) A (collect (.ref r)) Q E s:=by
 unfold collect;refine bf (wpAny_runValue (w5 F.entry_proto_collect ?_));rw [yQ F.plain_proto_collect _];show wpAny _ A.in1 (newList [] >>= λl=>again (.builtin "list.__iadd__" ⟨[l,.ref r],[]⟩)) _ _ s;refine bf (yP (cY ⟨BL F.plain_list_iadd _,w5 F.entry_list_iadd ?_⟩));rw [yQ F.plain_list_iadd _];show wpAny _ A.in1 (Builtin.List.listExtendWith (.ref s.heap.objs.size) (.ref r) (.ref s.heap.objs.size)) _ _ _;have q:(s.heap.push { cls:=.type "list",data:=.seq ([]:bV).toArray }).get? s.heap.objs.size=some { cls:=.type "list",data:=.seq #[] 0 }:=fU _ rfl;have g:∀ (h':Heap) (tk:Nat) (bU:h_) (d:Nat),(∀ b o',s.heap.get? b=some o'->h'.get? b=some o')->h'.get? s.heap.objs.size=some { cls:=.type "list",dict:=none,data:=.seq bU d,slots:=#[] }->ItemsOf (λi v=>∃ t,v=.int (a+i*c) t) bU n ->wpAny (model prog w) A (match Value.ref s.heap.objs.size with
   |Value.ref a=>do
    match (<-load a).data with
     |Data.seq xs _=>pure xs.toList
     |_=>unsupported "internal:collect"
   |_=>unsupported "internal:collect") Q E { s with heap:=h',toks:=tk }:=λh' tk bU d j o hi=>by
  show wpAny _ A (load s.heap.objs.size >>= _) _ _ _;exact bf (wpAny_load o (cY (hQ h' tk bU j hi)))
 refine lE (wpAny_extend_range (A:=A) (R:=λr s'=>∃ (h':Heap) (tk:Nat) (bU:h_) (d:Nat),r=.ok (.ret (.ref s.heap.objs.size))/\s'={ s with heap:=h',toks:=tk }/\(∀ b o',s.heap.get? b=some o'->h'.get? b=some o')/\h'.get? s.heap.objs.size=some { cls:=.type "list",dict:=none,data:=.seq bU d,slots:=#[] }/\ItemsOf (λi v=>∃ t,v=.int (a+i*c) t) bU n) (s:={ s with heap:=s.heap.push { cls:=.type "list",data:=.seq ([]:bV).toArray } }) hh (dF _ hr) hsmall hn gD s.heap.objs.size (.ref s.heap.objs.size) _ q λh' tk m d j p k=>?_) (λx s' h=>?_) (λe s' h=>?_)
 ·exact ⟨h',tk,m,d,rfl,rfl,λb o' e=>j b o' (fP (cF e)) (dF _ e),p,k⟩
 ·cases x with
  |done f =>obtain ⟨h',tk,bU,d,e,rfl,j,o,hi⟩:=h;cases e;exact g h' tk bU d j o hi
  |again d=>exact ⟨h.1,su h.2 λr y hr=>by obtain ⟨h',tk,bU,d,rfl,rfl,j,o,hi⟩:=hr;exact g h' tk bU d j o hi⟩
 ·obtain ⟨_,_,_,_,e,_⟩:=h;cases e
end
def ae7 (r:Addr) {a b c:Int} {t u v:Tok} (hsmall:Builtin.Range.small a b c=true) (hn:rangeSize a b c=n) (gD:n<=100000) : Meets (Builtin.«tuple.__new__» ⟨[.type "tuple",.ref r],[]⟩) (λA R s=>A.handled=none/\IsRange s.heap r a b c t u v/\∀ (h':Heap) (tk:Nat) (bU:h_),(∀ b o',s.heap.get? b=some o'->h'.get? b=some o')->ItemsOf (λi v=>∃ t,v=.int (a+i*c) t) bU n ->R (.ok (.ret (.ref h'.objs.size))) { s with heap:=h'.push { cls:=.type "tuple",data:=.seq bU },toks:=tk }):=.of_wp λprog w A R s h=>by
  obtain ⟨z,g,d,tk,C⟩:=s;obtain ⟨q,k,h⟩:=h;have o:=sub_tuple_self;have m:=init_tuple_lookup;have x:=madeHere_tuple;have p:Shared.TypeIs ⟨z,g,d,tk,C⟩ (.ref r) "range":=⟨_,k,rfl⟩;have l:A.in1.handled=none:=q
  wp_walk using CQ k,wpAny_typeOf p,agT (A:=A.in1) l k hsmall hn (by lk)
  intro h' j bU y hi;have B:bU.size=n:=hi.1;show wpAny _ _ (tupleExact bU.toList.toArray >>= λv=>ret v) _ _ _;unfold tupleExact;refine bf (yP ?_ (by show bU.toList.toArray.size<=sizeLine;rw [JX,B];exact aW (by lk)));refine cY ⟨_,rfl,?_⟩;have e:bU.toList.toArray=bU:=by simp
  rw [e];exact h h' j bU y hi
section
def afw {r:Addr} {a b c:Int} {t u v:Tok} (hh:A.handled=none) (hr:IsRange s.heap r a b c t u v) (hsmall:Builtin.Range.small a b c=true) (hn:rangeSize a b c=n) (gD:n<=100000) (h:∀ (h':Heap) (tk:Nat) (bU:h_),(∀ b o',s.heap.get? b=some o'->h'.get? b=some o')->ItemsOf (λi v=>∃ t,v=.int (a+i*c) t) bU n->Q (.ref h'.objs.size) { s with heap:=h'.push { cls:=.type "tuple",data:=.seq bU },toks:=tk }) : wpAny (model prog w) A (call (.type "tuple") [.ref r]) Q E s:=callType_new F.called_tuple (by decide) (F.typeCall_tuple_1 _) (F.newCall_tuple_1 _) (λd=>F.args_object_init_2 d _) F.entry_tuple_new (ae7 r hsmall hn gD) ⟨hh,hr,λh' tk bU e hi=>⟨⟨_,fU _ rfl,rfl⟩,h h' tk bU e hi⟩⟩
end
inductive afP (K:bG) (xs:aA) (H:Hp) (Q:VK):Prop
 |mk (r:Addr) (i j:Int) (h1:xs=[.ref r]) (h2:H r=some (.rng i j)) (h3:-(2 ^ 62)<=i) (h4:i<2 ^ 62) (h5:-(2 ^ 62)<=j) (h6:j<2 ^ 62) (h7:(j-i).toNat<=50000) (h8:∀ l,H l=none->Q (.ref l) (upd H l (.tup ((mz i j).map V.int))))
def ZK (hc:X.calm=true):jz X (.type "tuple") (afP X.K):=by
 rintro ak s σ H xs us Q I r ⟨p,i,j,rfl,C,i1,i2,D,L,N,q⟩;obtain ⟨u,rfl,y⟩:=qG r;cases y;obtain ⟨t,O,v,e⟩:=(show dZ X.prog X.w H s.heap p (.rng i j) from I.hok p _ C);have J:rangeSize i j 1=((j-i).toNat:Nat):=by rw [rangeSize_one];split<;>lk
 refine afw (I.ok.hd hc) e (small_one i1 i2 D L) J (by lk) λh' d c B ⟨M,x⟩=>?_;have a:bO ((mz i j).map V.int) c.toList:=by
  have z:=Qn i c.toList 0 λk v e=>by obtain ⟨t,n⟩:=x k v (by simpa using e);exact ⟨t,by rw [n,S9,oM]⟩
  have g:c.toList.length=(j-i).toNat:=by rw [xQ,M]
  rw [g,<-abW] at z;unfold mz;rw [xq];exact z
 have l:aD X ak σ H { s with heap:=h',toks:=d }:=I.kept (t':=d) B;have m:aD X ak σ (upd H h'.objs.size (.tup ((mz i j).map V.int))) { s with heap:=h'.push { cls:=.type "tuple",data:=.seq c },toks:=d }:=l.laid (t':=d) (λb o e=>dF _ e) (bI _) (show dZ X.prog X.w _ _ _ (.tup ((mz i j).map V.int)) from ⟨by simp only [mz,bh,BX];exact aW (by lk),c.toList,a,by rw [JX];exact oU.new _ _⟩);exact ⟨.ref h'.objs.size,_,m,rfl,q _ (l.hok.fresh (bI _))⟩
end
end
section
open PySem.SeqAt
inductive yj (H:Hp):Nat->V->Prop
 |one {a:Addr} (h:H a=some (.tup [.str "one"])):yj H 0 (.ref a)
 |VF {k:Nat} {a t1 t2:Addr} {x y:V} (h:H a=some (.tup [.str "halves",.int ((iK k++(iK k).map (kW (pw k))).length:Int),.ref t1,.ref t2,x,y])) (h1:H t1=some (.tup ((mz 0 (pw k)).map V.int))) (h2:H t2=some (.tup ((mz (pw k) (pw (k+1))).map V.int)))
   (hx:yj H k x) (hy:yj H k y):yj H (k+1) (.ref a)
def yj.same (s:aB H H'):∀ {k:Nat} {x:V},yj H k x->yj H' k x:=by
 intro k x h;induction h with
 |one h=>exact .one (s _ _ h)
 |VF h h1 h2 _ _ b a=>exact .VF (s _ _ h) (s _ _ h1) (s _ _ h2) b a
inductive anL (vs:aA) (H:Hp) (Q:VK):Prop
 |mk (k:Nat) (h1:vs=[.int (pw (k+1))]) (h2:k<=2) (h3:∀ (a:Addr) (H':Hp),H a=none->aB H H'->m5 H' a (mV k (pw (k+1)))->Q (.ref a) H')
def apu:=nE anL
inductive ahM (vs:aA) (H:Hp) (Q:VK):Prop
 |mk (l:Addr) (ws:aP) (k:Int) (h1:vs=[.ref l,.int k]) (h2:M9 H l ws) (h3:ws.length<=100) (h4:∀ (a:Addr) (H':Hp),H a=none->aB H H'->m5 H' a (ws++ws.map (kW k))->Q (.ref a) H')
def aaW:=nE ahM
def alS (vs:aA) (H:Hp) (Q:VK) (E:XK) (h:abu vs H Q E):aaW vs H Q E:=by obtain ⟨l,ws,k,e,⟨rs,a,hr⟩,len,q⟩:=h;exact ⟨l,ws,k,e,⟨rs,.inl a,hr⟩,len,q⟩
def acU (vs:aA) (H:Hp) (Q:VK) (E:XK) (h:acN vs H Q E):TJ vs H Q E:=by obtain ⟨aj,l,ws,rfl,⟨rs,a,hr⟩,c,b,ok,len,q⟩:=h;exact ⟨aj,l,ws,rfl,⟨rs,.inl a,hr⟩,c,b,ok,len,q⟩
inductive abw (n:Nat) (vs:aA) (H:Hp) (Q:VK):Prop
 |mk (k:Nat) (h1:vs=[.int (pw k)]) (h2:k<n) (h3:k<=3) (h4:∀ (T:Addr) (v pv:V) (H':Hp),H T=none->aB H H'->H' T=some (.tup [v,pv])->eX H' v (pw k) (iK k)->yj H' k pv->Q (.ref T) H')
def u6 (an:Addr) (n:Nat):Sp:=λvs H Q E=>abw n vs H Q\/(0<n/\∃ x,vs=[x]/\(uH H x\/∃ i,x=.int i/\¬ vM i)/\E (.ref an) none H)
def ajv:Sp:=λvs H Q _=>abw 4 vs H Q
def asz {an:Addr} (vs:aA) (H:Hp) (Q:VK) (E:XK) (h:ajv vs H Q E):u6 an 4 vs H Q E:=.inl h
def acV:jh 1 []:=λc a i j b d=>by
 rw [aiP] at d ⊢;have g:c.length=1:=a;have e:i=0:=by lk
 have k:j=0:=by lk
 subst e;subst k;lk
def alT {k:Nat} (h3:k<=3):jh (pw k) (iK k):=by
 cases k with
 |zero=>exact acV
 |succ k=>exact λc a=>ahL (by lk) h3 a
def anM {k:Nat} (h3:k<=3):jh (pw k) (qb k):=by
 cases k with
 |zero=>exact acV
 |succ k=>exact λc a=>Zq (by lk) h3 a
def uU {p:Prop} (h:¬ p):(false=true)↔p:=⟨λz=>Bool.noConfusion z,λz=>absurd z h⟩
def Hl {p:Prop} (h:p):(true=true)↔p:=⟨λ_=>h,λ_=>rfl⟩
end
section
open PySem.Spec PyProof.Rows
section
open AutoSeq1 (wpAny_loadPart')
def ajw:bootBuiltins "set"=some (.type "set"):=by k_go
def Oi:fillsNumberSlot (.type "tuple") "mul"=pure false:=PySem.fillsNumberSlot_seq (id:="tuple.__mul__") (r:=some (.builtin "tuple.__rmul__")) Fv.lookup (by k_go) F.slot_tuple_rmul.lookup (by k_go)
def O2:seqRepeat? (.type "tuple")=pure (some (.builtin "tuple.__mul__")):=by unfold seqRepeat?;rw [PySem.seqSlot_of (T:="tuple") (name:="__mul__") (id:="tuple.__mul__") Fv.lookup (by k_go),PySem.seqSlot_of (T:="tuple") (name:="__rmul__") (id:="tuple.__rmul__") F.slot_tuple_rmul.lookup (by k_go)];rfl
def Ou (a:Int) (t:Tok) (l:Addr) (eZ:h_) (n:Nat) (dd:jy) (sl:uy) : Meets (Builtin.«int.__rmul__» ⟨[.int a t,.ref l],[]⟩) (λ_ R s=>s.heap.get? l=some { cls:=.type "tuple",dict:=dd,data:=.seq eZ n,slots:=sl }/\R (.ok (.ret Value.notImplemented)) s):=.of_wp λprog w A R s h=>by
  obtain ⟨c,g,d,e,i⟩:=s;obtain ⟨b,h⟩:=h
  wp_walk
  exact ⟨_,rfl,h⟩
def afQ (l:Addr) (eZ:h_) (n:Nat) (dd:jy) (sl:uy) (x:Int) (u:Tok) (h0:eZ.isEmpty=false) (h1:2<=x) (h2:eZ.size*x.toNat<=1000) : Meets (Builtin.«tuple.__mul__» ⟨[.ref l,.int x u],[]⟩) (λ_ R s=>s.heap.get? l=some { cls:=.type "tuple",dict:=dd,data:=.seq eZ n,slots:=sl }/\R (.ok (.ret (.ref s.heap.objs.size))) { s with heap:=s.heap.push { cls:=.type "tuple",data:=.seq ((replicate x.toNat eZ).foldl (·++·) #[]) } }):=.of_wp λprog w A R s h=>by
  obtain ⟨p,g,d,q,t⟩:=s;obtain ⟨i,h⟩:=h;have j:1<=eZ.size:=by
   cases e:eZ.size with
   |zero=>rw [Array.isEmpty_iff_size_eq_zero.mpr e] at h0;cases h0
   |succ k=>lk
  have r:x.toNat<=1000:=gU (Nat.le_mul_of_pos_left _ j) h2;have o:(eZ.size:Int)*x<=1000:=by
   have:((eZ.size*x.toNat:Nat):Int)<=1000:=by lk
   rw [Int.natCast_mul,xH (by lk)] at this;exact this
  wp_walk using CQ i
  rw [aK (by simp;lk)]
  wp_walk using CQ i
  rw [aK (by simp [h0];lk)]
  wp_walk
  rw [aK (by simp [h0];lk)]
  wp_walk
  rw [aK (by lk)]
  wp_walk
  rw [aK (by unfold Builtin.Tuple.tupleTooMany;simp only [Fl,Int.not_lt];exact Ro o (by decide))];have e:(foldl (λc a=>c++a) #[] (replicate x.toNat eZ)).size<=1000:=by
   have z:∀ (k:Nat) (b:h_),(foldl (λc a=>c++a) b (replicate k eZ)).size=b.size+k*eZ.size:=by
    intro k;induction k with
    |zero=>intro b;simp
    |succ k m=>intro b;rw [ju,jG,m,Array.size_append,Nat.succ_mul];lk
   rw [z,Jz];simpa using h2
  show wpAny _ _ (tupleExact _ >>= λv=>ret v) _ _ _;unfold tupleExact;refine bf (yP ?_ (aW (by lk)));exact cY ⟨_,rfl,h⟩
inductive apv (x:V) (y:V) (H:Hp) (Q:VK):Prop
 |mk (l:Addr) (k:Int) (xs:aA) (h1:x=.ref l) (h2:y=.int k) (h3:H l=some (.tup xs)) (h4:1<=xs.length) (h5:2<=k) (h6:xs.length*k.toNat<=1000) (h7:∀ p,H p=none->Q (.ref p) (upd H p (.tup (replicate k.toNat xs).flatten)))
def aqE:R2:=λx y H Q=>apv x y H Q
def anN:dO X (binaryOp .Mult) aqE:=by
 rintro ak s σ H x y v u Q I p B ⟨l,k,xs,rfl,rfl,N,h1,h2,M,q⟩;cases p;obtain ⟨t,rfl⟩:=B;obtain ⟨aJ,r,O,_⟩:=I.tuple (aZ (K:=X.K) N);obtain ⟨⟨S,j,R,i⟩,c,C,n,L⟩:=id O;cases C;cases L;have g:xs.length=aJ.length:=r.length;have d:foldl (λJ D=>J++D) #[] (replicate k.toNat aJ.toArray)=(replicate k.toNat aJ).flatten.toArray:=by have:=foldl_rep aJ k.toNat [];rw [List.nil_append] at this;exact this
 have z:aJ.toArray.isEmpty=false:=by
  cases aJ with
  |nil=>rw [show xs.length=0 from g] at h1;lk
  |cons a b=>rfl
 refine Ju (T:="tuple") (U:="int") (by decide) ⟨_,c,rfl⟩ (λs'=>vf s' k t) Oi Jv wY O2 Jw.lookup (lX wY (vf s k t) Jx (Jy _ _) (Ou k t l aJ.toArray n j i) ⟨c,rfl,⟨_,c,rfl⟩,lX Fv ⟨_,c,rfl⟩ RJ (RK _ _) (afQ l aJ.toArray n j i k t z h2 (by rw [gV,<-g];exact M)) ⟨c,?_⟩⟩);rw [d];have m:aD X ak σ (upd H s.heap.objs.size (.tup (replicate k.toNat xs).flatten)) { s with heap:=s.heap.push { cls:=.type "tuple",data:=.seq (replicate k.toNat aJ).flatten.toArray } }:=I.laid (t':=s.toks) (λb o e=>dF _ e) (bI _) (show dZ X.prog X.w _ _ _ (.tup (replicate k.toNat xs).flatten) from ⟨by rw [Qd];exact aW (by rw [Jz];lk),_,r.rep k.toNat,oU.new _ _⟩);exact ⟨.ref _,_,m,rfl,q _ I.fresh⟩
end
end
section
open PySem.SeqAt PyProof.Rows
end
section
open PySem.Spec PyProof.Rows
def aqF:R2:=λx y H Q=>∃ a b xs ys,x=.ref a/\y=.ref b/\H a=some (.tup xs)/\H b=some (.tup ys)/\xs.length+ys.length<=sizeLine/\∀ c H',aB H H'->H' c=some (.tup (xs++ys))->Q (.ref c) H'
def anO:dO X (binaryOp .Add) aqF:=by
 rintro ak s σ H x y v u Q I l o ⟨a,b,xs,ys,rfl,rfl,k,i,M,q⟩;by_cases r:xs=[]
 ·cases l;cases o;subst r;obtain ⟨aJ,t,R,_⟩:=I.tuple (aZ (K:=X.K) k);obtain ⟨d,S,p2,_⟩:=I.tuple (aZ (K:=X.K) i);cases t;obtain ⟨⟨Y,N,V,D⟩,m,C,n,L⟩:=id R;obtain ⟨⟨U,O,W,J⟩,c,j,B,g⟩:=id p2;cases C;cases L;cases j;cases g;exact concat_meets ⟨_,m,rfl⟩ ⟨_,c,rfl⟩ Tq seq_tuple_add Tr Tt (Tv _ _) (tuple_addW0 a b #[] d.toArray n B N O D J rfl) ⟨m,c,⟨.ref b,H,I,rfl,q b H (cW _) i⟩⟩
 ·refine acu ak s σ H _ _ v u Q I l o ⟨a,b,xs,ys,rfl,rfl,aZ k,aZ i,r,M,λe=>?_,λ_ p z=>?_⟩
  ·subst e;exact q a H (cW _) (by rw [nO];exact k)
  ·exact q p _ (cu z _) aM
end
section
open PySem.SeqAt
end
section
open PySem.Spec PyProof.Rows
end
section
open PySem.SeqAt
end
section
open PySem.Spec PyProof.Rows
end
section
open PySem.SeqAt
end
section
open PySem.Spec PyProof.Rows PySem.SeqAt
section
open AutoSeq1 (wpAny_loadPart')
end
end
section
open PySem.SeqAt PyProof.Rows
end
section
open PySem.Spec PyProof.Rows
section
open PySem.W (CodeHd tabObj kla_fn kla_obj envX)
end
end
section
end
section
open PySem.Spec PyProof.Rows
end
section
open PySem.SeqAt
end
section
def adI {a b:TS} (P:St->Hp->Prop) (ha:∀ N:St->Hp->Prop,(∀ σ H,P σ H->N σ H)->a { D with nx:=N } σ H) (hb:∀ σ H,P σ H->b D σ H):Uu a b D σ H:=ha (b D) hb
end
section
open PySem.SeqAt
end
section
open PySem.SeqAt PyProof.Rows
end
section
open PySem.Spec PyProof.Rows
section
end
end
section
open PySem.Spec PyProof.Rows HT
end
section
open PySem.SeqAt PyProof.Rows
end
variable {tl:TE}
section
open PySem.Spec PyProof.Rows
section
def PJ (X:Cx) (parts:List Expr) (t:Str->St->Hp->VK->Prop):Prop :=
 ∀ (ak:List (Addr×Obj)) (s:Shared) (σ:St) (H:Hp) (out:Str) (Q:VK),aD X ak σ H s->t out σ H Q->wpAny (model X.prog X.w) X.A (joinParts out (evalEach parts X.env)) (EP X ak σ Q) X.xe s
def arG:Str->St->Hp->VK->Prop:=λout σ H Q=>out.length<=sizeLine/\Q (.str out) H
def aqG (te:TE) (t:Str->St->Hp->VK->Prop):Str->St->Hp->VK->Prop:=λout σ H Q=>te σ H λx H1=>∃ y,x=.str y/\(out++y).length<=sizeLine/\t (out++y) σ H1 Q
def anP (t:Str->St->Hp->VK->Prop):TE:=λσ H Q=>t empty σ H Q
def arH (te:TE):TE:=λσ H Q=>te σ H λx H1=>∃ i:Int,x=.int i/\i.natAbs.log2<1920/\Q (.str (toString i)) H1
def apw:PJ X [] arG:=by intro ak s σ H out Q I h;exact joinParts_nil ⟨.str out,H,I.tok _,⟨_,rfl⟩,h.2⟩ h.1
def KJ {t:Str->St->Hp->VK->Prop} (he:PE X e te) (hr:PJ X es t):PJ X (e::es) (aqG te t):=by intro ak s σ H out Q I h;show wpAny _ _ (joinParts out (eval e X.env::evalEach es X.env)) _ _ _;refine joinParts_cons (bA (he ak s σ H _ I h) λv c ⟨x,H1,b,a,y,ex,d,q⟩=>?_);subst ex;obtain ⟨t',rfl⟩:=a;exact ⟨d,hr ak c σ H1 _ Q b q⟩
def ajx {e1 e2:Expr} {t:Str->St->Hp->VK->Prop} (h:PJ X (e1::e2::es) t):PE X (.JoinedStr (e1::e2::es) pos) (anP t):=by intro ak s σ H Q I a;exact JoinedStr_many (h ak s σ H empty Q I a)
def acW (he:PE X e te):PE X (.FormattedValue e (-1) none pos) (arH te):=by intro ak s σ H Q I h;refine FormattedValue_plain (bA (he ak s σ H _ I h) λv d ⟨x,H1,b,a,i,ex,c,q⟩=>?_);subst ex;obtain ⟨t',rfl⟩:=a;exact formatField_int_small c ⟨.str _,H1,b.tok _,⟨_,rfl⟩,q⟩
def Zr:∀ {us:bV} {ys:bK},bO (ys.map V.str) us->StrsAre us ys
 |_,[],.nil=>.nil
 |_,y::r,.cons ⟨t,rfl⟩ h=>.cons y t (Zr h)
inductive adJ (K:bG) (x:V) (xs:aA) (H:Hp) (Q:VK):Prop
 |mk (sep:Str) (l:Addr) (ys:bK) (h1:x=.str sep) (h2:xs=[.ref l]) (h3:dH K H l (ys.map V.str)) (h4:(ys.map (·.length)).sum+ys.length*sep.length<=16777216) (h5:Q (.str (Txt.join sep ys)) H)
def KN:Af X "str.join" (adJ X.K):=by rintro ak s σ H x xs v us Q I a i ⟨d,l,ys,rfl,rfl,c,g,q⟩;obtain ⟨t,rfl⟩:=a;obtain ⟨u,rfl,b⟩:=i.one;cases b;obtain ⟨aJ,r,p,_⟩:=I.list c;exact join_list p.isList (Zr r) g λt' k=>⟨.str _,H,I.kept (t':=k) λ_ _ e=>e,⟨_,rfl⟩,q⟩
inductive alU (x:V) (xs:aA) (H:Hp) (Q:VK):Prop
 |mk (a b:Str) (h1:x=.str a) (h2:xs=[.str b]) (h3:Q (.bl (startswith a b)) H)
def Zf:Af X "str.startswith" alU:=by rintro ak s σ H x xs v us Q I c d ⟨a,b,rfl,rfl,q⟩;obtain ⟨t,rfl⟩:=c;obtain ⟨u,rfl,t',rfl⟩:=d.one;exact SC.startswith ⟨.bl _,H,I,rfl,q⟩
inductive apx (x:V) (xs:aA) (H:Hp) (Q:VK):Prop
 |mk (a b:Str) (h1:x=.str a) (h2:xs=[.str b]) (h3:(b.length == 0)=false) (h4:a.length<=sizeLine) (h5:∀ t,H t=none->Q (.ref t) (upd H t (.tup [.str (partition a b).1,.str (partition a b).2.1,.str (partition a b).2.2])))
def Zt:Af X "str.partition" apx:=by
 rintro ak s σ H x xs v us Q I d k ⟨a,b,rfl,rfl,g,j,q⟩;obtain ⟨t,rfl⟩:=d;obtain ⟨u,rfl,t',rfl⟩:=k.one;refine lX F.slot_str_partition (tW _ _ _) F.entry_str_partition (F.args_str_partition_2 _ _) (meets_str_partition a b t t' g j) ?_;unfold partition at q;cases c:occurrences a b 0 a.length 1 with
 |nil =>rw [c] at q;refine ⟨.ref s.heap.objs.size,_,I.laid (t':=s.toks+1) (o:=.tup [.str a,.str empty,.str empty]) (λb e q=>dF _ q) (bI _) ?_,rfl,q _ (I.hok.fresh (bI _))⟩;exact ⟨aW (by show 3<=100000;decide),_,.cons ⟨_,rfl⟩ (.cons ⟨_,rfl⟩ (.cons ⟨_,rfl⟩ .nil)),oU.new _ _⟩
 |cons i r =>rw [c] at q;refine ⟨.ref s.heap.objs.size,_,I.laid (t':=s.toks+1+1) (o:=.tup [.str (strSub a 0 i),.str b,.str (strSub a (i+b.length) a.length)]) (λb e q=>dF _ q) (bI _) ?_,rfl,q _ (I.hok.fresh (bI _))⟩;exact ⟨aW (by show 3<=100000;decide),_,.cons ⟨_,rfl⟩ (.cons ⟨_,rfl⟩ (.cons ⟨_,rfl⟩ .nil)),oU.new _ _⟩
def Qu:∀ (n:Nat) (l:bK),bO (l.map V.str) (strsFrom n l)
 |_,[]=>.nil
 |n,y::r=>.cons ⟨_,rfl⟩ (Qu (n+1) r)
inductive anQ (x:V) (xs:aA) (H:Hp) (Q:VK):Prop
 |mk (a b:Str) (h1:x=.str a) (h2:xs=[.str b]) (h3:(b.length == 0)=false) (h4:a.length<=100000) (h5:∀ l,H l=none->Q (.ref l) (upd H l (.lst ((Txt.split a b).map V.str))))
def QM:Af X "str.split" anQ:=by
 rintro ak s σ H x xs v us Q I j m ⟨a,b,rfl,rfl,i,l,q⟩;obtain ⟨t,rfl⟩:=j;obtain ⟨u,rfl,t',rfl⟩:=m.one;have one:∀ d:Nat,Txt.split a b=[a]->EP X ak σ Q (.ref s.heap.objs.size) { s with heap:=s.heap.push { cls:=.type "list",data:=.seq [Value.str a t].toArray },toks:=d }:=λd e=>by rw [e] at q;refine ⟨.ref s.heap.objs.size,_,I.laid (t':=d) (o:=.lst [.str a]) (λb k q=>dF _ q) (bI _) ?_,rfl,q _ (I.hok.fresh (bI _))⟩;exact ⟨aW (by show 1<=100000;decide),_,0,.cons ⟨_,rfl⟩ .nil,fU _ rfl⟩
 cases h1:(decide (a.length<b.length) || decide (Builtin.Str.strKind a<Builtin.Str.strKind b))
 ·cases c:(occurrences a b 0 a.length (a.length+1)).isEmpty
  ·have e:Txt.split a b=partsBetween a (occurrences a b 0 a.length (a.length+1)) b.length:=by unfold Txt.split;rw [aK (BZ h1),aK (BZ c)]
   have g:=split_le a b;rw [e] at g q;refine lX B_ (tW _ _ _) Ca (RL _ _) (meets_str_split_sep a b t t' h1 i c (aW l) (gU g (by rw [J3];lk))) ⟨.ref s.heap.objs.size,_,I.laid (t':=s.toks+(partsBetween a (occurrences a b 0 a.length (a.length+1)) b.length).length) (o:=.lst ((partsBetween a (occurrences a b 0 a.length (a.length+1)) b.length).map V.str)) (λb k q=>dF _ q) (bI _) ?_,rfl,q _ (I.hok.fresh (bI _))⟩;exact ⟨by rw [bh];exact gU g (by rw [J3];lk),_,0,Qu _ _,fU _ rfl⟩
  ·have e:Txt.split a b=[a]:=by unfold Txt.split;rw [aK (BZ h1),aQ c]
   exact lX B_ (tW _ _ _) Ca (RL _ _) (meets_str_split_not_found a b t t' h1 i c) (one s.toks e)
 ·have e:Txt.split a b=[a]:=by unfold Txt.split;rw [aQ h1]
  exact lX B_ (tW _ _ _) Ca (RL _ _) (meets_str_split_cannot_occur a b t t' h1) (one s.toks e)
inductive apy (xs:aA) (H:Hp) (Q:VK):Prop
 |mk (x:Str) (n:Int) (h1:xs=[.str x]) (h2:PySem.intText? x=some n) (h3:x.length<=640) (h4:Q (.int n) H)
def aaX:jz X (.type "int") apy:=by rintro ak s σ H xs us Q I r ⟨x,n,rfl,b,a,q⟩;obtain ⟨u,rfl,t,rfl⟩:=r.one;exact PySem.W.KIN.call_text b a ⟨.int n,H,I.tok _,⟨_,rfl⟩,q⟩
def DY (x:Str):It:=⟨λi _=>i<x.cps.size,λi H v H'=>H'=H/\∃ c,x.cps[i]?=some c/\v=.str ⟨#[c]⟩,λi _=>x.cps.size<=i⟩
def ahN (x:Str) (t:Tok) (it:Addr):uq P w K tg (DY x) [it] it (λi h=>h.IsStrIter it "str_ascii_iterator" x t i) where
 mem:=by simp
 obj:=λi h st b a=>by
  have e:b=it:=by simpa using a
  subst e;obtain ⟨o,e,c,d⟩:=st;exact ⟨o,e,λv z=>by rw [d] at z;cases z⟩
 keep:=λi h h' st k=>by obtain ⟨o,e,r⟩:=st;exact ⟨o,k it (by simp) o e,r⟩
 item:=by intro X j n hK B i ak s σ H E I g st u;subst j n hK;have hi:i<x.cps.size:=u;obtain ⟨f0,p,C,m,l,q⟩:=g it (by simp);refine wpAny_pyNext_ascii_item st (c:=x.cps[i]) (by simp [hi]) λh' y D=>?_;have J:aD X ak σ H { s with heap:=h',toks:=s.toks+1 }:=I.turned (t':=s.toks+1) (λb o a e=>(D.2 b a).trans e) f0 p m l q;obtain ⟨o,e,c,d⟩:=id y;exact ⟨_,rfl,Gp (s:={ s with heap:=h',toks:=s.toks+1 }) e c d (by decide) ⟨.str ⟨#[x.cps[i]]⟩,H,J,⟨_,rfl⟩,⟨rfl,x.cps[i],by simp [hi],rfl⟩,y,λb a=>(g b a).1⟩⟩
 done:=by intro X j n hK B i ak s σ H E I g st u;subst j n hK;have hi:x.cps.size<=i:=u;obtain ⟨f0,p,C,m,l,q⟩:=g it (by simp);exact wpAny_pyNext_ascii_end (I.ok.hd B) st (by simp;lk) λh' L=>⟨rfl,I.turned (t':=s.toks) (λb o a e=>L b o a e) f0 p m l q⟩
 self:=λ_ _ _ _ _ st h=>wpAny_pyIter_striter_ascii st h
def ajy (x:Str) (t:Tok) (it:Addr):uq P w K tg (DY x) [it] it (λi h=>h.IsStrIter it "str_iterator" x t i) where
 mem:=by simp
 obj:=λi h st b a=>by
  have e:b=it:=by simpa using a
  subst e;obtain ⟨o,e,c,d⟩:=st;exact ⟨o,e,λv z=>by rw [d] at z;cases z⟩
 keep:=λi h h' st k=>by obtain ⟨o,e,r⟩:=st;exact ⟨o,k it (by simp) o e,r⟩
 item:=by intro X j n hK B i ak s σ H E I g st u;subst j n hK;have hi:i<x.cps.size:=u;obtain ⟨f0,p,C,m,l,q⟩:=g it (by simp);refine wpAny_pyNext_wide_item st (c:=x.cps[i]) (by simp [hi]) λh' y D=>?_;have J:aD X ak σ H { s with heap:=h',toks:=s.toks+1 }:=I.turned (t':=s.toks+1) (λb o a e=>(D.2 b a).trans e) f0 p m l q;obtain ⟨o,e,c,d⟩:=id y;exact ⟨_,rfl,Gp (s:={ s with heap:=h',toks:=s.toks+1 }) e c d (by decide) ⟨.str ⟨#[x.cps[i]]⟩,H,J,⟨_,rfl⟩,⟨rfl,x.cps[i],by simp [hi],rfl⟩,y,λb a=>(g b a).1⟩⟩
 done:=by intro X j n hK B i ak s σ H E I g st u;subst j n hK;have hi:x.cps.size<=i:=u;obtain ⟨f0,p,C,m,l,q⟩:=g it (by simp);exact wpAny_pyNext_wide_end (I.ok.hd B) st (by simp;lk) λh' L=>⟨rfl,I.turned (t':=s.toks) (λb o a e=>L b o a e) f0 p m l q⟩
 self:=λ_ _ _ _ _ st h=>wpAny_pyIter_striter_wide st h
def adK {l:Expr} (hl:PE X l tl):PI X tg l (λσ H R=>tl σ H λv H1=>∃ x,v=.str x/\R (DY x) H1):=by
 intro ak s σ H R I h;refine bA (hl ak s σ H _ I h) λv a ⟨y,H1,c,g,x,ex,q⟩=>?_;subst ex;obtain ⟨t,rfl⟩:=g;have fp:∀ b∈[a.heap.objs.size],n_ X ak H1 b:=λb i=>by
  have e:b=a.heap.objs.size:=by simpa using i
  subst e;exact c.sW (bI _) (c.hok.fresh (bI _))
 cases d:x.cps.all (·<128)
 ·exact wpAny_pyIter_wide d ⟨a.heap.objs.size,[a.heap.objs.size],_,_,H1,rfl,c.kept (t':=a.toks) λb o e=>dF _ e,ajy x t _,⟨_,fU _ rfl,rfl,rfl⟩,fp,q⟩
 ·exact wpAny_pyIter_ascii d ⟨a.heap.objs.size,[a.heap.objs.size],_,_,H1,rfl,c.kept (t':=a.toks) λb o e=>dF _ e,ahN x t _,⟨_,fU _ rfl,rfl,rfl⟩,fp,q⟩
def QS {own:Nat} {R:Hp->Prop} (Pv:Nat->aA->Hp->Prop) (h0:Pv 0 [] (upd H1 l (.lst []))) (hz:x.cps.size<=sizeLine) (hl:∀ i ys H,Pv i ys H->H l=some (.lst ys)/\ys.length<=i) (hs:∀ i c ys H,x.cps[i]?=some c->Pv i ys H->g (.str ⟨#[c]⟩) (gM own cI σ) H λσ2 H2=>Wk (gM own cI σ) σ2 /\tt σ2 H2 λb H3=>if b=true then te σ2 H3 λy H4=>H4 l=some (.lst ys)/\Pv (i+1) (ys++[y]) (upd H4 l (.lst (ys++[y]))) else Pv (i+1) ys H3) (hd:∀ ys H,Pv x.cps.size ys H->R H) : ∃ W:Nat->Nat->aA->Hp->Prop,(∃ m,W 0 m [] (upd H1 l (.lst []))) /\∀ i m ys H,W i m ys H->H l=some (.lst ys)/\(((DY x).stop i H/\R H)\/((DY x).go i H/\ys.length<sizeLine/\∃ N:aA->Hp->Prop,(∀ ys' H',N ys' H'->∃ m',m'<m/\W (i+1) m' ys' H') /\∀ v H',(DY x).oG i H v H'->g v (gM own cI σ) H' λσ2 H2=>Wk (gM own cI σ) σ2 /\tt σ2 H2 λb H3=>if b=true then te σ2 H3 λy H4=>H4 l=some (.lst ys)/\N (ys++[y]) (upd H4 l (.lst (ys++[y]))) else N ys H3)):=by
 refine ⟨λi m ys H=>m=x.cps.size-i/\i<=x.cps.size/\Pv i ys H,⟨x.cps.size,by simp,fQ _,h0⟩,?_⟩;rintro i m ys H ⟨rfl,hi,p⟩;obtain ⟨j,n⟩:=hl i ys H p;refine ⟨j,?_⟩;by_cases a:i<x.cps.size
 ·refine .inr ⟨a,by lk, Pv (i+1),λys' H' k=>⟨x.cps.size-(i+1),by lk, rfl,a,k⟩,λv H' y=>?_⟩;obtain ⟨e,c,d,y⟩:=y;subst e y;exact hs i c ys _ d p
 ·have e:i=x.cps.size:=by lk
  subst e;exact .inl ⟨bI _,hd ys H p⟩
end
section
def wj (x:Str) (n:Nat):Str:=⟨(x.cps.toList.drop n).toArray⟩
def aaY (x:Str) (n:Nat):strSliceIndices (some (n:Int)) none 1 x.length=strSliceIndices (some (n:Int)) (some (x.length:Int)) 1 x.length:=by
  have h2:¬ ((x.length:Int)<0):=by lk
  have a:max (0:Int) (min (x.length:Int) (x.length:Int))=x.length:=by lk
  unfold strSliceIndices;simp only [h2,rK,a];simp
def ahO (x:Str) (h:n<=x.length):(strSliceIndices (some (n:Int)) none 1 x.length).filterMap (x.cps[·]?)=x.cps.toList.drop n:=by have e:=aaY x n;rw [e,StrLaws.sliced_plain x h (bI _)];refine zc ?_;rw [xW];have:x.cps.toList.length=x.length:=xQ;lk
def arI:V->Option Int->Option Int->Hp->VK->Prop:=λx lo hi H Q=>∃ (a:Str) (n:Nat),x=.str a/\lo=some (n:Int)/\hi=none/\n<=a.length/\a.length<=sizeLine/\Q (.str (wj a n)) H
def adL:Ve X arI:=by
 intro ak s σ H x v r p lo hi sl Q I g l pl k h;obtain ⟨a,n,rfl,rfl,rfl,d,o,q⟩:=h;obtain ⟨t,rfl⟩:=g;cases k;cases pl with
 |int i b =>
 refine ⟨"str",_,PyProof.Rows.slot_str_getitem.lookup,tW _ _ _,?_⟩;have c:s.heap.IsSlice sl (some ((n:Int),b)) none none:=l;refine wpAny_getItem_str_slice c (by decide) ?_;unfold sliceMade;have e:(slicePicked a (some ((n:Int),b)) none none).filterMap (a.cps[·]?)=a.cps.toList.drop n:=ahO a d;split
 ·rename_i hw;rw [Bu] at hw;have h2:(slicePicked a (some ((n:Int),b)) none none).length=a.length:=eq_of_beq hw.2;have m:(slicePicked a (some ((n:Int),b)) none none).length=a.length-n:=by show (strSliceIndices (some (n:Int)) none 1 a.length).length=_;rw [aaY,StrLaws.strSliceIndices_plain d (bI _),bh,BX]
  have j:n=0:=by lk
  have:wj a n=a:=by rw [j];unfold wj;simp
  rw [this] at q;exact ⟨.str a,H,I,⟨_,rfl⟩,q⟩
 ·refine ⟨?_,⟨.str _,H,I.tok _,⟨_,rfl⟩,?_⟩⟩
  ·rw [e];show (a.cps.toList.drop n).toArray.size<=sizeLine;rw [gV,xW];have:a.cps.toList.length=a.length:=xQ;lk
  ·rw [e];exact q
end
def acX {y:Str} (hg:Gl X x) (h:∃ t,X.mg x=some (.str y t)) (hd:(x == ("__debug__":Str))=false:=by decide):PE X (.Name x pos) (tC (.str y)):=by obtain ⟨t,h⟩:=h;exact Cg hg h ⟨t,rfl⟩ hd
def qu:bootBuiltins "str"=some (.type "str"):=by k_go
def Ih (K:bG) (hK:X.K=K):jz X (.type "str") (Y8 K):=by subst hK;exact wQ
structure Cu (P:Program) (w:World) (K:bG) (a:Addr) (vs:iT):Prop where
 ex:∃ o,K.lookup a=some o/\∀ h:Heap,h.get? a=some o->h.DictOf (kE P w) a vs
 ns:(a == sysModules)=false
def Cu.at_ {vs:iT} (k:Cu P w K a vs) (x:K.In h):h.DictOf (kE P w) a vs :=
 let ⟨_,l,d⟩:=k.ex;d h (x _ _ l)
def ad' (vs:iT) (ty:TE):TE:=λσ H Q=>ty σ H λy H1=>∃ k v,y=kV k/\valueAt vs k=some (.ref v)/\Q (.ref v) H1
def anR (vs:iT) (ty:TE):TE:=λσ H Q=>ty σ H λy H1=>∃ k,y=kV k/\Q (.bl (!(valueAt vs k).isSome)) H1
section
variable {o i:Expr} {ty:TE} {vs:iT}
def acY (KD:Cu X.prog X.w X.K a vs) (ho:PE X o (tC (.ref a))) (hi:PE X i ty) (hs:UW i):PE X (.Subscript o i pos) (ad' vs ty):=by intro ak s σ H Q I h;refine acS ab3.lookup hs (bA (ho ak s σ H (λv H1=>v=.ref a/\ad' vs ty σ H1 Q) I ⟨rfl,h⟩) λu p ⟨x,H1,m,e,ex,l⟩=>bA (hi ak p σ H1 _ m l) λr t ⟨y,H2,b,n,k,v,c,g,q⟩=>?_);subst ex;obtain rfl:u=Value.ref a:=e;subst c;have d:=KD.at_ b.gq;obtain ⟨j,es,z,h1,h2,_⟩:=id d;exact ⟨⟨j,h1,h2.1⟩,wpAny_getItem_of (Di n) d.mapOf g ⟨.ref v,H2,b.tok _,rfl,q⟩⟩
def ajz (KD:Cu X.prog X.w X.K a vs) (hi:PE X i ty) (ho:PE X o (tC (.ref a))):PC X .NotIn i o (anR vs ty):=by intro ak s σ H Q I h;refine bA (hi ak s σ H _ I h) λn l ⟨y,H1,g,j,k,c,e⟩=>bA (ho ak l σ H1 (λv H2=>v=.ref a/\Q (.bl (!(valueAt vs k).isSome)) H2) g ⟨rfl,e⟩) λu p ⟨x,H2,b,d,ex,m⟩=>?_;subst ex;obtain rfl:u=Value.ref a:=d;subst c;exact wpAny_notIn_of (Di j) KD.ns (KD.at_ b.gq).mapOf ⟨.bl _,H2,b.tok _,rfl,m⟩
end
def agU (x y:Str) {k:Int} (k0:0<=k):(splitMax x y k).length<=k.toNat+1:=by
 have e:limitOf x k=k.toNat:=by unfold limitOf;rw [aK (by lk)]
 unfold splitMax;split
 ·show 1<=_;lk
 ·split
  ·show 1<=_;lk
  ·rw [len_partsBetween,e];have:=StrLaws.occ_length_le x y 0 x.length k.toNat;lk
section
inductive alV (x:V) (xs:aA) (H:Hp) (Q:VK):Prop
 |mk (a b:Str) (k:Int) (h1:x=.str a) (h2:xs=[.str b,.int k]) (h3:(b.length == 0)=false) (h4:a.length<=90000) (h5:0<=k) (h6:k<=1000) (h7:∀ l,H l=none->Q (.ref l) (upd H l (.lst ((splitMax a b k).map V.str))))
def ajA:Af X "str.split" alV:=by
 rintro ak s σ H x xs v us Q I m r ⟨a,b,k,rfl,rfl,l,B,p,y,q⟩;obtain ⟨t,rfl⟩:=m;obtain ⟨u,z,rfl,⟨t',rfl⟩,⟨d,rfl⟩⟩:=Kr r;have g:(decide (k < -(2 ^ 63:Int)) || decide (k>=2 ^ 63))=false:=by rw [lJ (by lk),lJ (by lk)];rfl
 have one:∀ i:Nat,splitMax a b k=[a]->EP X ak σ Q (.ref s.heap.objs.size) { s with heap:=s.heap.push { cls:=.type "list",data:=.seq [Value.str a t].toArray },toks:=i }:=λi e=>by rw [e] at q;refine ⟨.ref s.heap.objs.size,_,I.laid (t':=i) (o:=.lst [.str a]) (λb n q=>dF _ q) (bI _) ?_,rfl,q _ (I.hok.fresh (bI _))⟩;exact ⟨aW (by show 1<=100000;decide),_,0,.cons ⟨_,rfl⟩ .nil,fU _ rfl⟩
 cases h1:(decide (a.length<b.length) || decide (Builtin.Str.strKind a<Builtin.Str.strKind b))
 ·cases c:(occurrences a b 0 a.length (limitOf a k)).isEmpty
  ·have e:splitMax a b k=partsBetween a (occurrences a b 0 a.length (limitOf a k)) b.length:=by unfold splitMax;rw [aK (BZ h1),aK (BZ c)]
   have j:=agU a b p;rw [e] at j q;refine lX B_ (tW _ _ _) Ca (RM _ _ _) (meets_str_split_sep_max a b k t t' d g h1 l c (aW (by lk)) (gU j (by rw [J3];lk))) ⟨.ref s.heap.objs.size,_,I.laid (t':=s.toks+(partsBetween a (occurrences a b 0 a.length (limitOf a k)) b.length).length) (o:=.lst ((partsBetween a (occurrences a b 0 a.length (limitOf a k)) b.length).map V.str)) (λb n q=>dF _ q) (bI _) ?_,rfl,q _ (I.hok.fresh (bI _))⟩;exact ⟨by rw [bh];exact gU j (by rw [J3];lk),_,0,Qu _ _,fU _ rfl⟩
  ·have e:splitMax a b k=[a]:=by unfold splitMax;rw [aK (BZ h1),aQ c]
   exact lX B_ (tW _ _ _) Ca (RM _ _ _) (meets_str_split_max_not_found a b k t t' d g h1 l c) (one s.toks e)
 ·have e:splitMax a b k=[a]:=by unfold splitMax;rw [aQ h1]
  exact lX B_ (tW _ _ _) Ca (RM _ _ _) (meets_str_split_max_cannot_occur a b k t t' d g h1) (one s.toks e)
end
end
section
open PySem.SeqAt PyProof.Rows
def Ls (x:Str):gB:=x.cps.toList
def Mk (l:gB):Str:=⟨l.toArray⟩
def wu (x:Str):Mk (Ls x)=x:=by unfold Mk Ls;simp
def Lq (l:gB):Ls (Mk l)=l:=rfl
def pR {y:Str} (h:Ls x=Ls y):x=y:=by rw [<-wu x,h,wu]
def gY (x y:Str):Ls (x++y)=Ls x++Ls y:=by show (x.cps++y.cps).toList=_;rw [Array.toList_append];rfl
def cO (x:Str):(Ls x).length=x.length:=xQ
def jc (x y:Str):(x++y).length=x.length+y.length:=by rw [<-cO,gY,dJ,cO,cO]
def Gi {c:Nat}:StrLaws.At x ⟨#[c]⟩ x.length i↔(Ls x)[i]?=some c:=RN x c i
def abx {a b:gB} {c:Nat} (h:c∉a):partition (Mk (a++c::b)) ⟨#[c]⟩=(Mk a,⟨#[c]⟩,Mk b):=by
 have g:(a++c::b)[a.length]?=some c:=by simp
 rcases StrLaws.occ_head (Mk (a++c::b)) ⟨#[c]⟩ 1 (bI _) with ⟨_,d⟩|⟨i,r,k,j,d⟩
 ·exact absurd (Gi.mpr g) (d a.length)
 ·have hi:(a++c::b)[i]?=some c:=Gi.mp j;have i1:¬ a.length<i:=λz=>d _ z (Gi.mpr g);have i2:¬ i<a.length:=λz=>by rw [qI z] at hi;exact h (fj hi)
  have e:i=a.length:=by lk
  subst e;unfold partition;rw [k];refine Prod.ext ?_ (Prod.ext rfl ?_)
  ·refine pR ?_;show ((Mk (a++c::b)).cps.extract 0 a.length).toList=a;unfold Mk;simp
  ·refine pR ?_;show ((Mk (a++c::b)).cps.extract (a.length+1) (Mk (a++c::b)).length).toList=b;unfold Mk;simp [Str.length];exact zc (by lk)
def acZ {a b a' b':gB} {c:Nat}:∀ (h:c∉a) (h':c∉a') (e:a++c::b=a'++c::b'),a=a'/\b=b':=by
 induction a generalizing a' with
 |nil =>
  intro _ h' e;cases a' with
  |nil=>simp at e;exact ⟨rfl,e⟩
  |cons x r=>simp at e;exact absurd (e.1 ▸ iz) h'
 |cons x r d =>
  intro h h' e;cases a' with
  |nil=>simp at e;exact absurd (e.1 ▸ iz) h
  |cons y s =>simp at e;obtain ⟨g,i⟩:=d (λz=>h (fH _ z)) (λz=>h' (fH _ z)) e.2;exact ⟨by rw [e.1,g],i⟩
def mJ (c:Nat) (x y:Str) (r:bK):Ls (Str.join ⟨#[c]⟩ (x::y::r))=Ls x++c::Ls (Str.join ⟨#[c]⟩ (y::r)):=by show Ls (x++⟨#[c]⟩++Str.join ⟨#[c]⟩ (y::r))=_;rw [gY,gY,vh];rfl
def aby {c:Nat}:∀ (xs ys:bK),xs≠[]->ys≠[]->(∀ p∈xs,c∉Ls p)->(∀ p∈ys,c∉Ls p)->Ls (Str.join ⟨#[c]⟩ xs)=Ls (Str.join ⟨#[c]⟩ ys)->xs=ys
 |[],_,h,_,_,_,_=>absurd rfl h
 |_,[],_,h,_,_,_=>absurd rfl h
 |[x],[y],_,_,_,_,e=>by rw [pR (show Ls x=Ls y from e)]
 |[x],y::z::r,_,_,hx,hy,e=>by
  rw [mJ] at e;have:c∈Ls x:=by rw [show Ls x=_ from e];simp
  exact absurd this (hx x (by simp))
 |x::z::r,[y],_,_,hx,hy,e=>by
  rw [mJ] at e;have:c∈Ls y:=by rw [show Ls y=_ from e.symm];simp
  exact absurd this (hy y (by simp))
 |x::x2::r,y::y2::s,_,_,hx,hy,e=>by rw [mJ,mJ] at e;obtain ⟨d,b⟩:=acZ (hx x (by simp)) (hy y (by simp)) e;rw [pR d,aby (x2::r) (y2::s) (by simp) (by simp) (λp a=>hx p (fH _ a)) (λp a=>hy p (fH _ a)) b]
def Bd {c:Nat} {ws:bK} (ne:ws≠[]) (h:∀ p∈ws,c∉Ls p):Txt.split (Str.join ⟨#[c]⟩ ws) ⟨#[c]⟩=ws:=aby _ _ (λz=>by have:=split_pos (Str.join ⟨#[c]⟩ ws) ⟨#[c]⟩;rw [z] at this;simp at this) ne (StrLaws.split_free _ c) h (by rw [StrLaws.join_split])
def wU (sep:Str):∀ l:bK,Txt.join sep l=Str.join sep l:=StrLaws.glued_eq_join sep
def dg (n:Int):Nat:=48+n.toNat
def bL (n:Int):Str:=toString n
def zU {n:Int} (h0:0<=n) (h9:n<=9):bL n=Mk [dg n]:=by
 have c:n=0\/n=1\/n=2\/n=3\/n=4\/n=5\/n=6\/n=7\/n=8\/n=9:=by lk
 rcases c with e|e|e|e|e|e|e|e|e|e<;>subst e<;>k_go
def m_ (w:Int×Int):Str:=Mk [dg w.1,45,dg w.2]
def jB (ws:aP):gB:=ws.flatMap λw=>32::Ls (m_ w)
def oA (aj:Int) (ws:aP):Str:=Mk (dg aj::58::jB ws)
def Uj (ws:aP):Prop:=∀ w∈ws,0<=w.1/\w.1<=9/\0<=w.2/\w.2<=9
def TQ (w8:aj<=8) (h:bJ aj ws):Uj ws:=λw e=>by obtain ⟨a,b,c,d,_⟩:=h w e;exact ⟨a,by lk, c,by lk⟩
def Qv (ws:aP):(jB ws).length=4*ws.length:=by
 induction ws with
 |nil=>rfl
 |cons w r a =>have e:jB (w::r)=(32::Ls (m_ w))++jB r:=rfl;rw [e,dJ,a,gA];show 4+4*r.length=4*(r.length+1);lk
def QT (aj:Int) (ws:aP):(oA aj ws).length=4*ws.length+2:=by rw [<-cO];show (dg aj::58::jB ws).length=_;rw [gA,gA,Qv]
def Sv (f:(Int×Int)->Str):∀ (ws:aP),(∀ w∈ws,(f w).length<=n)->((ws.map f).map (·.length)).sum<=n*ws.length
 |[],_=>by simp
 |w::r,h=>by rw [gj,gj,qC,gA];have a:=h w iz;have b:=Sv f r λx c=>h x (fH _ c);rw [Nat.mul_add];lk
def join_none {f:Int×Int->Str}:∀ (ws:aP),(∀ w∈ws,Ls (f w)=32::Ls (m_ w))->Ls (Txt.join empty (ws.map f))=jB ws:=by
 intro ws;rw [wU];induction ws with
 |nil=>intro _;rfl
 |cons w r a =>
  intro h;have i:=a λx c=>h x (fH _ c);have e:jB (w::r)=(32::Ls (m_ w))++jB r:=rfl;rw [e,<-i,<-h w iz];cases r with
  |nil =>show Ls (f w)=Ls (f w)++[];rw [nO]
  |cons b r =>show Ls (f w++empty++Str.join empty (f b::r.map f))=_;rw [gY,gY];show Ls (f w)++[]++_=_;rw [nO];rfl
def aaj {f:Int×Int->Str}:∀ (ws:aP),(∀ w∈ws,f w=m_ w)->Ls (Str.join ⟨#[32]⟩ (x::ws.map f))=Ls x++jB ws:=by
 intro ws;induction ws generalizing x with
 |nil=>intro _;show Ls x=Ls x++[];rw [nO]
 |cons w r b =>intro h;rw [gj,mJ,b λy a=>h y (fH _ a),h w iz];rfl
def ajB {w:Int×Int}:jB (w::ws)=32::Ls (Str.join ⟨#[32]⟩ ((w::ws).map m_)):=by rw [gj,aaj ws (λ_ _=>rfl)];rfl
def anS {c:Nat} (hc:c=32) {w:Int×Int} (h:0<=w.1/\w.1<=9/\0<=w.2/\w.2<=9):c∉Ls (m_ w):=by subst hc;show 32∉[dg w.1,45,dg w.2];unfold dg;simp;lk
def agV {w:Int×Int} (h:Uj (w::ws)):Txt.split (wj (Mk (jB (w::ws))) 1) ⟨#[32]⟩=(w::ws).map m_:=by
 have e:wj (Mk (jB (w::ws))) 1=Str.join ⟨#[32]⟩ ((w::ws).map m_):=by refine pR ?_;show (jB (w::ws)).drop 1=_;rw [ajB];rfl
 rw [e];refine Bd (by simp) λp b=>?_;obtain ⟨v,a,rfl⟩:=fW.mp b;exact anS rfl (h v a)
def alW (h0:0<=aj) (h9:aj<=9) (ws:aP):partition (oA aj ws) ⟨#[58]⟩=(Mk [dg aj],⟨#[58]⟩,Mk (jB ws)):=by refine abx (a:=[dg aj]) ?_;unfold dg;simp;lk
def anT {w:Int×Int} (h:0<=w.1/\w.1<=9/\0<=w.2/\w.2<=9):partition (m_ w) ⟨#[45]⟩=(Mk [dg w.1],⟨#[45]⟩,Mk [dg w.2]):=by refine abx (a:=[dg w.1]) (b:=[dg w.2]) ?_;unfold dg;simp;lk
def apz {n:Int} (h0:0<=n) (h9:n<=9):PySem.intText? (Mk [dg n])=some n:=by
 have c:n=0\/n=1\/n=2\/n=3\/n=4\/n=5\/n=6\/n=7\/n=8\/n=9:=by lk
 rcases c with e|e|e|e|e|e|e|e|e|e<;>subst e<;>k_go
def Bj {n:Int} (h0:0<=n) (h9:n<=9):n.natAbs.log2<1920:=by
 have c:n=0\/n=1\/n=2\/n=3\/n=4\/n=5\/n=6\/n=7\/n=8\/n=9:=by lk
 rcases c with e|e|e|e|e|e|e|e|e|e<;>subst e<;>k_go
def Cv {n:Int} (h0:0<=n) (h9:n<=9):(bL n).length=1:=by rw [zU h0 h9];rfl
inductive alX (vs:aA) (H:Hp) (Q:VK):Prop
 |mk (v:V) (aj:Int) (ws:aP) (h1:vs=[v]) (h2:eX H v aj ws) (h3:1<=aj) (h4:aj<=8) (h5:bJ aj ws) (h6:ws.length<=41) (h7:∀ H',aB H H'->Q (.str (oA aj ws)) H')
def anU:=nE alX
inductive alY (vs:aA) (H:Hp) (Q:VK):Prop
 |mk (n:Int) (h1:vs=[.str (Mk [dg n])]) (h2:0<=n) (h3:n<=9) (h4:∀ H',aB H H'->Q (.bl true) H')
def ac0:=nE alY
inductive alZ (vs:aA) (H:Hp) (Q:VK):Prop
 |mk (n:Int) (h1:vs=[.str (Mk [dg n])]) (h2:0<=n) (h3:n<=9) (h4:∀ H',aB H H'->Q (.int n) H')
def anV:=nE alZ
inductive anW (vs:aA) (H:Hp) (Q:VK):Prop
 |mk (w:Int×Int) (h1:vs=[.str (m_ w)]) (h2:0<=w.1/\w.1<=9/\0<=w.2/\w.2<=9) (h3:∀ (t:Addr) (H':Hp),aB H H'->H' t=some (.tup [.int w.1,.int w.2])->Q (.ref t) H')
def apA:=nE anW
inductive al0 (vs:aA) (H:Hp) (Q:VK):Prop
 |mk (ws:aP) (h1:vs=[.str (Mk (jB ws))]) (h2:Uj ws) (h3:ws.length<=40) (h4:∀ (l:Addr) (H':Hp),aB H H'->m5 H' l ws->Q (.ref l) H')
def anY:=nE al0
inductive anZ (vs:aA) (H:Hp) (Q:VK):Prop
 |mk (aj:Int) (ws:aP) (h1:vs=[.str (oA aj ws)]) (h2:1<=aj) (h3:aj<=8) (h4:bJ aj ws) (h5:ws.length<=40) (h6:∀ (v:V) (H':Hp),aB H H'->eX H' v aj ws->Q v H')
def apB:=nE anZ
end
section
open PySem.SeqAt PySem.NumText
def gn (l:gB):gB:=if l.head?=some 45 then l.tail else l
def qT (l:gB):Prop:=1<=(gn l).length/\(gn l).length<=60/\AllDigits (gn l)/\(l=[48]\/(gn l).head?≠some 48)
def RdN (l:gB) (n:Int):Prop:=∀ d:Int,0<=d->d<=9->(n=d↔l=[dg d])
def an0 {d:Int} (h0:0<=d) (h9:d<=9):qT [dg d]:=by
 have e:gn [dg d]=[dg d]:=by unfold gn;rw [aK];intro z;have:dg d=45:=iB z;unfold dg at this;lk
 unfold qT;rw [e];refine ⟨by simp,by simp,λc a=>?_,?_⟩
 ·rw [yU.mp a];unfold dg;lk
 ·by_cases c:d=0
  ·subst c;exact .inl rfl
  ·refine .inr λz=>?_;have:dg d=48:=iB z;unfold dg at this;lk
def TV:∀ (cs:gB) (a:Nat),a*10 ^ cs.length<=cs.foldl (λbU c=>bU*10+(c-48)) a
 |[],a=>by simp
 |c::r,a=>by rw [jG,gA,Nat.pow_succ];refine gU ?_ (TV r (a*10+(c-48)));rw [Jz (10 ^ r.length) 10,<-Nat.mul_assoc];exact ab5 _ (vm _ _)
def an1 {c d:Nat} {r:gB} (h:AllDigits (c::d::r)) (n0:c≠48):10<=digitsVal (c::d::r):=by
 have a:=h.head;unfold digitsVal;rw [jG,jG];refine gU ?_ (TV r _);have p:1<=10 ^ r.length:=Rz (by decide);have q:10<=(0*10+(c-48))*10+(d-48):=by lk
 calc 10=10*1:=rfl
  _<=_:=RP q p
def an2 {c:Nat} {r:gB} (h:AllDigits (c::r)) (n0:c≠48):1<=digitsVal (c::r):=by
 have a:=h.head;unfold digitsVal;rw [jG];refine gU ?_ (TV r _);have p:1<=10 ^ r.length:=Rz (by decide);have q:1<=0*10+(c-48):=by lk
 calc 1=1*1:=rfl
  _<=_:=RP q p
def an3 {l:gB} (h:qT l):∃ n:Int,PySem.intText? (Mk l)=some n/\RdN l n/\l.length<=61:=by
 obtain ⟨i,o,g,z⟩:=h;by_cases c:l.head?=some 45
 ·obtain ⟨r,rfl⟩:∃ r,l=45::r:=by
   cases l with
   |nil=>cases c
   |cons a r=>exact ⟨r,by rw [iB c]⟩
  have m:gn (45::r)=r:=by unfold gn;rw [aQ c];rfl
  rw [m] at i o g z;have k:r≠[]:=λe=>by rw [e] at i;simp at i
  refine ⟨_,intText_neg (x:=Mk (45::r)) (cs:=r) rfl g k (by rw [<-cO];show (45::r).length<=4300;rw [gA];lk),λd p t=>?_,by rw [gA];lk⟩;constructor
  ·intro e;exfalso;rcases z with z|z
   ·cases z
   ·cases r with
    |nil=>exact k rfl
    |cons a q =>have:=an2 g (λy=>z (by rw [y];rfl));lk
  ·intro e;exfalso;have:(45:Nat)=dg d:=(J4 e).1;unfold dg at this;lk
 ·have m:gn l=l:=by unfold gn;rw [aK c]
  rw [m] at i o g z;have j:l≠[]:=λe=>by rw [e] at i;simp at i
  refine ⟨_,intText_digits (x:=Mk l) g j (by rw [<-cO];show l.length<=4300;lk),λd p t=>?_,by lk⟩;show ((digitsVal l:Nat):Int)=d↔_
  match l,j with
  |[a],_ =>
   have B:=g.head;have u:digitsVal [a]=a-48:=by unfold digitsVal;simp
   rw [u];constructor
   ·intro e;have:a=dg d:=by unfold dg;lk
    rw [this]
   ·intro e;have:a=dg d:=(J4 e).1;unfold dg at this;lk
  |a::b::r,_ =>
   have v:a≠48:=λy=>by
    rcases z with z|z
    ·cases z
    ·exact z (by rw [y];rfl)
   have:=an1 g v;constructor
   ·intro e;lk
   ·intro e;cases e
inductive ajC (vs:aA) (H:Hp) (Q:VK):Prop
 |mk (x:Str) (h1:vs=[.str x]) (h2:x.length<=5000) (h3:∀ (b:Bool) (H':Hp),aB H H'->(b=true↔qT (Ls x))->Q (.bl b) H')
def abz:=nE ajC
def ahP (x:Str) (c:Nat):startswith x ⟨#[c]⟩=decide ((Ls x).head?=some c):=by
 unfold startswith;have h:=RN x c 0;have e:(Ls x).head?=(Ls x)[0]?:=by cases Ls x<;>rfl
 rw [e,ug,Bu,rR,rR];exact h
def ac1 (c:Nat):(!(occurrences (ofString "0123456789") ⟨#[c]⟩ 0 (ofString "0123456789").length 1).isEmpty)=decide (48<=c/\c<=57):=by
 rw [StrLaws.found_one];have e:(ofString "0123456789").cps.toList=[48,49,50,51,52,53,54,55,56,57]:=by k_go
 rw [e,ug,rR,rR];simp only [fX,tZ,JV];lk
def ajD (x:Str) (c:Nat):Txt.split x ⟨#[c]⟩≠[]/\(∀ p∈Txt.split x ⟨#[c]⟩,c∉Ls p)/\Str.join ⟨#[c]⟩ (Txt.split x ⟨#[c]⟩)=x/\(Txt.split x ⟨#[c]⟩).length<=x.length+2:=by
 refine ⟨?_,StrLaws.split_free x c,StrLaws.join_split x _,PyProof.Rows.split_le x _⟩;unfold Txt.split;split
 ·simp
 ·split
  ·simp
  ·intro h;have:=je List.length h;rw [PyProof.Rows.len_partsBetween] at this;simp at this
end
section
open PySem.Spec PyProof.Rows
section
variable (K:bG) (hK:X.K=K)
include hK
def an4 {f:Str} {ta:TE} (he:PE X e ta) (hb:attributeBase e f X.env (eval e X.env)=eval e X.env):PE X (.Attribute e f pos) (z7 K ta f):=by subst hK;exact fY he hb
end
end
variable {t:aF}
section
open PySem.SeqAt
def ig (aj cC low:Int) (n:Nat):aF:=(range n).map λ(j:Nat)=>cC+aj*(low+(j:Int))
def fD (aj:Int):Nat->aF->aF
 |_,[]=>[]
 |i,c::r=>ig aj i 0 c.toNat++fD aj (i+1) r
def k_ (aj:Int):Nat->aF->aF
 |_,[]=>[]
 |i,c::r=>ig aj i c (-c).toNat++k_ aj (i+1) r
def fK:aF->Nat
 |[]=>0
 |c::r=>c.natAbs+fK r
def Ep (aj cC low:Int) (n:Nat):(ig aj cC low n).length=n:=by simp [ig]
def Iz (aj:Int):∀ (i:Nat) (t:aF),(fD aj i t).length<=fK t
 |_,[]=>bI _
 |i,c::r=>by show (ig aj i 0 c.toNat++fD aj (i+1) r).length<=c.natAbs+fK r;rw [dJ,Ep];have:=Iz aj (i+1) r;lk
def Jd (aj:Int):∀ (i:Nat) (t:aF),(k_ aj i t).length<=fK t
 |_,[]=>bI _
 |i,c::r=>by show (ig aj i c (-c).toNat++k_ aj (i+1) r).length<=c.natAbs+fK r;rw [dJ,Ep];have:=Jd aj (i+1) r;lk
def ZL (aj c:Int):∀ (i:Nat) (t:aF),fD aj i (t++[c])=fD aj i t++ig aj ((i+t.length:Nat):Int) 0 c.toNat
 |i,[]=>by simp [fD]
 |i,d::r=>by
  show ig aj i 0 d.toNat++fD aj (i+1) (r++[c])=(ig aj i 0 d.toNat++fD aj (i+1) r)++_;rw [ZL aj c (i+1) r,vh];have e:i+1+r.length=i+(d::r).length:=by simp;lk
  rw [e]
def aak (aj c:Int):∀ (i:Nat) (t:aF),k_ aj i (t++[c])=k_ aj i t++ig aj ((i+t.length:Nat):Int) c (-c).toNat
 |i,[]=>by simp [k_]
 |i,d::r=>by
  show ig aj i d (-d).toNat++k_ aj (i+1) (r++[c])=(ig aj i d (-d).toNat++k_ aj (i+1) r)++_;rw [aak aj c (i+1) r,vh];have e:i+1+r.length=i+(d::r).length:=by simp;lk
  rw [e]
def Je {low x:Int}:x∈ig aj cC low n↔∃ j:Nat,j<n/\x=cC+aj*(low+(j:Int)):=by
 unfold ig;rw [fW];constructor
 ·rintro ⟨j,a,e⟩;exact ⟨j,pL.mp a,e.symm⟩
 ·rintro ⟨j,a,e⟩;exact ⟨j,pL.mpr a,e.symm⟩
def En {x:Int}:∀ {i:Nat} {t:aF},x∈fD aj i t↔∃ (l j:Nat),l<t.length/\(j:Int)<t.getD l 0/\x=((i+l:Nat):Int)+aj*(j:Int)
 |i,[]=>by simp [fD]
 |i,c::r=>by
  show x∈ig aj i 0 c.toNat++fD aj (i+1) r↔_;rw [nM,Je,En (i:=i+1) (t:=r)];constructor
  ·rintro (⟨j,a,e⟩|⟨l,j,b,a,e⟩)
   ·exact ⟨0,j,by simp,by simp;lk, by rw [e];simp⟩
   ·refine ⟨l+1,j,by simp;lk, by simpa using a,?_⟩;rw [e,show i+1+l=i+(l+1) by lk]
  ·rintro ⟨l,j,b,a,e⟩;cases l with
   |zero=>exact .inl ⟨j,by simp at a;lk, by rw [e];simp⟩
   |succ l =>refine .inr ⟨l,j,by simp at b;lk, by simpa using a,?_⟩;rw [e,show i+1+l=i+(l+1) by lk]
def Qw (w1:1<=aj) (hl:t.length=aj.toNat) {n:Int} (hn:0<=n):n∈fD aj 0 t↔n / aj<t.getD (n % aj).toNat 0:=by
 rw [En];have i:=rP n (show aj≠0 by lk);have k:=rQ n (show 0<aj by lk);have a:=Fw hn (show 0<=aj by lk);have c:=J6 n aj;constructor
 ·rintro ⟨l,j,h1,h2,e⟩;have b:(l:Int)<aj:=by lk
  have g:n % aj=(l:Int):=by rw [e,oM,ab6];exact J7 (by lk) b
  have d:n / aj=(j:Int):=by rw [e,oM,zj _ _ (by lk),Fq (by lk) b];lk
  rw [g,d,kO];exact h2
 ·intro h;refine ⟨(n % aj).toNat,(n / aj).toNat,by lk, ?_,?_⟩
  ·rw [xH a];exact h
  ·rw [oM,xH i,xH a];exact c.symm
def Qx:∀ (t:aF) (i:Nat),fK (t.take i)<=fK t
 |[],i=>by simp
 |c::r,0=>fQ _
 |c::r,i+1=>by have:=Qx r i;show c.natAbs+fK (r.take i)<=c.natAbs+fK r;lk
def aal (aj cC low:Int) (n:Nat):ig aj cC low (n+1)=ig aj cC low n++[cC+aj*(low+(n:Int))]:=by unfold ig;rw [rN,cX];rfl
def Cw:∀ (l:Nat),(t.getD l 0).natAbs<=fK t:=by
 induction t with
 |nil=>intro l;simp
 |cons c r a =>
  intro l;show _<=c.natAbs+fK r;cases l with
  |zero=>simp
  |succ l =>have:=a l;simp only [List.getD_cons_succ];lk
def Il (w1:1<=aj) {x:Int} (h:x∈fD aj 0 t):0<=x:=by obtain ⟨l,j,_,_,e⟩:=En.mp h;have:0<=aj*(j:Int):=Int.mul_nonneg (by lk) (by lk);lk
def abA (w1:1<=aj) (w8:aj<=8) (hl:t.length=aj.toNat) (b:fK t<=63) {x:Int} (h:x∈fD aj 0 t):x<600:=by
 obtain ⟨l,j,d,g,e⟩:=En.mp h;have a:=Cw (t:=t) l;have c:(j:Int)<=63:=by lk
 have:aj*(j:Int)<=8*63:=RQ w8 c (by lk) (by lk);lk
def sX (aj:Int) (t:aF) (g:Int):Prop:=g∈0::fD aj 0 t/\∀ x∈0::fD aj 0 t,x<=g
def sX.nonneg {g:Int} (a:sX aj t g):0<=g:=a.2 0 (by simp)
def sX.lt {g:Int} (w1:1<=aj) (w8:aj<=8) (hl:t.length=aj.toNat) (b:fK t<=63) (a:sX aj t g):g<600:=by
 rcases fX.mp a.1 with e|e
 ·lk
 ·exact abA w1 w8 hl b e
def ajE (hp:ns.Perm (fD aj 0 t)) (e:ns=[]):sX aj t 0:=by subst e;have e:=hp.symm.eq_nil;unfold sX;rw [e];exact ⟨by simp,λx a=>by simp at a;lk⟩
def al1 {m:Int} (w1:1<=aj) (hp:ns.Perm (fD aj 0 t)) (h:vV ns m):sX aj t m:=by
 refine ⟨fH _ (hp.mem_iff.mp h.1),λx a=>?_⟩;rcases fX.mp a with rfl|a
 ·exact Il w1 (hp.mem_iff.mp h.1)
 ·exact h.2 x (hp.mem_iff.mpr a)
def uI (aj:Int) (t:aF) (n:Nat):aF:=((range n).map λ(k:Nat)=>(k:Int)).filter λk=>decide (t.getD (k % aj).toNat 0<=k / aj)
def aam (aj:Int) (t:aF) (n:Nat):uI aj t (n+1)=uI aj t n++(if t.getD ((n:Int) % aj).toNat 0<=(n:Int) / aj then [(n:Int)] else []):=by
 unfold uI;rw [rN,cX,zq]
 congr 1
 rw [gj,zO,Ry];by_cases h:t.getD ((n:Int) % aj).toNat 0<=(n:Int) / aj
 ·rw [aQ h,aQ (by simpa using h)];rfl
 ·rw [aK h,aK (by simpa using h)];rfl
def aaZ (aj:Int) (t:aF) (n:Nat):(uI aj t n).length<=n:=by unfold uI;refine gU (ab7 _ _) ?_;simp
def aa0 {a b:aF} (h1:a.Perm c) (h2:b.Perm c) (s1:a.Pairwise (·<=·)) (s2:b.Pairwise (·<=·)):a=b:=Perm.eq_of_pairwise (λx y _ _ h g=>Int.le_antisymm h g) s1 s2 (h1.trans h2.symm)
def Cy (aj:Int) (t:aF) (w:Str) (ns:aF):Prop :=
 (w="standing"/\ns.Perm (fD aj 0 t)/\ns.Pairwise (·<=·))\/(w="owed"/\ns.Perm (k_ aj 0 t)/\ns.Pairwise (·<=·))\/(w="lacking"/\∃ g,sX aj t g/\ns=uI aj t g.toNat)
def Cy.len {w:Str} {a:aF} (w1:1<=aj) (w8:aj<=8) (hl:t.length=aj.toNat) (b:fK t<=63) (x:Cy aj t w a):a.length<=1000:=by
 rcases x with ⟨_,p,_⟩|⟨_,p,_⟩|⟨_,g,c,rfl⟩
 ·rw [p.length_eq];have:=Iz aj 0 t;lk
 ·rw [p.length_eq];have:=Jd aj 0 t;lk
 ·have:=aaZ aj t g.toNat;have:=c.lt w1 w8 hl b;lk
def jT:List Place->Nat
 |[]=>0
 |pl::r=>(if cB pl then 1 else 0)+jT r
def ac2:∀ ps:List Place,jT ps<=ps.length
 |[]=>bI _
 |pl::r=>by have:=ac2 r;show (if cB pl then 1 else 0)+jT r<=r.length+1;split<;>lk
def aa1 (pl:Place):∀ ps:List Place,jT (ps++[pl])=jT ps+if cB pl then 1 else 0
 |[]=>by simp [jT]
 |q::r=>by show (if cB q then 1 else 0)+jT (r++[pl])=(if cB q then 1 else 0)+jT r+_;rw [aa1 pl r];lk
def QV (i_:Place):∀ (ps:List Place) (i:Nat) (pl:Place),ps[i]?=some pl->jT (ps.set i i_)+(if cB pl then 1 else 0)=jT ps+if cB i_ then 1 else 0
 |[],i,pl,h=>by simp at h
 |q::r,0,pl,h=>by
  have e:q=pl:=by simpa using h
  subst e;show (if cB i_ then 1 else 0)+jT r+_=(if cB q then 1 else 0)+jT r+_;lk
 |q::r,i+1,pl,h=>by have:=QV i_ r i pl (by simpa using h);show (if cB q then 1 else 0)+jT (r.set i i_)+_=(if cB q then 1 else 0)+jT r+_;lk
def abB {x c:Int} (hc:c=1\/c=-1):∀ (t:aF) (l:Nat),x=t.getD l 0+c->fK (t.set l x)<=fK t+1
 |[],l,_=>by simp [fK]
 |d::r,0,h=>by show x.natAbs+fK r<=d.natAbs+fK r+1;simp at h;lk
 |d::r,l+1,h=>by have:=abB hc r l (by simpa using h);show d.natAbs+fK (r.set l x)<=d.natAbs+fK r+1;lk
def al2 (n:Nat):fK (replicate n 0)=0:=by
 induction n with
 |zero=>rfl
 |succ n a=>rw [ju];show Int.natAbs 0+_=0;rw [a];rfl
def rA (st:cH):Prop:=fK st.bM<=jT st.aX
def rA.start (aj:Int) (ws:aP):rA (jF aj ws):=by show fK (replicate aj.toNat 0)<=jT [];rw [al2];exact bI _
def rA.enter {c:Int} (h:rA st):rA (mO ws st cC c):=by show fK st.bM<=jT (st.aX++[gF ws cC 0]);rw [aa1];have:fK st.bM<=jT st.aX:=h;lk
def rA.step (h:rA st) (wf:Wf aj ws st) (hi:st.aX[i]?=some pl):rA (kZ aj ws st i pl):=by
 have h':fK st.bM<=jT st.aX:=h;have g:i<st.aX.length:=(dY.mp hi).1;have j:=wf.cl;cases pl with
 |out l n=>exact h
 |before k l =>show fK st.bM<=jT (st.aX.set i (jA aj ws st i (.before k l)));have:=QV (jA aj ws st i (.before k l)) st.aX i _ hi;have e:cB (.before k l)=false:=rfl;rw [e,aK (by decide),JW] at this;rw [this];lk
 |exit l =>show fK (st.bM.set l.toNat (st.bM.getD l.toNat 0+st.chg.getD i 0))<=jT (st.aX.set i (.out l (jR aj st l (st.chg.getD i 0))));have a:=abB (x:=st.bM.getD l.toNat 0+st.chg.getD i 0) (wf.cs i (by lk)) st.bM l.toNat rfl;have b:=QV (.out l (jR aj st l (st.chg.getD i 0))) st.aX i _ hi;have c:cB (.exit l)=false:=rfl;have d:cB (.out l (jR aj st l (st.chg.getD i 0)))=true:=rfl;rw [c,d,aK (by decide),aQ rfl,JW] at b;rw [b];lk
def rA.le (h:rA st):fK st.bM<=st.aX.length:=gU h (ac2 _)
def an5 {Hd:Hp} (nt:eG Hd v aj ws) (x dx:Addr) (fx:Hd x=none) (Ho:Hd dx=none) {R:Hp->Prop} (h:∀ (L:dB) (H':Hp),(∀ b∈L.own x,Hd b=none)->cN C H' x v L (jF aj ws)->aB Hd H'->R H') : R_ C (.ref x::([v]++[])) (upd (upd Hd dx (.own x)) x (.ins C dx [])) (λv2 H2=>v2=.non/\R H2) E0:=by
 have a:aB Hd (upd (upd Hd dx (HO.own x)) x (HO.ins C dx [])):=bQ fx (bQ Ho (cW Hd));have d:(upd (upd Hd dx (HO.own x)) x (HO.ins C dx [])) x=some (.ins C dx []):=aM;generalize upd (upd Hd dx (HO.own x)) x (HO.ins C dx [])=n at a d;refine ⟨x,dx,v,aj,ws,rfl,d,nt.kt (cG a (bY _)),λL H1 i g k j l c=>⟨rfl,h L H1 (λb m=>?_) l (λb o e=>c b o (a b o e) (cV e fx))⟩⟩;rcases Sg.mp m with rfl|rfl|rfl|rfl|rfl
 ·exact fx
 ·exact a.free i
 ·exact a.free g
 ·exact a.free k
 ·exact a.free j
inductive an6 (vs:aA) (H:Hp) (Q:VK):Prop
 |mk (aj cC lo hi:Int) (h1:vs=[.int aj,.int cC,.int lo,.int hi]) (h2:1<=aj) (h3:aj<=8) (h4:(-1000<=lo/\lo<=1000)/\(-1000<=hi/\hi<=1000)) (h5:∀ (a:Addr) (H':Hp),H a=none->aB H H'->H' a=some (.lst ((ig aj cC lo (hi-lo).toNat).map V.int))->Q (.ref a) H')
def apC:=nE an6
inductive al3 (C:Addr) (vs:aA) (H:Hp) (Q:VK):Prop
 |mk (p:Addr) (v:V) (aj:Int) (ws:aP) (L:dB) (st:cH) (h1:vs=[.ref p]) (h2:eG H v aj ws) (h3:cN C H p v L st) (h4:st.bM.length=aj.toNat) (h5:fK st.bM<=63) (h6:∀ (a:Addr) (ns:aF) (H':Hp),H a=none->aB H H'->ns.Perm (fD aj 0 st.bM)->ns.Pairwise (·<=·)->H' a=some (.lst (ns.map V.int))->Q (.ref a) H')
def an7 (C:Addr):=nE (al3 C)
inductive an8 (C:Addr) (vs:aA) (H:Hp) (Q:VK):Prop
 |mk (p:Addr) (v:V) (aj:Int) (ws:aP) (L:dB) (st:cH) (h1:vs=[.ref p]) (h2:eG H v aj ws) (h3:cN C H p v L st) (h4:st.bM.length=aj.toNat) (h5:fK st.bM<=63) (h6:∀ (a:Addr) (ns:aF) (H':Hp),H a=none->aB H H'->ns.Perm (k_ aj 0 st.bM)->ns.Pairwise (·<=·)->H' a=some (.lst (ns.map V.int))->Q (.ref a) H')
def apD (C:Addr):=nE (an8 C)
inductive an9 (C:Addr) (vs:aA) (H:Hp) (Q:VK):Prop
 |mk (p:Addr) (v:V) (aj:Int) (ws:aP) (L:dB) (st:cH) (h1:vs=[.ref p]) (h2:eG H v aj ws) (h3:cN C H p v L st) (h4:st.bM.length=aj.toNat) (h5:fK st.bM<=63) (h6:∀ (a:Addr) (g:Int) (H':Hp),H a=none->aB H H'->sX aj st.bM g->H' a=some (.lst ((uI aj st.bM g.toNat).map V.int))->Q (.ref a) H')
def apE (C:Addr):=nE (an9 C)
end
section
open PySem.Spec PyProof.Rows
end
section
end
section
open PySem.SeqAt
def Gj {l:Int} (w1:1<=aj) (l0:0<=l) (l1:l<aj):(l+aj*q) % aj=l/\(l+aj*q) / aj=q:=by
 constructor
 ·rw [ab6];exact J7 l0 l1
 ·rw [zj _ _ (by lk),Fq l0 l1];lk
def Jf {x:Int}:∀ {i:Nat} {t:aF},x∈k_ aj i t↔∃ (l:Nat) (q:Int),l<t.length/\t.getD l 0<=q/\q<0/\x=((i+l:Nat):Int)+aj*q
 |i,[]=>by simp [k_]
 |i,c::r=>by
  show x∈ig aj i c (-c).toNat++k_ aj (i+1) r↔_;rw [nM,Je,Jf (i:=i+1) (t:=r)];constructor
  ·rintro (⟨j,d,e⟩|⟨l,q,a,h1,h2,e⟩)
   ·exact ⟨0,c+j,by simp,by show c<=_;lk, by lk, by rw [e];simp⟩
   ·refine ⟨l+1,q,by simp;lk, by simpa using h1,h2,?_⟩;rw [e,show i+1+l=i+(l+1) by lk]
  ·rintro ⟨l,q,a,h1,h2,e⟩;cases l with
   |zero =>
    have b:c<=q:=by simpa using h1
    exact .inl ⟨(q-c).toNat,by lk, by rw [e,xH (by lk)];simp;congr 1;lk⟩
   |succ l =>refine .inr ⟨l,q,by simp at a;lk, by simpa using h1,h2,?_⟩;rw [e,show i+1+l=i+(l+1) by lk]
def al4 (w1:1<=aj) (hl:t.length=aj.toNat) {n:Int}:n∈k_ aj 0 t↔t.getD (n % aj).toNat 0<=n / aj/\n / aj<0:=by
 rw [Jf];have g:=rP n (show aj≠0 by lk);have i:=rQ n (show 0<aj by lk);have a:=J6 n aj;constructor
 ·rintro ⟨l,q,h1,h2,c,e⟩;obtain ⟨d,b⟩:=Gj (aj:=aj) (l:=(l:Int)) (q:=q) w1 (by lk) (by lk);rw [oM] at e;rw [e,d,b,kO];exact ⟨h2,c⟩
 ·rintro ⟨h1,h2⟩;refine ⟨(n % aj).toNat,n / aj,by lk, h1,h2,?_⟩;rw [oM,xH g];exact a.symm
def ahQ (w1:1<=aj) (hl:t.length=aj.toNat) {n:Int}:n∈fD aj 0 t↔0<=n / aj/\n / aj<t.getD (n % aj).toNat 0:=by
 by_cases a:0<=n
 ·rw [Qw w1 hl a];have:=Fw a (show 0<=aj by lk);constructor
  ·exact λh=>⟨this,h⟩
  ·exact λh=>h.2
 ·constructor
  ·intro h;exact absurd (Il w1 h) a
  ·rintro ⟨h,_⟩;have:=J8 (show n<0 by lk) (show 0<aj by lk);lk
def ZM {low:Int} (w1:1<=aj) (n:Nat):(ig aj cC low n).Nodup:=by
 unfold ig;refine zp _ (R:=λa b=>a<b) (λa b h z=>?_) RV;have:aj*(low+(a:Int))=aj*(low+(b:Int)):=by lk
 have:=Int.eq_of_mul_eq_mul_left (by lk) this;lk
def O4 (w1:1<=aj):∀ (i:Nat) (t:aF),(i:Int)+t.length<=aj->(fD aj i t).Nodup
 |_,[],_=>J9
 |i,c::r,h=>by show (ig aj i 0 c.toNat++fD aj (i+1) r).Nodup;rw [gA] at h;refine List.nodup_append.mpr ⟨ZM w1 _,O4 w1 (i+1) r (by lk),λa k b m z=>?_⟩;subst z;obtain ⟨j,_,e⟩:=Je.mp k;obtain ⟨l,d,n,_,g⟩:=En.mp m;have h1:=(Gj (aj:=aj) (l:=(i:Int)) (q:=0+(j:Int)) w1 (by lk) (by lk)).1;have h2:=(Gj (aj:=aj) (l:=((i+1+l:Nat):Int)) (q:=(d:Int)) w1 (by lk) (by lk)).1;rw [<-e] at h1;rw [<-g] at h2;lk
def ZP (w1:1<=aj):∀ (i:Nat) (t:aF),(i:Int)+t.length<=aj->(k_ aj i t).Nodup
 |_,[],_=>J9
 |i,c::r,h=>by show (ig aj i c (-c).toNat++k_ aj (i+1) r).Nodup;rw [gA] at h;refine List.nodup_append.mpr ⟨ZM w1 _,ZP w1 (i+1) r (by lk),λa g b k z=>?_⟩;subst z;obtain ⟨j,_,e⟩:=Je.mp g;obtain ⟨l,q,m,_,_,d⟩:=Jf.mp k;have h1:=(Gj (aj:=aj) (l:=(i:Int)) (q:=c+(j:Int)) w1 (by lk) (by lk)).1;have h2:=(Gj (aj:=aj) (l:=((i+1+l:Nat):Int)) (q:=q) w1 (by lk) (by lk)).1;rw [<-e] at h1;rw [<-d] at h2;lk
end
section
end
section
open PySem.SeqAt
section
variable {lt li pn:Addr} {ts is:aP}
def Dc {y:Addr} (h:y∉S):Dj S [y]:=λa c b=>h (by simp at b;rw [<-b];exact c)
end
end
section
open PySem.Spec PyProof.Rows
section
end
end
section
open PySem.SeqAt
end
section
open PySem.Spec PyProof.Rows
inductive ZQ (xs:aA) (H:Hp) (Q:VK):Prop
 |int (i:Int) (h1:xs=[.int i]) (h2:i.natAbs.log2<1920) (h3:Q (.str (toString i)) H)
 |str (x:Str) (h1:xs=[.str x]) (h3:Q (.str x) H)
def ajF:jz X (.type "str") ZQ:=by
 intro ak s σ H xs us Q I r h;rcases h with ⟨i,rfl,a,q⟩|⟨x,rfl,q⟩
 ·obtain ⟨u,rfl,t,rfl⟩:=qG r;exact PySem.P.str_of_int a ⟨.str _,H,I.tok _,⟨_,rfl⟩,q⟩
 ·obtain ⟨u,rfl,t,rfl⟩:=qG r;exact PySem.P.str_of_str ⟨.str _,H,I,⟨_,rfl⟩,q⟩
section
variable {f0:Addr} {s₀:Shared} {H₀:Hp} {E:XK}
def an_ (P:Program) (w:World) (K:bG) (mg:dR) (au:Heap) (E:XK) (k:Nat) (tf:TE) (t:TA):TE:=λσ H Q=>tf σ H λv H1=>∃ g ps sp,v=.ref g/\ad6 P w K mg au g k ps sp/\t σ H1 λvs H2=>∃ Q':VK,sp vs H2 Q' E/\∀ v a,Q' v a->Q v a
def ajG {f:Expr} {k:Nat} {tf:TE} {t:TA} (hf:PE (XC P w K mg au N bZ scope f0 cd A outer s₀ H₀ E) f tf) (hr:eN k (XC P w K mg au N bZ scope f0 cd A outer s₀ H₀ E).A) (ha:PA (XC P w K mg au N bZ scope f0 cd A outer s₀ H₀ E) (e::es) t) (ht:eval (.Call f (e::es) [] pos) (XC P w K mg au N bZ scope f0 cd A outer s₀ H₀ E).env=(do callWith pos (<-eval f (XC P w K mg au N bZ scope f0 cd A outer s₀ H₀ E).env) [] (backTo pos (starEach (e::es) (XC P w K mg au N bZ scope f0 cd A outer s₀ H₀ E).env)) (backToKw pos (keywordEach [] (XC P w K mg au N bZ scope f0 cd A outer s₀ H₀ E).env))):=by rfl) (he:starEach (e::es) (XC P w K mg au N bZ scope f0 cd A outer s₀ H₀ E).env=(false,eval e (XC P w K mg au N bZ scope f0 cd A outer s₀ H₀ E).env)::starEach es (XC P w K mg au N bZ scope f0 cd A outer s₀ H₀ E).env:=by rfl) (hpl:(backTo pos (starEach es (XC P w K mg au N bZ scope f0 cd A outer s₀ H₀ E).env)).any (·.1)=false:=by rfl) : PE (XC P w K mg au N bZ scope f0 cd A outer s₀ H₀ E) (.Call f (e::es) [] pos) (an_ P w K mg au E k tf t):=by intro ak s σ H Q I h;rw [ht];refine bf (bA (hf ak s σ H _ I h) λu l ⟨x,H1,c,d,g,ps,sp,ex,C,q⟩=>?_);subst ex;obtain rfl:u=Value.ref g:=d;obtain ⟨fd,F,i,j⟩:=C.ex;refine Ga (h₀:=(XC P w K mg au N bZ scope f0 cd A outer s₀ H₀ E).au) c.ok.mod.yu j (bA (ha pos ak l σ H1 _ c q) λus z ⟨vs,H2,a,r,Q',m,imp⟩=>⟨a.gq,?_⟩) he hpl;exact bA (K6 F hr i .nil ad5 a r (by rw [nO];exact m)) λu y ⟨v,b,n,o,p⟩=>⟨v,b,n,o,imp v b p⟩
end
def dw.none {k:Nat} (F:dw P w K mg au (lU P w) k f fd ps sp):dw P w K mg au jL k f fd ps (λvs H Q _=>sp vs H Q λ_ _ _=>False):=⟨λvs H Q E h=>F.len vs H Q _ h,λA outer s H a us vs Q E hr d c r i=>su (F.run A outer s H a us vs Q (λ_ _ _=>False) hr d c r i) λb s' q=>by
  cases b with
  |ok g=>cases g with
   |ret u=>exact q
   |next=>exact q
   |brk=>exact q
   |cont=>exact q
  |error e =>obtain ⟨_,_,_,_,_,_,_,_,_,_,_,_,_,z⟩:=q;exact z.elim⟩
def Br (w:World):List DictEntry->bK->Prop
 |[],[]=>True
 |e::es,x::xs=>(∃ t,e.key=.str x t)/\e.hash=hashStr w x/\Br w es xs
 |_,_=>False
def wz:List DictEntry->bK->iT
 |e::es,x::xs=>(.inr x,e.val)::wz es xs
 |_,_=>[]
def aan:∀ {es:List DictEntry} {xs:bK},Br w es xs->(wz es xs).map (·.1)=xs.map Sum.inr
 |[],[],_=>rfl
 |e::es,x::xs,h=>by show Sum.inr x::_=Sum.inr x::_;rw [aan h.2.2]
 |[],_::_,h=>h.elim
 |_::_,[],h=>h.elim
def ZR:∀ {es:List DictEntry} {xs:bK},Br w es xs->Pairs (kE P w) es (wz es xs)
 |[],[],_=>.nil
 |e::es,x::xs,h=>by obtain ⟨⟨t,a⟩,_,r⟩:=h;exact .cons (by rw [a];exact O6 P w x t) rfl (ZR r)
 |[],_::_,h=>h.elim
 |_::_,[],h=>h.elim
def aao:∀ {es:List DictEntry} {xs:bK},Br w es xs->∀ e∈es,∃ k,(kE P w).is k e.key=true/\e.hash=(kE P w).hash k
 |[],[],_=>λe a=>by cases a
 |e::es,x::xs,h=>λd g=>by
  obtain ⟨⟨t,b⟩,c,r⟩:=h;rcases fX.mp g with rfl|z
  ·exact ⟨.inr x,by rw [b];exact O6 P w x t,c⟩
  ·exact aao r d z
 |[],_::_,h=>h.elim
 |_::_,[],h=>h.elim
def abC:∀ {es:List DictEntry} {xs:bK} {i:Nat} {e:DictEntry} {x:Str},xs.Nodup->es[i]?=some e->xs[i]?=some x->valueAt (wz es xs) (.inr x)=some e.val
 |[],_,_,_,_,_,h,_=>by simp at h
 |_::_,[],_,_,_,_,_,h=>by simp at h
 |d::es,y::xs,0,e,x,_,h1,h2=>by simp at h1 h2;subst h1 h2;simp [wz,valueAt,xG]
 |d::es,y::xs,i+1,e,x,nd,h1,h2=>by
  have a:xs[i]?=some x:=by simpa using h2
  have g:¬ y=x:=λz=>by subst z;exact (sE.mp nd).1 (fj a)
  have c:=abC (i:=i) (sE.mp nd).2 (by simpa using h1) a;rw [<-c];show Option.map _ (List.find? _ ((Sum.inr y,d.val)::wz es xs))=_;rw [xG];have b:decide ((Sum.inr y:eF)=Sum.inr x)=false:=lJ λz=>g (La z);simp only [b];rfl
def ajH {xs:bK} (h:xs.Nodup):(xs.map (Sum.inr:Str->eF)).Nodup:=by
 induction xs with
 |nil=>exact J9
 |cons x r d =>obtain ⟨a,b⟩:=sE.mp h;refine sE.mpr ⟨λz=>a ?_,d b⟩;obtain ⟨y,c,e⟩:=fW.mp z;exact La e ▸ c
def al5 {es:Array DictEntry} {ep:Nat} {xs:bK} (l:K.lookup a=some ⟨.type "dict",none,.dict es ep,#[]⟩) (h:Br w es.toList xs) (nd:xs.Nodup) (ns:(a == sysModules)=false):Cu P w K a (wz es.toList xs):=⟨⟨_,l,λc e=>⟨_,es,ep,e,⟨rfl,rfl,rfl⟩,rfl,λd b=>aao h d (K3.mpr b),ZR h,by rw [aan h];exact ajH nd⟩⟩,ns⟩
def afR (l:Addr) (eZ:h_) (n:Nat) (dd:jy) (sl:uy) (u:Tok) (h0:eZ.isEmpty=false) : Meets (Builtin.«tuple.__mul__» ⟨[.ref l,.int 1 u],[]⟩) (λ_ R s=>s.heap.get? l=some { cls:=.type "tuple",dict:=dd,data:=.seq eZ n,slots:=sl }/\R (.ok (.ret (.ref l))) s):=.of_wp λprog w A R s h=>by
  obtain ⟨b,g,d,c,e⟩:=s;obtain ⟨a,h⟩:=h
  wp_walk using CQ a
  exact ⟨_,rfl,h⟩
def afx (l:Addr) (eZ:h_) (n:Nat) (dd:jy) (sl:uy) (x:Int) (u:Tok) (h0:eZ.isEmpty=false) (h1:x<=0) (h2:-1000<=x) : Meets (Builtin.«tuple.__mul__» ⟨[.ref l,.int x u],[]⟩) (λ_ R s=>s.heap.get? l=some { cls:=.type "tuple",dict:=dd,data:=.seq eZ n,slots:=sl }/\R (.ok (.ret (.ref s.heap.objs.size))) { s with heap:=s.heap.push { cls:=.type "tuple",data:=.seq #[] } }):=.of_wp λprog w A R s h=>by
  obtain ⟨b,g,d,c,e⟩:=s;obtain ⟨a,h⟩:=h
  wp_walk using CQ a
  rw [aK (by simp;lk)]
  wp_walk using CQ a
  rw [aK (by simp [h0];lk)]
  wp_walk
  exact ⟨_,rfl,h⟩
inductive apF (x:V) (y:V) (H:Hp) (Q:VK):Prop
 |mk (l:Addr) (k:Int) (xs:aA) (h1:x=.ref l) (h2:y=.int k) (h3:H l=some (.tup xs)) (h4:1<=xs.length) (h5:-1000<=k) (h6:xs.length*k.toNat<=1000) (h7:∀ p H',aB H H'->H' p=some (.tup (replicate k.toNat xs).flatten)->Q (.ref p) H')
def aqH:R2:=λx y H Q=>apF x y H Q
def an':dO X (binaryOp .Mult) aqH:=by
 rintro ak s σ H x y v u Q I j z ⟨l,k,xs,rfl,rfl,i,h1,h5,O,q⟩;by_cases D:2<=k
 ·exact anN ak s σ H _ _ v u Q I j z ⟨l,k,xs,rfl,rfl,i,h1,D,O,λp fp=>q p _ (cu fp _) aM⟩
 cases j;obtain ⟨t,rfl⟩:=z;obtain ⟨aJ,r,R,_⟩:=I.tuple (aZ (K:=X.K) i);obtain ⟨⟨B,g,S,d⟩,c,M,n,N⟩:=id R;cases M;cases N;have L:xs.length=aJ.length:=r.length;have m:aJ.toArray.isEmpty=false:=by
  cases aJ with
  |nil=>rw [show xs.length=0 from L] at h1;lk
  |cons a b=>rfl
 by_cases B:k=1
 ·subst B;exact Ju (T:="tuple") (U:="int") (by decide) ⟨_,c,rfl⟩ (λs'=>vf s' 1 t) Oi Jv wY O2 Jw.lookup (lX wY (vf s 1 t) Jx (Jy _ _) (Ou 1 t l aJ.toArray n g d) ⟨c,rfl,⟨_,c,rfl⟩,lX Fv ⟨_,c,rfl⟩ RJ (RK _ _) (afR l aJ.toArray n g d t m) ⟨c,.ref l,H,I,rfl,q l H (cW _) (by rw [show (1:Int).toNat=1 from rfl,List.replicate_one,List.flatten_singleton];exact i)⟩⟩)
 ·refine Ju (T:="tuple") (U:="int") (by decide) ⟨_,c,rfl⟩ (λs'=>vf s' k t) Oi Jv wY O2 Jw.lookup (lX wY (vf s k t) Jx (Jy _ _) (Ou k t l aJ.toArray n g d) ⟨c,rfl,⟨_,c,rfl⟩,lX Fv ⟨_,c,rfl⟩ RJ (RK _ _) (afx l aJ.toArray n g d k t m (by lk) h5) ⟨c,?_⟩⟩);have J:(replicate k.toNat xs).flatten=[]:=by rw [show k.toNat=0 by lk];rfl
  have C:aD X ak σ (upd H s.heap.objs.size (.tup [])) { s with heap:=s.heap.push { cls:=.type "tuple",data:=.seq #[] } }:=I.laid (t':=s.toks) (λb o e=>dF _ e) (bI _) (show dZ X.prog X.w _ _ _ (.tup []) from ⟨fQ _,[],.nil,oU.new _ _⟩);exact ⟨.ref _,_,C,rfl,q _ _ (cu I.fresh _) (by rw [J];exact aM)⟩
def qd (K:bG) (H:Hp) (a:Addr) (xs:aA):Prop:=H a=some (.tup xs)\/∃ (o:Obj) (aJ:h_) (n:Nat),K.lookup a=some o/\o.cls=.type "tuple"/\o.data=.seq aJ n/\aJ.size<=sizeLine/\bO xs aJ.toList
def qd.sq (h:qd K H a xs):gG K H a xs:=h.elim (λe=>aZ e) λe=>.inr e
def qd.kt (h:qd K H a xs) (k:∀ b ys,H b=some (.tup ys)->H' b=some (.tup ys)):qd K H' a xs:=h.imp (λe=>k _ _ e) id
def qd.same (h:qd K H a xs) (s:aB H H'):qd K H' a xs:=h.kt λb ys e=>s _ _ e
inductive apG (K:bG) (x y:V) (H:Hp) (Q:VK):Prop
 |mk (a b:Addr) (xs ys:aA) (h1:x=.ref a) (h2:y=.ref b) (h3:qd K H a xs) (h4:H b=some (.tup ys)) (h5:xs≠[]) (h6:xs.length+ys.length<=sizeLine) (h7:∀ c H',aB H H'->qd K H' c (xs++ys)->Q (.ref c) H')
def aqI (K:bG):R2:=λx y H Q=>apG K x y H Q
def aoa:dO X (binaryOp .Add) (aqI X.K):=by
 rintro ak s σ H x y v u Q I d j ⟨a,b,xs,ys,rfl,rfl,c,g,l,k,q⟩;refine acu ak s σ H _ _ v u Q I d j ⟨a,b,xs,ys,rfl,rfl,c.sq,aZ g,l,k,λe=>?_,λ_ p i=>?_⟩
 ·subst e;exact q a H (cW _) (by rw [nO];exact c)
 ·exact q p _ (cu i _) (.inl aM)
def ajI {k:Nat} {p:Pos} (M:Kw X.prog X.w X.K X.mg X.au x C k ps sp) (hr:eN (k+1) X.A) (hg:Gl X x) (hdb:(x == ("__debug__":Str))=false:=by decide) : PE X (.Call (.Name x p) [] [] pos) (Le C sp [] E0 wB):=by obtain ⟨f,fd,F,b,a⟩:=M.ex;exact akM a F hr hg M.at_ b .nil Gs hdb
end
section
open PySem.SeqAt PyProof.Rows
def QW (x:Str) (c hi oR:Nat) (hh:hi=x.length):∀ (l:gB) (l':gB) (st:Array Nat×Nat),(∀ i∈l,(Ls x)[i]?≠some c) ->forIn (m:=Id) (l++l') st (occBody x ⟨#[c]⟩ hi oR)=forIn (m:=Id) l' st (occBody x ⟨#[c]⟩ hi oR)
 |[],_,_,_=>rfl
 |i::l,l',st,h=>by rw [RB,Bw];have n:¬ (((st.fst.size<oR/\st.snd<=i)/\i+(⟨#[c]⟩:Str).length<=hi)/\subAt x ⟨#[c]⟩ i=true):=λz=>h i iz (Gi.mp ⟨hh ▸ z.1.2,z.2⟩);unfold occBody;rw [aK n];exact QW x c hi oR hh l l' st λj a=>h j (fH _ a)
def ac3 (x:Str) (c hi oR:Nat) (hh:hi=x.length) (i:Nat) (l':gB) (st:Array Nat×Nat) (h:(Ls x)[i]?=some c) (h1:st.1.size<oR) (h2:st.2<=i) : forIn (m:=Id) (i::l') st (occBody x ⟨#[c]⟩ hi oR)=forIn (m:=Id) l' (st.1.push i,i+1) (occBody x ⟨#[c]⟩ hi oR):=by
 rw [Bw];have a:=Gi.mpr h;have n:(((st.fst.size<oR/\st.snd<=i)/\i+(⟨#[c]⟩:Str).length<=hi)/\subAt x ⟨#[c]⟩ i=true):=⟨⟨⟨h1,h2⟩,hh ▸ a.1⟩,a.2⟩
 conv=>lhs;unfold occBody
 rw [aQ n];rfl
def abD (x:Str) (c hi oR:Nat):∀ (l:gB) (st:Array Nat×Nat),oR<=st.1.size->(forIn (m:=Id) l st (occBody x ⟨#[c]⟩ hi oR))=st
 |[],_,_=>rfl
 |i::l,st,h=>by
  rw [Bw];have n:¬ (((st.fst.size<oR/\st.snd<=i)/\i+(⟨#[c]⟩:Str).length<=hi)/\subAt x ⟨#[c]⟩ i=true):=λz=>by have:=z.1.1.1;lk
  unfold occBody;rw [aK n];exact abD x c hi oR l st h
def aob {a b d:gB} {c:Nat} (ha:c∉a) (hb:c∉b):occurrences (Mk (a++c::(b++c::d))) ⟨#[c]⟩ 0 (Mk (a++c::(b++c::d))).length 2=[a.length,a.length+1+b.length]:=by
 have m:(Mk (a++c::(b++c::d))).length=a.length+1+b.length+1+d.length:=by rw [<-cO,Lq];simp;lk
 have g:∀ i:Nat,(Ls (Mk (a++c::(b++c::d))))[i]?=(a++c::(b++c::d))[i]?:=λi=>by rw [Lq]
 rw [StrLaws.occ_eq];have l:range' 0 ((Mk (a++c::(b++c::d))).length+1-0)=range' 0 a.length++a.length::(range' (a.length+1) b.length++(a.length+1+b.length)::range' (a.length+1+b.length+1) (d.length+1)):=by rw [m,show a.length+1+b.length+1+d.length+1-0=a.length+(1+(b.length+(1+(d.length+1)))) by lk];rw [<-J_,oM,<-J_ (n:=b.length+(1+(d.length+1))),<-J_ (n:=1+(d.length+1)),<-J_ (n:=d.length+1)];rfl
 rw [l];have e:∀ i∈range' 0 a.length,(Ls (Mk (a++c::(b++c::d))))[i]?≠some c:=λi hi z=>by
  have o:i<a.length:=by have:=List.mem_range'_1.mp hi;lk
  rw [g,qI o] at z;exact ha (fj z)
 have k:∀ i∈range' (a.length+1) b.length,(Ls (Mk (a++c::(b++c::d))))[i]?≠some c:=λi hi z=>by obtain ⟨h1,h2⟩:=List.mem_range'_1.mp hi;obtain ⟨j,rfl⟩:∃ j,i=a.length+1+j:=⟨i-a.length-1,by lk⟩;rw [g,xV (by lk),show a.length+1+j-a.length=j+1 by lk, ab8,qI (by lk)] at z;exact hb (fj z)
 rw [QW _ _ _ _ rfl _ _ _ e,ac3 _ _ _ _ rfl _ _ _ (by rw [g];simp) (by decide) (fQ _),QW _ _ _ _ rfl _ _ _ k,ac3 _ _ _ _ rfl _ _ _ ?_ (by simp) (by show a.length+1<=_;lk),abD _ _ _ _ _ _ (by simp)]
 ·rfl
 ·rw [g,xV (by lk),show a.length+1+b.length-a.length=b.length+1 by lk, ab8];simp
def al6 (x:Str) {c:Nat} (hc:c<256):¬ (Builtin.Str.strKind x<Builtin.Str.strKind ⟨#[c]⟩):=by
 have e:Builtin.Str.strKind ⟨#[c]⟩=1:=by unfold Builtin.Str.strKind;rw [aQ (by simp [hc])]
 rw [e];unfold Builtin.Str.strKind;split
 ·lk
 ·split<;>lk
def ajJ {a b d:gB} {c:Nat} (hc:c<256) (ha:c∉a) (hb:c∉b):splitMax (Mk (a++c::(b++c::d))) ⟨#[c]⟩ 2=[Mk a,Mk b,Mk d]:=by
 have e:(Mk (a++c::(b++c::d))).length=a.length+1+b.length+1+d.length:=by rw [<-cO,Lq];simp;lk
 have j:limitOf (Mk (a++c::(b++c::d))) 2=2:=rfl;unfold splitMax;rw [j,aob ha hb,aK,aK (by simp)]
 ·unfold partsBetween strSub;rw [e];show [_,_,_]=_;have i:((Mk (a++c::(b++c::d))).cps.extract 0 a.length)=a.toArray:=by unfold Mk;simp
  have k:((Mk (a++c::(b++c::d))).cps.extract (a.length+1) (a.length+1+b.length))=b.toArray:=by
   unfold Mk;rw [ab9,ab_,List.drop_take]
   congr 1
   rw [show a.length+1+b.length-(a.length+1)=b.length by lk, <-Ka,RX];simp
  have g:((Mk (a++c::(b++c::d))).cps.extract (a.length+1+b.length+1) (a.length+1+b.length+1+d.length))=d.toArray:=by
   unfold Mk;rw [ab9,ab_,List.drop_take]
   congr 1
   rw [show a.length+1+b.length+1+d.length-(a.length+1+b.length+1)=d.length by lk, show a.length+1+b.length+1=a.length+(1+(b.length+1)) by lk, <-Ka,RX,<-Ka,List.drop_one,List.tail_cons,<-Ka,RX];simp
  show [(⟨_⟩:Str),⟨_⟩,⟨_⟩]=_;rw [show (⟨#[c]⟩:Str).length=1 from rfl,i,k,g];rfl
 ·simp only [JG,Fl,not_or];exact ⟨by rw [e];show ¬ _<1;lk, al6 _ hc⟩
def split_head {a b:gB} {c:Nat} (h:Ls x=a++c::b) (ha:c∉a):∃ r,Txt.split x ⟨#[c]⟩=Mk a::r:=by
 obtain ⟨g,d,j,_⟩:=ajD x c;generalize Txt.split x ⟨#[c]⟩=ps at g d j;cases ps with
 |nil=>exact absurd rfl g
 |cons p r =>
  refine ⟨r,?_⟩;cases r with
  |nil =>have e:p=x:=j;have:=d p iz;rw [e,h] at this;exact absurd (by simp) this
  |cons p2 r =>have e:=je Ls j;rw [mJ,h] at e;rw [show Mk a=p from pR (by rw [Lq];exact (acZ (d p iz) ha e).1.symm)]
end
section
open PySem.Spec PyProof.Rows
end
section
open PySem.SeqAt
inductive ajK (vs:aA) (H:Hp) (Q:VK):Prop
 |mk (n l:Addr) (aj:Int) (ws:aP) (h1:vs=[.ref n]) (h2:H n=some (.tup [.int aj,.ref l])) (h3:m5 H l ws) (h4:1<=aj) (h5:aj<=8) (h6:bJ aj ws) (h7:ws.length<=41) (h8:∀ H',aB H H'->Q (.str (oA aj ws)) H')
def al7:=nE ajK
def Wt (qs:bK):Nat:=(qs.map (·.length)).sum+qs.length
def ac5 (y:Str) (b:bK):Wt (y::b)=y.length+1+Wt b:=by unfold Wt;rw [gj,qC,gA];lk
def ac6:∀ (qs:bK),qs≠[]->(Str.join ⟨#[32]⟩ qs).length+1=Wt qs
 |[x],_=>by rw [ac5];show x.length+1=_;rfl
 |x::y::r,_=>by have e:=je List.length (mJ 32 x y r);rw [cO,dJ,cO,gA,cO] at e;have:=ac6 (y::r) (by simp);rw [ac5];lk
def TX (qs:bK):(Txt.join ⟨#[32]⟩ qs).length<=Wt qs:=by
 rw [wU];cases qs with
 |nil=>exact fQ _
 |cons a b =>have:=ac6 (a::b) (by simp);lk
def aoc (A:bK) (lo hi:Option Int):ou (A.map V.str) lo hi=((A.drop (HT.iZ A.length 0 lo)).take (HT.iZ A.length A.length hi-HT.iZ A.length 0 lo)).map V.str:=by unfold ou;rw [bh,<-List.map_drop,<-List.map_take]
end
section
open PySem.Spec PyProof.Rows
def aB.arJ (e:aB H H') (h:gG K H a xs):gG K H' a xs:=by
 rcases h with (h|⟨o,h⟩)|h
 ·exact .inl (.inl (e _ _ h))
 ·exact .inl (.inr ⟨o,e _ _ h⟩)
 ·exact .inr h
end
variable {kn:dU}
section
open PySem.SeqAt PyProof.Rows
def wX {cs:bK} {x:V} (h:(cs.map V.str)[j]?=some x):∃ z,cs[j]?=some z/\x=V.str z:=by
 rw [jP] at h;cases e:cs[j]? with
 |none=>rw [e] at h;cases h
 |some z=>rw [e] at h;exact ⟨z,rfl,(iB h).symm⟩
def ajL (x:Str) (r:bK):ou (map V.str (x::r)) (some 1) none=map V.str r:=by
 rw [aoc]
 congr 1
 have a:HT.iZ (x::r).length 0 (some 1)=1:=by unfold HT.iZ;simp
 have b:HT.iZ (x::r).length (x::r).length none=(x::r).length:=rfl;rw [a,b];simp
def yp {r:bK}:jK (map V.str (x::r)) 0=some (V.str x):=by show jK (map V.str (x::r)) ((0:Nat):Int)=_;exact oO rfl
def aeE {y:Str} {r:bK}:jK (map V.str (x::y::r)) 1=some (V.str y):=by show jK (map V.str (x::y::r)) ((1:Nat):Int)=_;exact oO rfl
structure jt where
 dx:Addr
 n:Addr
 q:Addr
def jD (D:jt):List (Str×V):=cZ "plays" (.ref D.q) (cZ "nets" (.ref D.n) [])
def abE (D:jt):(jD D).lookup ("nets":Str)=some (.ref D.n):=by unfold jD;rw [iJ,aK (by k_go),iJ,aQ rfl]
def aa2 (D:jt):(jD D).lookup ("plays":Str)=some (.ref D.q):=by unfold jD;rw [iJ,aQ rfl]
def mR (D:jt) {m:Str} (h1:¬ m="plays") (h2:¬ m="nets"):(jD D).lookup m=none:=by unfold jD;rw [iJ,aK h1,iJ,aK h2];rfl
structure aea (K:bG) (C:Addr):Prop where
 cl:nW K C
 nN:pQ K C "nets"
 nP:pQ K C "plays"
structure fZ (C:Addr) (H:Hp) (d:Addr) (D:jt) (kn kp:dU):Prop where
 ob:H d=some (.ins C D.dx (jD D))
 ne:H D.n=some (.dK kn)
 pl:H D.q=some (.dK kp)
 nq:D.n≠D.q
 ln:kn.length<=1000
 lp:kp.length<=1000
def fZ.same {d:Addr} {D:jt} {kp:dU} (h:fZ C H d D kn kp) (s:aB H H'):fZ C H' d D kn kp:={ h with ob:=s _ _ h.ob,ne:=s _ _ h.ne,pl:=s _ _ h.pl }
structure aeb (P:Program) (w:World) (K:bG) (mg:dR) (aR:Addr) (vs:iT):Prop where
 kd:Cu P w K aR vs
 at_:mg "ROWS"=some (.ref aR)
structure U0 (K:bG) (vs:iT) (x:Str) (nJ:bK) (f:Addr):Prop where
 ex:∃ r kt,valueAt vs (.inr x)=some (.ref r)/\(∀ H,qd K H r [.ref kt,.ref f])/\(∀ H,qd K H kt (nJ.map V.str))
structure pA (P:Program) (w:World) (K:bG) (mg:dR) (au:Heap) (vs:iT) (k:Nat) (x:Str) (nJ:bK) (sp:Sp):Prop where
 ex:∃ f,U0 K vs x nJ f/\ad6 P w K mg au f k ["things"] sp
def Fb:bK:=["net","folded","rounds","brick","behind","beside","mirror","slim","play","rest","show","depth","exits","levels","orders","bound","spread","alike","enter","back","step","counts","stands","owes","lacks"]
def ZS:Fb.Nodup:=by k_go
def aod (vs:aA) (H:Hp) (Q:VK) (E:XK) (h:ac0 vs H Q E):abz vs H Q E:=by
 obtain ⟨n,rfl,c,a,q⟩:=h;refine ⟨Mk [dg n],rfl,?_,λb H' s d=>?_⟩
 ·rw [<-cO];show 1<=5000;decide
 ·rw [d.mpr (an0 c a)];exact q H' s
def xZ (x:Str):bK:=if (Txt.split x ⟨#[32]⟩).head?=some (ofString "net") then splitMax x ⟨#[32]⟩ 2 else Txt.split x ⟨#[32]⟩
def eV (x:Str) (nJ:bK) (n:Nat):bK:=if x="exits" then nJ++replicate (n-nJ.length) ("number":Str) else nJ
def iM (l:gB):Prop:=1<=l.length/\l.length<=8/\∀ c∈l,97<=c/\c<=122
inductive mG:Str->Str->Prop
 |text {x:Str}:mG "text" x
 |num {x:Str} (h:qT (Ls x)):mG "number" x
 |name {k x:Str} (n1:¬ k="text") (n2:¬ k="number") (h:iM (Ls x)):mG k x
inductive zG (kn kp:dU):Str->Str->V->Prop
 |net {x:Str} {v:V} (h:dh kn (.inr x)=some v):zG kn kp "net" x v
 |play {x:Str} {v:V} (h:dh kp (.inr x)=some v):zG kn kp "play" x v
 |num {x:Str} {n:Int} (h:PySem.intText? x=some n) (l:x.length<=640):zG kn kp "number" x (.int n)
 |other {k x:Str} (n1:¬ k="net") (n2:¬ k="play") (n3:¬ k="number"):zG kn kp k x (.str x)
inductive kh (kn kp:dU):bK->bK->aA->Prop
 |nil:kh kn kp [] [] []
 |cons {k x:Str} {v:V} {ks xs:bK} {vs:aA} (h:zG kn kp k x v) (t:kh kn kp ks xs vs):kh kn kp (k::ks) (x::xs) (v::vs)
def kh.len {kp:dU}:∀ {ks xs:bK} {vs:aA},kh kn kp ks xs vs->ks.length=xs.length/\vs.length=xs.length
 |_,_,_,.nil=>⟨rfl,rfl⟩
 |_,_,_,.cons _ t=>by obtain ⟨a,b⟩:=t.len;exact ⟨by simp [a],by simp [b]⟩
def kh.get {kp:dU}:∀ {ks xs:bK} {vs:aA} {i:Nat} {k x:Str},kh kn kp ks xs vs->ks[i]?=some k->xs[i]?=some x->∃ v,vs[i]?=some v/\zG kn kp k x v
 |_,_,_,_,_,_,.nil,h,_=>by simp at h
 |_,_,_,0,_,_,.cons h _,h1,h2=>by simp at h1 h2;subst h1 h2;exact ⟨_,rfl,h⟩
 |_,_,_,i+1,_,_,.cons _ t,h1,h2=>by obtain ⟨v,a,b⟩:=t.get (i:=i) (by simpa using h1) (by simpa using h2);exact ⟨v,by simpa using a,b⟩
def aoe (c:Nat):(!(occurrences (ofString "abcdefghijklmnopqrstuvwxyz") ⟨#[c]⟩ 0 (ofString "abcdefghijklmnopqrstuvwxyz").length 1).isEmpty)=decide (97<=c/\c<=122):=by
 rw [StrLaws.found_one];have e:(ofString "abcdefghijklmnopqrstuvwxyz").cps.toList=(range 26).map (·+97):=by k_go
 rw [e,ug,rR,rR,fW];constructor
 ·rintro ⟨k,a,rfl⟩;have:=pL.mp a;lk
 ·intro h;exact ⟨c-97,pL.mpr (by lk),by lk⟩
def QX (v:α):∀ n:Nat,(replicate n [v]).flatten=replicate n v
 |0=>rfl
 |n+1=>by rw [ju,vg,QX v n,ju];rfl
inductive ahR (eU:iT) (vs:aA) (H:Hp) (Q:VK):Prop
 |mk (x w0:Str) (r:bK) (h1:vs=[.str x]) (h2:x.length<=5000) (h3:Txt.split x ⟨#[32]⟩=w0::r) (h4:(valueAt eU (.inr w0)).isSome=true) (q:∀ (l:Addr) (H':Hp),H l=none->aB H H'->H' l=some (.lst ((xZ x).map V.str))->Q (.ref l) H')
def ajM (eU:iT):=nE (ahR eU)
inductive al8 (K:bG) (eU:iT) (vs:aA) (H:Hp) (Q:VK):Prop
 |mk (l:Addr) (w0:Str) (r nJ:bK) (f:Addr) (h1:vs=[.ref l]) (h2:H l=some (.lst ((w0::r).map V.str))) (h3:U0 K eU w0 nJ f) (h0:nJ≠[]) (h4:nJ.length<=10) (h5:r.length<=950) (q:∀ (t:Addr) (H':Hp),aB H H'->qd K H' t ((eV w0 nJ r.length).map V.str)->Q (.ref t) H')
def aof (K:bG) (eU:iT):=nE (al8 K eU)
inductive ajN (vs:aA) (H:Hp) (Q:VK):Prop
 |mk (x:Str) (h1:vs=[.str x]) (h2:x.length<=5000) (h3:∀ (b:Bool) (H':Hp),aB H H'->(b=true↔iM (Ls x))->Q (.bl b) H')
def al9:=nE ajN
inductive aog (vs:aA) (H:Hp) (Q:VK):Prop
 |mk (k x:Str) (h1:vs=[.str k,.str x]) (h2:x.length<=5000) (h3:∀ (b:Bool) (H':Hp),aB H H'->(b=true↔mG k x)->Q (.bl b) H')
def apH:=nE aog
inductive ahS (K:bG) (vs:aA) (H:Hp) (Q:VK):Prop
 |mk (t l:Addr) (ks xs:bK) (h1:vs=[.ref t,.ref l]) (h2:gG K H t (ks.map V.str)) (h3:H l=some (.lst (xs.map V.str))) (h4:Paired mG ks xs) (h5:xs.length<=1000) (h6:∀ x∈xs,x.length<=5000) (q:∀ H',aB H H'->Q .non H')
def ajO (K:bG):=nE (ahS K)
inductive al_ (vs:aA) (H:Hp) (Q:VK):Prop
 |mk (a:Addr) (aY:dU) (x:Str) (v:V) (h1:vs=[.ref a,.str x]) (h2:H a=some (.dK aY)) (h3:dh aY (.inr x)=some v) (q:Q v H)
def aoh:=nE al_
inductive al' (C:Addr) (vs:aA) (H:Hp) (Q:VK):Prop
 |mk (d:Addr) (D:jt) (kn kp:dU) (k x:Str) (v:V) (h1:vs=[.ref d,.str k,.str x]) (da:fZ C H d D kn kp) (h:zG kn kp k x v) (q:Q v H)
def aoi (C:Addr):=nE (al' C)
inductive ama (C:Addr) (vs:aA) (H:Hp) (Q:VK):Prop
 |mk (d dx:Addr) (h1:vs=[.ref d]) (h2:H d=some (.ins C dx [])) (q:∀ (D:jt) (H':Hp),H D.n=none->H D.q=none->fZ C H' d D [] []->(∀ b o,H b=some o->b≠d->H' b=some o)->Q .non H')
def ac7 (C:Addr):=nE (ama C)
inductive ux (D:jt) (kn kp:dU) (H1:Hp) (k0 x:Str) (Q:VK) (v:V) (H2:Hp):Prop
 |net (e:k0="new net") (s:aB H1 H2) (q:Q (.str "ok") (upd H2 D.n (.dK (cD kn (.inr x) v))))
 |play (e:k0="new play") (s:aB H1 H2) (q:Q (.str "ok") (upd H2 D.q (.dK (cD kp (.inr x) v))))
 |other (n1:¬ k0="new net") (n2:¬ k0="new play") (k:KT H1 H2) (q:Q v H2)
inductive apI (P:Program) (w:World) (K:bG) (mg:dR) (au:Heap) (eU:iT) (k:Nat) (C:Addr) (vs:aA) (H:Hp) (Q:VK) (E:XK):Prop
 |mk (d:Addr) (D:jt) (kn kp:dU) (x w0 x0 k0:Str) (xr kr:bK) (sp:Sp) (ts:aA) (h1:vs=[.ref d,.str x]) (da:fZ C H d D kn kp) (h2:x.length<=5000) (h3:(Txt.split x ⟨#[32]⟩).head?=some w0) (h4:xZ x=w0::x0::xr) (h5:pA P w K mg au eU k w0 (k0::kr) sp) (h6:kr.length<=8) (h7:xr.length<=900)
   (h8:Paired mG (eV w0 (k0::kr) (xr.length+1)) (x0::xr)) (h9:kh kn kp (eV w0 (k0::kr) (xr.length+1)) (x0::xr) ts) (h10:∀ y∈x0::xr,y.length<=5000) (ln:kn.length<900) (lp:kp.length<900)
   (q:∀ (l:Addr) (H1:Hp),H l=none->aB H H1->H1 l=some (.lst ts)->sp [.ref l] H1 (ux D kn kp H1 k0 x0 Q) E)
def pY (P:Program) (w:World) (K:bG) (mg:dR) (au:Heap) (eU:iT) (k:Nat) (C:Addr):Sp:=λvs H Q E=>apI P w K mg au eU k C vs H Q E
def apJ (P:Program) (w:World) (K:bG) (mg:dR) (au:Heap) (eU:iT) (k:Nat) (C:Addr):Sp:=λvs H Q _=>pY P w K mg au eU k C vs H Q λ_ _ _=>False
end
section
open PySem.Spec PyProof.Rows
section
variable {s₀:Shared} {H₀:Hp} {E:XK}
end
end
section
open PySem.SeqAt
end
section
open PySem.SeqAt PyProof.Rows
inductive Wd:V->Str->Prop
 |int {i:Int} (h:i.natAbs<=10000):Wd (.int i) (bL i)
 |str {x:Str} (h:x.length<=1000):Wd (.str x) x
def ajP {i:Int} (h:i.natAbs<=10000):(bL i).length<=10002:=by have:=len_str_of_int i;show (ofString (toString i)).length<=_;lk
def xP {i:Int} (h:i.natAbs<=10000):i.natAbs.log2<1920:=by
 by_cases z:i.natAbs=0
 ·rw [z];decide
 ·have:=(Nat.log2_lt z (k:=14)).mpr (by lk);lk
def Wd.len (h:Wd v x):x.length<=10002:=by
 cases h with
 |int h=>exact ajP h
 |str h=>lk
def FT:∀ {xs:aA} {ys:bK},Paired Wd xs ys->(ys.map (·.length)).sum<=10002*xs.length
 |_,_,.nil=>by simp
 |_,_,.cons h t=>by have:=h.len;have:=FT t;simp;lk
def iR (ns:aF):Str:=if ns=[] then "none" else Txt.join ⟨#[32]⟩ (ns.map bL)
def Bs:∀ {ns:aF},(∀ n∈ns,n.natAbs<=10000)->Paired Wd (ns.map V.int) (ns.map bL)
 |[],_=>.nil
 |n::r,h=>.cons (.int (h n iz)) (Bs λm a=>h m (fH _ a))
def pH:Place->bK
 |.before k l=>["before",bL k,bL l]
 |.exit l=>["exit",bL l]
 |.out l n=>["out",bL l,bL n]
def GQ:Place->Prop
 |.before k l=>k<=10000/\l.natAbs<=10000
 |.exit l=>l.natAbs<=10000
 |.out l n=>l.natAbs<=10000/\n.natAbs<=10000
def adM (h:GQ pl):Paired Wd (rm pl) (pH pl):=by
 cases pl with
 |before k l=>exact .cons (.str (by k_go)) (.cons (.int (by have:=h.1;lk)) (.cons (.int h.2) .nil))
 |exit l=>exact .cons (.str (by k_go)) (.cons (.int h) .nil)
 |out l n=>exact .cons (.str (by k_go)) (.cons (.int h.1) (.cons (.int h.2) .nil))
def Hq (pl:Place):Str:=Txt.join ⟨#[32]⟩ (pH pl)
inductive ajQ (vs:aA) (H:Hp) (Q:VK):Prop
 |mk (a:Addr) (xs:aA) (ys:bK) (h1:vs=[.ref a]) (h2:H a=some (.lst xs)\/H a=some (.tup xs)) (h3:Paired Wd xs ys) (h4:xs.length<=1000) (q:∀ H',aB H H'->Q (.str (Txt.join ⟨#[32]⟩ ys)) H')
def amb:=nE ajQ
inductive ajR (vs:aA) (H:Hp) (Q:VK):Prop
 |mk (a:Addr) (ns:aF) (h1:vs=[.ref a]) (h2:H a=some (.lst (ns.map V.int))) (h3:∀ n∈ns,n.natAbs<=10000) (h4:ns.length<=1000) (q:∀ H',aB H H'->Q (.str (iR ns)) H')
def abF:=nE ajR
inductive ahT (vs:aA) (H:Hp) (Q:VK):Prop
 |mk (l:Addr) (x0:Str) (aj:Int) (ws:aP) (h1:vs=[.ref l]) (h2:H l=some (.lst [.str x0,.str (oA aj ws)])) (w1:1<=aj) (w8:aj<=8) (ok:bJ aj ws) (len:ws.length<=40) (q:∀ (v:V) (H':Hp),aB H H'->eX H' v aj ws->Q v H')
def ajS:=nE ahT
inductive ahU (C:Addr) (vs:aA) (H:Hp) (Q:VK):Prop
 |mk (l:Addr) (x0:Str) (v:V) (aj:Int) (ws:aP) (h1:vs=[.ref l]) (h2:H l=some (.lst [.str x0,v])) (net:eG H v aj ws) (q:∀ (p:Addr) (L:dB) (H':Hp),(∀ b∈L.own p,H b=none)->cN C H' p v L (jF aj ws)->aB H H'->Q (.ref p) H')
def ajT (C:Addr):=nE (ahU C)
inductive ahV (vs:aA) (H:Hp) (Q:VK):Prop
 |mk (l:Addr) (v:V) (aj:Int) (ws:aP) (h1:vs=[.ref l]) (h2:H l=some (.lst [v])) (net:eG H v aj ws) (q:∀ H',aB H H'->Q (.str (oA aj ws)) H')
def ajU:=nE ahV
inductive aoj (C:Addr) (m:Sp) (vs:aA) (H:Hp) (Q:VK) (E:XK):Prop
 |mk (l p:Addr) (x v:V) (L:dB) (st:cH) (h1:vs=[.ref l]) (h2:H l=some (.lst [.ref p,x])) (pa:cN C H p v L st) (h:m [.ref p,x] H (λu H'=>∃ i:Int,u=.int i/\i.natAbs<=10000/\Q (.str (bL i)) H') E)
def apK (C:Addr) (m:Sp):Sp:=λvs H Q E=>aoj C m vs H Q E
inductive amc (C:Addr) (m:Sp) (vs:aA) (H:Hp) (Q:VK) (E:XK):Prop
 |mk (l p:Addr) (x v:V) (L:dB) (st:cH) (h1:vs=[.ref l]) (h2:H l=some (.lst [.ref p,x])) (pa:cN C H p v L st) (h:m [.ref p,x] H (λu H'=>∃ (t:Addr) (pl:Place),u=.ref t/\H' t=some (.tup (rm pl))/\GQ pl/\∀ H2,aB H' H2->Q (.str (Hq pl)) H2) E)
def aok (C:Addr) (m:Sp):Sp:=λvs H Q E=>amc C m vs H Q E
inductive ahW (C:Addr) (vs:aA) (H:Hp) (Q:VK):Prop
 |mk (l p:Addr) (v:V) (aj:Int) (ws:aP) (L:dB) (st:cH) (h1:vs=[.ref l]) (h2:H l=some (.lst [.ref p])) (net:eG H v aj ws) (pa:cN C H p v L st) (wf:Wf aj ws st) (q:∀ (dG:cH) (H':Hp),oZ aj ws (gR 0 st.aX) st dG->cN C H' p v L dG->dW L H H'->Q (.str "ok") H')
def ajV (C:Addr):=nE (ahW C)
inductive sV (aj:Int) (st:cH):Str->aF->Prop
 |counts:sV aj st "counts" st.bM
 |told {w:Str} {ns:aF} (h:Cy aj st.bM w ns):sV aj st w ns
inductive amd (C:Addr) (w:Str) (vs:aA) (H:Hp) (Q:VK):Prop
 |mk (l p:Addr) (v:V) (aj:Int) (ws:aP) (L:dB) (st:cH) (h1:vs=[.ref l]) (h2:H l=some (.lst [.ref p])) (net:eG H v aj ws) (pa:cN C H p v L st) (tl:st.bM.length=aj.toNat) (few:fK st.bM<=63) (q:∀ (ns:aF) (H':Hp),aB H H'->sV aj st w ns->Q (.str (iR ns)) H')
def KQ (C:Addr) (w:Str):=nE (amd C w)
def sV.small {w:Str} (h:sV aj st w ns) (w1:1<=aj) (w8:aj<=8) (tl:st.bM.length=aj.toNat) (few:fK st.bM<=63):∀ n∈ns,n.natAbs<=10000:=λn a=>by
 cases h with
 |counts =>obtain ⟨i,hi,rfl⟩:=JB.mp a;have:=Cw (t:=st.bM) i;rw [Fx,Fp hi,RZ] at this;lk
 |told h =>
  rcases h with ⟨_,p,_⟩|⟨_,p,_⟩|⟨_,g,d,rfl⟩
  ·have m:=p.mem_iff.mp a;have:=Il w1 m;have:=abA w1 w8 tl few m;lk
  ·obtain ⟨l,j,h1,h2,q,e⟩:=Jf.mp (p.mem_iff.mp a);have:=Cw (t:=st.bM) l;have b:-63<=j:=by lk
   have u:aj*j<=0:=ab' (by lk) (by lk);have o:8*(-63)<=aj*j:=by have r:aj*(-63)<=aj*j:=Kc b (by lk);lk
   rw [e];lk
  ·have m:=CJ.mp a;obtain ⟨k,c,rfl⟩:=fW.mp m.1;have:=pL.mp c;have:=d.lt w1 w8 tl few;lk
end
section
open PySem.Spec PyProof.Rows
section
end
section
variable {m:Str} {k:Nat} {o:Expr} {ta:TE} {t:TA} {apos:Pos}
def ame {pl:Sem Bool} (he:PE X.yw o ta) (c:nW X.K C) (M:Dh X.prog X.w X.K X.mg X.au C m k ps sp) (hr:eN k X.A) (ha:PA X.yw (e::es) t) (hst:starEach (e::es) X.env=(false,eval e X.env)::starEach es X.env:=by rfl) (hpl:(backTo pos (starEach es X.env)).any (·.1)=false:=by rfl) (ht:eval (.Call (.Attribute o m apos) (e::es) [] pos) X.env=(do
   let ov <-eval o X.env
   standAt apos.atName
   let (f1,first) <-holding [ov] (getMethod ov m pl)
   callWith pos f1 first (backTo pos (starEach (e::es) X.env)) (backToKw pos (keywordEach [] X.env))):=by rfl) :
  PX X (.Call (.Attribute o m apos) (e::es) [] pos) (λσ H Q E=>ta σ H λx H1=>ad1 C m x H1 (t σ H1 λvs H2=>∃ (Q':VK) (E':XK),sp (x::vs) H2 Q' E'/\(∀ v H3,Q' v H3->Q v H3)/\∀ c H3,E' c none H3->E c none H3)):=by
 intro ak s σ H Q E Y I h hx;obtain ⟨f,fd,F,S,y⟩:=M.ex;have yw:∀ {α:Type} {t:Sem α} {Q:α->Shared->Prop} {s:Shared},wpAny (model X.prog X.w) X.A t Q (λ_ _=>False) s->wpAny (model X.prog X.w) X.A t Q Y s:=λh=>lE h (λ_ _ z=>z) λ_ _ z=>z.elim;refine Tn (pl:=pl) (yw (bA (he ak s σ H _ (I.wish _) h) λu s1 ⟨x,H1,U,L,a,dx,fs,ex,ea,l,q⟩=>?_)) ht;subst ex;obtain rfl:u=Value.ref a:=L;have d:=U.sH;refine Pq d ea c y l (Ga (first:=[.ref a]) (h₀:=X.au) I.ok.mod.yu y.kp (lE (ha pos ak s1 σ H1 _ (d.wish _) q) (λus n ⟨vs,H2,p,r,Q',E',D,i1,i2⟩=>⟨p.sH.gq,?_⟩) (λ_ _ z=>elim z)) hst hpl);have i:=p.sH;have J:bO (V.ref a::vs) (Value.ref a::us):=.cons rfl r;have W:(Value.ref a::us).length=ps.length:=by rw [<-J.length];exact F.len _ _ _ _ D
 have b:=S n (.ref a::us) i.gq (by rw [nO];exact W);rw [nO] at b;refine K4 (su (F.run X.A X.stack n H2 ⟨.ref a::us,[]⟩ (.ref a::us) (.ref a::vs) Q' E' hr i.env0 b J D) λj s' g=>?_);cases j with
 |error e =>obtain ⟨ea,cls,a0,B,H',e1,O,N,e4,e5,R,e7,e8,e9⟩:=g;exact hx H2 n e s' i ⟨ea,cls,a0,B,H',e1,O,N,e4,e5,R,e7,e8,i2 _ _ e9⟩
 |ok fl=>cases fl with
  |ret u =>obtain ⟨v,H',I4,r4,q4⟩:=i.after g;exact ⟨v,H',I4,r4,i1 _ _ q4⟩
  |next=>exact g.elim
  |brk=>exact g.elim
  |cont=>exact g.elim
end
end
variable {w0:Str}
section
open PySem.SeqAt PyProof.Rows
def blank:(ofString " ")=⟨#[32]⟩:=by k_go
def nD {l:gB} (h:iM l):32∉l:=λz=>by have:=h.2.2 32 z;lk
def lW (h:iM (Ls x)):x.length<=8:=by rw [<-cO];exact h.2.1
def Jg {l:gB} (h:qT l):32∉l:=λz=>by
 by_cases c:l.head?=some 45
 ·cases l with
  |nil=>cases z
  |cons a r =>
   have ea:a=45:=iB c;have b:=h.2.2.1;have d:gn (a::r)=r:=by unfold gn;rw [aQ c];rfl
   rw [d] at b;rcases fX.mp z with y|y
   ·lk
   ·have:=b 32 y;lk
 ·have d:gn l=l:=by unfold gn;rw [aK c]
  have b:=h.2.2.1;rw [d] at b;have:=b 32 z;lk
def yL (h:qT (Ls x)):x.length<=61:=by obtain ⟨n,_,_,l⟩:=an3 h;rw [<-cO];exact l
def adN {a b:Str} (hx:Ls x=Ls a++32::Ls b) (ha:32∉Ls a) (hb:32∉Ls b):Txt.split x ⟨#[32]⟩=[a,b]:=by
 rw [show x=Str.join ⟨#[32]⟩ [a,b] from pR (by rw [hx,mJ];rfl)];exact Bd (by simp) λp c=>by
  simp at c;rcases c with rfl|rfl
  ·exact ha
  ·exact hb
def Gk {a b c:Str} (hx:Ls x=Ls a++32::(Ls b++32::Ls c)) (ha:32∉Ls a) (hb:32∉Ls b) (hc:32∉Ls c):Txt.split x ⟨#[32]⟩=[a,b,c]:=by
 rw [show x=Str.join ⟨#[32]⟩ [a,b,c] from pR (by rw [hx,mJ,mJ];rfl)];exact Bd (by simp) λp d=>by
  simp at d;rcases d with rfl|rfl|rfl
  ·exact ha
  ·exact hb
  ·exact hc
def vA {r:bK} (h:Txt.split x ⟨#[32]⟩=w0::r) (n:¬ w0="net"):xZ x=w0::r:=by unfold xZ;rw [h,aK (show ¬ (w0::r).head?=some (ofString "net") from λz=>n (iB z))]
section
variable {eU:iT} {k:Nat} {d:Addr} {D:jt} {kp:dU} {Q:VK} {E:XK} {nm c:Str}
def Gy (RA:pA P w K mg au eU k w0 ["play"] sp) (da:fZ C H d D kn kp) (ln:kn.length<900) (lp:kp.length<900) (hp:dh kp (.inr nm)=some (.ref p)) (hx:Ls x=Ls w0++32::Ls nm) (nw:32∉Ls w0) (lw:w0.length<=10) (n1:¬ w0="net") (n2:¬ w0="exits") (hn:iM (Ls nm)) (q:∀ (l:Addr) (H1:Hp),H l=none->aB H H1->H1 l=some (.lst [.ref p])->sp [.ref l] H1 (ux D kn kp H1 "play" nm Q) E):pY P w K mg au eU k C [.ref d,.str x] H Q E:=by
 have b:=adN hx nw (nD hn);have e:=lW hn;have g:x.length<=100:=by rw [<-cO,hx];simp [cO];lk
 have a:eV w0 ["play"] 1=(["play"]:bK):=aK n2;refine ⟨d,D,kn,kp,x,w0,nm,"play",[],[],sp,[.ref p],rfl,da,by lk, by rw [b];rfl,vA b n1,RA,by simp,by simp,?_,?_,λy c=>?_,ln,lp,q⟩
 ·show Paired mG (eV w0 ["play"] 1) [nm];rw [a];exact .cons (.name (by k_go) (by k_go) hn) .nil
 ·show kh kn kp (eV w0 ["play"] 1) [nm] _;rw [a];exact .cons (.play hp) .nil
 ·have:y=nm:=by simpa using c
  rw [this];lk
def adO {n:Int} (RA:pA P w K mg au eU k w0 ["play","number"] sp) (da:fZ C H d D kn kp) (ln:kn.length<900) (lp:kp.length<900) (hp:dh kp (.inr nm)=some (.ref p)) (hx:Ls x=Ls w0++32::(Ls nm++32::Ls c)) (nw:32∉Ls w0) (lw:w0.length<=10) (n1:¬ w0="net") (n2:¬ w0="exits") (hn:iM (Ls nm)) (hc:qT (Ls c)) (hv:PySem.intText? c=some n) (q:∀ (l:Addr) (H1:Hp),H l=none->aB H H1->H1 l=some (.lst [.ref p,.int n])->sp [.ref l] H1 (ux D kn kp H1 "play" nm Q) E):pY P w K mg au eU k C [.ref d,.str x] H Q E:=by
 have b:=Gk hx nw (nD hn) (Jg hc);have g:=lW hn;have j:=yL hc;have i:x.length<=100:=by rw [<-cO,hx];simp [cO];lk
 have a:eV w0 ["play","number"] 2=(["play","number"]:bK):=aK n2;refine ⟨d,D,kn,kp,x,w0,nm,"play",[c],["number"],sp,[.ref p,.int n],rfl,da,by lk, by rw [b];rfl,vA b n1,RA,by simp,by simp,?_,?_,λy e=>?_,ln,lp,q⟩
 ·show Paired mG (eV w0 ["play","number"] 2) [nm,c];rw [a];exact .cons (.name (by k_go) (by k_go) hn) (.cons (.num hc) .nil)
 ·show kh kn kp (eV w0 ["play","number"] 2) [nm,c] _;rw [a];exact .cons (.play hp) (.cons (.num hv (by lk)) .nil)
 ·have:y=nm\/y=c:=by simpa using e
  rcases this with rfl|rfl<;>lk
def Lr (RA:pA P w K mg au eU k w0 ["net"] sp) (da:fZ C H d D kn kp) (ln:kn.length<900) (lp:kp.length<900) (hp:dh kn (.inr nm)=some v) (hx:Ls x=Ls w0++32::Ls nm) (nw:32∉Ls w0) (lw:w0.length<=10) (n1:¬ w0="net") (n2:¬ w0="exits") (hn:iM (Ls nm)) (q:∀ (l:Addr) (H1:Hp),H l=none->aB H H1->H1 l=some (.lst [v])->sp [.ref l] H1 (ux D kn kp H1 "net" nm Q) E):pY P w K mg au eU k C [.ref d,.str x] H Q E:=by
 have b:=adN hx nw (nD hn);have e:=lW hn;have g:x.length<=100:=by rw [<-cO,hx];simp [cO];lk
 have a:eV w0 ["net"] 1=(["net"]:bK):=aK n2;refine ⟨d,D,kn,kp,x,w0,nm,"net",[],[],sp,[v],rfl,da,by lk, by rw [b];rfl,vA b n1,RA,by simp,by simp,?_,?_,λy c=>?_,ln,lp,q⟩
 ·show Paired mG (eV w0 ["net"] 1) [nm];rw [a];exact .cons (.name (by k_go) (by k_go) hn) .nil
 ·show kh kn kp (eV w0 ["net"] 1) [nm] _;rw [a];exact .cons (.net hp) .nil
 ·have:y=nm:=by simpa using c
  rw [this];lk
def ac9 {txt:Str} (RA:pA P w K mg au eU k "net" ["new net","text"] sp) (da:fZ C H d D kn kp) (ln:kn.length<900) (lp:kp.length<900) (hx:Ls x=Ls (ofString "net")++32::(Ls nm++32::Ls txt)) (hn:iM (Ls nm)) (lt:txt.length<=4000) (q:∀ (l:Addr) (H1:Hp),H l=none->aB H H1->H1 l=some (.lst [.str nm,.str txt])->sp [.ref l] H1 (ux D kn kp H1 "new net" nm Q) E):pY P w K mg au eU k C [.ref d,.str x] H Q E:=by
 have j:=lW hn;have c:32∉Ls (ofString "net"):=by k_go
 have m:(ofString "net").length=3:=by k_go
 have g:x.length<=5000:=by rw [<-cO,hx];simp [cO];lk
 obtain ⟨r,a⟩:=split_head hx c;rw [wu] at a;have ex:x=Mk (Ls (ofString "net")++32::(Ls nm++32::Ls txt)):=by rw [<-hx,wu]
 have i:xZ x=[ofString "net",nm,txt]:=by unfold xZ;rw [a,aQ (show (ofString "net":: r).head?=some (ofString "net") from rfl),ex,ajJ (by decide) c (nD hn),wu,wu,wu]
 have b:eV "net" ["new net","text"] 2=(["new net","text"]:bK):=aK (by k_go);refine ⟨d,D,kn,kp,x,"net",nm,"new net",[txt],["text"],sp,[.str nm,.str txt],rfl,da,g,by rw [a];rfl,i,RA,by simp,by simp,?_,?_,λy e=>?_,ln,lp,q⟩
 ·show Paired mG (eV "net" ["new net","text"] 2) [nm,txt];rw [b];exact .cons (.name (by k_go) (by k_go) hn) (.cons .text .nil)
 ·show kh kn kp (eV "net" ["new net","text"] 2) [nm,txt] _;rw [b];exact .cons (.other (by k_go) (by k_go) (by k_go)) (.cons (.other (by k_go) (by k_go) (by k_go)) .nil)
 ·have:y=nm\/y=txt:=by simpa using e
  rcases this with rfl|rfl<;>lk
def abG {a:Str} (RA:pA P w K mg au eU k "play" ["new play","net"] sp) (da:fZ C H d D kn kp) (ln:kn.length<900) (lp:kp.length<900) (hp:dh kn (.inr a)=some v) (hx:Ls x=Ls (ofString "play")++32::(Ls nm++32::Ls a)) (hn:iM (Ls nm)) (ha:iM (Ls a)) (q:∀ (l:Addr) (H1:Hp),H l=none->aB H H1->H1 l=some (.lst [.str nm,v])->sp [.ref l] H1 (ux D kn kp H1 "new play" nm Q) E):pY P w K mg au eU k C [.ref d,.str x] H Q E:=by
 have i:=lW hn;have la:=lW ha;have g:32∉Ls (ofString "play"):=by k_go
 have m:(ofString "play").length=4:=by k_go
 have c:=Gk hx g (nD hn) (nD ha);have j:x.length<=100:=by rw [<-cO,hx];simp [cO];lk
 have b:eV "play" ["new play","net"] 2=(["new play","net"]:bK):=aK (by k_go);refine ⟨d,D,kn,kp,x,"play",nm,"new play",[a],["net"],sp,[.str nm,v],rfl,da,by lk, by rw [c];rfl,vA c (by k_go),RA,by simp,by simp,?_,?_,λy e=>?_,ln,lp,q⟩
 ·show Paired mG (eV "play" ["new play","net"] 2) [nm,a];rw [b];exact .cons (.name (by k_go) (by k_go) hn) (.cons (.name (by k_go) (by k_go) ha) .nil)
 ·show kh kn kp (eV "play" ["new play","net"] 2) [nm,a] _;rw [b];exact .cons (.other (by k_go) (by k_go) (by k_go)) (.cons (.net hp) .nil)
 ·have:y=nm\/y=a:=by simpa using e
  rcases this with rfl|rfl<;>lk
end
def ajW (n:Nat) (h:n<100):qT (Ls (bL n))/\PySem.intText? (bL n)=some (n:Int):=by
 have a:∀ m:Fin 100,(1<=(gn (Ls (bL (m.val:Int)))).length/\(gn (Ls (bL (m.val:Int)))).length<=60/\(∀ c∈gn (Ls (bL (m.val:Int))),48<=c/\c<=57)/\(Ls (bL (m.val:Int))=[48]\/(gn (Ls (bL (m.val:Int)))).head?≠some 48))/\PySem.intText? (bL (m.val:Int))=some (m.val:Int):=by k_go
 exact a ⟨n,h⟩
def amf:qT (Ls (bL (-1)))/\PySem.intText? (bL (-1))=some (-1):=by
 have a:(1<=(gn (Ls (bL (-1)))).length/\(gn (Ls (bL (-1)))).length<=60/\(∀ c∈gn (Ls (bL (-1))),48<=c/\c<=57)/\(Ls (bL (-1))=[48]\/(gn (Ls (bL (-1)))).head?≠some 48))/\PySem.intText? (bL (-1))=some (-1):=by k_go
 exact a
def uc {i:Int} (h0:-1<=i) (h1:i<100):qT (Ls (bL i))/\PySem.intText? (bL i)=some i:=by
 by_cases c:i=-1
 ·subst c;exact amf
 ·obtain ⟨n,rfl⟩:∃ n:Nat,i=(n:Int):=⟨i.toNat,by lk⟩;exact ajW n (by lk)
end
variable {Q':VK}
section
open PySem.SeqAt
inductive aqJ (m:Sp) (vs:aA) (H:Hp) (Q:VK) (E:XK):Prop
 |mk (l:Addr) (y x:V) (h1:vs=[.ref l]) (h2:H l=some (.lst [y,x])) (h:m [x] H Q E)
def aeF (m:Sp):Sp:=λvs H Q E=>aqJ m vs H Q E
inductive aqK (m:Sp) (vs:aA) (H:Hp) (Q:VK) (E:XK):Prop
 |mk (l:Addr) (y x z:V) (h1:vs=[.ref l]) (h2:H l=some (.lst [y,x,z])) (h:m [x,z] H Q E)
def arK (m:Sp):Sp:=λvs H Q E=>aqK m vs H Q E
inductive aqL (m:Sp) (vs:aA) (H:Hp) (Q:VK) (E:XK):Prop
 |mk (l:Addr) (y x:V) (h1:vs=[.ref l]) (h2:H l=some (.lst [y,x])) (h:m [x] H (λu H'=>∃ (t:Addr) (v p:V),u=.ref t/\H' t=some (.tup [v,p])/\Q v H') E)
def arL (m:Sp):Sp:=λvs H Q E=>aqL m vs H Q E
def agW {an:Addr} {vs:aA} {Q:VK} {E:XK} (h:u6 an n vs H Q E) (i:∀ u H',Q u H'->Q' u H'):u6 an n vs H Q' E:=by
 rcases h with h|h
 ·obtain ⟨k,e,kn,c,q⟩:=h;exact .inl ⟨k,e,kn,c,λT v pv H' f s x a b=>i _ _ (q T v pv H' f s x a b)⟩
 ·exact .inr h
inductive agX (vs:aA) (H:Hp) (Q:VK):Prop
 |mk (l:Addr) (v:V) (aj:Int) (ws:aP) (cs:aF) (ys:bK) (h1:vs=[.ref l]) (h2:H l=some (.lst (v::cs.map V.int))) (net:eG H v aj ws) (lc:cs.length=aj.toNat) (hp:Paired Wd ((bC cs ws).map V.int) ys) (q:∀ H',aB H H'->Q (.str (Txt.join ⟨#[32]⟩ ys)) H')
def Py:=nE agX
def ajX (v:V) (xs:aA):ou (v::xs) (some 1) none=xs:=by
 unfold ou;have b:HT.iZ (v::xs).length 0 (some 1)=1:=by unfold HT.iZ;simp
 have a:HT.iZ (v::xs).length (v::xs).length none=(v::xs).length:=rfl;rw [b,a];show (xs.take _)=xs;rw [zc (by simp)]
end
section
open PySem.Spec PyProof.Rows
end
section
open PySem.SeqAt PyProof.Rows
def apL {a b c e:Str} (hx:Ls x=Ls a++32::(Ls b++32::(Ls c++32::Ls e))) (ha:32∉Ls a) (hb:32∉Ls b) (hc:32∉Ls c) (he:32∉Ls e):Txt.split x ⟨#[32]⟩=[a,b,c,e]:=by
 rw [show x=Str.join ⟨#[32]⟩ [a,b,c,e] from pR (by rw [hx,mJ,mJ,mJ];rfl)];exact Bd (by simp) λp d=>by
  simp at d;rcases d with rfl|rfl|rfl|rfl
  ·exact ha
  ·exact hb
  ·exact hc
  ·exact he
section
variable {eU:iT} {k:Nat} {d:Addr} {D:jt} {kp:dU} {Q:VK} {E:XK} {nm c:Str}
def adP {n:Int} (RA:pA P w K mg au eU k w0 ["new net","number"] sp) (da:fZ C H d D kn kp) (ln:kn.length<900) (lp:kp.length<900) (hx:Ls x=Ls w0++32::(Ls nm++32::Ls c)) (nw:32∉Ls w0) (lw:w0.length<=10) (n1:¬ w0="net") (n2:¬ w0="exits") (hn:iM (Ls nm)) (hc:qT (Ls c)) (hv:PySem.intText? c=some n) (q:∀ (l:Addr) (H1:Hp),H l=none->aB H H1->H1 l=some (.lst [.str nm,.int n])->sp [.ref l] H1 (ux D kn kp H1 "new net" nm Q) E):pY P w K mg au eU k C [.ref d,.str x] H Q E:=by
 have b:=Gk hx nw (nD hn) (Jg hc);have g:=lW hn;have j:=yL hc;have i:x.length<=100:=by rw [<-cO,hx];simp [cO];lk
 have a:eV w0 ["new net","number"] 2=(["new net","number"]:bK):=aK n2;refine ⟨d,D,kn,kp,x,w0,nm,"new net",[c],["number"],sp,[.str nm,.int n],rfl,da,by lk, by rw [b];rfl,vA b n1,RA,by simp,by simp,?_,?_,λy e=>?_,ln,lp,q⟩
 ·show Paired mG (eV w0 ["new net","number"] 2) [nm,c];rw [a];exact .cons (.name (by k_go) (by k_go) hn) (.cons (.num hc) .nil)
 ·show kh kn kp (eV w0 ["new net","number"] 2) [nm,c] _;rw [a];exact .cons (.other (by k_go) (by k_go) (by k_go)) (.cons (.num hv (by lk)) .nil)
 ·have:y=nm\/y=c:=by simpa using e
  rcases this with rfl|rfl<;>lk
def apM {a:Str} (RA:pA P w K mg au eU k w0 ["new net","net"] sp) (da:fZ C H d D kn kp) (ln:kn.length<900) (lp:kp.length<900) (hp:dh kn (.inr a)=some v) (hx:Ls x=Ls w0++32::(Ls nm++32::Ls a)) (nw:32∉Ls w0) (lw:w0.length<=10) (n1:¬ w0="net") (n2:¬ w0="exits") (hn:iM (Ls nm)) (ha:iM (Ls a)) (q:∀ (l:Addr) (H1:Hp),H l=none->aB H H1->H1 l=some (.lst [.str nm,v])->sp [.ref l] H1 (ux D kn kp H1 "new net" nm Q) E):pY P w K mg au eU k C [.ref d,.str x] H Q E:=by
 have c:=Gk hx nw (nD hn) (nD ha);have g:=lW hn;have la:=lW ha;have i:x.length<=100:=by rw [<-cO,hx];simp [cO];lk
 have b:eV w0 ["new net","net"] 2=(["new net","net"]:bK):=aK n2;refine ⟨d,D,kn,kp,x,w0,nm,"new net",[a],["net"],sp,[.str nm,v],rfl,da,by lk, by rw [c];rfl,vA c n1,RA,by simp,by simp,?_,?_,λy e=>?_,ln,lp,q⟩
 ·show Paired mG (eV w0 ["new net","net"] 2) [nm,a];rw [b];exact .cons (.name (by k_go) (by k_go) hn) (.cons (.name (by k_go) (by k_go) ha) .nil)
 ·show kh kn kp (eV w0 ["new net","net"] 2) [nm,a] _;rw [b];exact .cons (.other (by k_go) (by k_go) (by k_go)) (.cons (.net hp) .nil)
 ·have:y=nm\/y=a:=by simpa using e
  rcases this with rfl|rfl<;>lk
def apO {v':V} {a b:Str} (RA:pA P w K mg au eU k w0 ["new net","net","net"] sp) (da:fZ C H d D kn kp) (ln:kn.length<900) (lp:kp.length<900) (hp:dh kn (.inr a)=some v) (hp':dh kn (.inr b)=some v') (hx:Ls x=Ls w0++32::(Ls nm++32::(Ls a++32::Ls b))) (nw:32∉Ls w0) (lw:w0.length<=10) (n1:¬ w0="net") (n2:¬ w0="exits") (hn:iM (Ls nm)) (ha:iM (Ls a)) (hb:iM (Ls b)) (q:∀ (l:Addr) (H1:Hp),H l=none->aB H H1->H1 l=some (.lst [.str nm,v,v'])->sp [.ref l] H1 (ux D kn kp H1 "new net" nm Q) E):pY P w K mg au eU k C [.ref d,.str x] H Q E:=by
 have e:=apL hx nw (nD hn) (nD ha) (nD hb);have i:=lW hn;have la:=lW ha;have m:=lW hb;have j:x.length<=100:=by rw [<-cO,hx];simp [cO];lk
 have c:eV w0 ["new net","net","net"] 3=(["new net","net","net"]:bK):=aK n2;refine ⟨d,D,kn,kp,x,w0,nm,"new net",[a,b],["net","net"],sp,[.str nm,v,v'],rfl,da,by lk, by rw [e];rfl,vA e n1,RA,by simp,by simp,?_,?_,λy g=>?_,ln,lp,q⟩
 ·show Paired mG (eV w0 ["new net","net","net"] 3) [nm,a,b];rw [c];exact .cons (.name (by k_go) (by k_go) hn) (.cons (.name (by k_go) (by k_go) ha) (.cons (.name (by k_go) (by k_go) hb) .nil))
 ·show kh kn kp (eV w0 ["new net","net","net"] 3) [nm,a,b] _;rw [c];exact .cons (.other (by k_go) (by k_go) (by k_go)) (.cons (.net hp) (.cons (.net hp') .nil))
 ·have:y=nm\/y=a\/y=b:=by simpa using g
  rcases this with rfl|rfl|rfl<;>lk
end
end
section
open PyProof.Rows
section
variable {a₀:Array Keyed} {st:SortSt} {lo:Nat}
end
end
section
open PySem.Spec PyProof.Rows
end
section
open PySem.SeqAt
def Pj (p:Place->Bool):∀ (cs:aF) (ps:List Place),(∀ c∈cs,c=1)->0<=iC p cs ps
 |[],_,_=>by simp [iC]
 |_::_,[],_=>by simp [iC]
 |a::cs,q::ps,h=>by have e:=h a (by simp);have:=Pj p cs ps λc b=>h c (by simp [b]);show 0<=(if p q then a else 0)+iC p cs ps;split<;>lk
def aol {P:Nat->Int} (ok:bJ aj ws) (hl:cs.length=aj.toNat) (F:xY aj ws st (lQ cs) P) (one:∀ c∈st.chg,c=1) {l:Int} (l0:0<=l) (l1:l<aj) : st.bM.getD l.toNat 0<=(bC cs ws).getD l.toNat 0:=by
 have n:∀ k,k<=ws.length->∀ x,0<=x->x<aj->Vf ws (lQ cs) P k x<=(bC cs (ws.take k)).getD x.toNat 0:=λk=>by
  induction k with
  |zero =>intro _ x d _;show lQ cs x<=_;unfold lQ;rw [aQ d];exact yX _
  |succ k g =>
   intro u x d h1;have j:ws[k]?=some (bT ws k):=by simp [bT,getD,show k<ws.length by lk]
   have o:=bJ.mem ok j;obtain ⟨p,r,q,m,y⟩:=id o;have tl:(bC cs (ws.take k)).length=aj.toNat:=by rw [jE];exact hl
   rw [gb j,Pu];have t:=F.pa k (by lk);have v:=Pj (j9 k) st.chg st.aX one;have z:=g (by lk) _ p r;have D:=g (by lk) _ q m;have B:P k<=fJ (bC cs (ws.take k)) (bT ws k):=by show P k<=_+_;lk
   show (if x=(bT ws k).1 then (P k+1) / 2 else if x=(bT ws k).2 then P k / 2 else Vf ws (lQ cs) P k x)<=_;by_cases i:x=(bT ws k).1
   ·rw [aQ i,i,aac tl o];lk
   ·rw [aK i];by_cases e:x=(bT ws k).2
    ·rw [aQ e,e,Zx tl o];lk
    ·rw [aK e,aad tl o (by lk) (by lk)];exact g (by lk) x d h1
 have a:=F.ta l l0 l1;have b:=n ws.length (bI _) l l0 l1;rw [gw] at b;have C:=Pj (mF l) st.chg st.aX one;lk
def iW:List Place->aF
 |[]=>[]
 |.out _ n::r=>n::iW r
 |.before _ _::r=>iW r
 |.exit _::r=>iW r
def Pz (h:cB pl=false):∀ ps:List Place,iW (ps++[pl])=iW ps
 |[]=>by cases pl<;>simp [cB] at h<;>rfl
 |q::r=>by
  have:=Pz h r;cases q with
  |out l n=>show n::iW (r++[pl])=n::iW r;rw [this]
  |before k l=>exact this
  |exit l=>exact this
def Qy {i_:Place} (h':cB i_=false):∀ (ps:List Place) (i:Nat) (pl:Place),ps[i]?=some pl->cB pl=false->iW (ps.set i i_)=iW ps
 |[],i,pl,h,_=>by simp at h
 |q::r,0,pl,h,o=>by
  have e:q=pl:=by simpa using h
  subst e;cases q<;>simp [cB] at o<;>cases i_<;>simp [cB] at h'<;>rfl
 |q::r,i+1,pl,h,o=>by
  have:=Qy h' r i pl (by simpa using h) o;cases q with
  |out l n=>show n::iW (r.set i i_)=n::iW r;rw [this]
  |before k l=>exact this
  |exit l=>exact this
def Jh {l n:Int}:∀ (ps:List Place) (i:Nat) (pl:Place),ps[i]?=some pl->cB pl=false->(iW (ps.set i (.out l n))).Perm (n::iW ps)
 |[],i,pl,h,_=>by simp at h
 |q::r,0,pl,h,o=>by
  have e:q=pl:=by simpa using h
  subst e;cases q<;>simp [cB] at o<;>exact Perm.refl _
 |q::r,i+1,pl,h,o=>by
  have:=Jh (l:=l) (n:=n) r i pl (by simpa using h) o;cases q with
  |out l' a=>exact (this.cons a).trans (Perm.swap _ _ _)
  |before k l=>exact this
  |exit l=>exact this
def Ji:∀ (ps:List Place) (i:Nat),(iW ps).length+(gR i ps).length=ps.length
 |[],_=>rfl
 |q::r,i=>by
  have:=Ji r (i+1);cases q with
  |out l n=>show (iW r).length+1+([]++gR (i+1) r).length=r.length+1;simp;lk
  |before k l=>show (iW r).length+([(i:Int)]++gR (i+1) r).length=r.length+1;simp;lk
  |exit l=>show (iW r).length+([(i:Int)]++gR (i+1) r).length=r.length+1;simp;lk
def ZV (aj:Int):∀ (n i:Nat),fD aj i (replicate n 0)=[]
 |0,_=>rfl
 |n+1,i=>by rw [ju];show ig aj i 0 (0:Int).toNat++fD aj (i+1) (replicate n 0)=[];rw [ZV aj n (i+1)];rfl
def aa3 (aj:Int):∀ (i:Nat) (t:aF) (l:Nat),l<t.length->0<=t.getD l 0->(fD aj i (t.set l (t.getD l 0+1))).Perm ((((i+l:Nat):Int)+aj*t.getD l 0)::fD aj i t)
 |_,[],l,h,_=>by simp at h
 |i,c::r,0,_,h=>by
  have h':0<=c:=by simpa using h
  show (ig aj i 0 (c+1).toNat++fD aj (i+1) r).Perm (((i:Int)+aj*c)::(ig aj i 0 c.toNat++fD aj (i+1) r));rw [show (c+1).toNat=c.toNat+1 by lk, aal,show (0:Int)+((c.toNat:Nat):Int)=c by lk, vh];exact List.perm_middle
 |i,c::r,l+1,hl,h=>by have a:=aa3 aj (i+1) r l (by simpa using hl) (by simpa using h);show (ig aj i 0 c.toNat++fD aj (i+1) (r.set l (r.getD l 0+1))).Perm (_::(ig aj i 0 c.toNat++fD aj (i+1) r));refine ((Perm.refl _).append a).trans ?_;rw [show i+1+l=i+(l+1) by lk];exact List.perm_middle
structure FwX (aj:Int) (st:cH) (cs:aF):Prop where
 one:∀ c∈st.chg,c=1
 sm:cs.sum=(st.aX.length:Int)
 nn:∀ l,0<=st.bM.getD l 0
 pm:(iW st.aX).Perm (fD aj 0 st.bM)
structure Go (b:Bool) (aj:Int) (ws:aP) (st:cH) (cs:aF):Prop where
 wf:Wf aj ws st
 cl:cs.length=aj.toNat
 fl:∃ P,xY aj ws st (lQ cs) P
 few:rA st
 fw:b=true->FwX aj st cs
def Go.start {b:Bool} (w1:1<=aj):Go b aj ws (jF aj ws) (replicate aj.toNat 0):=by
 refine ⟨alg,by simp,⟨_,ahA (by lk)⟩,rA.start aj ws,λ_=>⟨λ_ h=>(nomatch h),?_,λl=>?_,?_⟩⟩
 ·show _=(0:Int);generalize aj.toNat=n;induction n with
  |zero=>rfl
  |succ n a=>rw [ju,qC,a];rfl
 ·show 0<=(replicate aj.toNat (0:Int)).getD l 0;simp [getD,uh];split<;>simp
 ·show Perm [] (fD aj 0 (replicate aj.toNat 0));rw [ZV]
def Sw:∀ (cs:aF) (l:Nat) (c:Int),l<cs.length->(cs.set l (cs.getD l 0+c)).sum=cs.sum+c
 |[],l,c,h=>by simp at h
 |a::r,0,c,_=>by simp;lk
 |a::r,l+1,c,h=>by have:=Sw r l c (by simpa using h);show (a::r.set l (r.getD l 0+c)).sum=_;rw [qC,this,qC];lk
def Go.enter {b:Bool} {l c:Int} (ok:bJ aj ws) (G:Go b aj ws st cs) (l0:0<=l) (l1:l<aj) (hc:c=1\/c=-1) (hb:b=true->c=1) (ml:st.aX.length<400) : Go b aj ws (mO ws st l c) (cs.set l.toNat (cs.getD l.toNat 0+c)):=by
 have i:=G.cl;have g:l.toNat<cs.length:=by lk
 obtain ⟨P,F⟩:=G.fl;refine ⟨alh G.wf l0 l1 hc ml,by rw [fV];exact i,⟨P,ahz ok G.wf F (anq l0 g)⟩,G.few.enter,λe=>?_⟩;have X:=G.fw e;have j:=hb e;subst j;refine ⟨λd m=>?_,?_,X.nn,?_⟩
 ·rcases nM.mp (show d∈st.chg++[1] from m) with z|z
  ·exact X.one d z
  ·exact yU.mp z
 ·rw [Sw _ _ _ g,X.sm];show _=(((st.aX++[gF ws l 0]).length:Nat):Int);simp
 ·show (iW (st.aX++[gF ws l 0])).Perm _;rw [Pz (by rcases wR ws l (fQ _) with ⟨a,_⟩|⟨k,a,_⟩<;>rw [a]<;>rfl)];exact X.pm
def amg {xs:aF} (h:∀ c∈xs,c=1) (hi:i<xs.length):xs.getD i 0=1:=by rw [Fx,Fp hi];exact h _ (Rj hi)
def Go.step {b:Bool} (ok:bJ aj ws) (G:Go b aj ws st cs) (hi:st.aX[i]?=some pl):Go b aj ws (kZ aj ws st i pl) cs:=by
 obtain ⟨P,F⟩:=G.fl;refine ⟨acI ok G.wf hi,G.cl,ai3 ok G.wf F hi,G.few.step G.wf hi,λe=>?_⟩;have X:=G.fw e;have g:i<st.aX.length:=(dY.mp hi).1;have p:=G.wf.cl;have d:=amg X.one (i:=i) (by lk);have c:=G.wf.ps pl (fj hi);cases pl with
 |out l n=>exact X
 |before k l =>
  refine ⟨X.one,?_,X.nn,?_⟩
  ·rw [rE];exact X.sm
  ·show (iW (st.aX.set i (gF ws (jq ws st k (st.chg.getD i 0)) (k+1)))).Perm _;rw [Qy (by rcases wR ws (jq ws st k (st.chg.getD i 0)) (s:=k+1) c.1 with ⟨a,_⟩|⟨m,a,_⟩<;>rw [a]<;>rfl) _ _ _ hi rfl];exact X.pm
 |exit l =>
  have o:=c.1;have p2:=c.2;have tl:=G.wf.tl;have lt:l.toNat<st.bM.length:=by lk
  refine ⟨X.one,?_,λj=>?_,?_⟩
  ·rw [rE];exact X.sm
  ·show 0<=(st.bM.set l.toNat (st.bM.getD l.toNat 0+st.chg.getD i 0)).getD j 0;rw [d,jY lt];have:=X.nn l.toNat;have:=X.nn j;split<;>lk
  ·show (iW (st.aX.set i (.out l (jR aj st l (st.chg.getD i 0))))).Perm (fD aj 0 (st.bM.set l.toNat (st.bM.getD l.toNat 0+st.chg.getD i 0)));rw [d];refine (Jh _ _ _ hi rfl).trans (Perm.trans ?_ (aa3 aj 0 st.bM l.toNat lt (X.nn _)).symm);have en:jR aj st l 1=((0+l.toNat:Nat):Int)+aj*st.bM.getD l.toNat 0:=by unfold jR;rw [aQ rfl];lk
   rw [en];exact X.pm.cons _
def Go.run {b:Bool} {a:cH} (ok:bJ aj ws) (r:vZ aj ws i st a):Go b aj ws st cs->Go b aj ws a cs:=by
 induction r with
 |done _ _=>exact λg=>g
 |more e o _ c=>exact λg=>c (g.step ok e)
def Go.rest {b:Bool} {a:cH} (ok:bJ aj ws) (r:oZ aj ws is st a):Go b aj ws st cs->Go b aj ws a cs:=by
 induction r with
 |nil=>exact λg=>g
 |cons r _ c=>exact λg=>c (g.run ok r)
def Fd {x t:Int} (w1:1<=aj):x / aj<(dN aj.toNat t).getD (x % aj).toNat 0↔x<t:=by
 have c:=rP x (show aj≠0 by lk);have d:=rQ x (show 0<aj by lk);have g:=J6 x aj;rw [O9 (by lk),xH c,xH (show 0<=aj by lk),rO];have e:x % aj-t=(x-t)+aj*(-(x / aj)):=by rw [BR];lk
 rw [e,zj _ _ (by lk)];have:(x-t) / aj<0↔x-t<0:=⟨λh=>by have:=Fw (a:=x-t) (b:=aj);lk, λh=>J8 h (by lk)⟩;lk
def ZW (ok:bJ aj ws) (w1:1<=aj) (lv:jh aj ws) (G:Go true aj ws st cs) {x:Int} (h:x∈fD aj 0 st.bM):0<=x/\x<(st.aX.length:Int):=by have c:=Il w1 h;refine ⟨c,?_⟩;have X:=G.fw rfl;obtain ⟨P,F⟩:=G.fl;have e:=rP x (show aj≠0 by lk);have d:=rQ x (show 0<aj by lk);have a:=(Qw w1 G.wf.tl c).mp h;have b:=aol ok G.cl F X.one e d;rw [lv.come ok w1 G.cl,X.sm] at b;exact (Fd w1).mp (by lk)
def iH (n:Nat):aF:=(range n).map λk:Nat=>(k:Int)
def QZ (n:Nat):(iH n).length=n:=by simp [iH]
def Jq {x:Int}:x∈iH n↔0<=x/\x<n:=by
 unfold iH;rw [fW];constructor
 ·rintro ⟨k,c,rfl⟩;have:=pL.mp c;lk
 ·rintro ⟨a,b⟩;exact ⟨x.toNat,pL.mpr (by lk),by lk⟩
def ahX (n:Nat):(iH n).Nodup:=by unfold iH;exact zp _ (λa b h e=>h (by lk)) List.nodup_range
def ajY (n:Nat):iH (n+1)=iH n++[(n:Int)]:=by unfold iH;rw [rN,cX];rfl
def aom (n:Nat):(iH n).Pairwise (·<=·):=by unfold iH;exact zp _ (λa b h=>by lk) RV
def ac_ {b:Bool} (ok:bJ aj ws) (w1:1<=aj) (lv:jh aj ws) (G:Go b aj ws st cs) (out:∀ pl∈st.aX,cB pl=true):st.bM=bC cs ws/\st.bM=dN aj.toNat cs.sum:=by obtain ⟨P,F⟩:=G.fl;have e:=(ai4 ok G.wf G.cl F out).1;exact ⟨e,e.trans (lv.come ok w1 G.cl)⟩
def ahY {t:Int} {S:aF} (w1:1<=aj) (pm:S.Perm (fD aj 0 (dN aj.toNat t))) (pw:S.Pairwise (·<=·)):S=iH t.toNat:=by
 have a:=Bg aj.toNat t;refine aa0 (c:=fD aj 0 (dN aj.toNat t)) pm ?_ pw (aom _);refine (acd (ahX _) (O4 w1 0 _ (by lk))).mpr λx=>?_;rw [Jq,ahQ w1 a,Fd w1];have d:0<=x / aj↔0<=x:=⟨λh=>by
  by_cases z:x<0
  ·have:=J8 z (show 0<aj by lk);lk
  ·lk, λh=>Fw h (by lk)⟩
 rw [d];lk
def yq (t:Int):aF:=(range (-t).toNat).map λk:Nat=>t+(k:Int)
def ajZ {t:Int} {S:aF} (w1:1<=aj) (pm:S.Perm (k_ aj 0 (dN aj.toNat t))) (pw:S.Pairwise (·<=·)):S=yq t:=by
 have j:=Bg aj.toNat t;have nd:(yq t).Nodup:=by unfold yq;exact zp _ (λa b h e=>h (by lk)) List.nodup_range
 have g:(yq t).Pairwise (·<=·):=by unfold yq;exact zp _ (λa b h=>by lk) RV
 refine aa0 (c:=k_ aj 0 (dN aj.toNat t)) pm ?_ pw g;refine (acd nd (ZP w1 0 _ (by lk))).mpr λx=>?_;have m:x∈yq t↔t<=x/\x<0:=by
  unfold yq;rw [fW];constructor
  ·rintro ⟨k,i,rfl⟩;have:=pL.mp i;lk
  ·rintro ⟨a,b⟩;exact ⟨(x-t).toNat,pL.mpr (by lk),by lk⟩
 rw [m,al4 w1 j];have l:=Fd (x:=x) (t:=t) w1;have d:x / aj<0↔x<0:=⟨λh=>by
  by_cases z:x<0
  ·exact z
  ·have:=Fw (show 0<=x by lk) (show 0<=aj by lk);lk, λh=>J8 h (by lk)⟩
 rw [d];lk
def aj0 {t g:Int} (w1:1<=aj) (hg:sX aj (dN aj.toNat t) g):uI aj (dN aj.toNat t) g.toNat=[]:=by
 unfold uI;rw [List.filter_eq_nil_iff];intro x b;have c:=Jq.mp b;have l:=Fd (x:=x) (t:=t) w1;have a:=hg.nonneg;rcases fX.mp hg.1 with e|e
 ·lk
 ·have:=(Qw (n:=g) w1 (Bg _ _) a).mp e;have:=(Fd w1).mp this;simp;exact l.mpr (by lk)
end
section
open PySem.Spec PyProof.Rows
section
def apP:V->aA->Hp->VK->Prop:=λx vs H Q=>∃ (l:Addr) (ns:aF) (k:Int),x=.ref l/\vs=[.int k]/\H l=some (.lst (ns.map V.int))/\Q (.int (ns.count k:Nat)) H
def amh:Vi X "list.count" apP:=by rintro ak s σ H x vs v us Q I a d ⟨l,ns,k,rfl,rfl,c,q⟩;cases a;obtain ⟨u,rfl,b⟩:=d.one;obtain ⟨t,rfl⟩:=b;obtain ⟨aJ,r,pl,e⟩:=I.list (aN c);exact count_list_ints pl.isList (intsAre_of r) ⟨.int (ns.count k:Nat),H,I.tok _,⟨_,rfl⟩,q⟩
end
end
variable {ls:aF}
section
open PySem.SeqAt PyProof.Rows
inductive aon (vs:aA) (H:Hp) (Q:VK):Prop
 |mk (t:Addr) (x:Str) (h1:vs=[.ref t]) (h2:H t=some (.tup [.str x])) (q:Q (.str x) H)
def apQ:=nE aon
inductive aj1 (am:Addr) (vs:aA) (H:Hp) (Q:VK) (E:XK):Prop
 |mk (l:Addr) (v:V) (aj:Int) (ws:aP) (h1:vs=[.ref l]) (h2:H l=some (.lst [v])) (net:eG H v aj ws) (lv:jh aj ws) (nu:∀ i j,¬ LR (pK aj ws) i j) (q:∀ H',aB H H'->Q (.str "levels") H') (e:∀ H',aB H H'->E (.ref am) none H')
def ami (am:Addr):Sp:=λvs H Q E=>aj1 am vs H Q E
inductive aj2 (vs:aA) (H:Hp) (Q:VK):Prop
 |mk (l:Addr) (v:V) (aj:Int) (ws:aP) (h1:vs=[.ref l]) (h2:H l=some (.lst [v])) (net:eG H v aj ws) (lv:jh aj ws) (q:∀ H',aB H H'->Q (.str "orders") H')
def amj:=nE aj2
inductive aj3 (am:Addr) (vs:aA) (H:Hp) (Q:VK) (E:XK):Prop
 |mk (l:Addr) (v v':V) (aj:Int) (ws:aP) (h1:vs=[.ref l]) (h2:H l=some (.lst [v,v'])) (net:eG H v aj ws) (U3:eG H v' aj ws) (q:∀ H',aB H H'->Q (.str "yes") H') (e:∀ H',aB H H'->E (.ref am) none H')
def amk (am:Addr):Sp:=λvs H Q E=>aj3 am vs H Q E
def aj4 (ok:bJ aj ws) (w1:1<=aj) (lv:jh aj ws):aeC aj.toNat ws:=λr hr=>by rw [<-alK ws r hr ok];exact ((O_ (by rw [jE,hr.1];lk)).mp (lv r hr.1)).1
def eE (aj:Int) (ls:aF):aF:=(iH aj.toNat).map λl=>(ls.count l:Int)
def Bt (aj:Int) (ls:aF):(eE aj ls).length=aj.toNat:=by unfold eE;rw [bh,QZ]
def aml (h:j<n):(iH n)[j]?=some (j:Int):=by unfold iH;rw [jP,JR h];rfl
def FW (h:j<aj.toNat):(eE aj ls)[j]?=some (ls.count (j:Int):Int):=by unfold eE;rw [jP,aml h];rfl
def abH (aj:Int):eE aj []=replicate aj.toNat 0:=by
 refine Rt λj=>?_;by_cases h:j<aj.toNat
 ·rw [FW h,uh,aQ h];rfl
 ·rw [yZ (by rw [Bt];lk),yZ (by simp;lk)]
def aa4 {l:Int} (l0:0<=l) (l1:l<aj):eE aj (ls++[l])=(eE aj ls).set l.toNat ((eE aj ls).getD l.toNat 0+1):=by
 have e:(eE aj ls).getD l.toNat 0=(ls.count l:Int):=by rw [Fx,FW (by lk),show ((l.toNat:Nat):Int)=l by lk];rfl
 rw [e];refine Rt λj=>?_;by_cases h:j<aj.toNat
 ·rw [FW h,List.count_append];by_cases z:j=l.toNat
  ·subst z;rw [zJ (by rw [Bt];lk),show ((l.toNat:Nat):Int)=l by lk];simp
  ·rw [zK (bF z),FW h];have:List.count (j:Int) [l]=0:=List.count_eq_zero.mpr (by simp;lk);rw [this,JW]
 ·rw [yZ (by rw [Bt];lk),yZ (by rw [fV,Bt];lk)]
def amm (aj:Int) (ls:aF):eE aj ls.reverse=eE aj ls:=by unfold eE;exact xu λl _=>by rw [List.count_reverse]
def Q0 {c:Int} (h:c∈eE aj ls):0<=c/\c<=ls.length:=by obtain ⟨l,_,rfl⟩:=fW.mp h;have:=List.count_le_length (a:=l) (l:=ls);lk
def aj5 (ok:bJ aj ws) (w1:1<=aj) (lv:jh aj ws) (hl:cs.length=aj.toNat) (h0:0<=cs.sum) (h1:cs.sum<=1000):∀ n∈bC cs ws,n.natAbs<=10000:=λn e=>by
 rw [lv.come ok w1 hl] at e;unfold dN at e;obtain ⟨i,hi,rfl⟩:=fW.mp e;have k:=pL.mp hi;have j:(0:Int)<(aj.toNat:Int):=by lk
 have h1:=J6 ((0:Int)+(i:Int)-cs.sum) (aj.toNat:Int);have h2:=rP ((0:Int)+(i:Int)-cs.sum) (show (aj.toNat:Int)≠0 by lk);have l:=rQ ((0:Int)+(i:Int)-cs.sum) j;generalize ((0:Int)+(i:Int)-cs.sum) / (aj.toNat:Int)=d at *;have lo:(aj.toNat:Int)*d<=i:=by lk
 have g:(aj.toNat:Int)*d>-1001-aj.toNat:=by lk
 have a:d<=0:=by
  by_cases c:d<=0
  ·exact c
  ·have:(aj.toNat:Int)*1<=(aj.toNat:Int)*d:=Kc (by lk) (by lk);lk
 have b:-2000<d:=by
  by_cases c:-2000<d
  ·exact c
  ·have:(aj.toNat:Int)*d<=(aj.toNat:Int)*(-2000):=Kc (by lk) (by lk);have:(aj.toNat:Int)*1<=(aj.toNat:Int)*1000:=Kc (by lk) (by lk);lk
 lk
def Dk (nm:Str) (cs:aF):Str:=Txt.join ⟨#[32]⟩ (ofString "exits":: nm::cs.map bL)
section
variable {eU:iT} {k:Nat} {d:Addr} {D:jt} {kp:dU} {Q:VK} {E:XK} {nm c:Str}
def aa5:∀ {cs:aF},(∀ c∈cs,-1<=c/\c<100)->Paired mG (replicate cs.length ("number":Str)) (cs.map bL)
 |[],_=>.nil
 |c::r,h=>.cons (.num (uc (h c iz).1 (h c iz).2).1) (aa5 λz a=>h z (fH _ a))
def ZX:∀ {cs:aF},(∀ c∈cs,-1<=c/\c<100)->kh kn kp (replicate cs.length ("number":Str)) (cs.map bL) (cs.map V.int)
 |[],_=>.nil
 |c::r,h=>by obtain ⟨a,b⟩:=uc (h c iz).1 (h c iz).2;have:=yL a;exact .cons (.num b (by lk)) (ZX λz d=>h z (fH _ d))
def aoo (RA:pA P w K mg au eU k "exits" ["net","number"] Py) (da:fZ C H d D kn kp) (ln:kn.length<900) (lp:kp.length<900) (hp:dh kn (.inr nm)=some v) (net:eG H v aj ws) (hn:iM (Ls nm)) (cm:∀ c∈cs,-1<=c/\c<100) (lc:cs.length=aj.toNat) (sm:∀ n∈bC cs ws,n.natAbs<=10000) (q:∀ H',aB H H'->Q (.str (Txt.join ⟨#[32]⟩ ((bC cs ws).map bL))) H'):pY P w K mg au eU k C [.ref d,.str (Dk nm cs)] H Q E:=by
 have O:=net.2.1;have S:=net.2.2.1;have N:∀ p∈ofString "exits":: nm::cs.map bL,32∉Ls p:=λp hp=>by
  rcases fX.mp hp with rfl|hp
  ·k_go
  rcases fX.mp hp with rfl|hp
  ·exact nD hn
  obtain ⟨c,g,rfl⟩:=fW.mp hp;exact Jg (uc (cm c g).1 (cm c g).2).1
 have x:Txt.split (Dk nm cs) ⟨#[32]⟩=ofString "exits":: nm::cs.map bL:=by unfold Dk;rw [wU];exact Bd (by simp) N
 have R:=lW hn;have j:∀ y∈cs.map bL,y.length<=61:=λy e=>by obtain ⟨c,g,rfl⟩:=fW.mp e;exact yL (uc (cm c g).1 (cm c g).2).1
 have i:∀ l:bK,(∀ y∈l,y.length<=61)->(l.map (·.length)).sum<=61*l.length:=λl=>by
  induction l with
  |nil=>intro _;simp
  |cons a r J =>intro h;have h1:=h a iz;have h2:=J λy e=>h y (fH _ e);rw [gj,qC,gA];lk
 have L:(Dk nm cs).length<=5000:=by
  have a:=TX (ofString "exits":: nm::cs.map bL);have b:=i _ j;rw [bh] at b;unfold Wt at a;rw [gj,gj,qC,qC,gA,gA,bh] at a;have U:(ofString "exits").length=5:=by k_go
  show (Txt.join ⟨#[32]⟩ _).length<=_;lk
 have B:(cs.map bL).length=cs.length:=bh ..;have u:eV "exits" ["net","number"] ((cs.map bL).length+1)=("net":Str)::replicate cs.length ("number":Str):=by unfold eV;rw [aQ rfl,B];obtain ⟨m,I⟩:∃ m,cs.length=m+1:=⟨cs.length-1,by lk⟩;rw [I];rfl
 refine ⟨d,D,kn,kp,_,ofString "exits",nm,"net",cs.map bL,["number"],Py,v::cs.map V.int,rfl,da,L,by rw [x];rfl,vA x (by k_go),RA,by simp,by rw [B];lk, ?_,?_,λy e=>?_,ln,lp,λl H1 W t M=>?_⟩
 ·show Paired mG (eV "exits" ["net","number"] _) _;rw [u];exact .cons (.name (by k_go) (by k_go) hn) (aa5 cm)
 ·show kh kn kp (eV "exits" ["net","number"] _) _ _;rw [u];exact .cons (.net hp) (ZX cm)
 ·rcases fX.mp e with z|z
  ·rw [z];lk
  ·have:=j y z;lk
 ·exact ⟨l,v,aj,ws,cs,(bC cs ws).map bL,rfl,M,net.kt (cG t (bY _)),lc,Bs sm,λH2 o=>.other (by k_go) (by k_go) (cG o (bY _)) (q H2 (aG t o))⟩
def aop {v':V} {b:Str} (RA:pA P w K mg au eU k w0 ["net","net"] sp) (da:fZ C H d D kn kp) (ln:kn.length<900) (lp:kp.length<900) (hp:dh kn (.inr nm)=some v) (hp':dh kn (.inr b)=some v') (hx:Ls x=Ls w0++32::(Ls nm++32::Ls b)) (nw:32∉Ls w0) (lw:w0.length<=10) (n1:¬ w0="net") (n2:¬ w0="exits") (hn:iM (Ls nm)) (hb:iM (Ls b)) (q:∀ (l:Addr) (H1:Hp),H l=none->aB H H1->H1 l=some (.lst [v,v'])->sp [.ref l] H1 (ux D kn kp H1 "net" nm Q) E):pY P w K mg au eU k C [.ref d,.str x] H Q E:=by
 have c:=Gk hx nw (nD hn) (nD hb);have g:=lW hn;have j:=lW hb;have i:x.length<=100:=by rw [<-cO,hx];simp [cO];lk
 have a:eV w0 ["net","net"] 2=(["net","net"]:bK):=aK n2;refine ⟨d,D,kn,kp,x,w0,nm,"net",[b],["net"],sp,[v,v'],rfl,da,by lk, by rw [c];rfl,vA c n1,RA,by simp,by simp,?_,?_,λy e=>?_,ln,lp,q⟩
 ·show Paired mG (eV w0 ["net","net"] 2) [nm,b];rw [a];exact .cons (.name (by k_go) (by k_go) hn) (.cons (.name (by k_go) (by k_go) hb) .nil)
 ·show kh kn kp (eV w0 ["net","net"] 2) [nm,b] _;rw [a];exact .cons (.net hp) (.cons (.net hp') .nil)
 ·have:y=nm\/y=b:=by simpa using e
  rcases this with rfl|rfl<;>lk
end
end
section
open PySem.Spec PyProof.Rows
end
section
open PySem.SeqAt
def apR {k:Nat} (h:k<=3):(qb k).length<=36:=by
 have:k=0\/k=1\/k=2\/k=3:=by lk
 rcases this with rfl|rfl|rfl|rfl<;>k_go
def aoq (t:Int):mz 0 t=iH t.toNat:=by unfold mz iH;rw [show (t-0).toNat=t.toNat by lk];exact xu λk _=>rO _
end
variable {Cd:Addr}
section
open PySem.SeqAt PyProof.Rows
def agY {c:Int} {vs:aA} {Q:VK} {E E':XK} (h:Ky C c vs H Q E) (i:∀ u H',Q u H'->Q' u H'):Ky C c vs H Q' E':=by obtain ⟨p,v,aj,ws,L,st,cC,e,b,g,d,j,l,q⟩:=h;exact ⟨p,v,aj,ws,L,st,cC,e,b,g,d,j,l,λH' a k=>i _ _ (q H' a k)⟩
def ahZ {vs:aA} {Q:VK} {E E':XK} (h:K8 C vs H Q E) (i:∀ u H',Q u H'->Q' u H'):K8 C vs H Q' E':=by obtain ⟨p,v,aj,ws,L,st,j,pl,e,b,d,c,l,g,q⟩:=h;exact ⟨p,v,aj,ws,L,st,j,pl,e,b,d,c,l,g,λt H' a k x=>i _ _ (q t H' a k x)⟩
def fZ.kps {d:Addr} {D:jt} {kp:dU} (h:fZ C H d D kn kp) (k:dI S H H') (n1:d∉S) (n2:D.n∉S) (n3:D.q∉S):fZ C H' d D kn kp:={ h with ob:=k _ _ h.ob n1,ne:=k _ _ h.ne n2,pl:=k _ _ h.pl n3 }
def u9 {d:Addr} {D:jt} {kp:dU} (h:fZ Cd H d D kn kp) (P:cN C H p v L st):d∉L.own p/\D.n∉L.own p/\D.q∉L.own p:=by
 obtain ⟨rs,c,_⟩:=P.pl;have b:∀ {a:Addr} {ks:dU},H a=some (.dK ks)->a∉L.own p:=λe z=>by
  rcases Sg.mp z with rfl|rfl|rfl|rfl|rfl
  ·rw [P.ob] at e;cases e
  ·rw [P.fa] at e;cases e
  ·rw [P.ta] at e;cases e
  ·rw [c] at e;cases e
  ·rw [P.ch] at e;cases e
 refine ⟨λz=>?_,b h.ne,b h.pl⟩;have e:=h.ob;rcases Sg.mp z with rfl|rfl|rfl|rfl|rfl
 ·rw [P.ob] at e;have g:m8 v L=jD D:=by
   injection e with e
   injection e
  have a:=vq v L;rw [g,mR _ (by k_go) (by k_go)] at a;cases a
 ·rw [P.fa] at e;cases e
 ·rw [P.ta] at e;cases e
 ·rw [c] at e;cases e
 ·rw [P.ch] at e;cases e
def Fe {d pn:Addr} {D:jt} {kp:dU} (h:fZ Cd H d D kn kp) (hp:H pn=some (.lst xs)):d≠pn/\D.n≠pn/\D.q≠pn:=⟨(λz=>by have:=h.ob;rw [z,hp] at this;cases this),(λz=>by have:=h.ne;rw [z,hp] at this;cases this),(λz=>by have:=h.pl;rw [z,hp] at this;cases this)⟩
def Eo {i:Int} (h0:-1<=i) (h1:i<100):32∉Ls (bL i):=Jg (uc h0 h1).1
def ah0 (ok:bJ aj ws) (w1:1<=aj) (w8:aj<=8) (lw:ws.length<=41) (lv:jh aj ws) (G:Go true aj ws st cs) (ml:st.aX.length<=90) (hi:st.aX[i]?=some pl) (no:cB pl=false):∀ x∈pH (jA aj ws st i pl),32∉Ls x:=by
 have g:=G.step ok hi;have m:=step_at (aj:=aj) (ws:=ws) hi;have j:=g.wf.ps _ (fj m);cases pl with
 |out l n=>simp [cB] at no
 |exit l =>
  have e:=G.wf.ps _ (fj hi);have p:jR aj st l (st.chg.getD i 0)∈iW (kZ aj ws st i (.exit l)).aX:=by have:=(Jh (l:=l) (n:=jR aj st l (st.chg.getD i 0)) st.aX i _ hi rfl).mem_iff (a:=jR aj st l (st.chg.getD i 0));exact this.mpr (by simp)
  have b:=ZW ok w1 lv g ((g.fw rfl).pm.mem_iff.mp p);rw [rE] at b;intro x d;have:x=ofString "out" \/ x=bL l\/x=bL (jR aj st l (st.chg.getD i 0)):=by simpa [jA,pH] using d
  rcases this with rfl|rfl|rfl
  ·k_go
  ·exact Eo (by have:=e.1;lk) (by have:=e.2;lk)
  ·exact Eo (by lk) (by lk)
 |before k l =>
  show ∀ x∈pH (gF ws (jq ws st k (st.chg.getD i 0)) (k+1)),_;have e:=G.wf.ps _ (fj hi);have c:match gF ws (jq ws st k (st.chg.getD i 0)) (k+1) with|.before k l=>k<ws.length/\0<=l/\l<aj|.exit l=>0<=l/\l<aj|.out _ _=>True:=j
  rcases wR ws (jq ws st k (st.chg.getD i 0)) (s:=k+1) e.1 with ⟨a,_⟩|⟨o,a,_⟩
  ·rw [a] at c ⊢;intro x d;have:x=ofString "exit" \/ x=bL (jq ws st k (st.chg.getD i 0)):=by simpa [pH] using d
   rcases this with rfl|rfl
   ·k_go
   ·exact Eo (by have:=c.1;lk) (by have:=c.2;lk)
  ·rw [a] at c ⊢;intro x d;have:x=ofString "before" \/ x=bL (o:Int)\/x=bL (jq ws st k (st.chg.getD i 0)):=by simpa [pH] using d
   rcases this with rfl|rfl|rfl
   ·k_go
   ·exact Eo (by lk) (by have:=c.1;lk)
   ·exact Eo (by have:=c.2.1;lk) (by have:=c.2.2;lk)
def aj6 (h:∀ x∈pH pl,32∉Ls x):Txt.split (Hq pl) ⟨#[32]⟩=pH pl:=by unfold Hq;rw [wU];exact Bd (by cases pl<;>simp [pH]) h
def aor (h:GQ pl):(Hq pl).length<=50000:=by
 have a:=FT (adM h);have b:=TX (pH pl);unfold Wt at b;have c:(rm pl).length<=3:=by cases pl<;>simp [rm]
 have e:(pH pl).length<=3:=by cases pl<;>simp [pH]
 show (Txt.join ⟨#[32]⟩ _).length<=_;lk
inductive aj7 (P:Program) (w:World) (K:bG) (mg:dR) (au:Heap) (eU:iT) (am:Addr) (C:Addr) (vs:aA) (H:Hp) (Q:VK):Prop
 |mk (d:Addr) (D:jt) (kn kp:dU) (x:Str) (h1:vs=[.ref d,.str x]) (da:fZ C H d D kn kp) (h:pY P w K mg au eU 13 C [.ref d,.str x] H (λv H'=>(∃ y,v=.str y)/\Q v H') (λc _ H1=>c=.ref am/\∀ H',aB H1 H'->Q (.str "many") H'))
def amn (P:Program) (w:World) (K:bG) (mg:dR) (au:Heap) (eU:iT) (am:Addr) (C:Addr):=nE (aj7 P w K mg au eU am C)
inductive aj8 (Cd:Addr) (vs:aA) (H:Hp) (Q:VK):Prop
 |mk (pn d:Addr) (D:jt) (k:Nat) (h1:vs=[.ref pn,.ref d,.int (pw k)]) (k3:k<=3) (pe:wG H pn) (da:fZ Cd H d D [] [])
   (q:∀ (kn:dU) (v:V) (ws:aP) (H':Hp),fZ Cd H' d D kn []->kn.length<=2->dh kn (.inr "w")=some v->eG H' v (pw k) ws->ws.length<=40->jh (pw k) ws->k<=dX (pw k) ws->wG H' pn->dI [pn,D.n] H H'->Q (.bl true) H')
def amo (Cd:Addr):=nE (aj8 Cd)
inductive aj9 (C Cd:Addr) (vs:aA) (H:Hp) (Q:VK):Prop
 |mk (pn d:Addr) (D:jt) (kn kp:dU) (nm:Str) (ll:Addr) (dD:aF) (p:Addr) (v:V) (aj:Int) (ws:aP) (L:dB) (h1:vs=[.ref pn,.ref d,.str nm,.ref ll]) (pe:wG H pn) (da:fZ Cd H d D kn kp) (ln:kn.length<900) (lp:kp.length<900) (hn:iM (Ls nm)) (hp:dh kp (.inr nm)=some (.ref p)) (net:eG H v aj ws) (lv:jh aj ws) (pa:cN C H p v L (jF aj ws)) (np:pn∉L.own p)
   (xl:H ll=some (.lst (dD.map V.int))) (nl:ll∉L.own p) (nn:ll≠pn) (hl:∀ l∈dD,0<=l/\l<aj) (len:dD.length<=20)
   (q:∀ (la:Addr) (ns:aF) (st:cH) (H':Hp),H la=none->cN C H' p v L st->Go true aj ws st (eE aj dD)->st.aX.length=dD.length->H' la=some (.lst (ns.map λn=>V.str (bL n)))->ns.Perm (iW st.aX)->dI (pn::L.own p) H H'->KT H H'->Q (.ref la) H')
def amq (C Cd:Addr):=nE (aj9 C Cd)
inductive amr (C Cd:Addr) (vs:aA) (H:Hp) (Q:VK):Prop
 |mk (d:Addr) (D:jt) (kn kp:dU) (nm wg:Str) (p:Addr) (v:V) (aj:Int) (ws:aP) (L:dB) (st:cH) (cs:aF) (h1:vs=[.ref d,.str nm,.str wg,.int cs.sum]) (da:fZ Cd H d D kn kp) (ln:kn.length<900) (lp:kp.length<900) (hn:iM (Ls nm)) (hp:dh kp (.inr nm)=some (.ref p)) (net:eG H v aj ws) (lv:jh aj ws) (pa:cN C H p v L st) (go:Go true aj ws st cs) (len:st.aX.length<=60) (ed:wg=iR (bC cs ws))
   (q:∀ (H':Hp),dI (L.own p) H H'->KT H H'->Q (.bl true) H')
def aos (C Cd:Addr):=nE (amr C Cd)
structure jU (C Cd:Addr) (G Hc:Hp) (d:Addr) (D:jt) (kn kp:dU) (p:Addr) (v:V) (aj:Int) (ws:aP) (L:dB) (st:cH) (cs:aF) (pn la:Addr) (ns:aF) (lo:Addr) (kd:dU):Prop where
 sk:dI (pn::L.own p) G Hc
 kt:KT G Hc
 da:fZ Cd Hc d D kn kp
 pl:cN C Hc p v L st
 go:Go true aj ws st cs
 pe:wG Hc pn
 xl:Hc la=some (.lst (ns.map λn=>V.str (bL n)))
 xo:Hc lo=some (.dK kd)
 pm:ns.Perm (iW st.aX)
 od:∀ i:Nat,i<st.aX.length->((dh kd (.inl (i:Int))).isSome=true↔∃ pl,st.aX[i]?=some pl/\cB pl=true)
 nd:∀ i:Int,(st.aX.length:Int)<=i->dh kd (.inl i)=none
 ld:kd.length<=ns.length
 fa:G la=none
 fo:G lo=none
 na:la∉L.own p
 no:lo∉L.own p
 np:pn∉L.own p
 nap:la≠pn
 nop:lo≠pn
 nao:la≠lo
 gdn:D.n≠lo
 gdq:D.q≠lo
section
variable {Hc:Hp} {d:Addr} {D:jt} {kp:dU} {pn la:Addr} {lo:Addr} {kd:dU}
def jU.same (h:jU C Cd G Hc d D kn kp p v aj ws L st cs pn la ns lo kd) (s:aB Hc H'):jU C Cd G H' d D kn kp p v aj ws L st cs pn la ns lo kd:={ h with sk:=ur h.sk (dI.same s),kt:=cG s h.kt,da:=h.da.same s,pl:=h.pl.same s,pe:=(let ⟨_,_,_,e⟩:=h.pe;⟨_,_,_,s _ _ e⟩),xl:=s _ _ h.xl,xo:=s _ _ h.xo }
def jU.take (h:jU C Cd G Hc d D kn kp p v aj ws L st cs pn la ns lo kd) (i j k:Int):jU C Cd G (upd Hc pn (.lst [.int i,.int j,.int k])) d D kn kp p v aj ws L st cs pn la ns lo kd:=by
 obtain ⟨_,_,_,a⟩:=h.pe;have ks:dI [pn] Hc (upd Hc pn (.lst [.int i,.int j,.int k])):=sS (by simp);obtain ⟨c,e,b⟩:=Fe h.da a;exact { h with
  sk:=ur h.sk (sS (by simp))
  kt:=lN a h.kt
  da:=h.da.kps ks (by simpa using c) (by simpa using e) (by simpa using b)
  pl:=h.pl.keep ks (lN a (bY _)) (Dc h.np)
  pe:=⟨_,_,_,aM⟩
  xl:=(aV h.nap).trans h.xl
  xo:=(aV h.nop).trans h.xo }
def jU.M5 {dG:cH} {cs':aF} (h:jU C Cd G Hc d D kn kp p v aj ws L st cs pn la ns lo kd) (k:dW L Hc H') (i_:cN C H' p v L dG) (go':Go true aj ws dG cs') (pm':ns.Perm (iW dG.aX)) (od':∀ i:Nat,i<dG.aX.length->((dh kd (.inl (i:Int))).isSome=true↔∃ pl,dG.aX[i]?=some pl/\cB pl=true)) (nd':∀ i:Int,(dG.aX.length:Int)<=i->dh kd (.inl i)=none):jU C Cd G H' d D kn kp p v aj ws L dG cs' pn la ns lo kd:=by
 obtain ⟨_,_,_,e⟩:=h.pe;have ks:dI (L.own p) Hc H':=k.own;obtain ⟨c,g,b⟩:=u9 h.da h.pl;exact { h with
  sk:=ur h.sk (ks.mono λa z=>by simp [z])
  kt:=pW h.kt (dW.kt h.pl k)
  da:=h.da.kps ks c g b
  pl:=i_
  go:=go'
  pe:=⟨_,_,_,ks _ _ e h.np⟩
  xl:=ks _ _ h.xl h.na
  xo:=ks _ _ h.xo h.no
  pm:=pm'
  od:=od'
  nd:=nd' }
def jU.enter {l:Int} (ok:bJ aj ws) (h:jU C Cd G Hc d D kn kp p v aj ws L st cs pn la ns lo kd) (l0:0<=l) (l1:l<aj) (ml:st.aX.length<400) (i_:cN C H' p v L (mO ws st l 1)) (k:dW L Hc H'):jU C Cd G H' d D kn kp p v aj ws L (mO ws st l 1) (cs.set l.toNat (cs.getD l.toNat 0+1)) pn la ns lo kd:=by
 have b:cB (gF ws l 0)=false:=by rcases wR ws l (fQ _) with ⟨a,_⟩|⟨k,a,_⟩<;>rw [a]<;>rfl
 refine h.M5 k i_ (h.go.enter ok l0 l1 (.inl rfl) (λ_=>rfl) ml) ?_ (λi hi=>?_) (λi hi=>?_)
 ·show ns.Perm (iW (st.aX++[gF ws l 0]));rw [Pz b];exact h.pm
 ·have g:i<st.aX.length+1:=by simpa [mO] using hi
  show _↔∃ pl,(st.aX++[gF ws l 0])[i]?=some pl/\cB pl=true;by_cases c:i<st.aX.length
  ·rw [qI c];exact h.od i c
  ·have e:i=st.aX.length:=by lk
   subst e;rw [h.nd _ (yX _),xV (bI _),Rv];constructor
   ·intro z;cases z
   ·rintro ⟨pl,z,o⟩;have:gF ws l 0=pl:=by simpa using z
    rw [<-this,b] at o;cases o
 ·refine h.nd i ?_;have:((st.aX++[gF ws l 0]).length:Int)<=i:=hi;rw [dJ,yO] at this;lk
def jU.step (ok:bJ aj ws) (h:jU C Cd G Hc d D kn kp p v aj ws L st cs pn la ns lo kd) (hi:st.aX[i]?=some pl) (no:cB pl=false) (no':cB (jA aj ws st i pl)=false) (i_:cN C H' p v L (kZ aj ws st i pl)) (k:dW L Hc H'):jU C Cd G H' d D kn kp p v aj ws L (kZ aj ws st i pl) cs pn la ns lo kd:=by
 have g:=(dY.mp hi).1;have b:(kZ aj ws st i pl).aX=st.aX.set i (jA aj ws st i pl):=by
  cases pl with
  |out l n=>simp [cB] at no
  |before k l=>rfl
  |exit l=>rfl
 refine h.M5 k i_ (h.go.step ok hi) ?_ (λj a=>?_) (λj a=>h.nd j (by rw [rE] at a;exact a))
 ·rw [b,Qy no' _ _ _ hi no];exact h.pm
 ·rw [rE] at a;rw [h.od j a,b];by_cases c:j=i
  ·subst c;rw [zJ g,hi];constructor
   ·rintro ⟨q,e,o⟩;cases e;rw [no] at o;cases o
   ·rintro ⟨q,e,o⟩;cases e;rw [no'] at o;cases o
  ·rw [zK (bF c)]
def jU.out {l n:Int} (ok:bJ aj ws) (h:jU C Cd G Hc d D kn kp p v aj ws L st cs pn la ns lo kd) (hi:st.aX[i]?=some pl) (no:cB pl=false) (eo:jA aj ws st i pl=.out l n) (i_:cN C H' p v L (kZ aj ws st i pl)) (k:dW L Hc H') (s2:aB H' H2) : jU C Cd G (upd (upd H2 lo (.dK (cD kd (.inl (i:Int)) (.bl true)))) la (.lst ((ns.map λn=>V.str (bL n))++[V.str (bL n)]))) d D kn kp p v aj ws L (kZ aj ws st i pl) cs pn la (ns++[n]) lo (cD kd (.inl (i:Int)) (.bl true)):=by
 obtain ⟨_,_,_,U⟩:=h.pe;have Y:=(dY.mp hi).1;have O:(kZ aj ws st i pl).aX=st.aX.set i (.out l n):=by
  rw [<-eo];cases pl with
  |out l n=>simp [cB] at no
  |before k l=>rfl
  |exit l=>rfl
 have ks:dI (L.own p) Hc H':=k.own;obtain ⟨I,S,W⟩:=u9 h.da h.pl;have kt:=dW.kt h.pl k;have m:=s2 _ _ (ks _ _ h.xo h.no);have g:=s2 _ _ (ks _ _ h.xl h.na);have r:dI [la,lo] H2 (upd (upd H2 lo (.dK (cD kd (.inl (i:Int)) (.bl true)))) la (.lst ((ns.map λn=>V.str (bL n))++[V.str (bL n)]))):=ur (sS (by simp)) (sS (by simp));have M:KT H2 (upd (upd H2 lo (.dK (cD kd (.inl (i:Int)) (.bl true)))) la (.lst ((ns.map λn=>V.str (bL n))++[V.str (bL n)]))):=λb xs e=>r b _ e (by simp;exact ⟨(λz=>by rw [z,g] at e;cases e),(λz=>by rw [z,m] at e;cases e)⟩);have u:=(h.da.kps ks I S W).same s2;have y:D.n≠la/\D.q≠la/\d≠la:=by obtain ⟨a,b,c⟩:=Fe u g;exact ⟨b,c,a⟩
 have x:d≠lo:=λz=>by have:=u.ob;rw [z,m] at this;cases this
 have hl:(cD kd (.inl (i:Int)) (.bl true)).length<=kd.length+1:=by unfold cD;split<;>simp
 refine { h with
  sk:=λb o e R=>?_
  kt:=pW h.kt (pW (cG s2 kt) M)
  da:=u.kps r (by simp;exact ⟨y.2.2,x⟩) (by simp;exact ⟨y.1,h.gdn⟩) (by simp;exact ⟨y.2.1,h.gdq⟩)
  pl:=(i_.same s2).keep r M (λa N J=>by
   simp at J;rcases J with rfl|rfl
   ·exact h.na N
   ·exact h.no N)
  go:=h.go.step ok hi
  pe:=⟨_,_,_,r _ _ (s2 _ _ (ks _ _ U h.np)) (by simp;exact ⟨bF h.nap,bF h.nop⟩)⟩
  xl:=by rw [aM,cX];rfl
  xo:=(aV (bF h.nao)).trans aM
  pm:=?_
  od:=λj t=>?_
  nd:=λj t=>?_
  ld:=by rw [dJ,yO];have:=h.ld;lk }
 ·have I:=h.sk b o e R;have B:b∉L.own p:=λz=>R (fH _ z);refine r b o (s2 _ _ (ks b o I B)) ?_;simp;exact ⟨(λz=>by rw [z,h.fa] at e;cases e),(λz=>by rw [z,h.fo] at e;cases e)⟩
 ·rw [O];exact ((List.perm_append_singleton n ns).trans (h.pm.cons n)).trans (Jh _ _ _ hi no).symm
 ·rw [rE] at t;rw [rJ,O];by_cases c:j=i
  ·subst c;rw [aQ rfl,zJ Y];exact ⟨λ_=>⟨_,rfl,rfl⟩,λ_=>rfl⟩
  ·rw [aK (λz=>c (by have:=T7 z;lk)),zK (bF c)];exact h.od j t
 ·rw [rE] at t;rw [rJ,aK (λz=>by have:=T7 z;lk)];exact h.nd j t
end
def ah1 (net:eG H v aj ws) (wf:Wf aj ws st) (few:fK st.bM<=63) (hj:st.aX[j]?=some pl) (o:cB pl=false):GQ (jA aj ws st j pl):=by
 obtain ⟨_,p,d,ok,len⟩:=net;have ps:=wf.ps pl (fj hj);have r:j<st.aX.length:=(dY.mp hj).1;have B:=wf.cl;cases pl with
 |out l n=>simp [cB] at o
 |before k l =>
  have g:=Qi (aj:=aj) (ws:=ws) (s:=k+1) (Sd (c:=st.chg.getD j 0) ok wf ps.1).1 (Sd (c:=st.chg.getD j 0) ok wf ps.1).2;show GQ (gF ws (jq ws st k (st.chg.getD j 0)) (k+1));cases e:gF ws (jq ws st k (st.chg.getD j 0)) (k+1) with
  |before x l' =>rw [e] at g;exact ⟨by have:=g.1;lk, by have:=g.2;lk⟩
  |exit l' =>rw [e] at g;show l'.natAbs<=10000;have:=g.1;have:=g.2;lk
  |out l' q=>exact absurd e aae
 |exit l =>
  show l.natAbs<=10000/\(jR aj st l (st.chg.getD j 0)).natAbs<=10000;have m:0<=l:=ps.1;have i:l<aj:=ps.2;refine ⟨by lk, ?_⟩;have b:=Cw (t:=st.bM) l.toNat;have c:=wf.cs j (by lk);unfold jR;generalize st.bM.getD l.toNat 0=z at b;have a:∀ y:Int,-70<=y->y<=70->(l+aj*y).natAbs<=10000:=λy h1 h2=>by
   have u:aj*y<=8*70:=by
    by_cases s:0<=y
    ·exact RQ d h2 s (by lk)
    ·have:=ab' (show 0<=aj by lk) (show y<=0 by lk);lk
   have C:-(8*70)<=aj*y:=by
    by_cases s:0<=y
    ·have:=Int.mul_nonneg (show 0<=aj by lk) s;lk
    ·have:=RQ d (show -y<=70 by lk) (show 0<=-y by lk) (show (0:Int)<=8 by lk);rw [BR] at this;lk
   lk
  split
  ·exact a z (by lk) (by lk)
  ·exact a _ (by lk) (by lk)
def KR:strOk x=true↔∀ c∈Ls x,c<0x110000:=by
 show Array.all _ _=true↔_;rw [Array.all_eq_true_iff_forall_mem];constructor
 ·intro h c a;exact jH (h c (K3.mp a))
 ·intro h c a;exact fO (h c (K3.mpr a))
def ac' (t:String):strOk (ofString t)=true:=by
 rw [KR];intro c b;rw [Str.ofString_eq_toList] at b;have a:c∈t.toList.map Char.toNat:=by simpa [Ls] using b
 obtain ⟨d,_,rfl⟩:=fW.mp a;have:=d.valid;show d.val.toNat<0x110000;rcases this with h|⟨_,h⟩
 ·have h':d.val.toNat<0xd800:=h;lk
 ·exact h
def aot (i:Int):strOk (bL i)=true:=ac' _
def abI:∀ ys:bK,(∀ y∈ys,strOk y=true)->strOk (Str.join ⟨#[32]⟩ ys)=true
 |[],_=>by k_go
 |[y],h=>h y iz
 |x::y::r,h=>by
  rw [KR,mJ];intro c b;rcases nM.mp b with z|z
  ·exact KR.mp (h x iz) c z
  ·rcases fX.mp z with z|z
   ·lk
   ·exact KR.mp (abI (y::r) λw a=>h w (fH _ a)) c z
def aj_ (ns:aF):strOk (iR ns)=true:=by
 unfold iR;split
 ·exact ac' _
 ·rw [wU];exact abI _ λy a=>by obtain ⟨n,_,rfl⟩:=fW.mp a;exact aot n
structure rB (Cd:Addr) (G H:Hp) (d:Addr) (D:jt) (k:Nat) (jV:aP) (j:Nat) (kn:dU):Prop where
 ks:dI [D.n] G H
 kt:KT G H
 da:fZ Cd H d D kn []
 ln:kn.length<=2
 kk:∀ kv∈kn,kv.1=.inr "v" \/ kv.1=.inr "w"
 nv:1<=j->∃ v,dh kn (.inr "v")=some v/\eG H v (pw k) jV
 nw:2<=j->∃ v us,dh kn (.inr "w")=some v/\eG H v (pw k) us/\us.length<=(if j=2 then 36 else 40)/\jh (pw k) us/\k<=dX (pw k) us/\(j<=3->k<=dX (pw k) (us.map (jJ (pw k))))
 l0:j=0->kn=[]
 l1:j=1->kn.length<=1
def aeG:iM (Ls (ofString "v")):=⟨by k_go,by k_go,by k_go⟩
def pD:iM (Ls (ofString "w")):=⟨by k_go,by k_go,by k_go⟩
def aqM:¬ (Sum.inr (ofString "v"):eF)=Sum.inr (ofString "w"):=by k_go
section
variable {d:Addr} {D:jt} {k:Nat} {jV:aP}
def rB.same (h:rB Cd G H d D k jV j kn) (s:aB H H2):rB Cd G H2 d D k jV j kn:=by
 have kt:KT H H2:=cG s (bY _);exact { h with
  ks:=ur h.ks (dI.same s)
  kt:=pW h.kt kt
  da:=h.da.same s
  nv:=λz=>let ⟨v,a,b⟩:=h.nv z;⟨v,a,b.kt kt⟩
  nw:=λz=>let ⟨v,us,a,b,c⟩:=h.nw z;⟨v,us,a,b.kt kt,c⟩ }
def rB.lst (h:rB Cd G H d D k jV j kn) {l:Addr} {ys zs:aA} (f:G l=none) (x:H l=some (.lst ys)):rB Cd G (upd H l (.lst zs)) d D k jV j kn:=by
 have kt:KT H (upd H l (.lst zs)):=lN x (bY _);have ks:dI [l] H (upd H l (.lst zs)):=sS (by simp);obtain ⟨i,m,g⟩:=Fe h.da x;exact { h with
  ks:=λb o e n=>(aV (λz=>by rw [z,f] at e;cases e)).trans (h.ks b o e n)
  kt:=pW h.kt kt
  da:=h.da.kps ks (by simpa using i) (by simpa using m) (by simpa using g)
  nv:=λz=>let ⟨v,a,b⟩:=h.nv z;⟨v,a,b.kt kt⟩
  nw:=λz=>let ⟨v,us,a,b,c⟩:=h.nw z;⟨v,us,a,b.kt kt,c⟩ }
def zH (aY:dU) (x:eF) (v:V):(cD aY x v).length<=aY.length+1:=by unfold cD;split<;>simp
def aj' {aY:dU} {x:eF} (v:V) (h:(dh aY x).isSome=true):(cD aY x v).length=aY.length:=by unfold cD;rw [E_,aQ h,bh]
def rB.put (h:rB Cd G H d D k jV j kn) (s:aB H H2) {us:aP} (net:eG H2 v (pw k) us) (hx:(j=0/\x="v"/\us=jV)\/(1<=j/\x="w"/\us.length<=(if j+1=2 then 36 else 40)/\jh (pw k) us/\k<=dX (pw k) us/\(j+1<=3->k<=dX (pw k) (us.map (jJ (pw k)))))) : rB Cd G (upd H2 D.n (.dK (cD kn (.inr x) v))) d D k jV (j+1) (cD kn (.inr x) v):=by
 have h2:=h.same s;have r:dI [D.n] H2 (upd H2 D.n (.dK (cD kn (.inr x) v))):=sS (by simp);have l:KT H2 (upd H2 D.n (.dK (cD kn (.inr x) v))):=λb xs e=>(aV (kY e h2.da.ne (by intro z;cases z))).trans e;have pl:=zH kn (.inr x) v;have t:(cD kn (.inr x) v).length<=2:=by
  rcases hx with ⟨a,_,_⟩|⟨a,b,_⟩
  ·rw [h.l0 a] at pl ⊢;simp at pl;lk
  ·by_cases c:j=1
   ·have:=h.l1 c;lk
   ·obtain ⟨p,q,e,_⟩:=h.nw (by lk);rw [b,aj' v (by rw [e];rfl)];exact h.ln
 refine ⟨ur h2.ks r,pW h2.kt l,⟨(aV (kY h2.da.ob h2.da.ne (by intro z;cases z))).trans h2.da.ob,aM,(aV (bF h2.da.nq)).trans h2.da.pl,h2.da.nq,by lk, h2.da.lp⟩,t,λo i=>?_,λ_=>?_,λz=>?_,λz=>absurd z (by lk),λz=>?_⟩
 ·have m:o.1=.inr x\/∃ g∈kn,g.1=o.1:=by
   unfold cD at i;split at i
   ·obtain ⟨g,h1,h2⟩:=fW.mp i;by_cases c:g.1=.inr x
    ·rw [aQ c] at h2;exact .inl (by rw [<-h2];exact c)
    ·rw [aK c] at h2;exact .inr ⟨g,h1,by rw [h2]⟩
   ·rcases nM.mp i with z|z
    ·exact .inr ⟨o,z,rfl⟩
    ·rw [yU.mp z];exact .inl rfl
  rcases m with e|⟨g,a,b⟩
  ·rcases hx with ⟨_,rfl,_⟩|⟨_,rfl,_⟩
   ·exact .inl e
   ·exact .inr e
  ·rw [<-b];exact h.kk g a
 ·rcases hx with ⟨_,rfl,rfl⟩|⟨a,rfl,_⟩
  ·exact ⟨v,by rw [rJ,aQ rfl],net.kt l⟩
  ·obtain ⟨p,e,n⟩:=h2.nv a;exact ⟨p,by rw [rJ,aK aqM];exact e,n.kt l⟩
 ·rcases hx with ⟨a,_,_⟩|⟨a,rfl,b,c⟩
  ·lk
  ·exact ⟨v,us,by rw [rJ,aQ rfl],net.kt l,b,c⟩
 ·have:j=0:=by lk
  rw [h.l0 this] at pl ⊢;exact pl
end
def agc {w:Str} (h:sV aj st w ns) (e:w="counts"):ns=st.bM:=by
 cases h with
 |counts=>rfl
 |told h =>rcases h with ⟨z,_⟩|⟨z,_⟩|⟨z,_⟩<;>rw [e] at z<;>exact absurd z (by k_go)
def qU (m:Int) (x:Str):Str:=if x="stands" then iR (iH m.toNat) else "none"
def PB {x ns} (ok:bJ aj ws) (w1:1<=aj) (lv:jh aj ws) (G:Go true aj ws st cs) (out:∀ pl∈st.aX,cB pl=true) (hx:x=(ofString "standing")\/x=(ofString "owed")\/x=(ofString "lacking")) (h:sV aj st x ns):iR ns=if x="standing" then iR (iH cs.sum.toNat) else "none":=by
 have b:=(ac_ ok w1 lv G out).2;have c:0<=cs.sum:=by rw [(G.fw rfl).sm];lk
 cases h with
 |counts=>rcases hx with z|z|z<;>exact absurd z (by k_go)
 |told h =>
  rw [b] at h;rcases h with ⟨rfl,p,w⟩|⟨rfl,p,w⟩|⟨rfl,g,a,rfl⟩
  ·rw [aQ rfl,ahY w1 p w]
  ·rw [aK (by k_go),ajZ w1 p w];unfold yq;rw [show (-cs.sum).toNat=0 by lk];rfl
  ·rw [aK (by k_go),aj0 w1 a];rfl
def agd {a b c:Str} (h:strOk a=true/\strOk b=true/\strOk c=true):shaped (.list [.str a,.str b,.str c])=true:=by show (canLay0 _ && decide (PyData.depth _<=64))=true;simp [canLay0,canLayAll0,PyData.depth,depthAll,h]
def akb {a b c a' b' c':Str}:noMix (.list [.str a,.str b,.str c]) (.list [.str a',.str b',.str c'])=true:=by simp [noMix,noMixAll]
def ah2 {a b c:Str}:PySem.Spec.same (.list [.str a,.str b,.str c]) (.list [.str a,.str b,.str c])=true:=by simp [PySem.Spec.same,PySem.Spec.sameAll]
def aqN {t:Int} (t0:0<=t) (t3:t<3):∃ ord:bK,ou [V.str "stands",V.str "owes",V.str "lacks"] (some t) none++ou [V.str "stands",V.str "owes",V.str "lacks"] none (some t)=ord.map V.str/\ord.length=3/\(∀ x∈ord,x="stands" \/ x="owes" \/ x="lacks")/\(∀ x:Str,(x="stands" \/ x="owes" \/ x="lacks")->x∈ord):=by
 have h:t=0\/t=1\/t=2:=by lk
 rcases h with h|h|h<;>subst h
 ·exact ⟨["stands","owes","lacks"],rfl,rfl,λx a=>by simpa using a,λx a=>by simpa using a⟩
 ·refine ⟨["owes","lacks","stands"],rfl,rfl,λx a=>?_,λx a=>?_⟩
  ·have:x="owes" \/ x="lacks" \/ x="stands":=by simpa using a
   rcases this with h|h|h
   ·exact .inr (.inl h)
   ·exact .inr (.inr h)
   ·exact .inl h
  ·rcases a with h|h|h<;>simp [h]
 ·refine ⟨["lacks","stands","owes"],rfl,rfl,λx a=>?_,λx a=>?_⟩
  ·have:x="lacks" \/ x="stands" \/ x="owes":=by simpa using a
   rcases this with h|h|h
   ·exact .inr (.inr h)
   ·exact .inl h
   ·exact .inr (.inl h)
  ·rcases a with h|h|h<;>simp [h]
end
section
open PySem.Spec PyProof.Rows
section
variable {I:Addr} {wr:jk} {G:Array GenState->Array GenState->Prop} {P:Nat->Value->Prop} {St:Nat->Shared->Prop}
abbrev wC (prog:Program) (w:World) (h:Heap) (a:Addr) (xs:bK):Prop:=h.SetOf (PySem.strKind prog w) a (λy=>decide (y∈xs)) xs.length
def akc (W:WalksS prog w A.in1 I fp wr G n P St) (S:Addr) (hSf:S∉fp) (xs:bK) (nd:xs.Nodup) (hn:xs.length=n) (hval:∀ i v,P i v->∃ y t,xs[i]?=some y/\v=.str y t) (hb:n+1<scanBound) : ∀ (k i:Nat) (s:Shared),n-i=k->i<=n->St i s->wC prog w s.heap S (xs.take i) ->(∀ s',Moved (S::wr) G s s'->wC prog w s'.heap S xs->R (.ok (.ret .none)) s') ->codeAny (model prog w) A (.builtin "set.update.loop" ⟨[.ref S,.ref I],[]⟩) R s:=by
 have C:S∉wr:=λh=>hSf (W.sub _ h);have a:∀ b∈wr,b∈S::wr:=λb hb=>fH _ hb;have keep:∀ {s s':Shared} {ys:bK},Moved wr G s s'->wC prog w s.heap S ys->wC prog w s'.heap S ys:=λd g=>by obtain ⟨o,es,ep,t,ho,r⟩:=g;exact ⟨o,es,ep,t,d.heap S _ C ho,r⟩
 intro k;induction k with
 |zero =>
  intro i s hk hi c g M;have N:i=n:=by lk
  subst N;refine w5 F.entry_set_update_loop ?_;rw [yQ R0 _];show wpAny _ A.in1 (pyNext (.ref I) >>= _) _ _ s;refine bf (W.done s _ _ c λs' d=>?_);rw [<-hn,gw] at g;exact cY (M s' (d.mono a) (keep d g))
 |succ k ih =>
  intro i s hk hi c g M;have l:i<n:=by lk
  refine w5 F.entry_set_update_loop ?_;rw [yQ R0 _];show wpAny _ A.in1 (pyNext (.ref I) >>= _) _ _ s;refine bf (W.item i s _ _ l c λv s' hP q d=>?_);obtain ⟨y,t,J,rfl⟩:=hval i v hP;show wpAny _ A.in1 (holding [Value.str y t] (setAdd S (.str y t)) >>= _) _ _ s';refine bf (zL ?_);unfold setAdd;refine zL (bf ((PySem.strKind prog w).pyHash (k:=y) (strKind_is ..) ?_));have ll:(xs.take i).length=i:=by rw [gW];lk
  have ny:y∉xs.take i:=λm=>by obtain ⟨j,hj⟩:=abS m;obtain ⟨jl,Y⟩:=dY.mp hj;obtain ⟨U,O⟩:=dY.mp J;rw [List.getElem_take] at Y;rw [gW] at jl;exact abV.mp nd j i (by lk) U (by lk) (by rw [Y,O])
  refine wpAny_setAddHashed_of (knd:=PySem.strKind prog w) (s:={ s' with toks:=s'.toks+1 }) (strKind_is ..) rfl (show wC prog w s'.heap S (xs.take i) from keep d g) (by rw [ll];lk) λh' p L=>?_;have B:wC prog w h' S (xs.take (i+1)):=by
   have V:xs.take (i+1)=xs.take i++[y]:=by obtain ⟨U,O⟩:=dY.mp J;rw [List.take_succ,J];rfl
   refine SetOf_congr L (λz=>?_) ?_
   ·rw [V,ug];simp
   ·rw [aK (by simpa using ny),V,dJ,yO]
  refine cY ⟨BL R0 _,ih (i+1) _ (by lk) l (W.frame _ s' _ _ q (vD _) λb hb o e=>?_) B λD x u=>?_⟩
  ·rw [p.2 b (λh:b=S=>hSf (by rw [<-h];exact hb))];exact e
  ·refine M D (Moved.trans W.gtrans ((d.mono a).then_heap (vD _) λb o hb e=>?_) x) u;rw [p.2 b (λh:b=S=>hb (by rw [h];exact iz))];exact e
def ada:∀ {vs:bV} {ys:bK} {i:Nat} {v:Value},StrsAre vs ys->vs[i]?=some v->∃ y t,ys[i]?=some y/\v=.str y t
 |_,_,_,_,.nil,h=>by simp at h
 |_,_,0,_,.cons y t _,h=>by simp at h;exact ⟨y,t,rfl,h.symm⟩
 |_,_,i+1,_,.cons _ _ r,h=>by obtain ⟨y,t,a,b⟩:=ada (i:=i) r (by simpa using h);exact ⟨y,t,by simpa using a,b⟩
def Q5:∀ {vs:bV} {ys:bK},StrsAre vs ys->vs.length=ys.length
 |_,_,.nil=>rfl
 |_,_,.cons _ _ r=>by simp [Q5 r]
def akd {xs:bK} (hh:A.handled=none) (hl:s.heap.IsList l eZ) (hi:StrsAre eZ.toList xs) (nd:xs.Nodup) (hb:eZ.size+1<scanBound) (h:∀ (h':Heap) (tk:Nat),wC prog w h' s.heap.objs.size xs->(∀ b o,s.heap.get? b=some o->h'.get? b=some o)->Q (.ref s.heap.objs.size) { s with heap:=h',toks:=tk }) : wpAny (model prog w) A (call (.type "set") [.ref l]) Q E s:=by
 obtain ⟨c,tl,hmro⟩:=xJ.mro;have I:=xJ.made;have S:=xJ.sub;refine K4 (codeAny_of_tree ?_);show wpAny _ _ (callAny (.type "set") _) _ _ _;refine cY ⟨Code.quiet_builtin _ (by k_go),w5 F.entry_type_call ?_⟩;rw [Around.under_plain (weight_type_call_type "set" [.ref l] []) rfl];have h1:=xJ.notType;have h2:=xJ.canCreate;have hct:=F.typeCall_set_1 (.ref l)
 repeat (any_goals (first|assumption|wp_step))
 refine su (code_set_new_1 (.ref l) (E:=E) (Q₁:=λobj W=>obj=.ref s.heap.objs.size/\∃ O:Obj,W={ s with heap:=s.heap.push O }/\O.cls=.type "set"/\O.isFreed=false/\∃ led:Bool,O={ cls:=.type "set",dict:=none,data:=.set #[] 0 (.fresh 0 0 led) }) λled=>⟨rfl,_,rfl,rfl,rfl,led,rfl⟩) λr W hr=>?_
 match r,hr with
 |.error e,hr=>exact hr
 |.ok (.ret obj),⟨e1,O,e2,hOc,hOf,led,hO⟩ =>
  subst e1 e2;have N:(s.heap.push O).get? s.heap.objs.size=some O:=fU _ hOf;have hT:Shared.TypeIs { s with heap:=s.heap.push O } (.ref s.heap.objs.size) "set":=⟨_,N,hOc⟩;have hli:=xJ.init.lookup;have hbi:=xJ.init.bind (.ref s.heap.objs.size);have L:∀ h:Heap,h.get? s.heap.objs.size=some O->wC prog w h s.heap.objs.size []:=λh e=>by subst hO;exact ⟨_,#[],0,_,e,⟨rfl,rfl,rfl⟩,rfl,(λ_ z=>(by simp at z)),(λ_=>by simp),by decide,rfl,rfl⟩
  repeat (any_goals (first|assumption|wp_step))
  refine su (codeAny_call_builtin (R:=wants (λr s₂=>r=.none/\∃ h' tk,s₂={ s with heap:=h',toks:=tk }/\wC prog w h' s.heap.objs.size xs/\(∀ b o,s.heap.get? b=some o->h'.get? b=some o)) E) xJ.init.plain F.entry_set_init (check_set_init_1 hT ?_)) λr₂ s₂ y=>?_
  ·obtain ⟨ol,j,t,V,m⟩:=hl;obtain ⟨ocls,g,M,d⟩:=ol;simp only at t m;subst t;subst m;have q:(s.heap.push O).get? l=some { cls:=.type "list",dict:=g,data:=.seq eZ V,slots:=d }:=dF _ j;have Y:=F.sub_list_set;have U:=F.sub_list_frozenset;have hne:(type "list" == type "dict")=false:=by decide
   have n:(s.heap.push O).IsList l eZ:=⟨_,q,rfl,V,rfl⟩;subst hO;unfold Builtin.«set.__init__» noKeywords Builtin.Frozenset.updateFrom;generalize J:pyIter=PI
   wp_walk
   subst J;refine FZ n (bf (wpAny_runValue ?_));have k:l<s.heap.objs.size:=cF j;generalize ({ cls:=.type "set",dict:=none,data:=.set #[] 0 (.fresh 0 0 led) }:Obj)=O at *;have p:l≠(s.heap.push O).objs.size:=by rw [pO];exact fP (Fi k)
   have C:s.heap.objs.size∉[(s.heap.push O).objs.size,l]:=by rw [pO];simp only [fX,tZ,JV,not_or];exact ⟨fP (CP _),vB k⟩
   have gD:xs.length=eZ.size:=by rw [<-Q5 hi];simp
   refine akc ((Walks.list (by simp [hh]) _ l p eZ).toS) s.heap.objs.size C xs nd gD (λi v hv=>?_) hb (eZ.size-0) 0 _ (by lk) (fQ _) ⟨⟨_,fU _ rfl,rfl,rfl⟩,n.push _⟩ (L _ (dF _ N)) λs' u x=>?_
   ·exact ada hi (by rw [Kd];exact hv)
   obtain ⟨h',g',d',B,D⟩:=s';have eg:g'=s.gens:=u.gens;have ed:d'=s.drawn:=u.drawn;have eo:D=s.os:=u.os;subst eg;subst ed;subst eo;show wpAny _ _ _ _ _ _;refine cY ?_;show wpAny _ _ (ret Value.none) _ _ _;refine cY ⟨rfl,h',B,rfl,x,λb o e=>u.heap b o ?_ (dF _ (dF _ e))⟩;have lb:=cF e;rw [pO];simp only [fX,tZ,JV,not_or];exact ⟨fP lb,fP (Fi lb)⟩
  ·match r₂,y with
   |.error e,hr=>exact hr
   |.ok (.ret r),⟨e1,h',tk,e2,a,b⟩ =>
    subst e1 e2
    repeat (any_goals (first|assumption|wp_step))
    exact h _ _ a b
end
def aap:∀ {ys:bK} {us:bV},bO (ys.map V.str) us->StrsAre us ys
 |[],_,.nil=>.nil
 |y::r,_,.cons ⟨t,e⟩ h=>by subst e;exact .cons y t (aap h)
inductive aou (K:bG) (vs:aA) (H:Hp) (Q:VK):Prop
 |mk (p:Addr) (ys:bK) (h1:vs=[.ref p]) (h2:dH K H p (ys.map V.str)) (h3:ys.Nodup) (h4:ys.length<=50) (h5:Q (.int ys.length) H)
def aov (K:bG) (te:TE):TE:=λσ H Q=>vU te wB σ H λvs H1=>aou K vs H1 Q
def ake {p1 p2 pos1 pos2:Pos} (hc:X.calm=true) (hg1:Gl X "len") (hm1:X.mg "len"=none) (hg2:Gl X "set") (hm2:X.mg "set"=none) (he:PE X e te) (s1:starEach [.Call (.Name "set" p2) [e] [] pos2] X.env=(false,eval (.Call (.Name "set" p2) [e] [] pos2) X.env)::starEach [] X.env:=by rfl) (s2:starEach [e] X.env=(false,eval e X.env)::starEach [] X.env:=by rfl) : PE X (.Call (.Name "len" p1) [.Call (.Name "set" p2) [e] [] pos2] [] pos1) (aov X.K te):=by intro ak s σ H Q I h;refine xU (qK I hg1 hm1 zu ?_ (by decide) (by decide));refine ado ?_ s1 rfl;rw [s1];show wpAny _ _ (spliced ((false,eval (.Call (.Name "set" p2) [e] [] pos2) X.env)::backTo pos1 (starEach [] X.env))) _ _ s;refine Tj ?_;refine xU (qK I hg2 hm2 ajw ?_ (by decide) (by decide));refine xR (bA (ao he aq s2 pos2 ak s σ H _ I h) λus n ⟨vs,H1,a,g,l⟩=>?_) s2 rfl;obtain ⟨p,ys,rfl,v,nd,d,q⟩:=l;obtain ⟨u,rfl,j⟩:=g.one;cases j;obtain ⟨aJ,z,pl,C⟩:=a.list v;have hi:StrsAre aJ ys:=aap z;have B:=Q5 hi;refine akd (a.ok.hd hc) pl.isList (eZ:=aJ.toArray) (xs:=ys) (by simpa using hi) nd (show aJ.toArray.size+1<scanBound from Ri (show aJ.toArray.size+1<=60 by rw [gV];lk) (by decide)) λh' r i m=>?_;have c:=a.kept (t':=r) m;refine Tg ?_;obtain ⟨o,es,D,t,x,b,y,_,_,_,k,en⟩:=i;refine call_len_set x b y k (by lk) ?_;rw [en];exact ⟨.int ys.length,H1,c.tok _,⟨_,rfl⟩,q⟩
end
section
open PySem.SeqAt PyProof.Rows
def ams {i j:Int} (i0:-1<=i) (i1:i<100) (j0:-1<=j) (j1:j<100) (e:bL i=bL j):i=j:=by have a:=(uc i0 i1).2;rw [e,(uc j0 j1).2] at a;exact (iB a).symm
def ah3 (nd:ns.Nodup) (h:∀ n∈ns,0<=n/\n<100):(ns.map bL).Nodup:=by
 induction ns with
 |nil=>exact J9
 |cons a r g =>have c:=sE.mp nd;refine sE.mpr ⟨λm=>?_,g c.2 λn j=>h n (fH _ j)⟩;obtain ⟨b,d,e⟩:=fW.mp m;have k:=h a iz;have i:=h b (fH _ d);have:=ams (by lk) (by lk) (by lk) (by lk) e;subst this;exact c.1 d
def abJ (x:Str):∀ ys:bK,x∈ys->lM (.str x) (ys.map V.str)=true
 |[],h=>by cases h
 |y::r,h=>by
  rcases fX.mp h with e|e
  ·subst e;show (lA (V.str x) (V.str x) || lM (.str x) (r.map V.str))=true;have:lA (V.str x) (V.str x)=true:=by simp [lA]
   rw [this];rfl
  ·show (lA (V.str y) (V.str x) || lM (.str x) (r.map V.str))=true;rw [abJ x r e,Bool.or_true]
def aa6:∀ ys:bK,(ys.map V.str).all uF=true
 |[]=>rfl
 |y::r=>by rw [gj,Rg,aa6 r];rfl
def Q6 (h:ns≠[]):iR ns=Txt.join ⟨#[32]⟩ (ns.map bL):=aK h
def amt (h:cs≠[]):ofString "exits w "++iR cs=Dk "w" cs:=by
 refine pR ?_;rw [Q6 h,gY];unfold Dk;obtain ⟨c,r,rfl⟩:∃ c r,cs=c::r:=by
  cases cs with
  |nil=>exact absurd rfl h
  |cons c r=>exact ⟨c,r,rfl⟩
 rw [wU,wU,gj,mJ,mJ];rfl
def adQ:iM (Ls (ofString "one")):=⟨by k_go,by k_go,by k_go⟩
def abK:iM (Ls (ofString "other")):=⟨by k_go,by k_go,by k_go⟩
def adb:iM (Ls (ofString "twin")):=⟨by k_go,by k_go,by k_go⟩
def amu (h:∀ l∈ls,0<=l/\l<aj):(eE aj ls).sum=(ls.length:Int):=by
 have a:∀ n,n<=ls.length->(eE aj (ls.take n)).sum=(n:Int):=λn=>by
  induction n with
  |zero =>
   intro _;show (eE aj []).sum=0;rw [abH];generalize aj.toNat=m;induction m with
   |zero=>rfl
   |succ m b=>rw [ju,qC,b];rfl
  |succ n b =>
   intro e;have d:ls[n]?=some ls[n]:=by simp [show n<ls.length by lk]
   have c:=h _ (fj d);rw [gb d,aa4 c.1 c.2,Sw _ _ _ (by rw [Bt];lk),b (by lk)];lk
 have:=a ls.length (bI _);rw [gw] at this;exact this
def Z0 {m:Int} (h:i<n):(dN n ((n:Int)*m)).getD i 0=m:=by
 rw [O9 h];have e:(0:Int)+(i:Int)-(n:Int)*m=(i:Int)+(n:Int)*(-m):=by rw [BR];lk
 rw [e,zj _ _ (by lk),Fq (by lk) (by lk)];lk
def ah4 {k:Nat} (ok:bJ (pw k) ws) (lv:jh (pw k) ws) (dp:k<=dX (pw k) ws):¬ LR (pK (pw k) ws) i j:=by
 rintro ⟨hi,_,b,c,_⟩;have g:=vL k;have a:i<(pw k).toNat:=by simpa [pK] using hi
 have d:qX (pK (pw k) ws) i=oX (pw k).toNat (dX (pw k) ws) ws i:=by unfold qX pK;simp [a]
 rw [d] at b c;have e:oX (pw k).toNat (dX (pw k) ws) ws i=dN (pw k).toNat (((pw k).toNat:Int)*((2 ^ (dX (pw k) ws-k):Nat):Int)):=by
  unfold oX;rw [lv.come ok g (I_ ..),aiU a]
  congr 1
  have l:((pw k).toNat:Int)=((2 ^ k:Nat):Int):=by unfold pw;rw [kO]
  rw [l,<-Int.natCast_mul,<-Nat.pow_add,show k+(dX (pw k) ws-k)=dX (pw k) ws by lk]
 rw [e] at b c;rw [Bg] at b;exact c (by rw [Z0 b,Z0 (by lk)])
def abL:∀ (us:aP) (s t:aF×aF),s.1.length=t.1.length->(∀ j,s.1.getD j 0<=t.1.getD j 0)->∃ A B,(us.foldl lq s).2=s.2++A/\(us.foldl lq t).2=t.2++B/\∀ a∈A,∃ b∈B,a<=b
 |[],s,t,_,_=>⟨[],[],by simp,by simp,λ_ h=>(nomatch h)⟩
 |w::r,s,t,hl,h=>by
  have m:1+gk (s.1.getD w.1.toNat 0) (s.1.getD w.2.toNat 0)<=1+gk (t.1.getD w.1.toNat 0) (t.1.getD w.2.toNat 0):=by have h1:=h w.1.toNat;have h2:=h w.2.toNat;unfold gk;split<;>split<;>lk
  have d:∀ {x y:aF} {i:Nat} {p q:Int},x.length=y.length->(∀ j,x.getD j 0<=y.getD j 0)->p<=q->∀ j,(x.set i p).getD j 0<=(y.set i q).getD j 0:=λ{x y i p q} hl h e j=>by
   by_cases c:i<x.length
   ·rw [jY c,jY (by lk)];split
    ·exact e
    ·exact h j
   ·rw [JT (by lk),JT (by lk)];exact h j
  obtain ⟨A,B,u,k,o⟩:=abL r (lq s w) (lq t w) (by simp [lq,hl]) (d (by simp [hl]) (d hl h m) m);refine ⟨(1+gk (s.1.getD w.1.toNat 0) (s.1.getD w.2.toNat 0))::A,(1+gk (t.1.getD w.1.toNat 0) (t.1.getD w.2.toNat 0))::B,?_,?_,λa g=>?_⟩
  ·show (r.foldl lq (lq s w)).2=_;rw [u];show s.2++[_]++A=_;simp
  ·show (r.foldl lq (lq t w)).2=_;rw [k];show t.2++[_]++B=_;simp
  ·rcases fX.mp g with rfl|g
   ·exact ⟨_,iz,m⟩
   ·obtain ⟨b,n,l⟩:=o a g;exact ⟨b,fH _ n,l⟩
def ah5 (aj:Int) (us:aP) (j:Nat):0<=(cj aj us).1.getD j 0:=by
 have a:∀ (us:aP) (s:aF×aF),(∀ j,0<=s.1.getD j 0)->∀ j,0<=(us.foldl lq s).1.getD j 0:=λus=>by
  induction us with
  |nil=>exact λs h=>h
  |cons w r b =>
   refine λs h=>b (lq s w) λj=>?_;have m:0<=1+gk (s.1.getD w.1.toNat 0) (s.1.getD w.2.toNat 0):=by have h1:=h w.1.toNat;have h2:=h w.2.toNat;unfold gk;split<;>lk
   have st:∀ {x:aF} {i:Nat} {p:Int},(∀ j,0<=x.getD j 0)->0<=p->∀ j,0<=(x.set i p).getD j 0:=λ{x i p} h d j=>by
    by_cases c:i<x.length
    ·rw [jY c];split
     ·exact d
     ·exact h j
    ·rw [JT (by lk)];exact h j
   exact st (st h m) m j
 exact a us _ (λj=>by show 0<=(replicate aj.toNat (0:Int)).getD j 0;simp [getD,uh];split<;>simp) j
def aa7 {us:aP} (ok:bJ aj us):dX aj ws<=dX aj (us++ws):=by
 have m:=(Jk aj us).1;obtain ⟨A,B,k,a,i⟩:=abL ws (replicate aj.toNat 0,[]) (cj aj us) (by rw [m];simp) (λj=>by
  have z:(replicate aj.toNat (0:Int)).getD j 0=0:=by simp [getD,uh];split<;>rfl
  show (replicate aj.toNat (0:Int)).getD j 0<=_;rw [z];exact ah5 aj us j)
 have ea:(cj aj ws).2=A:=by show (ws.foldl lq _).2=A;rw [k];rfl
 have g:(cj aj (us++ws)).2=(cj aj us).2++B:=by unfold cj at a ⊢;rw [yW,a]
 have o:=Ja aj ws;have p:=Ja aj (us++ws);have d:=Gf (cj aj ws).2;have c:=Gf (cj aj (us++ws)).2;rcases d.2.2 with e|e
 ·have:=c.1;lk
 ·rw [ea] at e;obtain ⟨b,n,l⟩:=i _ e;have:=c.2.1 b (by rw [g];exact pN _ n);rw [<-ea] at l;lk
def abM {k:Nat} (h:k<=3):k<=dX (pw k) (iK k)/\k<=dX (pw k) ((iK k).map (jJ (pw k))):=by
 have:k=0\/k=1\/k=2\/k=3:=by lk
 rcases this with rfl|rfl|rfl|rfl<;>k_go
def ade {k:Nat} (h:k<=3):k<=dX (pw k) (qb k)/\k<=dX (pw k) ((qb k).map (jJ (pw k))):=by
 have:k=0\/k=1\/k=2\/k=3:=by lk
 rcases this with rfl|rfl|rfl|rfl<;>k_go
inductive amv (am:Addr) (vs:aA) (H:Hp) (Q:VK) (E:XK):Prop
 |mk (v:V) (aj:Int) (ws:aP) (h1:vs=[v]) (net:eG H v aj ws) (lv:jh aj ws) (nu:∀ i j,¬ LR (pK aj ws) i j) (q:∀ (T:Addr) (H':Hp),H T=none->aB H H'->H' T=some (.tup [.str "levels"])->Q (.ref T) H') (e:∀ H',aB H H'->E (.ref am) none H')
def aow (am:Addr):Sp:=λvs H Q E=>amv am vs H Q E
inductive amw (am:Addr) (vs:aA) (H:Hp) (Q:VK) (E:XK):Prop
 |mk (v v':V) (aj:Int) (ws:aP) (h1:vs=[v,v']) (net:eG H v aj ws) (U3:eG H v' aj ws) (q:∀ H',aB H H'->Q .non H') (e:∀ H',aB H H'->E (.ref am) none H')
def aox (am:Addr):Sp:=λvs H Q E=>amw am vs H Q E
end
section
def Nh (f : H a = none) (o : HO) : ∃ H', H' = upd H a o /\ aB H H' /\ H' a = some o := ⟨_, rfl, cu f o, aM⟩
def bB (i:Nat):Stmt:=PySem.Challenge.pw_evenpass_k94_whole_from_text_to_numbers.main.body.getD i (.Pass ⟨0,0,0,0⟩)
abbrev afS:Stmt:=bB 2
abbrev aoy:Stmt:=bB 3
abbrev amx:Stmt:=bB 5
abbrev aoz:Stmt:=bB 6
abbrev afT:Stmt:=bB 7
abbrev agf:Stmt:=bB 18
abbrev amy:Stmt:=bB 19
abbrev asR:Stmt:=bB 20
abbrev asD:Stmt:=bB 21
abbrev amA:Stmt:=bB 22
abbrev afU:Stmt:=bB 25
abbrev akf:Stmt:=bB 26
abbrev Zg:Stmt:=bB 27
abbrev Y7:Stmt:=bB 28
abbrev amB:Stmt:=bB 29
abbrev afh:Stmt:=bB 31
abbrev ae8:Stmt:=bB 32
abbrev amC:Stmt:=bB 33
abbrev ah6:Stmt:=bB 37
abbrev akg:Stmt:=bB 38
abbrev agZ:Stmt:=bB 39
abbrev afV:Stmt:=bB 40
abbrev ag0:Stmt:=bB 41
abbrev amD:Stmt:=bB 42
abbrev ae5:Stmt:=bB 45
abbrev afa:Stmt:=bB 46
abbrev amE:Stmt:=bB 47
abbrev ae_:Stmt:=bB 48
abbrev Q7:Stmt:=bB 49
abbrev Sx:Stmt:=bB 50
abbrev amF:Stmt:=bB 51
abbrev asF:Stmt:=bB 52
abbrev ase:Stmt:=bB 54
abbrev asb:Stmt:=bB 55
abbrev asa:Stmt:=bB 56
abbrev asG:Stmt:=bB 57
abbrev asA:Stmt:=bB 58
abbrev asB:Stmt:=bB 59
abbrev amG:Stmt:=bB 61
abbrev asr:Stmt:=bB 62
abbrev amH:Stmt:=bB 63
abbrev asC:Stmt:=bB 64
abbrev ah7:Stmt:=bB 65
abbrev asu:Stmt:=bB 66
abbrev afy:Stmt:=bB 68
abbrev aoA:Stmt:=bB 69
abbrev amI:Stmt:=bB 70
abbrev ah8:Stmt:=bB 72
abbrev agg:Stmt:=bB 73
abbrev Z1:Stmt:=jX (bB 74) 0
abbrev agh:Stmt:=jX (bB 74) 1
abbrev ar':Stmt:=jX (bB 74) 2
abbrev afz:Stmt:=jX (bB 74) 3
abbrev agi:Stmt:=jX (bB 74) 4
abbrev ag1:Stmt:=jX (bB 74) 5
abbrev agj:Stmt:=jX (bB 74) 6
abbrev ae9:Stmt:=jX (bB 74) 7
abbrev ag2:Stmt:=jX (bB 74) 8
abbrev afW:Stmt:=jX (bB 74) 9
abbrev asj:Stmt:=jX (bB 74) 10
abbrev afX:Stmt:=jX (bB 74) 11
abbrev afi:Stmt:=jX (bB 74) 12
abbrev ag3:Stmt:=jX (bB 74) 13
abbrev afA:Stmt:=jX (bB 74) 14
abbrev ag4:Stmt:=jX (bB 74) 15
abbrev asl:Stmt:=jX (bB 74) 16
abbrev aaq:Stmt:=bB 78
abbrev ag5:Stmt:=bB 79
abbrev ag6:Stmt:=bB 80
abbrev ag7:Stmt:=bB 81
abbrev Zu:Stmt:=bB 82
abbrev ah9:Stmt:=bB 83
abbrev ah_:Stmt:=bB 85
abbrev amJ:Stmt:=bB 87
abbrev amK:Stmt:=bB 91
abbrev afb:Stmt:=bB 92
abbrev afj:Stmt:=bB 93
abbrev afY:Stmt:=bB 94
abbrev afk:Stmt:=bB 95
abbrev afl:Stmt:=bB 96
abbrev asf:Stmt:=bB 97
abbrev afm:Stmt:=bB 98
abbrev asd:Stmt:=bB 99
abbrev afn:Stmt:=bB 100
abbrev ash:Stmt:=bB 101
abbrev ah':Stmt:=bB 102
abbrev aia:Stmt:=bB 103
abbrev aib:Stmt:=bB 104
abbrev asn:Stmt:=bB 105
abbrev ag8:Stmt:=bB 106
abbrev agk:Stmt:=bB 107
abbrev agl:Stmt:=bB 108
abbrev ag9:Stmt:=bB 111
abbrev ag':Stmt:=bB 112
abbrev asq:Stmt:=bB 113
abbrev aic:Stmt:=bB 114
abbrev agm:Stmt:=bB 115
abbrev agn:Stmt:=bB 116
abbrev aie:Stmt:=bB 117
abbrev aha:Stmt:=bB 118
abbrev aif:Stmt:=bB 120
abbrev aii:Stmt:=bB 121
abbrev akh:Stmt:=bB 122
abbrev apS:Stmt:=bB 123
abbrev ae4:Stmt:=bB 124
abbrev ago:Stmt:=bB 125
abbrev Z2:Stmt:=jX (bB 126) 0
abbrev aij:Stmt:=jX (bB 126) 1
abbrev afo:Stmt:=jX (bB 126) 2
abbrev aqO:Stmt:=bB 128
abbrev apT:Stmt:=bB 129
abbrev aki:Stmt:=bB 130
abbrev adS:Stmt:=bB 131
abbrev aoB:Stmt:=bB 132
abbrev apU:Stmt:=bB 133
abbrev apV:Stmt:=bB 134
abbrev apW:Stmt:=bB 135
abbrev akj:Stmt:=bB 136
abbrev yg:Stmt:=bB 137
end
variable {sl:uy} {dc:Value} {ks:bK}
section
open PySem.SeqAt
section
section
variable {a b:Expr} {ta tb:TE} {r:R2}
def bW (i:Nat) (hN:X.N.Nodup) (he:PE X e te) (hi:X.N[i]?=some x:=by rfl) (hx:vP X.env.scope x:=by first|exact Or.inl rfl|exact Bv rfl) (hs:swapsWith e (some (.Name x pos')) pos.line X.env=pure false:=by rfl) (hf:X.fn x=true\/X.env.scope.names.lookup x=some .local:=by first|exact .inl rfl|exact .inr rfl|assumption) : PS X (.Assign [.Name x pos'] e pos) (qW te (lK i)):=ao0 hN hi hx he hs hf
def fL (i:Nat) (hN:X.N.Nodup) (hi:X.N[i]?=some x:=by rfl) (hx:vP X.env.scope x:=by first|exact Or.inl rfl|exact Bv rfl) (hf:X.fn x=true\/X.env.scope.names.lookup x=some .local:=by first|exact .inl rfl|exact .inr rfl|assumption):PG X (.Name x pos) (lK i):=amT hN hi hx hf
def b_ (ha:PE X a ta) (hb:PE X b tb) (hs:R6 b:=by exact λ_ _=>rfl):PE X (.Subscript a b pos) (lO (Dr X.K) ta tb):=uE adz ha hb hs
def cJ (ha:PE X a ta) (hb:PE X b tb) (hs:R6 b:=by exact λ_ _=>rfl):PE X (.Subscript a b pos) (lO (GF X.K) ta tb):=uE acw ha hb hs
def cQ (ho:dO X (compareOp op) r) (ha:PE X a ta) (hb:PE X b tb) (hm:behindInMarks op b=false:=by exact adw _):PT X (.Compare a [op] [b] pos) (Gq (lO r ta tb)):=zy ho ha hb hm
def vN (ho:dO X (compareOp op) r) (ha:PE X a ta) (hb:PE X b tb) (hm:behindInMarks op b=false:=by exact adw _):PE X (.Compare a [op] [b] pos) (lO r ta tb):=Kq ho ha hb hm
def j6 (T:Bn X.mg) (he:PE X e te) (hg:Gl X "len":=by rfl) (hs:starEach [e] X.env=(false,eval e X.env)::starEach [] X.env:=by rfl):PE X (.Call (.Name "len" pos') [e] [] pos) (Vd (Oq X.K) (vU te wB)):=jM Zh hg T.zV zu (ao he aq hs) (he:=hs)
end
def eN.m {k:Nat} (r:eN k A) (h:j<=k:=by first|decide|omega):eN j A:=r.mono h
def zup (f:H a=none) (o:HO):∃ H',upd H a o=H'/\aB H H'/\H' a=some o:=⟨_,rfl,cu f o,aM⟩
local macro_rules|`(tactic| k_mem)=>`(tactic| (intro _ _ _ _ _ _;exact am4))
local macro_rules|`(tactic| k_all)=>`(tactic| (intro _ _ _ _ _ _;refine fL 0 ?_;dsimp only [oV];decide +kernel))
local macro_rules|`(tactic| kl_no)=>`(tactic| first|(show 0<=100000;decide)|(show 1<=100000;decide)|(show 2<=100000;decide)|(show 3<=100000;decide)|(show 4<=100000;decide)|(show 5<=100000;decide)|(show 6<=100000;decide)|(show 7<=100000;decide)|(show 8<=100000;decide))
local macro_rules|`(tactic| o_head $t)=>`(tactic| (have $(Lean.mkIdent `T):ident:=$(Lean.mkIdent `Z.T);have $(Lean.mkIdent `nd):ident:=(by decide +kernel:List.Nodup (α:=Str) $t);refine $(Lean.mkIdent `F.fn.ok) (N:=$t) ⟨rfl,rfl,rfl,$(Lean.mkIdent `nd),rfl,by decide +kernel,by decide +kernel⟩ (λ_ _ _ _ h=>by first|(cases h<;>(subst_vars;rfl;done))|(obtain ⟨_,e,_⟩:=h;subst e;rfl;done)|(obtain ⟨_,_,e,_⟩:=h;subst e;rfl;done)|(obtain ⟨_,_,_,e,_⟩:=h;subst e;rfl;done)|(obtain ⟨_,_,_,_,e,_⟩:=h;subst e;rfl;done)|(obtain ⟨_,_,_,_,_,e,_⟩:=h;subst e;rfl;done)|(obtain ⟨_,_,_,_,_,_,e,_⟩:=h;subst e;rfl;done)|(obtain ⟨e,_⟩:=h;subst e;rfl;done)|(rcases h with h|h<;>(first|(cases h<;>(subst_vars;rfl;done))|(obtain ⟨_,e,_⟩:=h;subst e;rfl;done)|(obtain ⟨_,_,e,_⟩:=h;subst e;rfl;done)|(obtain ⟨_,_,_,e,_⟩:=h;subst e;rfl;done)|(obtain ⟨_,_,_,_,e,_⟩:=h;subst e;rfl;done)|(obtain ⟨_,_,_,_,_,e,_⟩:=h;subst e;rfl;done)|(obtain ⟨_,_,_,_,_,_,e,_⟩:=h;subst e;rfl;done)|(obtain ⟨e,_⟩:=h;subst e;rfl;done)))) (λ_ $(Lean.mkIdent `A) $(Lean.mkIdent `outer) $(Lean.mkIdent `s) $(Lean.mkIdent `H) $(Lean.mkIdent `vs) $(Lean.mkIdent `Q) $(Lean.mkIdent `E) $(Lean.mkIdent `hr) $(Lean.mkIdent `h)=>?_)))
local macro_rules|`(tactic| o_head ($h,$t))=>`(tactic| (refine $h fun $(Lean.mkIdent `f) $(Lean.mkIdent `fd) $(Lean.mkIdent `F)=>?_;o_head $t))
local macro_rules|`(tactic| o_head ($t,1,1))=>`(tactic| (have $(Lean.mkIdent `T):ident:=$(Lean.mkIdent `Z.T);have $(Lean.mkIdent `nd):ident:=(by decide +kernel:List.Nodup (α:=Str) $t);refine $(Lean.mkIdent `F.fn.Vt) (N:=$t) ⟨rfl,rfl,rfl,$(Lean.mkIdent `nd),rfl,by decide +kernel,by decide +kernel⟩ (λ_ _ _ _ h=>by first|(cases h<;>(subst_vars;rfl;done))|(obtain ⟨_,e,_⟩:=h;subst e;rfl;done)|(obtain ⟨_,_,e,_⟩:=h;subst e;rfl;done)|(obtain ⟨_,_,_,e,_⟩:=h;subst e;rfl;done)|(obtain ⟨_,_,_,_,e,_⟩:=h;subst e;rfl;done)|(obtain ⟨_,_,_,_,_,e,_⟩:=h;subst e;rfl;done)|(obtain ⟨_,_,_,_,_,_,e,_⟩:=h;subst e;rfl;done)|(obtain ⟨e,_⟩:=h;subst e;rfl;done)|(rcases h with h|h<;>(first|(cases h<;>(subst_vars;rfl;done))|(obtain ⟨_,e,_⟩:=h;subst e;rfl;done)|(obtain ⟨_,_,e,_⟩:=h;subst e;rfl;done)|(obtain ⟨_,_,_,e,_⟩:=h;subst e;rfl;done)|(obtain ⟨_,_,_,_,e,_⟩:=h;subst e;rfl;done)|(obtain ⟨_,_,_,_,_,e,_⟩:=h;subst e;rfl;done)|(obtain ⟨_,_,_,_,_,_,e,_⟩:=h;subst e;rfl;done)|(obtain ⟨e,_⟩:=h;subst e;rfl;done)))) (λ_ $(Lean.mkIdent `A) $(Lean.mkIdent `outer) $(Lean.mkIdent `s) $(Lean.mkIdent `H) $(Lean.mkIdent `vs) $(Lean.mkIdent `Q) $(Lean.mkIdent `E) $(Lean.mkIdent `hr) $(Lean.mkIdent `h)=>?_)))
local macro_rules|`(tactic| o_head ($h,$t,0))=>`(tactic| (refine $h fun $(Lean.mkIdent `f) $(Lean.mkIdent `fd) $(Lean.mkIdent `F)=>?_;o_head ($t,1,1)))
abbrev adr {H:Hp} {l:Addr} (_:H l=none):=l
def aqP {H H':Hp} {l:Addr} {o:HO} (f:H l=none) (e:upd H l o=H'):aB H H'/\H' l=some o:=by subst e;exact ⟨cu f _,aM⟩
def aqQ {G H H':Hp} {p:Addr} {o:HO} (k:Kp p G H) (e:upd H p o=H'):Kp p G H'/\H' p=some o:=by subst e;exact ⟨yd k Kp.upd,aM⟩
def nkr {H:Hp} {p:Addr}:Kp p H H:=λ_ _ e _=>e
def aqR {H H':Hp} {p l:Addr} {o:HO} {xs:aA} (hp:H p=some (.lst xs)) (f:H l=none) (e:upd H l o=H'):Kp p H H'/\H' p=some (.lst xs)/\H' l=some o/\l≠p:=by subst e;exact Z_ hp f _
local macro_rules|`(tactic| w_call $H $h $f $k $q $x $n)=>`(tactic| (generalize e:upd _ (adr $f) _=$H:ident;obtain ⟨$k:ident,$q:ident,$x:ident,$n:ident⟩:=aqR $h $f e;clear e))
local macro_rules|`(tactic| km_lay $_ $H $f $s $x)=>`(tactic| (generalize e:upd _ (adr $f) _=$H:ident;obtain ⟨$s:ident,$x:ident⟩:=aqP $f e;clear e))
local macro_rules|`(tactic| kn_lay $l $f $H $s $x)=>`(tactic| (refine ⟨aW (by kl_no),fun $l $f=>?_⟩;km_lay $l $H $f $s $x))
local macro_rules|`(tactic| wrow_args $p $H $j $k $q)=>`(tactic| (generalize e:upd _ $p _=$H:ident;obtain ⟨$k:ident,$q:ident⟩:=aqQ $j e;clear e))
local macro_rules|`(tactic| sr_in)=>`(tactic| refine ⟨_,rfl,rfl,_,rfl,?_⟩)
local macro_rules|`(tactic| walk2)=>`(tactic| refine ⟨_,rfl,bR (by decide) ?_⟩)
local macro_rules|`(tactic| w_fin)=>`(tactic| refine ⟨_,rfl,_,_,rfl,rfl,⟨by decide,by decide⟩,?_⟩)
local macro_rules|`(tactic| w_left)=>`(tactic| refine ⟨_,rfl,?_⟩)
local macro_rules|`(tactic| isplit)=>`(tactic| refine ⟨⟨.inl rfl,trivial⟩,sI ?_⟩)
local macro_rules|`(tactic| got_up)=>`(tactic| refine ⟨⟨.inl rfl,.inr rfl,trivial⟩,sI ?_⟩)
local macro_rules|`(tactic| is_list)=>`(tactic| refine ⟨⟨.inl rfl,.inr rfl,.inr rfl,trivial⟩,sI ?_⟩)
local macro_rules|`(tactic| row_wit1 $t)=>`(tactic| (intro _ _ _ _ _ _;exact $t))
local macro_rules|`(tactic| w_tab)=>`(tactic| (intro _ _ _ _ _ _;refine am5 $(Lean.mkIdent `K) rfl (n:=2) rfl (ji (fL 0 ?_) (ji (fL 1 ?_) qF))<;>(dsimp only [oV];decide +kernel)))
local macro_rules|`(tactic| walk_at "cm")=>`(tactic| first|exact .inr ⟨by decide,by decide⟩|exact .inl ⟨by decide,by decide⟩|exact .inl ⟨by omega,by omega⟩|exact .inr ⟨by omega,by omega⟩)
local macro_rules|`(tactic| walk_at "side")=>`(tactic| first
 |(show (0:Int)<_;first|decide|omega)
 |(show Dq _ _;walk_at "cm")
 |(show List.length _<=sizeLine;exact aW (by simp only [gA,List.length_nil]<;>omega))
 |(show Vg _ _ _ _;exact .inl ⟨rfl,_,aN (by walk_at "hh")⟩)
 |(show aen _ _;exact ⟨by decide,by decide,by decide⟩)
 |(show _/\_;exact ⟨by first|decide|omega,by first|decide|omega⟩)
 |omega)
local macro_rules|`(tactic| walk_at "rd1")=>`(tactic| first
 |refine ⟨_,rfl,?_⟩
 |refine ⟨_,_,rfl,rfl,?_⟩
 |refine ⟨_,_,_,_,rfl,rfl,aN (by assumption),by first|rfl|assumption,?_⟩
 |refine ⟨_,_,_,_,rfl,rfl,aZ (by assumption),by first|rfl|assumption,?_⟩
 |refine ⟨_,_,rfl,rfl,by walk_at "side",?_⟩
 |refine aep.mk rfl ?_
 |refine aer.mk rfl ?_
 |refine T8.mk (by walk_at "side") ?_
 |refine And.intro rfl ?_
 |refine And.intro (by walk_at "side") ?_
 |refine Bv ⟨_,rfl,?_⟩)
local macro_rules|`(tactic| walk_at "rd")=>`(tactic| repeat walk_at "rd1")
local macro_rules|`(tactic| walk_at "ne")=>`(tactic| first
 |assumption
 |exact bF (by assumption)
 |exact ne1 (by assumption) (by walk_at "hh")
 |exact ne2 (by assumption) (by walk_at "hh")
 |exact zW (by assumption) (by walk_at "hh")
 |exact ne4 (by assumption) (by walk_at "hh"))
local macro_rules|`(tactic| walk_at "hh")=>`(tactic| first
 |assumption
 |exact aM
 |exact (aV (by walk_at "ne")).trans (by walk_at "hh")
 |exact (by assumption:aB _ _) _ _ (by walk_at "hh")
 |exact (by assumption:Kp _ _ _) _ _ (by walk_at "hh") (by walk_at "ne"))
local macro_rules|`(tactic| walk_at "fr")=>`(tactic| first
 |assumption
 |exact aqo (by assumption) (by walk_at "sm"))
local macro_rules|`(tactic| walk_at "sm")=>`(tactic| first
 |assumption
 |exact cW _
 |exact bQ (by walk_at "fr") (by walk_at "sm")
 |exact asS (by assumption) (by walk_at "sm"))
local macro_rules|`(tactic| walk_at "kt")=>`(tactic| first
 |exact bY _
 |assumption
 |exact KT.new (by assumption) (by walk_at "kt")
 |exact lN (by walk_at "hh") (by walk_at "kt")
 |exact cG (by assumption) (by walk_at "kt")
 |exact KT.kp (by assumption) (by walk_at "hh") (by walk_at "kt"))
def afZ:rT ["text"] ["text"] (gJ Zu):=⟨rfl,rfl,rfl,by k_go,rfl,by k_go,by k_go⟩
def agp {w:Int×Int}:startswith (Mk (jB (w::ws))) ⟨#[32]⟩=true:=by unfold startswith;have:=(RN (Mk (jB (w::ws))) 32 0).mpr rfl;rw [this.2,Bool.and_true];exact fO this.1
def ahb:rT ["net"] ["net"] (gJ aaq):=⟨rfl,rfl,rfl,by k_go,rfl,by k_go,by k_go⟩
def yG (w:Int×Int):Str:=empty++(" ":Str)++bL w.1++("-":Str)++bL w.2
def adT {w:Int×Int} (h:0<=w.1/\w.1<=9/\0<=w.2/\w.2<=9):Ls (yG w)=32::Ls (m_ w):=by unfold yG;rw [zU h.1 h.2.1,zU h.2.2.1 h.2.2.2,gY,gY,gY,gY];rfl
def aoC {w:Int×Int} (h:0<=w.1/\w.1<=9/\0<=w.2/\w.2<=9):(yG w).length=4:=by rw [<-cO,adT h];rfl
def Er:rT ["wide","half","inner","wickets","paper"] ["wide"] (gJ Q7):=⟨rfl,rfl,rfl,by k_go,rfl,by k_go,by k_go⟩
def abN:rT ["wide","half"] ["wide"] (gJ Sx):=⟨rfl,rfl,rfl,by k_go,rfl,by k_go,by k_go⟩
def afB:rT ["net"] ["net"] (gJ Zg):=⟨rfl,rfl,rfl,by k_go,rfl,by k_go,by k_go⟩
def aik {w:Int×Int} {x:Int} (hw:ws[i]?=some w) (hx:d[i]?=some x):gK (ws.take (i+1)) (d.take (i+1))=gK (ws.take i) (d.take i)++(if x=1 then [w] else []):=by have e:i<ws.length:=(dY.mp hw).1;have b:i<d.length:=(dY.mp hx).1;have a:ws.take (i+1)=ws.take i++[w]:=gb hw;have ex:d.take (i+1)=d.take i++[x]:=gb hx;unfold gK;rw [a,ex,List.zip_append (by rw [gW,gW];lk),zq,cX];by_cases c:x=1<;>simp [c]
def Ig:rT ["one","other","deeper","seconds","numbers"] ["one","other"] (gJ Y7):=⟨rfl,rfl,rfl,by k_go,rfl,by k_go,by k_go⟩
def arM (d:Nat):mz 0 ((2 ^ d:Nat):Int)=(range (2 ^ d)).map λk:Nat=>(k:Int):=by unfold mz;rw [Fo,kO];exact xu λk _=>by lk
def aoD (x:Int) (ns:aF):lM (.int x) (ns.map V.int)=decide (x∈ns):=by
 unfold lM;induction ns with
 |nil=>rfl
 |cons a r b =>
  rw [gj,yN,b];by_cases c:x=a
  ·simp [c,lA]
  ·simp [c,lA,bF c]
def aar {G':Hp} (k:∀ t,G t=none->G' t=none):∀ {rs:aA} {M:List aF},fG G H l rs M->fG G' H l rs M
 |_,_,.nil=>.nil
 |_,_,.cons ⟨t,e,n,g,h⟩ r=>.cons ⟨t,e,n,k t g,h⟩ (aar k r)
def ail (ws:aP) (d:aF):(gK ws d).length<=ws.length:=by unfold gK;rw [bh];refine gU (ab7 _ _) ?_;rw [List.length_zip];exact R3 _ _
def aoE:rT ["_law_net"] ["_law_net"] (gJ adS):=⟨rfl,rfl,rfl,by k_go,rfl,by k_go,by k_go⟩
def D_ (w:Int×Int):Str:=bL w.1++("-":Str)++bL w.2
def adU {w:Int×Int} (h:0<=w.1/\w.1<=9/\0<=w.2/\w.2<=9):D_ w=m_ w:=by refine pR ?_;unfold D_;rw [zU h.1 h.2.1,zU h.2.2.1 h.2.2.2,gY,gY];rfl
def us1 (h:us.length=1):∃ a,us=[a]:=by
 cases us with
 |nil=>cases h
 |cons a r=>cases r with
  |nil=>exact ⟨a,rfl⟩
  |cons b r=>simp at h
def us2 (h:us.length=2):∃ a b,us=[a,b]:=by
 cases us with
 |nil=>cases h
 |cons x r =>obtain ⟨a,rfl⟩:=us1 (us:=r) (by simpa using h);exact ⟨x,a,rfl⟩
def us3 (h:us.length=3):∃ a b c,us=[a,b,c]:=by
 cases us with
 |nil=>cases h
 |cons x r =>obtain ⟨a,b,rfl⟩:=us2 (us:=r) (by simpa using h);exact ⟨x,a,b,rfl⟩
def us4 (h:us.length=4):∃ a b c d,us=[a,b,c,d]:=by
 cases us with
 |nil=>cases h
 |cons x r =>obtain ⟨a,b,c,rfl⟩:=us3 (us:=r) (by simpa using h);exact ⟨x,a,b,c,rfl⟩
def us5 (h:us.length=5):∃ a b c d e,us=[a,b,c,d,e]:=by
 cases us with
 |nil=>cases h
 |cons x r =>obtain ⟨a,b,c,d,rfl⟩:=us4 (us:=r) (by simpa using h);exact ⟨x,a,b,c,d,rfl⟩
def us6 (h:us.length=6):∃ a b c d e f,us=[a,b,c,d,e,f]:=by
 cases us with
 |nil=>cases h
 |cons x r =>obtain ⟨a,b,c,d,e,rfl⟩:=us5 (us:=r) (by simpa using h);exact ⟨x,a,b,c,d,e,rfl⟩
def us7 (h:us.length=7):∃ a b c d e f g,us=[a,b,c,d,e,f,g]:=by
 cases us with
 |nil=>cases h
 |cons x r =>obtain ⟨a,b,c,d,e,f,rfl⟩:=us6 (us:=r) (by simpa using h);exact ⟨x,a,b,c,d,e,f,rfl⟩
inductive yh:bV->bK->Prop
 |nil:yh [] []
 |cons {t:Tok} {x:Str} {vs:bV} {xs:bK}:yh vs xs->yh (.str x t::vs) (x::xs)
def yh.vals {xs:bK} (h:yh vs xs):bO (xs.map V.str) vs:=by
 induction h with
 |nil=>exact .nil
 |cons _ a=>exact .cons ⟨_,rfl⟩ a
def yh.len {xs:bK} (h:yh vs xs):vs.length=xs.length:=by
 induction h with
 |nil=>rfl
 |cons _ a=>exact je (·+1) a
local macro_rules|`(tactic| walk_at "b1")=>`(tactic| (intro _ _ _ _ _ _ u h;obtain ⟨_,e⟩:=us1 h;subst e;rfl))
local macro_rules|`(tactic| walk_at "b2")=>`(tactic| (intro _ _ _ _ _ _ u h;obtain ⟨_,_,e⟩:=us2 h;subst e;rfl))
local macro_rules|`(tactic| walk_at "b3")=>`(tactic| (intro _ _ _ _ _ _ u h;obtain ⟨_,_,_,e⟩:=us3 h;subst e;rfl))
local macro_rules|`(tactic| walk_at "b4")=>`(tactic| (intro _ _ _ _ _ _ u h;obtain ⟨_,_,_,_,e⟩:=us4 h;subst e;rfl))
local macro_rules|`(tactic| walk_at "bb")=>`(tactic| first|walk_at "b1" |walk_at "b2" |walk_at "b3" |walk_at "b4")
section
variable {q:Str} {st:Stmt} {k:Nat} {uP:Sp}
abbrev Ph (K:bG) (mg:dR) (x:Str) (st:Stmt):Prop:=∃ f fd,oW K mg x st f fd
def aqS {kV:Value} (X:K.In h) (G:h.Ns mainGlobals mg) (a:nsIn K mainGlobals x=some (some (.ref f))) (l:K.lookup f=some ⟨oc,od,.func (fnOf x x (kJ st) (jO st) (gJ st) .none kV dc pm an cd ct),sl⟩) (c:codeIn K cd x=true) (k:keepIn K (.ref f)=true):Ph K mg x st:=⟨_,_,K7 l c k,kj X G a⟩
def dz (p:Ph K mg x st) (F:∀ f fd,oW K mg x st f fd->dw P w K mg au jL k f fd ps sp) (hb:∀ (kV doc pm:Value) (an:jy) (cdv ct:Value) (us:bV),us.length=ps.length->bindArgs (fnOf x x (kJ st) (jO st) (gJ st) .none kV doc pm an cdv ct) ⟨us,[]⟩=pure (ps.zip us):=by walk_at "bb"):pJ P w K mg au x k ps sp:=let ⟨f,fd,h⟩:=p;h.callee (F f fd h) hb
def wD (p:Ph K mg x st) (F:∀ f fd,oW K mg x st f fd->dw P w K mg au (lU P w) k f fd ps sp) (hb:∀ (kV doc pm:Value) (an:jy) (cdv ct:Value) (us:bV),us.length=ps.length->bindArgs (fnOf x x (kJ st) (jO st) (gJ st) .none kV doc pm an cdv ct) ⟨us,[]⟩=pure (ps.zip us):=by walk_at "bb"):rW P w K mg au x k ps sp:=let ⟨f,fd,h⟩:=p;h.Ss (F f fd h) hb
def rW.imp (C:rW P w K mg au x k ps sp) (h:∀ vs H Q E,uP vs H Q E->sp vs H Q E):rW P w K mg au x k ps uP :=
 let ⟨f,fd,a,b,c,d⟩:=C.ex
 ⟨f,fd,a.imp h,b,c,d⟩
def rW.non (C:rW P w K mg au x k ps sp) (h:∀ vs H Q E,uP vs H Q E->sp vs H Q λ_ _ _=>False):pJ P w K mg au x k ps uP :=
 let ⟨f,fd,a,b,c,d⟩:=C.ex
 ⟨f,fd,a.none.imp h,b,c,d⟩
abbrev Pm (K:bG) (mg:dR) (C:Addr) (x q:Str) (st:Stmt):Prop:=∃ f fd,vY K mg C x q st f fd
def aqT {kV:Value} (mg:dR) (a:findIn K (.ref C) x=some (some (.ref f))) (i:isFn K (.ref f)=true) (l:K.lookup f=some ⟨oc,od,.func (fnOf x q (kJ st) (jO st) (gJ st) .none kV dc pm an cd ct),sl⟩) (c:codeIn K cd q=true) (k:keepIn K (.ref f)=true):Pm K mg C x q st:=⟨_,_,K7 l c k,a,i,k⟩
def pF (p:Pm K mg C x q st) (F:∀ f fd,vY K mg C x q st f fd->dw P w K mg au jL k f fd ps sp) (hb:∀ (kV doc pm:Value) (an:jy) (cdv ct:Value) (us:bV),us.length=ps.length->bindArgs (fnOf x q (kJ st) (jO st) (gJ st) .none kV doc pm an cdv ct) ⟨us,[]⟩=pure (ps.zip us):=by walk_at "bb"):j7 P w K mg au C x k ps sp:=let ⟨f,fd,h⟩:=p;h.arx (F f fd h) hb
def arN (p:Pm K mg C x q st) (F:∀ f fd,vY K mg C x q st f fd->dw P w K mg au (lU P w) k f fd ps sp) (hb:∀ (kV doc pm:Value) (an:jy) (cdv ct:Value) (us:bV),us.length=ps.length->bindArgs (fnOf x q (kJ st) (jO st) (gJ st) .none kV doc pm an cdv ct) ⟨us,[]⟩=pure (ps.zip us):=by walk_at "bb"):Dh P w K mg au C x k ps sp:=let ⟨f,fd,h⟩:=p;h.aqu (F f fd h) hb
def Dh.non (D:Dh P w K mg au C x k ps sp):j7 P w K mg au C x k ps (λvs H Q _=>sp vs H Q λ_ _ _=>False) :=
 let ⟨f,fd,a,b,c⟩:=D.ex
 ⟨f,fd,a.none,b,c⟩
abbrev vR (es:Array DictEntry):iT:=wz es.toList Fb
abbrev Pr (K:bG) (mg:dR) (vs:iT) (w0:Str) (ks:bK) (x:Str) (st:Stmt):Prop:=∃ f fd,oW K mg x st f fd/\U0 K vs w0 ks f
def aqU {es:Array DictEntry} {kV:Value} (X:K.In h) (G:h.Ns mainGlobals mg) (i:Nat) {r kt:Addr} {hh:Int} {ky:Value} {o1 o2:jy} {n1 n2:Nat} {s1 s2:uy} {ts:h_} (a:nsIn K mainGlobals x=some (some (.ref f))) (l:K.lookup f=some ⟨oc,od,.func (fnOf x x (kJ st) (jO st) (gJ st) .none kV dc pm an cd ct),sl⟩) (c:codeIn K cd x=true) (k:keepIn K (.ref f)=true) (hi:Fb[i]?=some w0) (lk9:ks.length<=9) (ex:es.toList[i]?=some ⟨hh,ky,.ref r⟩) (lr:K.lookup r=some ⟨.type "tuple",o1,.seq #[.ref kt,.ref f] n1,s1⟩) (mD:K.lookup kt=some ⟨.type "tuple",o2,.seq ts n2,s2⟩) (hs:yh ts.toList ks):Pr K mg (vR es) w0 ks x st:=⟨_,_,⟨K7 l c k,kj X G a⟩,r,kt,abC ZS ex hi,λH=>.inr ⟨_,_,_,lr,rfl,rfl,aW (by show 2<=100000;decide),.cons rfl (.cons rfl .nil)⟩,λH=>.inr ⟨_,_,_,mD,rfl,rfl,aW (show ts.size<=100000 by have:=hs.len;rw [xQ] at this;omega),hs.vals⟩⟩
def Dz {vs:iT} (k:Nat) (p:Pr K mg vs w0 ks x st) (F:∀ f fd,oW K mg x st f fd->dw P w K mg au (lU P w) k f fd ["things"] sp) (hk:k<=13:=by decide) (hb:∀ (kV doc pm:Value) (an:jy) (cdv ct:Value) (us:bV),us.length=(["things"]:bK).length->bindArgs (fnOf x x (kJ st) (jO st) (gJ st) .none kV doc pm an cdv ct) ⟨us,[]⟩=pure ((["things"]:bK).zip us):=by walk_at "bb"):pA P w K mg au vs 13 w0 ks sp:=let ⟨f,fd,h,r⟩:=p;⟨_,r,⟨_,(F f fd h).mono hk,h.fn.binds hb,h.fn.2⟩⟩
def qe {vs:iT} (k:Nat) (p:Pr K mg vs w0 ks x st) (F:∀ f fd,oW K mg x st f fd->dw P w K mg au jL k f fd ["things"] sp) (hk:k<=13:=by decide) (hb:∀ (kV doc pm:Value) (an:jy) (cdv ct:Value) (us:bV),us.length=(["things"]:bK).length->bindArgs (fnOf x x (kJ st) (jO st) (gJ st) .none kV doc pm an cdv ct) ⟨us,[]⟩=pure ((["things"]:bK).zip us):=by walk_at "bb"):pA P w K mg au vs 13 w0 ks sp:=Dz k p (λf fd h=>(F f fd h).up) hk hb
end
structure Ev0 (K:bG) (mg:dR) (C:Addr) (Cd:Addr) (fM:Array DictEntry):Prop where
 p1:Ph K mg "_law_take" apT
 p2:Ph K mg "_law_pen" aqO
 p3:Ph K mg "_law_wickets" aki
 p4:Ph K mg "is_whole" ah6
 p5:Ph K mg "is_lane" akg
 p6:Ph K mg "is_wicket" agZ
 p7:Ph K mg "are_wickets" afV
 p8:Ph K mg "makes_net" ag0
 p9:Ph K mg "net_of" amD
 Hr:Ph K mg "is_number" ag5
 VJ:Ph K mg "number_of" ag6
 VL:Ph K mg "wicket_of" ag7
 VN:Ph K mg "wickets_of" Zu
 VP:Ph K mg "read_net" ah9
 VR:Ph K mg "show_net" aaq
 V0:Ph K mg "refuse_unless_halved" ae5
 V1:Ph K mg "in_both_halves" afa
 V2:Ph K mg "across" amE
 V3:Ph K mg "by_falling_gaps" ae_
 V4:Ph K mg "folded" Q7
 V5:Ph K mg "block" Sx
 V6:Ph K mg "rounds" amF
 V7:Ph K mg "joined" amG
 V8:Ph K mg "behind" amH
 V9:Ph K mg "mirrored" ah7
 V_:Ph K mg "let_through" afS
 Wa:Ph K mg "exits" aoy
 Wb:Ph K mg "layers" amx
 Wc:Ph K mg "depth" aoz
 Wg:Ph K mg "depth_power" afT
 Wh:Ph K mg "all_on_one" agf
 Wi:Ph K mg "shares" amy
 Wj:Ph K mg "uneven" amA
 Wm:Ph K mg "longer_rows" afU
 Wn:Ph K mg "rows_of" akf
 Wo:Ph K mg "first_layer" Zg
 Wq:Ph K mg "common_trials" Y7
 Wr:Ph K mg "trials" amB
 Ws:Ph K mg "falls" aoA
 Wu:Ph K mg "is_level" ah_
 Wv:Ph K mg "levels" amJ
 Ww:Ph K mg "put_in_order" afy
 Wx:Ph K mg "orders" amI
 Wy:Ph K mg "one_lane_each" afh
 Wz:Ph K mg "first_that_parts" ae8
 WD:Ph K mg "parted" amC
 WK:Ph K mg "place_on" ah8
 WL:Ph K mg "numbers_of" agg
 WM:Pm K mg C "__init__" "Play.__init__" Z1
 WQ:Pm K mg C "come_in" "Play.come_in" afz
 WR:Pm K mg C "enter" "Play.enter" agh
 WT:Pm K mg C "where" "Play.where" agi
 WW:Pm K mg C "turn" "Play.turn" ag2
 WX:Pm K mg C "pass_wicket" "Play.pass_wicket" ae9
 WY:Pm K mg C "leave" "Play.leave" agj
 W0:Pm K mg C "step" "Play.step" ag1
 W2:Pm K mg C "inside" "Play.inside" afW
 W3:Pm K mg C "counts" "Play.counts" afX
 W4:Pm K mg C "standing" "Play.standing" afi
 W5:Pm K mg C "owed" "Play.owed" ag3
 W6:Pm K mg C "lacking" "Play.lacking" afA
 W7:Pm K mg C "rest" "Play.rest" ag4
 W8:Ph K mg "spaced" amK
 W9:Ph K mg "spaced_or_none" afb
 W_:Pr K mg (vR fM) "net" ["new net","text"] "net_by_text" afY
 Xa:Pr K mg (vR fM) "folded" ["new net","number"] "net_by_folded" afk
 Xb:Pr K mg (vR fM) "rounds" ["new net","number"] "net_by_rounds" afl
 Xc:Pr K mg (vR fM) "behind" ["new net","net","net"] "net_by_behind" afm
 Xd:Pr K mg (vR fM) "mirror" ["new net","net"] "net_by_mirror" afn
 Xe:Pr K mg (vR fM) "play" ["new play","net"] "new_play" ah'
 Xf:Pr K mg (vR fM) "rest" ["play"] "say_rest" aia
 Xg:Pr K mg (vR fM) "show" ["net"] "say_show" aib
 Xh:Pr K mg (vR fM) "exits" ["net","number"] "say_exits" ag8
 Xi:Ph K mg "verdict_words" afj
 Xj:Pr K mg (vR fM) "levels" ["net"] "say_levels" agk
 Xk:Pr K mg (vR fM) "orders" ["net"] "say_orders" agl
 Xl:Pr K mg (vR fM) "alike" ["net","net"] "say_alike" ag9
 Xm:Pr K mg (vR fM) "enter" ["play","number"] "say_enter" ag'
 Xn:Pr K mg (vR fM) "step" ["play","number"] "say_step" aic
 Xo:Pr K mg (vR fM) "counts" ["play"] "say_counts" agm
 Xp:Pr K mg (vR fM) "stands" ["play"] "say_stands" agn
 Xq:Pr K mg (vR fM) "owes" ["play"] "say_owes" aie
 Xr:Pr K mg (vR fM) "lacks" ["play"] "say_lacks" aha
 Xu:Ph K mg "words_of" aif
 Xv:Ph K mg "kinds_of" aii
 Xw:Ph K mg "is_name" akh
 Xx:Ph K mg "fits" apS
 Xy:Ph K mg "refuse_unless_fitting" ae4
 Xz:Ph K mg "taken_from" ago
 XD:Pm K mg Cd "__init__" "Desk.__init__" Z2
 XF:Pm K mg Cd "thing_of" "Desk.thing_of" afo
 XH:Pm K mg Cd "say" "Desk.say" aij
 XJ:Ph K mg "_law_text" adS
 XM:Ph K mg "_law_words" aoB
 XQ:Ph K mg "_law_said" apU
 XR:Ph K mg "_law_made" apV
 XS:Ph K mg "_law_gone" apW
 X3:Ph K mg "_law_at_rest" akj
structure Ev (P:Program) (w:World) (K:bG) (mg:dR) (au:Heap) (C:Addr) (Cd:Addr) (fM:Array DictEntry) (eA:Dy) (RW:Addr):Prop extends Ev0 K mg C Cd fM where
 TP:ad4 K C
 TD:aea K Cd
 Ea:ad7 K mg eA.many
 yH:adG K mg eA.d_
 Eb:aeD K mg ⟨eA.d_,eA.d_,eA.d_,eA.d_,eA.many,eA.d_,eA.d_,eA.d_⟩
 GH:ad8 K mg
 OD:∃ t,mg "LONGEST_NAME"=some (.int 8 t)
 Pk:∃ t,mg "MOST_LANES"=some (.int 8 t)
 Ii:∃ t,mg "MOST_WICKETS"=some (.int 40 t)
 Ol:∃ t,mg "MOST_DOUBLINGS"=some (.int 10 t)
 OJ:∃ t,mg "MOST_FIGURES"=some (.int 60 t)
 Ov:∃ t,mg "SMALL_LETTERS"=some (.str "abcdefghijklmnopqrstuvwxyz" t)
 Q8:∃ t,mg "FIGURES"=some (.str "0123456789" t)
 RT:aeb P w K mg RW (vR fM)
 T:Bn mg
 akk:makesIn K C=true
 akl:keepIn K (.ref C)=true
 akm:mg "Play"=some (.ref C)
 akn:makesIn K Cd=true
 ako:keepIn K (.ref Cd)=true
 akp:mg "Desk"=some (.ref Cd)
section
variable {fM:Array DictEntry} {eA:Dy} {RW:Addr} (Z:Ev P w K mg au C Cd fM eA RW)
abbrev Gc (_:Ev P w K mg au C Cd fM eA RW) (x:Str) (k:Nat) (ps:bK) (sp:Sp):Prop:=pJ P w K mg au x k ps sp
abbrev Ge (_:Ev P w K mg au C Cd fM eA RW) (x:Str) (k:Nat) (ps:bK) (sp:Sp):Prop:=rW P w K mg au x k ps sp
abbrev Gr (_:Ev P w K mg au C Cd fM eA RW) (x:Str) (ks:bK) (sp:Sp):Prop:=pA P w K mg au (vR fM) 13 x ks sp
def tU:Gc Z "_law_take" 1 ["_law_pen_here","_law_size"] apa:=by
 o_head (dz Z.p1,["_law_pen_here","_law_size","_law_found","_law_number"]);obtain ⟨p,a,b,c,n,rfl,e,d,h1,k⟩:=h;refine ⟨_,(aU (cP (cQ vQ (cJ (pv 0) aL) aL)
 (aU (bW 2 nd (bD nU (cJ (pv 0) aL) (pv 1)))
 (aU (qO (bD abk (cJ (pv 0) aL) (pv 1)) (qN (pv 0) aL pI))
 (aO (bw (pv 2)))))
 cT)
 (aU (qO (bD jQ (cJ (pv 0) aL) aL) (qN (pv 0) aL pI))
 (aU (bW 3 nd (bD nU (bD pP (bD jQ (cJ (pv 0) aL) (bD pP aL (cJ (pv 0) aL))) aL) aL))
 (aU (bW 3 nd (bD nU (bD jQ (bD pP (pv 3) (pv 3)) (bD pP aL (cJ (pv 0) aL))) aL))
 (aU (bW 3 nd (bD nU (bD pP (pv 3) (bD jQ (bD nU (pv 3) aL) (cJ (pv 0) aL))) aL))
 (aO (bw (bD nU (bD abk (pv 3) aL) (pv 1))))))))),?_⟩
 walk_at "rd";refine pB (λg=>?_) (λg=>?_)
 ·walk_at "rd";refine ⟨p,_,_,_,rfl,rfl,e,rfl,?_⟩;walk_at "rd";exact k _ _ _ _ (rP _ (by lk)) (rQ _ d)
 ·walk_at "rd";refine ⟨p,_,_,_,rfl,rfl,e,rfl,?_⟩;have i:(upd H p (HO.lst [V.int a,V.int (b+1),V.int c])) p=some (.lst [V.int a,V.int (b+1),V.int c]):=aM;walk_at "rd";exact k _ _ _ _ (rP _ (by lk)) (rQ _ d)
def Qz:Gc Z "_law_pen" 1 ["_law_script","_law_k"] (aqn K):=by
 o_head (dz Z.p2,["_law_script","_law_k","_law_cell"]);obtain ⟨a,ns,k,rfl,c,e,i,h1,q⟩:=h;refine ⟨_,(aU (bW 2 nd (bD jQ (bD pP aL (pv 1)) aL))
 (aU (cP (cQ vQ (j6 T (pv 0)) aL)
 (aU (bW 2 nd (cJ (pv 0) (bD nU (pv 1) (j6 T (pv 0)))))
 (aO (cP (cQ T9 (pv 1) (j6 T (pv 0)))
 (aO (bW 2 nd (bD jQ (bD nU (pv 2) aL) (bD pP aL (pv 1)))))
 cT)))
 cT)
 (aU (cP (cQ T9 (pv 2) (bD adq aL aL))
 (aO (bw (fB (ao (bD qP (pv 2) (bD adq aL aL)) (ao aL (ao (bD jQ (bD nU (pv 2) aL) (pv 1)) aq))))))
 cT)
 (aO (bw (fB (ao aL (ao aL (ao (bD jQ (bD nU (pv 2) aL) (bD pP aL (pv 1))) aq))))))))),?_⟩
 have d:(ns.map V.int).length=ns.length:=bh _;walk_at "rd";refine ⟨_,_,rfl,.inl c,?_⟩;walk_at "rd";refine pB (λg=>?_) (λg=>?_)
 ·have g':=jH g;rw [d] at g';walk_at "rd";refine ⟨_,_,rfl,.inl c,?_⟩;walk_at "rd";refine ⟨a,_,_,_,rfl,rfl,c,lY (rP _ (by lk)) (by rw [d];exact rQ _ (by lk)),?_⟩;walk_at "rd";refine ⟨_,_,rfl,.inl c,?_⟩;walk_at "rd";refine pB (λg=>?_) (λg=>?_)
  all_goals
   walk_at "rd";refine pB (λg=>?_) (λg=>?_)
   ·walk_at "rd";intro p b;exact q p _ _ _ b
   ·walk_at "rd";intro p b;exact q p _ _ _ b
 ·walk_at "rd";refine pB (λg=>?_) (λg=>?_)
  ·walk_at "rd";intro p b;exact q p _ _ _ b
  ·walk_at "rd";intro p b;exact q p _ _ _ b
def af0:Gc Z "_law_wickets" 2 ["_law_pen_here","_law_wide","_law_many"] aiN:=by
 o_head (dz Z.p3,["_law_pen_here","_law_wide","_law_many","_law_found","_law_k","_law_first"]);obtain ⟨p,aj,d,rfl,⟨a0,b0,c0,o⟩,w1,w8,m0,m41,q⟩:=h;refine ⟨_,(aU (bW 3 nd (fB aq))
 (aU (jx jj rfl  (qt rfl T.lD (ao (bD pP (pv 2) (iy aiD rfl T.Lf Qf (ao (vN vQ (pv 1) aL) aq))) aq)) (fL 4 nd)
 (aU (bW 5 nd (bH (tU Z) hr.m rfl (ao (pv 0) (ao (pv 1) aq))))
 (aO (kI (iV oN vo vp tV (pv 3) (ao (g_ (ao (pv 5) (ao (bD nU (bD jQ (bD jQ (pv 5) aL) (bH (tU Z) hr.m rfl (ao (pv 0) (ao (bD qP (pv 1) aL) aq)))) (pv 1)) aq))) aq))))))
 (aO (bw (pv 3))))),?_⟩
 walk_at "rd";intro l x;have k:p≠l:=cV o x;walk_at "rd";have hj:∃ j:Nat,d*(if decide (1<aj)=true then (1:Int) else 0)=(j:Int)/\(j:Int)<=d/\(0<j->1<aj):=by
  by_cases B:1<aj
  ·exact ⟨d.toNat,by rw [aQ (fO B)];lk, by lk, λ_=>B⟩
  ·exact ⟨0,by rw [aK (by simpa using B)];lk, by lk, λz=>absurd z (by lk)⟩
 obtain ⟨j,ej,jm,jw⟩:=hj;show -(2 ^ 62)<=d*(if decide (1<aj)=true then (1:Int) else 0)/\_;rw [ej];refine ⟨by lk, by lk, ?_⟩;refine IK (n:=(j:Int).toNat) (λi σ Hc=>∃ (M C:Option V) (ws:aP),σ=[some (.ref p),some (.int aj),some (.int d),some (.ref l),M,C]/\Kp p H Hc/\wG Hc p/\m5 Hc l ws/\bJ aj ws/\ws.length=i) ⟨none,none,[],rfl,Kp.put x (Kp.refl _ _),⟨a0,b0,c0,by rw [aV k];exact o⟩,⟨[],aM,.nil⟩,bJ.nil,rfl⟩ ?_ ?_
 ·rintro i σ Hc hlt ⟨M,C,ws,rfl,kp,⟨a,b,c,R⟩,⟨rs,g,U⟩,ok,len⟩;have B:1<aj:=jw (by lk);walk_at "rd";refine ⟨p,a,b,c,aj,rfl,R,by lk, by lk, λv I J L v0 vw=>?_⟩;have hl1:(upd Hc p (HO.lst [V.int I,V.int J,V.int L])) l=some (.lst rs):=by rw [aV (bF k)];exact g
  walk_at "rd";refine ⟨p,I,J,L,aj-1,rfl,aM,by lk, by lk, λu W S O u0 uw=>?_⟩;walk_at "rd";intro t r;have y:Kp p Hc (upd (upd (upd Hc p (HO.lst [V.int I,V.int J,V.int L])) p (HO.lst [V.int W,V.int S,V.int O])) t (HO.tup [V.int v,V.int ((v+1+u) % aj)])):=yd (yd Kp.upd Kp.upd) (Kp.same (cu r _));have X4:t≠l:=λz=>by rw [z,aV (bF k),aV (bF k),g] at r;cases r
  have Hs:t≠p:=λz=>by rw [z,aM] at r;cases r
  refine ⟨l,rs,_,rfl,rfl,y l _ g (bF k),nY (by have:=U.len;lk),?_⟩;have D:(v+1+u) % aj≠v/\0<=(v+1+u) % aj/\(v+1+u) % aj<aj:=by
   refine ⟨λz=>?_,rP _ (by lk),rQ _ (by lk)⟩;by_cases Y:v+1+u<aj
   ·rw [J7 (by lk) Y] at z;lk
   ·have e2:(v+1+u) % aj=v+1+u-aj:=by rw [Int.emod_eq_emod_iff_emod_sub_eq_zero.mpr (show (v+1+u-(v+1+u-aj)) % aj=0 by rw [show v+1+u-(v+1+u-aj)=aj by lk];exact Int.emod_self)];exact J7 (by lk) (by lk)
    rw [e2] at z;lk
  refine ⟨_,_,ws++[(v,(v+1+u) % aj)],rfl,Kp.put x (yd kp y),?_,?_,ok.app (bJ.one ⟨v0,vw,D.2.1,D.2.2,bF D.1⟩),by simp [len]⟩
  ·exact ⟨W,S,O,by rw [aV k,aV (bF Hs),aM]⟩
  ·refine ⟨_,aM,?_⟩;have N:=U.kp y R;refine (N.app (.cons ⟨t,rfl,aM⟩ .nil)).mono λb xs e=>?_;rw [aV (λz=>?_)]
   ·exact e
   ·subst z;rw [y _ _ g (bF k)] at e;cases e
 ·rintro σ Hc ⟨M,C,ws,rfl,kp,pn,wl,ok,len⟩;walk_at "rd";exact q l ws Hc x kp pn wl ok (by lk)
def aas:Gc Z "is_whole" 1 ["thing"] abr:=by
 o_head (dz Z.p4,["thing"]);obtain ⟨x,rfl,h⟩:=h;refine ⟨_,(aO (bw (vI (jM El rfl T.Bc boot_isinstance (ao (pv 0) (ao (zx (v:=V.ty "int") (u:=.type "int") rfl T.Lf (by k_go) rfl) aq))) (uo (aoY (jM El rfl T.Bc boot_isinstance (ao (pv 0) (ao (zx (v:=V.ty "bool") (u:=.type "bool") rfl T.ao_ (by k_go) rfl) aq)))))))),?_⟩;rcases h with ⟨i,rfl,q⟩|⟨o,q⟩
 ·exact ⟨_,rfl,_,_,_,true,rfl,jg.int i,rfl,_,rfl,cL rfl ⟨_,rfl,_,_,_,false,rfl,jg.int i,rfl,_,rfl,q⟩⟩
 ·cases o with
  |bl b =>refine ⟨_,rfl,_,_,_,true,rfl,jg.bl b,rfl,_,rfl,cL rfl ?_⟩;exact ⟨_,rfl,_,_,_,true,rfl,jg.bl b,rfl,_,rfl,q⟩
  |non=>exact ⟨_,rfl,_,_,_,false,rfl,jg.non,rfl,_,rfl,bR (by decide) q⟩
  |str z=>exact ⟨_,rfl,_,_,_,false,rfl,jg.str z,rfl,_,rfl,bR (by decide) q⟩
  |lst h=>exact ⟨_,rfl,_,_,_,false,rfl,jg.lst h,rfl,_,rfl,bR (by decide) q⟩
  |tup h=>exact ⟨_,rfl,_,_,_,false,rfl,jg.tup h,rfl,_,rfl,bR (by decide) q⟩
  |dct h=>exact ⟨_,rfl,_,_,_,false,rfl,jg.dK h,rfl,_,rfl,bR (by decide) q⟩
def Es:Gc Z "is_whole" 1 ["thing"] aaG:=(aas Z).imp alN
def Q9:Gc Z "is_lane" 2 ["wide","thing"] ak':=by
 o_head (dz Z.p5,["wide","thing"]);obtain ⟨aj,i,rfl,a,h1,q⟩:=h;refine ⟨_,(aO (bw (vI (bH (Es Z) hr.m rfl (ao (pv 1) aq)) (uo (abd uD ad0 aL (pv 1) (pv 0)))))),_,rfl,i,rfl,_,rfl,cL rfl ⟨_,rfl,_,_,rfl,rfl,_,rfl,cL (fO a) ⟨_,rfl,_,_,rfl,rfl,?_⟩⟩⟩;have z:Q (.bl (decide (i<aj))) H:=by rw [fO h1];exact q
 exact z
def ain:Gc Z "is_wicket" 3 ["wide","thing"] ahJ:=by
 o_head (dz Z.p6,["wide","thing"]);obtain ⟨aj,t,w0,rfl,a,⟨b,i,g,c,d⟩,q⟩:=h;refine ⟨_,(aU (cP (PW.pt (uz (j4 (lG (jM El rfl T.Bc boot_isinstance (ao (pv 1) (ao (zx (v:=V.ty "tuple") (u:=.type "tuple") rfl T.Cm (by k_go) rfl) aq))))) (vH (cQ mj (j6 T (pv 1)) aL))))
 (aO (bw pU))
 cT)
 (aO (bw (vI (bH (Q9 Z) hr.m rfl (ao (pv 0) (ao (b_ (pv 1) aL) aq))) (vI (bH (Q9 Z) hr.m rfl (ao (pv 0) (ao (b_ (pv 1) aL) aq))) (uo (vN mj (b_ (pv 1) aL) (b_ (pv 1) aL)))))))),?_⟩
 refine ⟨_,rfl,_,_,_,true,rfl,jg.tup a,rfl,_,rfl,bR (by decide) ⟨_,rfl,t,_,rfl,.inr (aZ a),rfl,_,rfl,bR (by simp) ⟨_,rfl,_,rfl,t,_,_,_,rfl,rfl,aZ a,rfl,aj,w0.1,rfl,b,i,_,rfl,cL rfl ⟨_,rfl,_,rfl,t,_,_,_,rfl,rfl,aZ a,rfl,aj,w0.2,rfl,g,c,_,rfl,cL rfl ⟨_,rfl,t,_,_,_,rfl,rfl,aZ a,rfl,_,rfl,t,_,_,_,rfl,rfl,aZ a,rfl,rfl,?_⟩⟩⟩⟩⟩;have z:Q (.bl (!decide (V.int w0.1=V.int w0.2))) H:=by rw [lJ (λe=>d (by injection e))];exact q
 exact z
def agq:Gc Z "are_wickets" 4 ["wide","things"] anH:=by
 o_head (dz Z.p7,["wide","things"]);obtain ⟨aj,l,ws,rfl,⟨rs,c,o⟩,ok,len,q⟩:=h;have r:=o.len;refine ⟨_,(aO (bw (vI (vN uD (j6 T (pv 1)) (Cq rfl Z.Ii)) (uo (jM (Qe rfl) rfl T.Uc boot_all (ao (iD ["thing"] [("wide",0)] rfl (Lj (jZ (pv 1)) (vJ (pv 1))) (by k_all) (by k_mem) (by row_wit1 (bH (ain Z) hr.m rfl (ao (pv 1) (ao (pv 0) aq))))) aq)))))),_,rfl,l,_,rfl,(c.elim (λh=>.inl (aN h)) λh=>.inr (aZ h)),_,_,rfl,rfl,_,rfl,cL (fO (by lk)) ?_⟩;rcases c with c|c
 ·refine .inl ⟨_,rfl,l,rfl,⟨_,aN c⟩,λj k=>?_⟩;refine rD (xs:=rs) (λi ys Hc=>aB H Hc/\Hc j=some (.lst ys)/\ys=(replicate i true).map V.bl) ⟨bQ k (cW H),aM,rfl⟩ (aW (by lk)) (λi ys Hc hi ⟨a,b,d⟩=>⟨aN (a _ _ c),b,by rw [d];simp⟩) ?_ ?_
  ·rintro i x ys Hc p ⟨a,b,d⟩;obtain ⟨w0,n,g,rfl,e⟩:=o.get p;got_up;refine ⟨_,rfl,_,rfl,aj,n,w0,rfl,a _ _ e,ok w0 (fj g),b,bQ k a,aM,?_⟩;rw [d,Ft,cX];rfl
  ·rintro ys Hc ⟨a,b,rfl⟩;refine ⟨j,_,rfl,aN b,?_⟩;rw [all_true];exact q Hc a
 ·refine .inr ⟨_,rfl,l,rfl,⟨_,aZ c⟩,λj k=>?_⟩;refine yM (xs:=rs) (λi ys Hc=>aB H Hc/\Hc j=some (.lst ys)/\ys=(replicate i true).map V.bl) ⟨bQ k (cW H),aM,rfl⟩ (aW (by lk)) (λi ys Hc hi ⟨a,b,d⟩=>⟨aZ (a _ _ c),b,by rw [d];simp⟩) ?_ ?_
  ·rintro i x ys Hc p ⟨a,b,d⟩;obtain ⟨w0,n,g,rfl,e⟩:=o.get p;got_up;refine ⟨_,rfl,_,rfl,aj,n,w0,rfl,a _ _ e,ok w0 (fj g),b,bQ k a,aM,?_⟩;rw [d,Ft,cX];rfl
  ·rintro ys Hc ⟨a,b,rfl⟩;refine ⟨j,_,rfl,aN b,?_⟩;rw [all_true];exact q Hc a
def Z4:Gc Z "makes_net" 5 ["wide","wickets"] abt:=by
 o_head (dz Z.p8,["wide","wickets"]);obtain ⟨aj,l,ws,rfl,⟨rs,c,j⟩,d,k,ok,len,q⟩:=h;refine ⟨_,(aU (cP (PW.pt (uz (j4 (lG (bH (Es Z) hr.m rfl (ao (pv 0) aq)))) (vH (j4 (QD uD uD aL (pv 0) (Cq rfl Z.Pk))))))
 (aO (bw pU))
 cT)
 (aO (bw (vI (jM ajm rfl T.Bc boot_isinstance (ao (pv 1) (ao (g_ (ao (zx (v:=V.ty "list") (u:=.type "list") rfl T.zR (by k_go) rfl) (ao (zx (v:=V.ty "tuple") (u:=.type "tuple") rfl T.Cm (by k_go) rfl) aq))) aq))) (uo (bH (agq Z) hr.m rfl (ao (pv 0) (ao (pv 1) aq)))))))),?_⟩
 refine ⟨_,rfl,aj,rfl,_,rfl,bR (by decide) ⟨_,rfl,_,_,rfl,rfl,_,rfl,cL (fO d) ⟨_,_,rfl,rfl,_,rfl,bR (by simp;lk) ⟨_,rfl,aW (by kl_no),λi b=>?_⟩⟩⟩⟩;km_lay b H1 b a g;exact ⟨l,i,rs,_,_,true,rfl,c.elim (λh=>.inl ⟨a _ _ h,rfl⟩) (λh=>.inr ⟨a _ _ h,rfl⟩),g,rfl,_,rfl,cL rfl ⟨_,rfl,_,rfl,aj,l,ws,rfl,⟨rs,c.imp (a _ _) (a _ _),j.same a⟩,ok,len,λH2 e=>q H2 (aG a e)⟩⟩
def PK:Gc Z "makes_net" 5 ["wide","wickets"] acM:=(Z4 Z).imp makes_of
def Q_:Ge Z "net_of" 6 ["wide","wickets"] TJ:=by
 refine wD Z.p9 λf fd F=>?_;have T:=Z.T;have PK:=(Z4 Z);o_head (["wide","wickets"],1,1);obtain ⟨aj,l,ws,rfl,⟨rs,o,U⟩,w1,w8,ok,len,q⟩:=h;have O:=U.len;refine ⟨_,(aU (cP (j4 (lG (bH PK hr.m rfl (ao (pv 0) (ao (pv 1) aq)))))
 (aO (Bp Z.yH.FP rfl Z.yH.EY (ao bN aq)))
 cT)
 (aO (bw (g_ (ao (pv 0) (ao (iy Zc rfl T.Cm Im (ao (iD ["wicket"] [] rfl (Lj (jZ (pv 1)) (vJ (pv 1))) (by k_all) (by k_mem) (by row_wit1 (g_ (ao (uE (Ck K rfl) (pv 0) aL (λ_ _=>rfl)) (ao (uE (Ck K rfl) (pv 0) aL (λ_ _=>rfl)) aq))))) aq)) aq)))))),?_⟩
 refine ⟨_,rfl,_,rfl,aj,l,ws,rfl,⟨rs,o,U⟩,w1,w8,ok,len,λH1 v=>?_⟩;w_left;refine bR (by decide) ?_;have step:∀ (c:Addr) (i:Nat) (x:V) (ys:aA) (Hc:Hp),H1 c=none->rs[i]?=some x->aB H1 Hc->Hc c=some (.lst ys)->ys.length<=i->dM Hc ys (ws.take i)->∃ n a0 p,x=.ref n/\Hc n=some (.tup [.int a0,.int p])/\∀ u,Hc u=none->aB Hc (upd Hc u (.tup [.int a0,.int p]))/\(upd Hc u (.tup [.int a0,.int p])) c=some (.lst ys)/\aB H1 (upd (upd Hc u (.tup [.int a0,.int p])) c (.lst (ys++[.ref u])))/\dM (upd (upd Hc u (.tup [.int a0,.int p])) c (.lst (ys++[.ref u]))) (ys++[.ref u]) (ws.take (i+1)):=λc i x ys Hc r B a e k d=>by obtain ⟨w0,n,R,rfl,J⟩:=U.get B;refine ⟨n,w0.1,w0.2,rfl,a _ _ (v _ _ J),λu y=>?_⟩;obtain ⟨Y,e_,C,x3⟩:=Nh y (HO.tup [V.int w0.1,V.int w0.2]);rw [<-e_];clear e_;have e3:=C _ _ e;refine ⟨C,e3,bQ r (aG a C),?_⟩;rw [gb R];have W:KT Y (upd Y c (HO.lst (ys++[V.ref u]))):=lN e3 (bY _);exact ((d.same C).kt W).app (.cons ⟨u,rfl,W _ _ x3⟩ .nil)
 have Gm:∀ (ys:aA) (Hc:Hp),aB H1 Hc->dM Hc ys (ws.take rs.length)->∀ b,Hc b=none->∀ j,(upd Hc b (.tup ys)) j=none->Q (.ref j) (upd (upd Hc b (.tup ys)) j (.tup [.int aj,.ref b])):=λys Hc a d b z j t=>by rw [O,gw] at d;have L:aB Hc (upd Hc b (HO.tup ys)):=cu z _;have x5:(upd Hc b (HO.tup ys)) b=some (.tup ys):=aM;generalize upd Hc b (HO.tup ys)=H5 at L x5 t;have M:aB H5 (upd H5 j (HO.tup [V.int aj,V.ref b])):=cu t _;exact q _ _ (aG v (aG a (aG L M))) ⟨j,b,ys,rfl,aM,M _ _ x5,d.same (aG L M)⟩
 rcases o with o|o
 ·refine ⟨_,rfl,.inl ⟨_,rfl,l,rfl,⟨_,aN (v _ _ o)⟩,λc r=>?_⟩⟩;refine rD (xs:=rs) (λi ys Hc=>aB H1 Hc/\Hc c=some (.lst ys)/\ys.length<=i/\dM Hc ys (ws.take i)) ⟨bQ r (cW H1),aM,fQ _,.nil⟩ (aW (by lk)) (λi ys Hc hi ⟨a,e,k,d⟩=>⟨aN (a _ _ (v _ _ o)),e,k⟩) ?_ ?_
  ·rintro i x ys Hc B ⟨a,e,k,d⟩;obtain ⟨n,a0,p,rfl,g,N⟩:=step c i x ys Hc r B a e k d;isplit;refine ⟨_,rfl,n,_,_,_,rfl,rfl,aZ g,rfl,_,rfl,n,_,_,_,rfl,rfl,aZ g,rfl,aW (by kl_no),λu y=>?_⟩;obtain ⟨_,I,D,S⟩:=N u y;exact ⟨I,D,aM,by rw [dJ];simp;lk, S⟩
  ·rintro ys Hc ⟨a,e,k,d⟩;exact ⟨c,_,rfl,.inl ⟨aN e,λb z=>⟨aW (by kl_no),λj t=>Gm ys Hc a d b z j t⟩⟩⟩
 ·refine ⟨_,rfl,.inr ⟨_,rfl,l,rfl,⟨_,aZ (v _ _ o)⟩,λc r=>?_⟩⟩;refine yM (xs:=rs) (λi ys Hc=>aB H1 Hc/\Hc c=some (.lst ys)/\ys.length<=i/\dM Hc ys (ws.take i)) ⟨bQ r (cW H1),aM,fQ _,.nil⟩ (aW (by lk)) (λi ys Hc hi ⟨a,e,k,d⟩=>⟨aZ (a _ _ (v _ _ o)),e,k⟩) ?_ ?_
  ·rintro i x ys Hc B ⟨a,e,k,d⟩;obtain ⟨n,a0,p,rfl,g,N⟩:=step c i x ys Hc r B a e k d;isplit;refine ⟨_,rfl,n,_,_,_,rfl,rfl,aZ g,rfl,_,rfl,n,_,_,_,rfl,rfl,aZ g,rfl,aW (by kl_no),λu y=>?_⟩;obtain ⟨_,I,D,S⟩:=N u y;exact ⟨I,D,aM,by rw [dJ];simp;lk, S⟩
  ·rintro ys Hc ⟨a,e,k,d⟩;exact ⟨c,_,rfl,.inl ⟨aN e,λb z=>⟨aW (by kl_no),λj t=>Gm ys Hc a d b z j t⟩⟩⟩
def Cz:Ge Z "net_of" 6 ["wide","wickets"] acN:=(Q_ Z).imp acU
def amL:Gc Z "net_of" 6 ["wide","wickets"] TJ:=(Q_ Z).non λ_ _ _ _ h=>h
def Z5:Gc Z "is_number" 1 ["word"] abz:=by
 o_head (dz Z.Hr,["word","figures"]);obtain ⟨x,rfl,len,q⟩:=h;have ed:(ofString "-")=⟨#[45]⟩:=by k_go
 refine ⟨_,(aU (bW 1 nd (qx (lG (iV qD ace acf Zf (pv 0) (ao bN aq))) (wV adL (pv 0) (xO aL) xM) (pv 0)))
 (aU (cP (PW.pt (uz (j4 (QD uD uD aL (jM Ij rfl T.zV zu (ao (pv 1) aq)) (Cq rfl Z.OJ))) (vH (j4 (lG (jM (Qe rfl) rfl T.Uc boot_all (ao (iD ["sign"] [] rfl (adK (pv 1)) (by k_all) (by k_mem) (by row_wit1 (Kq aax (pv 0) (acX rfl Z.Q8) (by with_unfolding_all rfl)))) aq)))))))
 (aO (bw pU))
 cT)
 (aO (bw (adY (vN iU (pv 0) bN) (uo (vN mj (uE ao3 (pv 1) aL (λ_ _=>rfl)) bN))))))),?_⟩
 refine ⟨_,rfl,rfl,x,ofString "-",rfl,rfl,?_⟩;rw [ed,ahP];w_left;by_cases u:(Ls x).head?=some 45
 ·refine cL (fO u) ?_;have xl:1<=x.length:=by
   rw [<-cO];cases h:Ls x with
   |nil=>rw [h] at u;cases u
   |cons a b=>simp
  refine ⟨_,rfl,1,rfl,x,1,rfl,rfl,rfl,xl,aW (by lk),?_⟩;have d:Ls (wj x 1)=gn (Ls x):=by unfold gn;rw [aQ u];show (Ls x).drop 1=_;exact List.drop_one
  have Y:(wj x 1).length<=5000:=by rw [<-cO];show ((Ls x).drop 1).length<=_;rw [xW,cO];lk
  generalize wj x 1=y at d Y
  try dsimp only [lK]
  refine ⟨_,rfl,y,rfl,aW (by lk),_,_,rfl,rfl,_,rfl,?_⟩;by_cases j:(1:Int)<=(y.length:Int)
  rotate_left
  ·exact bR (by simpa using j) ⟨_,rfl,cL rfl (q false H (cW _) (uU λz=>j (by have:=z.1;rw [<-d,cO] at this;lk)))⟩
  refine cL (fO j) ?_;by_cases o:(y.length:Int)<=60
  rotate_left
  ·exact ⟨_,_,rfl,rfl,_,rfl,cL (by simpa using o) (q false H (cW _) (uU λz=>o (by have:=z.2.1;rw [<-d,cO] at this;lk)))⟩
  refine ⟨_,_,rfl,rfl,_,rfl,bR (by simpa using o) ⟨_,rfl,y,rfl,λB I=>?_⟩⟩;refine QS (x:=y) (λi ys Hc=>aB H Hc/\Hc B=some (.lst ys)/\ys=(((Ls y).take i).map λc=>decide (48<=c/\c<=57)).map V.bl) ⟨bQ I (cW H),aM,rfl⟩ (aW (by show (Ls y).length<=_;rw [cO];lk)) (λi ys Hc ⟨g,e,N⟩=>⟨e,by rw [N,bh,bh,gW];lk⟩) ?_ ?_
  ·rintro i c ys Hc k ⟨g,e,rfl⟩;isplit;refine ⟨_,rfl,_,_,rfl,rfl,?_⟩;rw [ac1 c];refine ⟨e,bQ I g,aM,?_⟩;have t:(Ls y)[i]?=some c:=by unfold Ls;rw [Kd];exact k
   rw [gb t,cX,cX];rfl
  ·rintro ys Hc ⟨g,e,rfl⟩;have S:((Ls y).take y.cps.size)=Ls y:=zc (by rw [cO];exact bI _);rw [S] at e;refine ⟨B,_,rfl,aN e,?_⟩;have m:(((Ls y).map λc=>decide (48<=c/\c<=57)).all id=true)↔PySem.NumText.AllDigits (gn (Ls x)):=by
    rw [<-d,wZ];constructor
    ·intro h c k;exact jH (h _ (fW.mpr ⟨c,k,rfl⟩))
    ·intro h b O;obtain ⟨c,k,rfl⟩:=fW.mp O;exact fO (h c k)
   cases ea:((Ls y).map λc=>decide (48<=c/\c<=57)).all id with
   |false =>rw [ea] at m;refine ⟨_,rfl,cL rfl ?_⟩;exact q false Hc g (uU λz=>absurd (m.mpr z.2.2.1) (by decide))
   |true =>
    rw [ea] at m;have L:=m.mp rfl;walk2;sr_in;have p:(ofString "0")=Mk [48]:=by k_go
    have D:1<=(gn (Ls x)).length:=by rw [<-d,cO];lk
    have C:(gn (Ls x)).length<=60:=by rw [<-d,cO];lk
    by_cases l:x=Mk [48]
    ·exact cL (by rw [l,p];simp) (q true Hc g (Hl ⟨D,C,L,.inl (by rw [l];rfl)⟩))
    ·refine bR (λz=>l (p ▸ V.str.inj (jH z))) ?_;obtain ⟨c,r,J⟩:∃ c r,Ls y=c::r:=by
      cases h:Ls y with
      |nil=>rw [<-cO,h] at j;simp at j
      |cons c r=>exact ⟨c,r,rfl⟩
     refine ⟨_,rfl,y,0,c,rfl,rfl,aW (by lk),by show jK (Ls y) 0=some c;rw [J];simp [jK,q8],rfl,?_⟩;have W:Ls x≠[48]:=λz=>l (by rw [<-wu x,z]);refine q _ Hc g ?_;have en:(V.str (⟨#[c]⟩:Str)=V.str (ofString "0"))↔c=48:=by
      rw [p];constructor
      ·intro z;have:=je Ls (V.str.inj z);exact (J4 this).1
      ·intro z;rw [z];rfl
     have M:(gn (Ls x)).head?=some c:=by rw [<-d,J];rfl
     by_cases n:c=48
     ·rw [fO (en.mpr n)];exact uU λz=>z.2.2.2.elim W λy=>y (by rw [M,n])
     ·rw [lJ (λz=>n (en.mp z))];exact Hl ⟨D,C,L,.inr (by rw [M];exact λz=>n (iB z))⟩
 ·refine bR (by simpa using u) ?_;w_left;obtain ⟨y,U⟩:∃ y,y=x:=⟨x,rfl⟩;have d:Ls y=gn (Ls x):=by unfold gn;rw [aK u,U]
  have Y:y.length<=5000:=by rw [U];exact len
  have hy:∀ (R:V->Prop),R (.str y)->R (.str x):=λR h=>U ▸ h;refine hy (λv=>lK 1 v _ _ _) ?_
  try dsimp only [lK]
  refine ⟨_,rfl,y,rfl,aW (by lk),_,_,rfl,rfl,_,rfl,?_⟩;by_cases j:(1:Int)<=(y.length:Int)
  rotate_left
  ·exact bR (by simpa using j) ⟨_,rfl,cL rfl (q false H (cW _) (uU λz=>j (by have:=z.1;rw [<-d,cO] at this;lk)))⟩
  refine cL (fO j) ?_;by_cases o:(y.length:Int)<=60
  rotate_left
  ·exact ⟨_,_,rfl,rfl,_,rfl,cL (by simpa using o) (q false H (cW _) (uU λz=>o (by have:=z.2.1;rw [<-d,cO] at this;lk)))⟩
  refine ⟨_,_,rfl,rfl,_,rfl,bR (by simpa using o) ⟨_,rfl,y,rfl,λB I=>?_⟩⟩;refine QS (x:=y) (λi ys Hc=>aB H Hc/\Hc B=some (.lst ys)/\ys=(((Ls y).take i).map λc=>decide (48<=c/\c<=57)).map V.bl) ⟨bQ I (cW H),aM,rfl⟩ (aW (by show (Ls y).length<=_;rw [cO];lk)) (λi ys Hc ⟨g,e,N⟩=>⟨e,by rw [N,bh,bh,gW];lk⟩) ?_ ?_
  ·rintro i c ys Hc k ⟨g,e,rfl⟩;isplit;refine ⟨_,rfl,_,_,rfl,rfl,?_⟩;rw [ac1 c];refine ⟨e,bQ I g,aM,?_⟩;have t:(Ls y)[i]?=some c:=by unfold Ls;rw [Kd];exact k
   rw [gb t,cX,cX];rfl
  ·rintro ys Hc ⟨g,e,rfl⟩;have S:((Ls y).take y.cps.size)=Ls y:=zc (by rw [cO];exact bI _);rw [S] at e;refine ⟨B,_,rfl,aN e,?_⟩;have m:(((Ls y).map λc=>decide (48<=c/\c<=57)).all id=true)↔PySem.NumText.AllDigits (gn (Ls x)):=by
    rw [<-d,wZ];constructor
    ·intro h c k;exact jH (h _ (fW.mpr ⟨c,k,rfl⟩))
    ·intro h b O;obtain ⟨c,k,rfl⟩:=fW.mp O;exact fO (h c k)
   cases ea:((Ls y).map λc=>decide (48<=c/\c<=57)).all id with
   |false =>rw [ea] at m;refine ⟨_,rfl,cL rfl ?_⟩;exact q false Hc g (uU λz=>absurd (m.mpr z.2.2.1) (by decide))
   |true =>
    rw [ea] at m;have L:=m.mp rfl;walk2;sr_in;have p:(ofString "0")=Mk [48]:=by k_go
    have D:1<=(gn (Ls x)).length:=by rw [<-d,cO];lk
    have C:(gn (Ls x)).length<=60:=by rw [<-d,cO];lk
    by_cases l:x=Mk [48]
    ·exact cL (by rw [l,p];simp) (q true Hc g (Hl ⟨D,C,L,.inl (by rw [l];rfl)⟩))
    ·refine bR (λz=>l (p ▸ V.str.inj (jH z))) ?_;obtain ⟨c,r,J⟩:∃ c r,Ls y=c::r:=by
      cases h:Ls y with
      |nil=>rw [<-cO,h] at j;simp at j
      |cons c r=>exact ⟨c,r,rfl⟩
     refine ⟨_,rfl,y,0,c,rfl,rfl,aW (by lk),by show jK (Ls y) 0=some c;rw [J];simp [jK,q8],rfl,?_⟩;have W:Ls x≠[48]:=λz=>l (by rw [<-wu x,z]);refine q _ Hc g ?_;have en:(V.str (⟨#[c]⟩:Str)=V.str (ofString "0"))↔c=48:=by
      rw [p];constructor
      ·intro z;have:=je Ls (V.str.inj z);exact (J4 this).1
      ·intro z;rw [z];rfl
     have M:(gn (Ls x)).head?=some c:=by rw [<-d,J];rfl
     by_cases n:c=48
     ·rw [fO (en.mpr n)];exact uU λz=>z.2.2.2.elim W λy=>y (by rw [M,n])
     ·rw [lJ (λz=>n (en.mp z))];exact Hl ⟨D,C,L,.inr (by rw [M];exact λz=>n (iB z))⟩
def PL:Gc Z "is_number" 1 ["word"] ac0:=(Z5 Z).imp aod
def PN:Gc Z "number_of" 2 ["word"] anV:=by
 o_head (dz Z.VJ,["word"]);obtain ⟨n,rfl,b,a,q⟩:=h;refine ⟨_,(aU (cP (j4 (lG (bH (PL Z) hr.m rfl (ao (pv 0) aq))))
 (aO oK)
 cT)
 (aO (bw (iy aaX rfl T.Lf Qf (ao (pv 0) aq))))),?_⟩
 refine ⟨_,rfl,n,rfl,b,a,λH1 c=>?_⟩;walk2;exact ⟨_,rfl,_,n,rfl,apz b a,by show 1<=640;decide,q _ c⟩
def aio:Gc Z "wicket_of" 3 ["word"] apA:=by
 o_head (dz Z.VL,["word","parts"]);obtain ⟨w0,rfl,a,q⟩:=h;refine ⟨_,(aU (bW 1 nd (iV qD acg ach Zt (pv 0) (ao bN aq)))
 (aO (bw (g_ (ao (bH (PN Z) hr.m rfl (ao (b_ (pv 1) aL) aq)) (ao (bH (PN Z) hr.m rfl (ao (b_ (pv 1) aL) aq)) aq)))))),?_⟩
 have e:(ofString "-")=⟨#[45]⟩:=by k_go
 refine ⟨_,rfl,rfl,m_ w0,ofString "-",rfl,rfl,rfl,aW (by kl_no),λt d=>?_⟩;rw [e,anT a];km_lay t H1 d i c;dsimp only;exact ⟨_,rfl,t,_,_,_,rfl,rfl,aZ c,rfl,w0.1,rfl,a.1,a.2.1,λH2 b=>⟨_,rfl,t,_,_,_,rfl,rfl,aZ (b _ _ c),rfl,w0.2,rfl,a.2.2.1,a.2.2.2,λk g=>⟨aW (by kl_no),λu j=>q u _ (aG i (aG b (aG g (cu j _)))) aM⟩⟩⟩
def ahc:Gc Z "wickets_of" 4 ["text"] anY:=by
 refine dz Z.VN λf fd F=>?_;have T:=Z.T;refine F.fn.ok afZ (λvs H Q E h=>?_) (λO A outer s H vs Q E hr h=>?_)
 ·obtain ⟨ws,rfl,_⟩:=h;rfl
 ·obtain ⟨ws,rfl,I,len,q⟩:=h;refine ⟨_,(aU (cP (cQ iU (pv 0) bN)
  (aO (bw (fB aq)))
  cT)
  (aU (cP (j4 (lG (iV qD ace acf Zf (pv 0) (ao bN aq))))
  (aO oK)
  cT)
  (aO (bw (iD ["word"] [] rfl (jZ (iV qD Ke Kf QM (wV adL (pv 0) (xO aL) xM) (ao bN aq))) (by k_all) (by k_mem) (by row_wit1 (bH (aio Z) hr.m rfl (ao (pv 0) aq)))))))),?_⟩
  sr_in;cases ws with
  |nil =>refine cL (by k_go) ?_;refine ⟨aW (by kl_no),λl g=>?_⟩;exact q l _ (cu g _) ⟨[],aM,.nil⟩
  |cons w0 r =>
   have u:(ofString " ")=⟨#[32]⟩:=by k_go
   have B:=Qv (w0::r);rw [gA] at B len;have S:(Mk (jB (w0::r))).length=4*(r.length+1):=by rw [<-cO];exact B
   refine bR (λz=>?_) ?_
   ·have L:=jH z;have e:=je (λv=>match v with|V.str x=>x.length|_=>0) L;have R:(Mk (jB (w0::r))).length=0:=e;lk
   refine ⟨_,rfl,rfl,Mk (jB (w0::r)),ofString " ",rfl,rfl,?_⟩;rw [u,agp];walk2;refine ⟨_,rfl,1,rfl,Mk (jB (w0::r)),1,rfl,rfl,rfl,by lk, aW (by lk),rfl,?_⟩;have J:(wj (Mk (jB (w0::r))) 1).length<=100000:=by rw [<-cO];show ((jB (w0::r)).drop 1).length<=_;rw [xW];lk
   refine ⟨_,ofString " ",rfl,rfl,rfl,J,λl g=>?_⟩;rw [u,agV I];km_lay g H1 g M C;refine ⟨l,rfl,⟨_,aN C⟩,λj D=>?_⟩;refine rD (xs:=((w0::r).map m_).map V.str) (λi ys Hc=>aB H1 Hc/\Hc j=some (.lst ys)/\dM Hc ys ((w0::r).take i)) ⟨bQ D (cW H1),aM,.nil⟩ (aW (by rw [bh,bh,gA];lk)) (λi ys Hc hi ⟨d,b,a⟩=>⟨aN (d _ _ C),b,by have:=a.len;rw [gW] at this;lk⟩) ?_ ?_
   ·rintro i x ys Hc c ⟨d,b,a⟩;rw [jP,jP] at c;obtain ⟨v,n,rfl⟩:∃ v,(w0::r)[i]?=some v/\x=V.str (m_ v):=by
     cases o:(w0::r)[i]? with
     |none=>rw [o] at c;cases c
     |some v=>rw [o] at c;exact ⟨v,rfl,(iB c).symm⟩
    isplit;refine ⟨_,rfl,v,rfl,I v (fj n),λt H2 k N=>?_⟩;have p:=k _ _ b;refine ⟨p,bQ D (aG d k),aM,?_⟩;rw [gb n];have y:KT H2 (upd H2 j (HO.lst (ys++[V.ref t]))):=lN p (bY _);exact ((a.same k).kt y).app (.cons ⟨t,rfl,y _ _ N⟩ .nil)
   ·rintro ys Hc ⟨d,b,a⟩;rw [bh,bh,gw] at a;exact q j Hc (aG M d) ⟨ys,b,a⟩
def akq:Gc Z "read_net" 7 ["text"] apB:=by
 refine dz Z.VP λf fd F=>?_;have T:=Z.T;have Cz:=(amL Z).imp acU;o_head ["text","parts","wide","wickets"];obtain ⟨aj,ws,rfl,d,a,ok,len,q⟩:=h;have r:=TQ a ok;have B:=QT aj ws;have n:(ofString ":")=⟨#[58]⟩:=by k_go
 refine ⟨_,(aU (cP (j4 (lG (jM El rfl T.Bc boot_isinstance (ao (pv 0) (ao (zx (v:=V.ty "str") (u:=.type "str") rfl T.o9 (by k_go) rfl) aq)))))
 (aO oK)
 cT)
 (aU (bW 1 nd (iV qD acg ach Zt (pv 0) (ao bN aq)))
 (aU (cP (cQ iU (b_ (pv 1) aL) bN)
 (aO oK)
 cT)
 (aU (bW 2 nd (bH (PN Z) hr.m rfl (ao (b_ (pv 1) aL) aq)))
 (aU (bW 3 nd (bH (ahc Z) hr.m rfl (ao (b_ (pv 1) aL) aq)))
 (aU (cP (j4 (lG (bH (PK Z) hr.m rfl (ao (pv 2) (ao (pv 3) aq)))))
 (aO oK)
 cT)
 (aO (bw (bH Cz hr.m rfl (ao (pv 2) (ao (pv 3) aq))))))))))),?_⟩
 refine ⟨_,rfl,_,_,_,true,rfl,jg.str _,rfl,_,rfl,bR (by decide) ⟨_,rfl,rfl,oA aj ws,ofString ":",rfl,rfl,rfl,aW (by lk),λt k=>?_⟩⟩;rw [n,alW (by lk) (by lk)];km_lay t H1 k p c;dsimp only;refine ⟨_,rfl,t,_,_,_,rfl,rfl,aZ c,rfl,rfl,_,rfl,bR (by k_go) ⟨_,rfl,t,_,_,_,rfl,rfl,aZ c,rfl,aj,rfl,by lk, by lk, λH2 g=>⟨_,rfl,t,_,_,_,rfl,rfl,aZ (g _ _ c),rfl,ws,rfl,r,len,λl x j i=>⟨_,rfl,_,rfl,aj,l,ws,rfl,i,d,a,ok,len,λz e=>?_⟩⟩⟩⟩;walk2;exact ⟨_,rfl,_,rfl,aj,l,ws,rfl,i.same e,d,a,ok,len,λv y o b=>q v _ (aG p (aG g (aG j (aG e o)))) b⟩
def akr:Gc Z "show_net" 1 ["net"] anU:=by
 refine dz Z.VR λf fd F=>?_;have T:=Z.T;refine F.fn.ok ahb (λvs H Q E h=>?_) (λM A outer s H vs Q E hr h=>?_)
 ·obtain ⟨v,aj,ws,rfl,_⟩:=h;rfl
 ·obtain ⟨v,aj,ws,rfl,⟨n,t,rs,rfl,y,r,C⟩,O,J,ok,len,q⟩:=h;have j:=C.len;have l:=TQ J ok;have z:=Cv (n:=aj) (by lk) (by lk);refine ⟨_,(aO (bw (bD jW (bD jW (iy wQ rfl T.o9 qu (ao (b_ (pv 0) aL) aq)) bN) (iV qD Kg Kh KN bN (ao (iD ["first","second"] [] rfl (vJ (b_ (pv 0) aL)) (by w_tab) (by k_mem) (by row_wit1 (ajx (KJ bN (KJ (acW (pv 0)) (KJ bN (KJ (acW (pv 1)) apw))))))) aq))))),_,rfl,n,_,_,_,rfl,rfl,aZ y,rfl,aj,rfl,Bj (by lk) (by lk),bL aj,":",rfl,rfl,aW (by rw [z];show 1+1<=100000;decide),rfl,_,rfl,n,_,_,_,rfl,rfl,aZ y,rfl,t,rfl,⟨_,aZ r⟩,λp B=>?_⟩;refine yM (xs:=rs) (λi ys Hc=>aB H Hc/\Hc p=some (.lst ys)/\ys=((ws.take i).map yG).map V.str) ⟨bQ B (cW H),aM,rfl⟩ (aW (by lk)) (λi ys Hc hi ⟨b,a,D⟩=>⟨aZ (b _ _ r),a,by rw [D,bh,bh,gW];lk⟩) ?_ ?_
  ·rintro i x ys Hc N ⟨b,a,rfl⟩;obtain ⟨w0,L,c,rfl,g⟩:=C.get N;have f0:=l w0 (fj c);have d:=Cv f0.1 f0.2.1;have u:=Cv f0.2.2.1 f0.2.2.2;refine ⟨L,_,rfl,aZ (b _ _ g),rfl,_,_,rfl,_,_,rfl,rfl,⟨.inl rfl,.inl rfl,trivial⟩,sI ⟨" ",rfl,aW (by rw [jc];show 0+1<=_;decide),_,rfl,w0.1,rfl,Bj f0.1 f0.2.1,bL w0.1,rfl,aW (by rw [jc,jc,d];show 0+1+1<=_;decide),"-",rfl,aW (by rw [jc,jc,jc,d];show 0+1+1+1<=_;decide),_,rfl,w0.2,rfl,Bj f0.2.2.1 f0.2.2.2,bL w0.2,rfl,aW (by rw [jc,jc,jc,jc,d,u];show 0+1+1+1+1<=_;decide),aW (by rw [jc,jc,jc,jc,d,u];show 0+1+1+1+1<=_;decide),a,bQ B b,aM,?_⟩⟩;rw [gb c,cX,cX];rfl
  ·rintro ys Hc ⟨b,a,rfl⟩;rw [j,gw] at a;have o:(ofString "")=empty:=by k_go
   have sl:=Sv yG (n:=4) ws λw k=>Te (aoC (l w k));have m:=join_none ws λw k=>adT (l w k);have I:(Txt.join empty (ws.map yG)).length=4*ws.length:=by rw [<-cO,m,Qv]
   refine ⟨ofString "",p,ws.map yG,rfl,rfl,aN a,?_,?_⟩
   ·rw [bh,o];show _+ws.length*0<=_;lk
   ·rw [o];refine ⟨_,_,rfl,rfl,aW (by rw [jc,z,I];show 1+1+4*ws.length<=100000;lk),?_⟩;have e:bL aj++(":":Str)++Txt.join empty (ws.map yG)=oA aj ws:=by refine pR ?_;rw [gY,gY,m,zU (by lk) (by lk)];rfl
    rw [e];exact q _ b
def Y4:Ge Z "refuse_unless_halved" 2 ["wide"] (alP eA.d_):=by
 refine wD Z.V0 λf fd F=>?_;have T:=Z.T;have Es:=(aas Z);obtain ⟨c,b,sq⟩:=Z.GH.ex;o_head (["wide"],1,1);obtain ⟨x,rfl,h⟩:=h;refine ⟨_,(aO (cP (PW.pt (uz (j4 (lG (bH Es hr.m rfl (ao (pv 0) aq)))) (vH (zy O1 (pv 0) (Cg (v:=V.ref _) rfl b rfl) (by with_unfolding_all rfl)))))
 (aO (Bp Z.yH.FP rfl Z.yH.EY (ao bN aq)))
 cT)),?_⟩
 have a:∀ i:Int,x=.int i->lM (.int i) [V.int 1,V.int 2,V.int 4,V.int 8]=decide (vM i):=λi _=>by rw [ug,rR];unfold vM;simp only [lM,lA,yN,List.any_nil,Rf,JG,zN];lk
 rcases h with ⟨i,rfl,hi,q⟩|⟨o|⟨i,rfl,hi⟩,q⟩
 ·refine ⟨_,rfl,_,rfl,.inl ⟨i,rfl,?_⟩⟩;walk2;refine ⟨_,rfl,c,_,rfl,.inr (sq H),rfl,rfl,_,rfl,bR ?_ q⟩;show ¬ (!lM (.int i) [V.int 1,V.int 2,V.int 4,V.int 8])=true;rw [a i rfl,fO hi];decide
 ·exact ⟨_,rfl,_,rfl,.inr ⟨o,_,rfl,cL (by decide) ⟨by show 1<=1000;decide,q⟩⟩⟩
 ·refine ⟨_,rfl,_,rfl,.inl ⟨i,rfl,?_⟩⟩;walk2;refine ⟨_,rfl,c,_,rfl,.inr (sq H),rfl,rfl,_,rfl,cL ?_ ?_⟩
  ·show (!lM (.int i) [V.int 1,V.int 2,V.int 4,V.int 8])=true;rw [a i rfl,lJ hi];rfl
  ·exact ⟨by show 1<=1000;decide,q⟩
def Y6:Gc Z "in_both_halves" 1 ["wickets","half"] aaW:=by
 o_head (dz Z.V1,["wickets","half"]);obtain ⟨l,ws,k,rfl,⟨rs,e,O⟩,len,q⟩:=h;have L:=O.len;refine ⟨_,(aO (bw (bD vK (iy Ik rfl T.zR Bf (ao (pv 0) aq)) (iD ["first","second"] [("half",1)] rfl (Lj (jZ (pv 0)) (vJ (pv 0))) (by w_tab) (by k_mem) (by row_wit1 (g_ (ao (bD jQ (pv 0) (pv 2)) (ao (bD jQ (pv 1) (pv 2)) aq)))))))),_,rfl,l,_,rfl,e.imp aN aZ,λo f1=>?_⟩;km_lay f1 H1 f1 n x1;have step:∀ (a:Addr) (i:Nat) (x:V) (ys:aA) (Hc:Hp),H1 a=none->rs[i]?=some x->aB H1 Hc->Hc a=some (.lst ys)->dM Hc ys ((ws.take i).map (kW k))->∃ g a0 p,x=.ref g/\Hc g=some (.tup [.int a0,.int p])/\∀ u,Hc u=none->(upd Hc u (.tup [.int (a0+k),.int (p+k)])) a=some (.lst ys)/\aB H1 (upd (upd Hc u (.tup [.int (a0+k),.int (p+k)])) a (.lst (ys++[.ref u])))/\dM (upd (upd Hc u (.tup [.int (a0+k),.int (p+k)])) a (.lst (ys++[.ref u]))) (ys++[.ref u]) ((ws.take (i+1)).map (kW k)):=λa i x ys Hc m t b d c=>by obtain ⟨w0,g,N,rfl,B⟩:=O.get t;refine ⟨g,w0.1,w0.2,rfl,b _ _ (n _ _ B),λu r=>?_⟩;obtain ⟨S,e_,y,x3⟩:=Nh r (HO.tup [V.int (w0.1+k),V.int (w0.2+k)]);rw [<-e_];clear e_;have e3:=y _ _ d;refine ⟨e3,bQ m (aG b y),?_⟩;rw [gb N,cX];have R:KT S (upd S a (HO.lst (ys++[V.ref u]))):=lN e3 (bY _);exact ((c.same y).kt R).app (.cons ⟨u,rfl,R _ _ x3⟩ .nil)
 have W:∀ (a:Addr) (ys:aA) (Hc:Hp),aB H1 Hc->dM Hc ys ((ws.take rs.length).map (kW k))->∀ lo,Hc lo=none->Q (.ref lo) (upd Hc lo (.lst (rs++ys))):=λa ys Hc b c lo U=>by rw [L,gw] at c;have D:=aG n b;have Y:aB Hc (upd Hc lo (HO.lst (rs++ys))):=cu U _;exact q lo _ (D.free U) (aG D Y) ⟨_,aM,((O.same D).app c).same Y⟩
 rcases e with e|e
 ·refine .inl ⟨_,rfl,l,rfl,⟨_,aN (n _ _ e)⟩,λa m=>?_⟩;refine rD (xs:=rs) (λi ys Hc=>aB H1 Hc/\Hc a=some (.lst ys)/\ys.length<=i/\dM Hc ys ((ws.take i).map (kW k))) ⟨bQ m (cW H1),aM,fQ _,.nil⟩ (aW (by lk)) (λi ys Hc hi ⟨b,d,o,c⟩=>⟨aN (b _ _ (n _ _ e)),d,o⟩) ?_ ?_
  ·rintro i x ys Hc t ⟨b,d,C,c⟩;obtain ⟨g,a0,p,rfl,j,J⟩:=step a i x ys Hc m t b d c;refine ⟨g,_,rfl,aZ j,rfl,_,_,rfl,_,_,rfl,rfl,⟨.inl rfl,.inl rfl,.inr rfl,trivial⟩,sI ⟨_,rfl,_,rfl,_,_,rfl,rfl,_,rfl,_,rfl,_,_,rfl,rfl,aW (by kl_no),λu r=>?_⟩⟩;obtain ⟨z,v,M⟩:=J u r;exact ⟨z,v,aM,by rw [dJ];simp;lk, M⟩
  ·rintro ys Hc ⟨b,d,C,c⟩;have I:=c.len;rw [bh,gW] at I;exact ⟨o,a,_,_,rfl,rfl,b _ _ x1,d,aW (by lk),W a ys Hc b c⟩
 ·refine .inr ⟨_,rfl,l,rfl,⟨_,aZ (n _ _ e)⟩,λa m=>?_⟩;refine yM (xs:=rs) (λi ys Hc=>aB H1 Hc/\Hc a=some (.lst ys)/\ys.length<=i/\dM Hc ys ((ws.take i).map (kW k))) ⟨bQ m (cW H1),aM,fQ _,.nil⟩ (aW (by lk)) (λi ys Hc hi ⟨b,d,o,c⟩=>⟨aZ (b _ _ (n _ _ e)),d,o⟩) ?_ ?_
  ·rintro i x ys Hc t ⟨b,d,C,c⟩;obtain ⟨g,a0,p,rfl,j,J⟩:=step a i x ys Hc m t b d c;refine ⟨g,_,rfl,aZ j,rfl,_,_,rfl,_,_,rfl,rfl,⟨.inl rfl,.inl rfl,.inr rfl,trivial⟩,sI ⟨_,rfl,_,rfl,_,_,rfl,rfl,_,rfl,_,rfl,_,_,rfl,rfl,aW (by kl_no),λu r=>?_⟩⟩;obtain ⟨z,v,M⟩:=J u r;exact ⟨z,v,aM,by rw [dJ];simp;lk, M⟩
  ·rintro ys Hc ⟨b,d,C,c⟩;have I:=c.len;rw [bh,gW] at I;exact ⟨o,a,_,_,rfl,rfl,b _ _ x1,d,aW (by lk),W a ys Hc b c⟩
def Om:Gc Z "in_both_halves" 1 ["wickets","half"] abu:=(Y6 Z).imp alS
def adf:Gc Z "across" 1 ["wide"] alQ:=by
 o_head (dz Z.V2,["wide"]);obtain ⟨aj,rfl,x,y,q⟩:=h;refine ⟨_,(aO (bw (iD ["lane"] [("wide",0)] rfl (qt rfl T.lD (ao (bD xK (pv 0) aL) aq)) (by k_all) (by k_mem) (by row_wit1 (g_ (ao (pv 0) (ao (bD qP (bD qP (pv 1) aL) (pv 0)) aq))))))),?_⟩;w_fin;refine ⟨_,rfl,by lk, by lk, λc d=>?_⟩;refine tQ (n:=(aj / 2).toNat) (λi ys Hc=>aB H Hc/\Hc c=some (.lst ys)/\ys.length<=i/\dM Hc ys ((range i).map λk:Nat=>((k:Int),aj-1-(k:Int)))) ⟨bQ d (cW H),aM,fQ _,.nil⟩ (aW (by lk)) (λi ys Hc ⟨_,e,l,_⟩=>⟨e,l⟩) ?_ ?_
 ·rintro i ys Hc hi ⟨j,g,v,b⟩;got_up;refine ⟨_,rfl,_,rfl,_,_,rfl,rfl,_,rfl,_,_,rfl,rfl,aW (by kl_no),λu r=>?_⟩;km_lay r o r a t;have p:=a _ _ g;refine ⟨p,bQ d (aG j a),aM,by rw [dJ];simp;lk, ?_⟩;rw [rN,cX];have m:KT o (upd o c (HO.lst (ys++[V.ref u]))):=lN p (bY _);rw [rO] at t;exact ((b.same a).kt m).app (.cons ⟨u,rfl,m _ _ t⟩ .nil)
 ·rintro ys Hc ⟨j,g,v,b⟩;exact q c Hc d j ⟨ys,g,b⟩
def afc:Gc Z "by_falling_gaps" 1 ["wide"] apu:=by
 o_head (dz Z.V3,["wide","wickets","gap"]);obtain ⟨k,rfl,k2,q⟩:=h;have p1:=vL k;have ps:=FQ k;have p8:=zX (k:=k+1) (by lk);refine ⟨_,(aU (bW 1 nd (fB aq))
 (aU (bW 2 nd (bD xK (pv 0) aL))
 (aU (QC jj  (cQ vQ (pv 2) aL)
 (aU (kI (iV oN Kl Km IV (pv 1) (ao (iD ["lane"] [("gap",2)] rfl (qt rfl T.lD (ao (pv 0) aq)) (by k_all) (by row_wit1 (Cj (cQ iU (bD nU (bD xK (pv 0) (pv 1)) aL) aL))) (by row_wit1 (g_ (ao (pv 0) (ao (bD jQ (pv 0) (pv 1)) aq))))) aq)))
 (aO (Tz (i:=2) nd rfl (by k_in) aL acO))))
 (aO (bw (pv 1)))))),?_⟩
 refine ⟨aW (by kl_no),λl B=>?_⟩;km_lay B H1 B s1 x1;w_fin;have e4:pw (k+1) / 4=pw k / 2:=by lk
 dsimp only;rw [e4];refine Sh (λm σ a=>∃ (ws:aP) (rs:aA),m<=k/\σ=[some (.int (pw (k+1))),some (.ref l),some (.int (pw m / 2))]/\aB H a/\a l=some (.lst rs)/\dM a rs ws/\ws++mV m (pw (k+1))=mV k (pw (k+1))/\ws.length+m*8<=16) k ⟨[],[],bI _,rfl,s1,x1,.nil,rfl,by show 0+k*8<=16;lk⟩ ?_ ?_
 ·rintro m σ a ⟨ws,rs,mk,rfl,Y,D,x,S,as3⟩;have lw:=x.len;refine ⟨_,rfl,_,_,rfl,rfl,_,rfl,?_⟩;cases m with
  |zero =>
   refine bR (by decide) ?_;w_left;have e0:ws=mV k (pw (k+1)):=by rw [<-S];exact (nO ws).symm
   rw [e0] at x;exact q l a B Y ⟨rs,D,x⟩
  |succ m =>
   have pm:=FQ m;have pmp:=vL m;have pm8:=zX (k:=m) (by lk);have eg:pw (m+1) / 2=pw m:=by lk
   rw [eg];refine cL (fO (show (0:Int)<pw m by lk)) ⟨_,rfl,.inl ⟨rfl,_,aN D⟩,_,rfl,_,rfl,by lk, by lk, λJ fg=>?_⟩;refine tQ (n:=(pw (k+1)).toNat) (λj zs d=>aB a d/\d J=some (.lst zs)/\zs.length<=j/\dM d zs (((range j).filter λi:Nat=>decide ((i:Int) / pw m % 2=0)).map λi:Nat=>((i:Int),(i:Int)+pw m))) ⟨bQ fg (cW a),aM,fQ _,.nil⟩ (aW (by lk)) (λj zs d ⟨_,e,t,_⟩=>⟨e,t⟩) ?_ ?_
   ·rintro j zs d hj ⟨g,o,t,p⟩;refine ⟨⟨.inl rfl,.inr rfl,trivial⟩,_,rfl,_,rfl,_,_,rfl,rfl,⟨by lk, by lk⟩,_,_,rfl,rfl,(show (0:Int)<2 by decide),rfl,_,rfl,?_⟩;rw [rN,zq,cX];by_cases c:(j:Int) / pw m % 2=0
    ·refine cL (fO (je V.int (by rw [rO];exact c))) ⟨_,rfl,_,rfl,_,rfl,_,_,rfl,rfl,aW (by kl_no),λu W=>?_⟩;km_lay W O W C R;have y:=C _ _ o;refine ⟨y,bQ fg (aG g C),aM,by rw [dJ];simp;lk, ?_⟩;have M:KT O (upd O J (HO.lst (zs++[V.ref u]))):=lN y (bY _);rw [rO] at R;have one:(([j].filter λi:Nat=>decide ((i:Int) / pw m % 2=0)).map λi:Nat=>((i:Int),(i:Int)+pw m))=[((j:Int),(j:Int)+pw m)]:=by simp [c]
     rw [one];exact ((p.same C).kt M).app (.cons ⟨u,rfl,M _ _ R⟩ .nil)
    ·refine bR (by rw [rR];intro z;have U:=V.int.inj z;rw [rO] at U;exact c U) ?_;have I:(([j].filter λi:Nat=>decide ((i:Int) / pw m % 2=0)).map λi:Nat=>((i:Int),(i:Int)+pw m))=[]:=by simp [c]
     rw [I,nO];exact ⟨g,o,by lk, p⟩
   ·rintro zs d ⟨g,o,t,p⟩;have r:=g _ _ D;refine ⟨l,J,_,_,rfl,rfl,r,o,aW (by lk),?_⟩;have N:KT d (upd d l (HO.lst (rs++zs))):=lN r (bY _);have L:=p.len;have gl:(GP (pw (k+1)) (pw m)).length<=8:=by have:zs.length<=(pw (k+1)).toNat:=t;show (GP (pw (k+1)) (pw m)).length<=8;unfold GP;rw [<-L];lk
    refine ⟨_,rfl,_,_,rfl,rfl,⟨by decide,by decide⟩,m,CP _,ws++GP (pw (k+1)) (pw m),rs++zs,by lk, rfl,bQ B (aG Y g),aM,((x.same g).kt N).app (p.kt N),?_,?_⟩
    ·rw [<-S,vh];rfl
    ·rw [dJ];lk
 ·rintro σ a Q1 Q2 hm ⟨v,e,h⟩;refine ⟨v,e,?_⟩;obtain ⟨i,j,e1,o,b,y,h⟩:=h;exact ⟨i,j,e1,o,b,y,hm _ _ h⟩
def aip:dw P w K mg au (lU P w) 7 f fd ["wide"] (u6 eA.d_ 0):=⟨λvs H Q E h=>by rcases h with ⟨k,_,h,_⟩|⟨h,_⟩<;>exact absurd h (zm _),λA outer s H a us vs Q E _ _ _ _ h=>by rcases h with ⟨k,_,h,_⟩|⟨h,_⟩<;>exact absurd h (zm _)⟩
def aiq {m:Nat} (F:oW K mg "folded" Q7 f fd) (Sy:rW P w K mg au "folded" (m+7) ["wide"] (u6 eA.d_ n)):dw P w K mg au (lU P w) (m+8) f fd ["wide"] (u6 eA.d_ (n+1)):=by
 have T:=Z.T;have Cz:=(Q_ Z);have Om:=(Y6 Z);refine F.fn.Vt Er (λvs H Q E h=>?_) (λcdv A outer s H vs Q E hr h=>?_)
 ·rcases h with ⟨k,rfl,_⟩|⟨_,x,rfl,_⟩<;>rfl
 ·refine ⟨_,(aU (kI (nG (Y4 Z) hr.m rfl (ao (pv 0) aq)))
  (aU (cP (cQ iU (pv 0) aL)
  (aO (bw (g_ (ao (nG Cz hr.m rfl (ao aL (ao (g_ aq) aq))) (ao (g_ (ao bN aq)) aq)))))
  cT)
  (aU (bW 1 Er.nd (bD xK (pv 0) aL))
  (aU (bW 2 Er.nd (nG Sy hr.m rfl (ao (pv 1) aq)))
  (aU (bW 3 Er.nd (bH Om hr.m rfl (ao (b_ (b_ (pv 2) aL) aL) (ao (pv 1) aq))))
  (aU (bW 4 Er.nd (g_ (ao bN (ao (j6 T (pv 3)) (ao (iy (ZK rfl) rfl T.Cm Im (ao (iy Qm rfl T.lD Ip (ao (pv 1) aq)) aq)) (ao (iy (ZK rfl) rfl T.Cm Im (ao (iy aje rfl T.lD Ip (ao (pv 1) (ao (pv 0) aq))) aq)) (ao (b_ (pv 2) aL) (ao (b_ (pv 2) aL) aq))))))))
  (aO (bw (g_ (ao (nG Cz hr.m rfl (ao (pv 0) (ao (bD vK (bD vK (pv 3) (bH (adf Z) hr.m rfl (ao (pv 0) aq))) (bH (afc Z) hr.m rfl (ao (pv 0) aq))) aq))) (ao (pv 4) aq))))))))))),?_⟩
  rcases h with ⟨k,rfl,kn,k3,q⟩|⟨_,x,rfl,hx,q⟩
  rotate_left
  ·exact ⟨_,rfl,_,rfl,.inr ⟨hx,q⟩⟩
  have hv:vM (pw k):=by
   have:k=0\/k=1\/k=2\/k=3:=by lk
   rcases this with z|z|z|z<;>subst z
   ·exact .inl rfl
   ·exact .inr (.inl rfl)
   ·exact .inr (.inr (.inl rfl))
   ·exact .inr (.inr (.inr rfl))
  refine ⟨_,rfl,_,rfl,.inl ⟨_,rfl,hv,?_⟩⟩;sr_in;cases k with
  |zero =>refine cL (by decide) ?_;refine ⟨aW (by kl_no),λt0 f0=>?_⟩;obtain ⟨H0,b,s0,x0⟩:=Nh f0 (HO.tup []);rw [<-b];clear b;refine ⟨1,t0,[],rfl,⟨[],.inr x0,.nil⟩,by decide,by decide,λw hw=>(nomatch hw),by decide,λv H1 M mY=>?_⟩;refine ⟨aW (by kl_no),λt2 f2=>?_⟩;obtain ⟨H2,b,a,x2⟩:=Nh f2 (HO.tup [V.str "one"]);rw [<-b];clear b;refine ⟨aW (by kl_no),λW o=>?_⟩;have l:aB H2 (upd H2 W (HO.tup [v,V.ref t2])):=cu o _;have lC:=aG s0 (aG M a);exact q W v (.ref t2) _ (lC.free o) (aG lC l) aM (mY.kt (cG (aG a l) (bY _))) (.one (l _ _ x2))
  |succ k =>
   have ps:=FQ k;have pp:=vL k;have p8:=zX k3;have bl:=(fold_all (k:=k) (by lk)).2;obtain ⟨Ak,u⟩:=fold_all (k:=k+1) k3;have fe:iK (k+1)=(iK k++(iK k).map (kW (pw k)))++jd (pw (k+1))++mV k (pw (k+1)):=rfl;have fl:(iK k++(iK k).map (kW (pw k))).length+(jd (pw (k+1))).length+(mV k (pw (k+1))).length<=24:=by rw [<-dJ,<-dJ,<-fe];exact u
   refine bR (by rw [rR];intro z;have:=V.int.inj z;lk) ?_;w_fin;have eh:pw (k+1) / 2=pw k:=by lk
   dsimp only;rw [eh];refine ⟨_,rfl,.inl ⟨k,rfl,by lk, by lk, λN vi pi H1 fT M C R J=>?_⟩⟩;obtain ⟨ni,ti,ri,rfl,y,L,r⟩:=id R;refine ⟨_,rfl,N,_,_,_,rfl,rfl,aZ C,rfl,ni,_,_,_,rfl,rfl,aZ y,rfl,_,rfl,ti,_,pw k,rfl,⟨ri,.inr L,r⟩,by lk, λlw H2 fw a ⟨rw2,xw,g⟩=>?_⟩;have D:=g.len;refine ⟨_,rfl,lw,_,rfl,.inl (aN xw),_,rfl,_,rfl,λr3 o=>?_⟩;km_lay o H3 o l x3;refine ⟨r3,0,pw k,rfl,x3,by decide,by decide,by lk, by lk, by lk, λt4 f4=>?_⟩;km_lay f4 H4 f4 s4 x4;refine ⟨_,rfl,_,rfl,_,_,rfl,λr5 f5=>?_⟩;km_lay f5 H5 f5 s5 x5;refine ⟨r5,pw k,pw (k+1),rfl,x5,by lk, by lk, by lk, by lk, by lk, λt6 f6=>?_⟩;km_lay f6 H6 f6 s6 x6;have i:=aG l (aG s4 (aG s5 s6));have Ec:=aG a i;refine ⟨_,rfl,N,_,_,_,rfl,rfl,aZ (Ec _ _ C),rfl,_,rfl,N,_,_,_,rfl,rfl,aZ (Ec _ _ C),rfl,aW (by kl_no),λt7 Y=>?_⟩;km_lay Y H7 Y s7 x7;have p:=aG i s7;refine ⟨_,rfl,_,rfl,_,rfl,pw (k+1),rfl,by lk, p8,λla H8 fa O ⟨ra,xa,U⟩=>?_⟩;have la2:=U.len;refine ⟨lw,la,_,_,rfl,rfl,O _ _ (p _ _ xw),xa,aW (by lk),λlc fc=>?_⟩;km_lay fc H9 fc s9 x9;have r9:=((g.same (aG p O)).app U).same s9;refine ⟨_,rfl,k,rfl,by lk, λlg Ha fg S ⟨rg,xg,Nk⟩=>?_⟩;have lg2:=Nk.len;refine ⟨lc,lg,_,_,rfl,rfl,S _ _ x9,xg,aW (by rw [dJ];lk),λlz fz=>?_⟩;km_lay lz Hb fz sb xb;have rb:=((r9.same S).app Nk).same sb;rw [<-fe] at rb;refine ⟨pw (k+1),lz,iK (k+1),rfl,⟨_,.inl xb,rb⟩,by lk, p8,Ak,by lk, λv Hc sc Mg=>?_⟩;have d:=aG O (aG s9 (aG S (aG sb sc)));refine ⟨_,rfl,aW (by kl_no),λtd e=>?_⟩;have t:aB Hc (upd Hc td (HO.tup [v,V.ref t7])):=cu e _;have ql:=aG M (aG a (aG p d));have I:=aG d t;have j:=aG s7 I;have B:=aG s5 (aG s6 j);have c:=J.same (aG a (aG p I));rw [D] at x7;exact q td v (.ref t7) _ (ql.free e) (aG ql t) aM (Mg.kt (cG t (bY _))) (.VF (I _ _ x7) (B _ _ x4) (j _ _ x6) c c)
def amM (n:Nat):rW P w K mg au "folded" (n+7) ["wide"] (u6 eA.d_ n):=by
 obtain ⟨_,_,F⟩:=Z.V4;induction n with
 |zero=>exact F.Ss aip (by k_dec)
 |succ n a=>exact F.Ss (aiq Z F a) (by k_dec)
def Sy:Ge Z "folded" 11 ["wide"] (u6 eA.d_ 4):=(amM Z 4)
def aks:dw P w K mg au jL 1 f fd ["wide"] (Gx 0):=⟨λvs H Q E ⟨k,_,h,_,_⟩=>absurd h (zm _),λA outer s H a us vs Q E _ _ _ _ ⟨k,_,h,_,_⟩=>absurd h (zm _)⟩
def akt {m:Nat} (F:oW K mg "block" Sx f fd) (TY:pJ P w K mg au "block" (m+1) ["wide"] (Gx n)):dw P w K mg au jL (m+2) f fd ["wide"] (Gx (n+1)):=by
 have T:=Z.T;refine F.fn.ok abN (λvs H Q E h=>?_) (λL A outer s H vs Q E hr h=>?_)
 ·obtain ⟨k,rfl,_⟩:=h;rfl
 ·obtain ⟨k,rfl,kn,t,q⟩:=h;refine ⟨_,(aU (cP (cQ iU (pv 0) aL)
  (aO (bw (fB aq)))
  cT)
  (aU (bW 1 abN.nd (bD xK (pv 0) aL))
  (aO (bw (bD vK (bH (adf Z) hr.m rfl (ao (pv 0) aq)) (bH (Om Z) hr.m rfl (ao (bH TY hr.m rfl (ao (pv 1) aq)) (ao (pv 1) aq)))))))),?_⟩
  sr_in;cases k with
  |zero =>refine cL (by decide) ?_;refine ⟨aW (by kl_no),λl o=>?_⟩;exact q l _ o (cu o _) ⟨[],aM,.nil⟩
  |succ k =>
   have ps:=FQ k;have Y:=vL k;have J:=zX t;have W:=acP (k:=k) (by lk);refine bR (by rw [rR];intro z;have:=V.int.inj z;lk) ?_;w_fin;have M:pw (k+1) / 2=pw k:=by lk
   dsimp only;rw [M];refine ⟨_,rfl,pw (k+1),rfl,by lk, J,λla H1 R D ⟨B,y,d⟩=>⟨_,rfl,k,rfl,by lk, by lk, λN H2 O C b=>⟨_,rfl,N,_,pw k,rfl,b,by lk, λx g U p ⟨v,u,a⟩=>?_⟩⟩⟩;have c:=aG C p;have S:=d.len;have I:=a.len;have r:(jd (pw (k+1))).length<=4:=by unfold jd;rw [bh,BX];lk
   rw [dJ,bh] at I;refine ⟨la,x,_,_,rfl,rfl,c _ _ y,u,aW (by lk),λlo i=>?_⟩;have j:aB g (upd g lo (HO.lst (B++v))):=cu i _;have e:=aG D c;exact q lo _ (e.free i) (aG e j) ⟨_,aM,((d.same c).app a).same j⟩
def aoF (n:Nat):pJ P w K mg au "block" (n+1) ["wide"] (Gx n):=by
 obtain ⟨_,_,F⟩:=Z.V5;induction n with
 |zero=>exact F.callee aks (by k_dec)
 |succ n a=>exact F.callee (akt Z F a) (by k_dec)
def TY:Gc Z "block" 6 ["wide"] (Gx 4):=(aoF Z 4).mono (by decide)
def aoG:Ge Z "rounds" 7 ["wide"] (Qs eA.d_):=by
 o_head (wD Z.V6,["wide","wickets","left"],0);refine ⟨_,(aU (kI (nG (Y4 Z) hr.m rfl (ao (pv 0) aq)))
 (aU (bW 1 nd (fB aq))
 (aU (bW 2 nd (pv 0))
 (aU (QC PassesOwn.leaving  (cQ vQ (pv 2) aL)
 (aU (kI (iV oN Kl Km IV (pv 1) (ao (bH (TY Z) hr.m rfl (ao (pv 0) aq)) aq)))
 (aO (Tz (i:=2) nd rfl (by k_in) aL acO))))
 (aO (bw (nG (Cz Z) hr.m rfl (ao (pv 0) (ao (pv 1) aq))))))))),?_⟩
 rcases h with ⟨k,rfl,d,q⟩|⟨x,rfl,hx,q⟩
 ·obtain ⟨N,n⟩:=acQ d;have p1:=vL k;have p8:=zX d;have Y:=acP d;have I:vM (pw k):=by
   have:k=0\/k=1\/k=2\/k=3:=by lk
   rcases this with z|z|z|z<;>subst z
   ·exact .inl rfl
   ·exact .inr (.inl rfl)
   ·exact .inr (.inr (.inl rfl))
   ·exact .inr (.inr (.inr rfl))
  refine ⟨_,rfl,_,rfl,.inl ⟨_,rfl,I,aW (by kl_no),λl r=>?_⟩⟩;km_lay r H1 r R U;w_left;refine Sh (λm σ c=>∃ ys,σ=[some (.int (pw k)),some (.ref l),some (.int (pw m))]/\m<=k/\aB H c/\c l=some (.lst ys)/\dM c ys (replicate (k-m) (iY k)).flatten) k ⟨[],rfl,bI _,R,U,by rw [Rv];exact .nil⟩ ?_ ?_
  ·rintro m σ c ⟨ys,rfl,mk,t,j,g⟩;refine ⟨_,rfl,_,_,rfl,rfl,_,rfl,?_⟩;cases m with
   |zero =>refine bR (by decide) ?_;exact ⟨_,rfl,_,rfl,pw k,l,_,rfl,⟨ys,j,g⟩,p1,p8,N,n,λv H' s' p=>q v H' (aG t s') p⟩
   |succ m =>
    have ps:=FQ m;have pp:=vL m;have M:=g.len;rw [Qd] at M;have C:(k-(m+1))*(iY k).length<=36:=gU (RP (show k-(m+1)<=3 by lk) Y) (by decide);refine cL (fO (by lk)) ⟨_,rfl,.inl ⟨rfl,_,aN j⟩,_,rfl,k,rfl,by lk, d,λlb H2 fb o ⟨B,L,a⟩=>?_⟩;have lr:=a.len;have b:=o _ _ j;refine ⟨l,lb,_,_,rfl,rfl,b,L,aW (by lk),_,rfl,_,_,rfl,rfl,⟨by decide,by decide⟩,m,CP _,ys++B,?_,by lk, bQ r (aG t o),aM,?_⟩
    ·have eh:pw (m+1) / 2=pw m:=by lk
     show [some (V.int (pw k)),some (V.ref l),some (V.int (pw (m+1) / 2))]=_;rw [eh]
    ·have u:KT H2 (upd H2 l (HO.lst (ys++B))):=lN b (bY _);have e:(replicate (k-m) (iY k)).flatten=(replicate (k-(m+1)) (iY k)).flatten++iY k:=by rw [show k-m=(k-(m+1))+1 by lk, Ft,List.flatten_append];simp
     rw [e];exact ((g.same o).kt u).app (a.kt u)
  ·rintro σ c Q' S hq ⟨y,f0,O,a2,W,D,k',J,h2⟩;exact ⟨y,f0,O,a2,W,D,k',J,hq _ _ h2⟩
 ·exact ⟨_,rfl,_,rfl,.inr ⟨hx,q⟩⟩
def aoH:Ge Z "joined" 1 ["wide","wickets"] (alz ⟨eA.d_,eA.d_,eA.d_,eA.d_,eA.many,eA.d_,eA.d_,eA.d_⟩):=by
 o_head (wD Z.V7,["wide","wickets"],0);obtain ⟨aj,t,rs,ws,rfl,d,e,len,q⟩:=h;have g:=e.len;refine ⟨_,(aU (cP (cQ vQ (j6 T (pv 1)) (Cq rfl Z.Ii))
 (aO (Bp Z.Eb.Qq rfl Z.Eb.Iw (ao bN aq)))
 cT)
 (aO (bw (g_ (ao (pv 0) (ao (pv 1) aq)))))),?_⟩
 refine ⟨_,rfl,t,_,rfl,.inr (aZ d),_,_,rfl,rfl,_,rfl,?_⟩;rcases q with ⟨c,q⟩|⟨c,q⟩
 ·exact cL (fO (by lk)) ⟨by show 1<=1000;decide,q⟩
 ·refine bR (by simp;lk) ⟨_,rfl,_,rfl,aW (by kl_no),λb i=>?_⟩;have a:aB H (upd H b (HO.tup [V.int aj,V.ref t])):=cu i _;exact q _ _ a ⟨b,t,rs,rfl,aM,a _ _ d,e.same a⟩
def aoI:Ge Z "behind" 2 ["one","other"] (adF ⟨eA.d_,eA.d_,eA.d_,eA.d_,eA.many,eA.d_,eA.d_,eA.d_⟩ FN):=by
 o_head (wD Z.V8,["one","other"],0);obtain ⟨R,S,l,o,us,ws,rfl,⟨j,r,B,rfl,a,k,b⟩,⟨n,x,p,rfl,e,I,g⟩,U,N,V,b8,v,J,W,Y,q⟩:=h;have u:=b.len;have L:=g.len;refine ⟨_,(aU (cP (cQ mj (b_ (pv 0) aL) (b_ (pv 1) aL))
 (aO (Bp Z.Eb.FP rfl Z.Eb.EY (ao bN aq)))
 cT)
 (aO (bw (nG (aoH Z) hr.m rfl (ao (b_ (pv 0) aL) (ao (bD anO (b_ (pv 0) aL) (b_ (pv 1) aL)) aq)))))),?_⟩
 refine ⟨_,rfl,j,_,_,_,rfl,rfl,aZ a,rfl,_,rfl,n,_,_,_,rfl,rfl,aZ e,rfl,rfl,_,rfl,?_⟩;unfold FN at q;by_cases c:l=o
 ·rw [aK (λz=>z c)] at q;refine bR (by simp [c]) ⟨_,rfl,j,_,_,_,rfl,rfl,aZ a,rfl,_,rfl,j,_,_,_,rfl,rfl,aZ a,rfl,_,rfl,n,_,_,_,rfl,rfl,aZ e,rfl,r,x,_,_,rfl,rfl,k,I,aW (by lk),λt O i M=>⟨l,t,_,us++ws,rfl,M,(b.app g).same i,by rw [dJ];lk, ?_⟩⟩;rw [dJ];by_cases d:40<us.length+ws.length
  ·rw [aQ d] at q;exact .inl ⟨d,q _ i⟩
  ·rw [aK d] at q;exact .inr ⟨by lk, λD H' y C=>q D H' (aG i y) C⟩
 ·rw [aQ c] at q;exact cL (by simp [c]) ⟨by show 1<=1000;decide,q _ (cW _)⟩
def aku:Gc Z "mirrored" 1 ["net"] aaf:=by
 o_head (dz Z.V9,["net","last"]);obtain ⟨v,aj,ws,rfl,⟨n,t,rs,rfl,k,I,J⟩,len,q⟩:=h;have m:=J.len;refine ⟨_,(aU (bW 1 nd (bD qP (b_ (pv 0) aL) aL))
 (aO (bw (g_ (ao (b_ (pv 0) aL) (ao (iy Zc rfl T.Cm Im (ao (iD ["first","second"] [("last",1)] rfl (vJ (b_ (pv 0) aL)) (by w_tab) (by k_mem) (by row_wit1 (g_ (ao (bD qP (pv 2) (pv 1)) (ao (bD qP (pv 2) (pv 0)) aq))))) aq)) aq)))))),?_⟩
 refine ⟨_,rfl,n,_,_,_,rfl,rfl,aZ k,rfl,_,_,rfl,rfl,_,rfl,n,_,_,_,rfl,rfl,aZ k,rfl,_,rfl,n,_,_,_,rfl,rfl,aZ k,rfl,t,rfl,⟨_,aZ I⟩,λl C=>?_⟩;refine yM (xs:=rs) (λi ys Hc=>aB H Hc/\Hc l=some (.lst ys)/\dM Hc ys ((ws.take i).map (jJ aj))) ⟨bQ C (cW H),aM,.nil⟩ (aW (by lk)) (λi ys Hc hi ⟨d,b,c⟩=>⟨aZ (d _ _ I),b,by have:=c.len;simp at this;lk⟩) ?_ ?_
 ·rintro i x ys Hc R ⟨d,b,c⟩;obtain ⟨r,M,o,rfl,g⟩:=J.get R;refine ⟨M,_,rfl,aZ (d _ _ g),rfl,_,_,rfl,_,_,rfl,rfl,⟨.inl rfl,.inl rfl,.inr rfl,trivial⟩,sI ⟨_,rfl,_,rfl,_,_,rfl,rfl,_,rfl,_,rfl,_,_,rfl,rfl,aW (by kl_no),λu e=>?_⟩⟩;have a:u≠l:=λz=>by rw [z,b] at e;cases e
  refine ⟨by rw [aV (bF a)];exact b,bQ C (aG d (cu e _)),aM,?_⟩;rw [gb o,cX];have O:KT Hc (upd (upd Hc u (HO.tup [V.int (aj-1-r.2),V.int (aj-1-r.1)])) l (HO.lst (ys++[V.ref u]))):=lN ((aV (bF a)).trans b) (KT.new e (bY _));exact (c.kt O).app (.cons ⟨u,rfl,(aV a).trans aM⟩ .nil)
 ·rintro ys Hc ⟨d,b,c⟩;rw [m,gw] at c;refine ⟨l,_,rfl,.inl ⟨aN b,λy L=>?_⟩⟩;km_lay L B L D S;refine ⟨aW (by kl_no),λp N=>?_⟩;have j:aB B (upd B p (HO.tup [V.int aj,V.ref y])):=cu N _;exact q _ _ (aG d (aG D j)) ⟨p,y,ys,rfl,aM,j _ _ S,c.same (aG D j)⟩
def agr:Gc Z "let_through" 1 ["net","counts"] ape:=by
 o_head (dz Z.V_,["net","counts","now","odd","number","wicket","both"]);obtain ⟨v,aj,ws,c,cs,rfl,⟨n,t,rs,rfl,hn,ht,W⟩,ok,len,hc,lc,q⟩:=h;have M:=W.len;refine ⟨_,(aU (bW 2 nd (iy Ik rfl T.zR Bf (ao (pv 1) aq)))
 (aU (bW 3 nd (fB aq))
 (aU (jx jj rfl  (akZ rfl T.yI (ao (b_ (pv 0) aL) aq)) (qM rfl (ji (fL 4 nd) (ji (fL 5 nd) qF)))
 (aU (bW 6 nd (bD jQ (cJ (pv 2) (b_ (pv 5) aL)) (cJ (pv 2) (b_ (pv 5) aL))))
 (aU (qO (bD xK (bD jQ (pv 6) aL) aL) (qN (pv 2) (b_ (pv 5) aL) pI))
 (aU (qO (bD xK (pv 6) aL) (qN (pv 2) (b_ (pv 5) aL) pI))
 (aO (cP (cQ iU (bD nU (pv 6) aL) aL)
 (aO (kI (iV oN vo vp tV (pv 3) (ao (pv 4) aq))))
 cT))))))
 (aO (bw (g_ (ao (pv 2) (ao (pv 3) aq)))))))),?_⟩
 refine ⟨_,rfl,c,_,rfl,.inl (aN hc),λd u=>⟨aW (by kl_no),λlo U=>?_⟩⟩;have k:H lo=none:=(cu u _).free U;have O:d≠lo:=cV aM U;refine ⟨_,rfl,n,_,_,_,rfl,rfl,aZ (by walk_at "hh"),by rfl,t,rfl,⟨rs,aZ (by walk_at "hh")⟩,?_⟩;refine Bm (xs:=rs) (λi σ Hc=>∃ N D R,σ=[some (.ref n),some (.ref c),some (.ref d),some (.ref lo),N,D,R]/\aB H Hc/\Hc d=some (.lst ((bC cs (ws.take i)).map V.int))/\Hc lo=some (.lst ((qR 0 cs (ws.take i)).map V.int))) ⟨none,none,none,rfl,by walk_at "sm",by walk_at "hh",aM⟩ (λi σ Hc _ ⟨_,_,_,_,j,_⟩=>aZ (j _ _ ht)) ?_ ?_
 ·rintro i x T σ Hc hx p ⟨N,D,R,rfl,j,r,y⟩;obtain ⟨w0,b,e,rfl,J⟩:=W.get hx;obtain ⟨Y,o2,o3,o4,o5⟩:=bJ.mem ok e;have il:i<ws.length:=(dY.mp e).1;have lth:=jE (ws.take i) cs;have C:=aiQ (ws.take i) 0 cs;rw [gW] at C;have a:(upd Hc T (HO.tup [V.int i,V.ref b])) b=some (.tup [.int w0.1,.int w0.2]):=(cu p _) _ _ (j _ _ J);have l:(upd Hc T (HO.tup [V.int i,V.ref b])) d=some (.lst ((bC cs (ws.take i)).map V.int)):=(cu p _) _ _ r;have o:(upd Hc T (HO.tup [V.int i,V.ref b])) lo=some (.lst ((qR 0 cs (ws.take i)).map V.int)):=(cu p _) _ _ y;have L:aB H (upd Hc T (HO.tup [V.int i,V.ref b])):=aG j (cu p _);refine ⟨T,_,rfl,aZ aM,rfl,?_⟩;generalize upd Hc T (HO.tup [V.int i,V.ref b])=H1 at a l o L;refine ⟨_,_,rfl,_,_,rfl,rfl,_,rfl,_,rfl,b,_,_,_,rfl,rfl,aZ a,rfl,d,_,_,_,rfl,rfl,aN l,lY Y (by lk),_,rfl,_,rfl,b,_,_,_,rfl,rfl,aZ a,rfl,d,_,_,_,rfl,rfl,aN l,lY o3 (by lk),_,_,rfl,rfl,_,rfl,_,_,rfl,rfl,_,_,rfl,rfl,by walk_at "side",_,rfl,_,rfl,b,_,_,_,rfl,rfl,aZ a,rfl,d,_,w0.1,w0.1.toNat,rfl,rfl,l,sJ Y (by rw [bh];lk),_,rfl,_,_,rfl,rfl,by walk_at "side",?_⟩;have I:b≠d:=zW a l;refine ⟨_,rfl,_,rfl,b,_,_,_,rfl,rfl,aZ ((aV I).trans a),rfl,d,_,w0.2,w0.2.toNat,rfl,rfl,aM,sJ o3 (by rw [fV,bh];lk),?_⟩;rw [Ko];have S:((map V.int (bC cs (ws.take i))).set w0.1.toNat (V.int (((bC cs (ws.take i)).getD w0.1.toNat 0+(bC cs (ws.take i)).getD w0.2.toNat 0+1) / 2))).set w0.2.toNat (V.int (((bC cs (ws.take i)).getD w0.1.toNat 0+(bC cs (ws.take i)).getD w0.2.toNat 0) / 2))=(bC cs (ws.take (i+1))).map V.int:=by rw [gb e,Pu,zA,zA];rfl
  have m:=aht (ws.take i) w0 0 cs;rw [<-gb e,gW,tY (by lk),oM] at m;refine ⟨_,rfl,_,_,rfl,rfl,by walk_at "side",rfl,_,rfl,pB (λg=>?_) (λg=>?_)⟩
  ·have g':fJ (bC cs (ws.take i)) w0 % 2=1:=Lh g;rw [aQ g'] at m;refine ⟨_,rfl,.inl ⟨rfl,_,aN (by walk_at "hh")⟩,_,rfl,lo,_,_,rfl,rfl,by walk_at "hh",nY (by rw [bh];lk),_,_,_,rfl,bQ k (bQ u L),?_,?_⟩
   ·rw [aV O,aM];exact je (λz=>some (HO.lst z)) S
   ·rw [aM,m,cX];rfl
  ·have g':¬ fJ (bC cs (ws.take i)) w0 % 2=1:=MP g;rw [aK g',nO] at m;refine ⟨_,_,_,rfl,bQ u L,?_,?_⟩
   ·rw [aM];exact je (λz=>some (HO.lst z)) S
   ·rw [aV (bF O),m];exact o
 ·rintro σ Hc ⟨N,D,R,rfl,j,r,y⟩;rw [M,gw] at r y;exact ⟨_,rfl,_,rfl,aW (by kl_no),λt9 B=>q t9 d lo _ (j.free B) u k O (aG j (cu B _)) aM ((cu B _) _ _ r) ((cu B _) _ _ y)⟩
def Gn:Gc Z "exits" 2 ["net","counts"] ana:=by o_head (dz Z.Wa,["net","counts"]);obtain ⟨v,aj,ws,c,cs,rfl,d,ok,len,l,i,q⟩:=h;exact ⟨_,(aO (bw (b_ (bH (agr Z) hr.m rfl (ao (pv 0) (ao (pv 1) aq))) aL))),_,rfl,_,rfl,v,aj,ws,c,cs,rfl,d,ok,len,l,i,λt a b H' r g o e j k n p=>⟨t,_,_,_,rfl,rfl,aZ k,rfl,q a H' g j n⟩⟩
def adg:Gc Z "layers" 1 ["net"] akV:=by
 o_head (dz Z.Wb,["net","reached","found","first","second","layer"]);obtain ⟨v,aj,ws,rfl,⟨n,t,rs,rfl,W,U,cR⟩,w1,w8,ok,len,q⟩:=h;have D:=cR.len;refine ⟨_,(aU (bW 1 nd (bD Gd (fB (ao aL aq)) (b_ (pv 0) aL)))
 (aU (bW 2 nd (fB aq))
 (aU (jx jj rfl  (vJ (b_ (pv 0) aL)) (qM rfl (ji (fL 3 nd) (ji (fL 4 nd) qF)))
 (aU (bW 5 nd (bD jQ aL (jM (P_ rfl) rfl T.Gu JF (ao (cJ (pv 1) (pv 3)) (ao (cJ (pv 1) (pv 4)) aq)))))
 (aU (qO (pv 5) (qN (pv 1) (pv 3) pI))
 (aU (qO (pv 5) (qN (pv 1) (pv 4) pI))
 (aO (kI (iV oN vo vp tV (pv 2) (ao (pv 5) aq))))))))
 (aO (bw (pv 2)))))),?_⟩
 walk_at "rd";intro N f0;obtain ⟨H1,B,o,x1⟩:∃ H1,upd H N (HO.lst [V.int 0])=H1/\aB H H1/\H1 N=some (.lst [.int 0]):=⟨_,rfl,cu f0 _,aM⟩;rw [B];refine ⟨_,rfl,n,_,_,_,rfl,rfl,aZ (o _ _ W),rfl,N,aj,_,rfl,rfl,x1,by lk, by lk, aW (by show 1*aj.toNat<=100000;lk),λa S=>?_⟩;have er:(replicate aj.toNat [V.int 0]).flatten=(replicate aj.toNat (0:Int)).map V.int:=by
  generalize aj.toNat=k;induction k with
  |zero=>rfl
  |succ k ih=>rw [ju,vg,ih,ju,gj];rfl
 rw [er];obtain ⟨H2,L,Y,x2⟩:∃ H2,upd H1 a (HO.lst ((replicate aj.toNat (0:Int)).map V.int))=H2/\aB H1 H2/\H2 a=some (.lst ((replicate aj.toNat (0:Int)).map V.int)):=⟨_,rfl,cu S _,aM⟩;rw [L];have u:H a=none:=o.free S;walk_at "rd";intro b m;have M:a≠b:=cV x2 m;have O:H b=none:=(aG o Y).free m;have c:=aG o Y;refine ⟨_,rfl,n,_,_,_,rfl,rfl,aZ ((cu m _) _ _ (c _ _ W)),rfl,t,rfl,⟨rs,aZ ((cu m _) _ _ (c _ _ U))⟩,?_⟩;refine acn (xs:=rs) (λi σ Hc=>∃ J I p,σ=[some (.ref n),some (.ref a),some (.ref b),J,I,p]/\aB H Hc/\Hc a=some (.lst ((cj aj (ws.take i)).1.map V.int))/\Hc b=some (.lst ((cj aj (ws.take i)).2.map V.int))) ⟨none,none,none,rfl,bQ O c,by rw [aV M];exact x2,aM⟩ (λi σ Hc _ ⟨_,_,_,_,e,_⟩=>aZ (e _ _ U)) ?_ ?_
 ·rintro i x σ Hc hx ⟨J,I,p,rfl,e,l,g⟩;obtain ⟨w0,t0,d,rfl,r⟩:=cR.get hx;obtain ⟨o1,o2,o3,o4,o5⟩:=ok w0 (fj d);have R:ws.take (i+1)=ws.take i++[w0]:=by rw [JC,d];rfl
  have il:i<ws.length:=(dY.mp d).1;obtain ⟨ll1,C⟩:=Jk aj (ws.take i);rw [gW] at C;have y:=e _ _ r;refine ⟨t0,_,rfl,aZ y,rfl,_,_,rfl,_,_,rfl,rfl,_,rfl,_,rfl,a,_,_,_,rfl,rfl,aN l,lY o1 (by lk),_,rfl,_,rfl,a,_,_,_,rfl,rfl,aN l,lY o3 (by lk),_,_,rfl,_,_,rfl,rfl,_,rfl,_,rfl,_,rfl,a,_,w0.1,w0.1.toNat,rfl,rfl,l,sJ o1 (by rw [bh];lk),_,rfl,_,rfl,_,rfl,a,_,w0.2,w0.2.toNat,rfl,rfl,aM,sJ o3 (by rw [fV,bh];lk),?_⟩;rw [Ko];have j:b≠a:=bF M;refine ⟨_,rfl,.inl ⟨rfl,_,aN (by rw [aV j];exact g)⟩,_,rfl,b,_,_,rfl,rfl,by rw [aV j];exact g,nY (by rw [bh];lk),_,_,_,rfl,bQ O (bQ u e),?_,?_⟩
  ·rw [aV M,aM,R,Qh];exact je (λz=>some (HO.lst z)) (am8 _ _)
  ·rw [aM,R,Qh];exact je (λz=>some (HO.lst z)) (am9 _ _)
 ·rintro σ Hc ⟨J,I,p,rfl,e,l,g⟩;w_left;rw [D,gw] at g;exact q b Hc O e g
def K_:Gc Z "depth" 2 ["net"] am_:=by o_head (dz Z.Wc,["net"]);obtain ⟨v,aj,ws,rfl,a,d,g,ok,len,q⟩:=h;refine ⟨_,(aO (bw (acz rfl rfl T.Gu (bH (adg Z) hr.m rfl (ao (pv 0) aq)) aL))),_,rfl,v,aj,ws,rfl,a,d,g,ok,len,λl H1 j c i=>⟨l,_,rfl,aN i,λe=>q 0 H1 c (λ_=>rfl) (λz=>absurd e z),λm b=>q m H1 c (λz=>?_) λ_=>b⟩⟩;rw [z] at b;exact absurd b.1 (by simp)
def Ej:Gc Z "depth_power" 3 ["net"] anf:=by
 o_head (dz Z.Wg,["net","power","level"]);obtain ⟨v,aj,ws,rfl,b,c,k,ok,len,q⟩:=h;refine ⟨_,(aU (bW 1 nd aL)
 (aU (jx jj rfl  (qt rfl T.lD (ao (bH (K_ Z) hr.m rfl (ao (pv 0) aq)) aq)) (fL 2 nd)
 (aO (Tz (i:=1) nd rfl (by k_in) aL apf)))
 (aO (bw (pv 1))))),?_⟩
 refine ⟨_,rfl,v,aj,ws,rfl,b,c,k,ok,len,λm H1 j d g=>?_⟩;have l:=Kv ok d g;have o:=acG ok;refine ⟨m,rfl,by lk, by lk, ?_⟩;refine IK (n:=m.toNat) (λi σ Hc=>∃ a,σ=[some v,some (.int (2 ^ i)),a]/\Hc=H1) ⟨none,rfl,rfl⟩ ?_ ?_
 ·rintro i σ Hc hi ⟨a,rfl,rfl⟩;refine ⟨_,rfl,_,_,rfl,rfl,.inr ⟨by decide,by decide⟩,some (V.int (0+(i:Int))),?_,rfl⟩;rw [Int.pow_succ];rfl
 ·rintro σ Hc ⟨a,rfl,rfl⟩;w_left;have e:(2:Int) ^ m.toNat=whole aj ws:=by unfold whole;rw [Int.natCast_pow,l,kO];rfl
  rw [e];exact q _ j
def Pn:Gc Z "all_on_one" 1 ["wide","lane","number"] ang:=by
 o_head (dz Z.Wh,["wide","lane","number","counts"]);obtain ⟨aj,cC,n,rfl,l,j,i,m,q⟩:=h;refine ⟨_,(aU (bW 3 nd (bD Gd (fB (ao aL aq)) (pv 0)))
 (aU (qO (pv 2) (qN (pv 3) (pv 1) pI))
 (aO (bw (pv 3))))),?_⟩
 refine ⟨aW (by kl_no),λla c=>⟨_,rfl,la,aj,_,rfl,rfl,aM,by lk, by lk, aW (by show 1*aj.toNat<=100000;lk),λb e=>?_⟩⟩;have d:(replicate aj.toNat [V.int 0]).flatten=(replicate aj.toNat (0:Int)).map V.int:=by
  generalize aj.toNat=k;induction k with
  |zero=>rfl
  |succ k g=>rw [ju,vg,g,ju,gj];rfl
 rw [d];have a:H b=none:=(cu c _).free e;refine ⟨_,rfl,_,rfl,_,rfl,b,_,cC,cC.toNat,rfl,rfl,aM,sJ i (by rw [bh,vG];lk),?_⟩;rw [Ko];w_left;refine q b _ a (bQ a (bQ c (cW H))) ?_;rw [aM,zA];rfl
def aoJ:Gc Z "shares" 4 ["net"] ak4:=by
 o_head (dz Z.Wi,["net","power"]);obtain ⟨v,aj,ws,rfl,c,B,D,ok,len,q⟩:=h;obtain ⟨n,t,rs,rfl,C,N,S⟩:=id c;refine ⟨_,(aU (bW 1 nd (bH (Ej Z) hr.m rfl (ao (pv 0) aq)))
 (aO (bw (iD ["lane"] [("net",0),("power",1)] rfl (qt rfl T.lD (ao (b_ (pv 0) aL) aq)) (by k_all) (by k_mem) (by row_wit1 (bH (Gn Z) hr.m rfl (ao (pv 1) (ao (bH (Pn Z) hr.m rfl (ao (uE (Ck K rfl) (pv 1) aL (λ_ _=>rfl)) (ao (pv 0) (ao (pv 2) aq)))) aq)))))))),?_⟩
 refine ⟨_,rfl,.ref n,aj,ws,rfl,c,B,D,ok,len,λH1 u=>⟨_,rfl,n,_,_,_,rfl,rfl,aZ (u _ _ C),rfl,aj,rfl,by lk, by lk, λl L=>?_⟩⟩;have p:H l=none:=u.free L;refine tQ (n:=aj.toNat) (λj ys Hc=>aB H Hc/\Hc l=some (.lst ys)/\fG H Hc l ys ((range j).map (oX aj.toNat (dX aj ws) ws))) ⟨bQ p u,aM,.nil⟩ (aW (by lk)) (λj ys Hc ⟨_,e,r⟩=>⟨e,by have:=r.len;simp at this;lk⟩) ?_ ?_
 ·rintro j ys Hc U ⟨g,i,y⟩;is_list;refine ⟨_,rfl,_,rfl,n,_,_,_,rfl,rfl,aZ (g _ _ C),rfl,_,rfl,_,rfl,aj,0+(j:Int),whole aj ws,rfl,B,D,by lk, by lk, λa O M d J=>⟨.ref n,aj,ws,a,_,rfl,c.kt (λb xs e=>d _ _ (g _ _ e)),ok,by lk, J,I_ _ _ _,λb R z k I=>?_⟩⟩;have o:H b=none:=(aG g d).free z;have x:b≠l:=bF (cV (d _ _ i) z);refine ⟨k _ _ (d _ _ i),bQ p (aG g (aG d k)),aM,?_⟩;rw [ahv];refine y.more (aG d k) ?_ x o;rw [I];show some (HO.lst ((bC (vX aj.toNat ((0:Int)+(j:Int)).toNat (whole aj ws)) ws).map V.int))=_;rw [show ((0:Int)+(j:Int)).toNat=j by lk];rfl
 ·rintro ys Hc ⟨g,i,y⟩;exact q l ys Hc p g i y
def aoK:Gc Z "uneven" 5 ["net"] ak7:=by
 o_head (dz Z.Wj,["net","lane","row","place","share"]);obtain ⟨v,aj,ws,rfl,S,w1,w8,ok,len,q1,q2⟩:=h;refine ⟨_,(aU (jx jj rfl  (Bl rfl T.yI (ao (bH (aoJ Z) hr.m rfl (ao (pv 0) aq)) aq)) (qM rfl (ji (fL 1 nd) (ji (fL 2 nd) qF)))
 (aO (jx jj rfl  (Bl rfl T.yI (ao (pv 2) aq)) (qM rfl (ji (fL 3 nd) (ji (fL 4 nd) qF)))
 (aO (cP (cQ mj (pv 4) (cJ (pv 2) aL))
 (aO (bw (g_ (ao (pv 1) (ao aL (ao (pv 3) aq))))))
 cT)))))
 (aO (bw zP))),?_⟩
 refine ⟨_,rfl,v,aj,ws,rfl,S,w1,w8,ok,len,λl rs H1 fl R xl rows=>?_⟩;have lr:=rows.len;rw [Zy] at lr;have hl:=Zy aj ws;refine ⟨l,rfl,⟨_,aN xl⟩,?_⟩;refine Bm (xs:=rs) (λi σ Hc=>∃ M N b a,σ=[some v,M,N,b,a]/\aB H1 Hc/\∀ j,j<i->Ud (qX (pK aj ws) j)) ⟨none,none,none,none,rfl,cW _,λj hj=>absurd hj (by lk)⟩ (λi σ Hc _ ⟨_,_,_,_,_,u,_⟩=>aN (u _ _ xl)) ?_ ?_
 ·rintro i x T σ Hc o fT ⟨M,N,b,a,rfl,u,B⟩;obtain ⟨r,t,e,rfl,X4,ftr,d⟩:=rows.get o;have hi:i<aj.toNat:=(Zz e).1;have C:=anh e;obtain ⟨_,rfl⟩:=Zz e;have lsh:=ahu aj.toNat (dX aj ws) ws i;refine ⟨T,_,rfl,aZ aM,rfl,?_⟩;have O:aB H1 (upd Hc T (HO.tup [V.int i,V.ref t])):=aG u (cu fT _);generalize upd Hc T (HO.tup [V.int i,V.ref t])=H2 at O;refine ⟨_,_,rfl,_,_,rfl,rfl,?_⟩;have W:=O _ _ d;refine ⟨_,rfl,t,rfl,⟨_,aN W⟩,?_⟩;refine Bm (xs:=(oX aj.toNat (dX aj ws) ws i).map V.int) (λk σ n=>∃ b a,σ=[some v,some (.int i),some (.ref t),b,a]/\aB H1 n/\∀ x,x<k->(oX aj.toNat (dX aj ws) ws i).getD x 0=(oX aj.toNat (dX aj ws) ws i).getD 0 0) ⟨b,a,rfl,O,λx o=>absurd o (by lk)⟩ (λk σ n _ ⟨_,_,_,q,_⟩=>aN (q _ _ d)) ?_ ?_
  ·rintro k x L σ n Y J ⟨b,a,rfl,q,y⟩;obtain ⟨z,U,rfl⟩:=u5 Y;have kl:k<aj.toNat:=by have:=(dY.mp U).1;lk
   refine ⟨L,_,rfl,aZ aM,rfl,?_⟩;have p:aB H1 (upd n L (HO.tup [V.int k,V.int z])):=aG q (cu J _);generalize upd n L (HO.tup [V.int k,V.int z])=H3 at p;refine ⟨_,_,rfl,_,_,rfl,rfl,_,rfl,_,rfl,t,_,_,_,rfl,rfl,aN (p _ _ d),lY (i:=0) (by decide) (by lk),rfl,_,rfl,pB (λg=>?_) (λg=>?_)⟩
   ·have D:z≠(oX aj.toNat (dX aj ws) ws i).getD 0 0:=λc=>by rw [c] at g;simp at g
    refine ⟨_,rfl,_,rfl,aW (by kl_no),λT4 f4=>?_⟩;have I:H T4=none:=(aG R p).free f4;refine q2 T4 i k _ I (aG R (aG p (cu f4 _))) aM ⟨by lk, B,?_,?_,?_⟩
    ·rw [C];lk
    ·rw [C,Cp U];exact D
    ·rw [C];exact y
   ·have D:z=(oX aj.toNat (dX aj ws) ws i).getD 0 0:=by
     by_cases c:z=(oX aj.toNat (dX aj ws) ws i).getD 0 0
     ·exact c
     ·exact absurd (by simp;exact c) g
    refine ⟨_,_,rfl,p,λx o=>?_⟩;by_cases c:x<k
    ·exact y x c
    ·have:x=k:=by lk
     rw [this,Cp U];exact D
  ·rintro σ n ⟨b,a,rfl,q,y⟩;refine ⟨_,_,_,_,rfl,q,λj hj=>?_⟩;by_cases c:j<i
   ·exact B j c
   ·have:j=i:=by lk
    subst this;rw [C];intro x o;exact y x (by rw [bh];exact o)
 ·rintro σ Hc ⟨M,N,b,a,rfl,u,B⟩;refine q1 Hc (aG R u) λi hi=>B i (by lk)
def ags:Gc Z "longer_rows" 1 ["rows","numbers"] alv:=by
 o_head (dz Z.Wm,["rows","numbers","found","row","number"]);obtain ⟨a,b,rs,M,ns,rfl,ha,rows,R,N,hnl,C,q⟩:=h;have lr:=rows.len;refine ⟨_,(aU (bW 2 nd (fB aq))
 (aU (jx jj rfl  (jZ (pv 0)) (fL 3 nd)
 (aO (jx jj rfl  (jZ (pv 1)) (fL 4 nd)
 (aO (kI (iV oN vo vp tV (pv 2) (ao (bD vK (pv 3) (fB (ao (pv 4) aq))) aq)))))))
 (aO (bw (pv 2))))),?_⟩
 refine ⟨aW (by kl_no),λl W=>⟨_,rfl,a,rfl,⟨_,aN (by walk_at "hh")⟩,?_⟩⟩;refine uY (xs:=rs) (λi σ Hc=>∃ I d ys,σ=[some (.ref a),some (.ref b),some (.ref l),I,d]/\aB H Hc/\Hc l=some (.lst ys)/\fG H Hc l ys (sU (M.take i) ns)) ⟨none,none,[],rfl,by walk_at "sm",aM,.nil⟩ (λi σ Hc _ ⟨_,_,_,_,o,_⟩=>aN (o _ _ ha)) ?_ ?_
 ·rintro i x σ Hc hx ⟨I,d,ys,rfl,o,B,y⟩;obtain ⟨r,S,g,rfl,D⟩:=rows.get hx;have il:i<M.length:=(dY.mp g).1;have rl:=C r (fj g);refine ⟨_,rfl,b,rfl,⟨_,aN (o _ _ R)⟩,?_⟩;refine uY (xs:=ns.map V.int) (λj σ c=>∃ d ys,σ=[some (.ref a),some (.ref b),some (.ref l),some (.ref S),d]/\aB H c/\c l=some (.lst ys)/\fG H c l ys (sU (M.take i) ns++(ns.take j).map λn=>r++[n])) ⟨d,ys,rfl,o,B,by simpa using y⟩ (λj σ c _ ⟨_,_,_,e,_⟩=>aN (e _ _ R)) ?_ ?_
  ·rintro j x σ c L ⟨d,ys,rfl,e,t,k⟩;obtain ⟨z,Y,rfl⟩:=u5 L;have jl:j<ns.length:=(dY.mp Y).1;have ly:=k.len;rw [dJ,Ql,bh,gW,gW,tY (by lk),tY (by lk)] at ly;have hm:(i+1)*ns.length<=M.length*ns.length:=ab5 _ (by lk);rw [Ru] at hm;refine ⟨_,rfl,.inl ⟨rfl,_,aN t⟩,_,rfl,_,rfl,aW (by kl_no),λv J=>⟨S,v,_,_,rfl,rfl,(cu J _) _ _ (e _ _ D),aM,aW (by rw [bh];show r.length+1<=100000;lk),λm O=>?_⟩⟩;have u:aB c (upd (upd c v (HO.lst [V.int z])) m (HO.lst (r.map V.int++[V.int z]))):=aG (cu J _) (cu O _);have U:(upd (upd c v (HO.lst [V.int z])) m (HO.lst (r.map V.int++[V.int z]))) m=some (.lst ((r++[z]).map V.int)):=by rw [aM,cX];rfl
   have p:c m=none:=(cu J _).free O;generalize upd (upd c v (HO.lst [V.int z])) m (HO.lst (r.map V.int++[V.int z]))=H2 at u U;refine ⟨l,_,_,rfl,rfl,u _ _ t,nY (by lk),_,ys++[.ref m],rfl,bQ W (aG e u),aM,?_⟩;rw [gb Y,cX,<-vh];exact k.more u U (bF (cV t p)) (e.free p)
  ·rintro σ c ⟨d,ys,rfl,e,t,k⟩;refine ⟨_,_,ys,rfl,e,t,?_⟩;rw [bh,gw] at k;rw [gb g];unfold sU at k ⊢;rw [List.flatMap_append];simpa using k
 ·rintro σ Hc ⟨I,d,ys,rfl,o,B,y⟩;rw [lr,gw] at y;exact ⟨_,rfl,q l ys Hc W o B y⟩
def abO:Gc Z "rows_of" 2 ["choices"] alw:=by
 o_head (dz Z.Wn,["choices","rows","numbers"]);obtain ⟨a,cs,C,rfl,W,rows,R,e,k,q⟩:=h;have lr:=rows.len;refine ⟨_,(aU (bW 1 nd (fB (ao (fB aq) aq)))
 (aU (jx jj rfl  (jZ (pv 0)) (fL 2 nd)
 (aO (bW 1 nd (bH (ags Z) hr.m rfl (ao (pv 1) (ao (pv 2) aq))))))
 (aO (bw (pv 1))))),?_⟩
 refine ⟨aW (by kl_no),λB f0=>⟨aW (by kl_no),λp L=>?_⟩⟩;have d:B≠p:=cV aM L;have D:H p=none:=(cu f0 _).free L;refine ⟨_,rfl,a,rfl,⟨_,aN (by walk_at "hh")⟩,?_⟩;refine uY (xs:=cs) (λi σ Hc=>∃ l n ys,σ=[some (.ref a),some (.ref l),n]/\aB H Hc/\H l=none/\Hc l=some (.lst ys)/\fG H Hc l ys (j5 (C.take i))) ⟨p,none,[.ref B],rfl,by walk_at "sm",D,aM,.cons ⟨B,rfl,d,f0,(aV d).trans aM⟩ .nil⟩ (λi σ Hc _ ⟨_,_,_,_,c,_⟩=>aN (c _ _ W)) ?_ ?_
 ·rintro i x σ Hc hx ⟨l,n,ys,rfl,c,J,j,g⟩;obtain ⟨r,O,b,rfl,y⟩:=rows.get hx;have il:i<C.length:=(dY.mp b).1;have I:=e (i+1) (by lk);rw [gb b,Iv,Ql] at I;refine ⟨_,rfl,_,rfl,l,O,ys,j5 (C.take i),r,rfl,j,g.rows,c _ _ y,I,k r (fj b),λu M=>?_,λl' v H' S s' o z=>?_⟩
  ·have:=((Jb (C.take i) u).mp M).1;rw [gW] at this;lk
  refine ⟨l',_,v,rfl,aG c s',c.free S,o,?_⟩;rw [gb b,Iv];exact vO z λr x ⟨t,Y,N,U,V⟩=>⟨t,Y,N,c.free U,V⟩
 ·rintro σ Hc ⟨l,n,ys,rfl,c,J,j,g⟩;rw [lr,gw] at g;exact ⟨_,rfl,q l ys Hc J c j g⟩
def Zv:Gc Z "first_layer" 2 ["net"] anE:=by
 refine dz Z.Wo λf fd F=>?_;have T:=Z.T;refine F.fn.ok afB (λvs H Q E h=>?_) (λcdv A outer s H vs Q E hr h=>?_)
 ·obtain ⟨v,aj,ws,rfl,_⟩:=h;rfl
 ·obtain ⟨v,aj,ws,rfl,j,S,w8,ok,len,q⟩:=h;obtain ⟨n,t,rs,rfl,hn,M,R⟩:=id j;have B:=R.len;have ll:(cj aj ws).2.length=ws.length:=(Jk aj ws).2;refine ⟨_,(aO (bw (iD ["wicket","layer"] [] rfl (QJ rfl T.Lg (ao (b_ (pv 0) aL) (ao (bH (adg Z) hr.m rfl (ao (pv 0) aq)) aq))) (by w_tab) (by row_wit1 (Cj (cQ iU (pv 1) aL))) (by row_wit1 (pv 0))))),_,rfl,n,_,_,_,rfl,rfl,aZ hn,rfl,_,rfl,.ref n,aj,ws,rfl,j,S,w8,ok,len,λY H1 U g e=>⟨t,Y,rfl,⟨_,aZ (g _ _ M)⟩,⟨_,aN e⟩,λl u=>?_⟩⟩;have fl:H l=none:=g.free u;refine abl (xs:=rs) (ys':=(cj aj ws).2.map V.int) (by rw [bh];lk) (λi ys Hc=>aB H1 Hc/\Hc l=some (.lst ys)/\ys.length<=i/\dM Hc ys (gK (ws.take i) ((cj aj ws).2.take i))) ⟨bQ u (cW H1),aM,fQ _,by simp [gK];exact .nil⟩ (aW (by lk)) (λi ys Hc hi ⟨a,k,D,d⟩=>⟨aZ (a _ _ (g _ _ M)),aN (a _ _ e),k,D⟩) ?_ ?_
  ·rintro i x y TT ys Hc hx N I ⟨a,k,D,d⟩;obtain ⟨w0,O,C,rfl,r⟩:=R.get hx;rw [jP] at N;obtain ⟨W,p,rfl⟩:=ab2.mp N;km_lay I L I b x3;have o:=aik C p;refine ⟨TT,_,rfl,aZ x3,rfl,_,_,rfl,_,_,rfl,rfl,⟨.inl rfl,.inl rfl,trivial⟩,?_⟩;have z:=b _ _ k;sr_in;by_cases c:W=1
   ·refine cL (by simp [c]) ?_;rw [aQ c] at o;refine ⟨_,rfl,z,bQ u (aG a b),aM,by rw [dJ];simp;lk, ?_⟩;rw [o];have J:KT L (upd L l (HO.lst (ys++[V.ref O]))):=lN z (bY _);exact ((d.same b).kt J).app (.cons ⟨O,rfl,J _ _ (b _ _ (a _ _ (g _ _ r)))⟩ .nil)
   ·refine bR (by simp [c]) ?_;rw [aK c,nO] at o;refine ⟨aG a b,z,by lk, ?_⟩;rw [o];exact d.same b
  ·rintro ys Hc ⟨a,k,D,d⟩;rw [B,gw,<-ll,gw] at d;exact q l Hc fl (aG g a) ⟨ys,k,d⟩
def Y_:Ge Z "common_trials" 4 ["one","other"] (alG eA.many):=by
 refine wD Z.Wq λf fd F=>?_;have T:=Z.T;refine F.fn.Vt Ig (λvs H Q E h=>?_) (λcdv A outer s H vs Q E hr h=>?_)
 ·obtain ⟨J,I,a,b,us,ws,rfl,_⟩:=h;rfl
 ·obtain ⟨J,I,a,b,us,ws,rfl,mY,yr,a1,a8,b1,b8,g,v,D,l2,qE,qQ⟩:=h;refine ⟨_,(aU (bW 2 Ig.nd (qx (cQ vQ (bH (K_ Z) hr.m rfl (ao (pv 0) aq)) (bH (K_ Z) hr.m rfl (ao (pv 1) aq))) (pv 0) (pv 1)))
  (aU (bW 3 Ig.nd (iD ["wicket"] [("other",1)] rfl (jZ (bH (Zv Z) hr.m rfl (ao (pv 0) aq))) (by k_all) (by row_wit1 (Cj (zy (apn hr.anB) (pv 0) (bH (Zv Z) hr.m rfl (ao (pv 1) aq)) (by with_unfolding_all rfl)))) (by row_wit1 (uE (Ck K rfl) (pv 0) aL (λ_ _=>rfl)))))
  (aU (cP (cQ vQ (bD pP (bH (K_ Z) hr.m rfl (ao (pv 2) aq)) (bD qP (b_ (pv 0) aL) (j6 T (pv 3)))) (Cq rfl Z.Ol))
  (aO (Bp Z.Ea.Qq rfl Z.Ea.Iw (ao bN aq)))
  cT)
  (aU (bW 4 Ig.nd (iy (Zn rfl) rfl T.zR Bf (ao (iy Qm rfl T.lD Ip (ao (bH (Ej Z) hr.m rfl (ao (pv 2) aq)) aq)) aq)))
  (aO (bw (bH (abO Z) hr.m rfl (ao (iD ["lane"] [("numbers",4),("seconds",3)] rfl (qt rfl T.lD (ao (b_ (pv 0) aL) aq)) (by k_all) (by k_mem) (by row_wit1 (qx (zy (ahp K rfl) (pv 0) (pv 2) (by with_unfolding_all rfl)) (fB (ao aL aq)) (pv 1)))) aq)))))))),?_⟩
  refine t_ (a:=qW _ _) λN hN=>?_;have go:∀ (L:V) (j:Int) (p:aP) (H2:Hp),aB H H2->eX H2 L j p->1<=j->j<=8->bJ j p->p.length<=41->dX j p=nZ a us b ws->N [some J,some I,some L,none,none] H2:=λL j p H2 lC W d1 d8 y ld ed=>hN _ _ (by
   refine t_ (a:=qW _ _) λN2 hN2=>?_;have goB:∀ (l:Addr) (B:Hp),H l=none->aB H2 B->B l=some (.lst ((gZ a us b ws).map V.int))->N2 [some J,some I,some L,some (.ref l),none] B:=λls B fl tG x3=>hN2 _ _ (by
    have nj:=aG lC tG;obtain ⟨n1,t1,rs1,Hv,O,ht1,hr1⟩:=mY.kt (cG nj (bY _));refine ⟨_,rfl,L,j,p,rfl,W.kt (cG tG (bY _)),d1,d8,y,ld,λm H4 C m0 m1=>?_⟩;have em:=Kv y m0 m1;rw [ed] at em;have tH:=aG nj C;have MN:=acL (b:=b) (ws:=ws) g a1;have md:nZ a us b ws<=41:=by rw [<-ed];exact gU (acG y) ld
    refine ⟨_,rfl,n1,_,_,_,Hv,rfl,aZ (C _ _ O),rfl,_,rfl,ls,_,rfl,.inl (aN (C _ _ x3)),_,_,rfl,rfl,_,_,rfl,rfl,.inl ⟨by lk, by lk⟩,_,_,rfl,rfl,_,rfl,?_⟩;rw [bh,em];by_cases c:10<((nZ a us b ws:Nat):Int)*(a-((gZ a us b ws).length:Int))
    ·exact cL (fO c) ⟨by show 1<=1000;decide,qE c _ tH⟩
    ·refine bR (by simpa using c) ?_;have c':((nZ a us b ws:Nat):Int)*(a-((gZ a us b ws).length:Int))<=10:=by lk
     obtain ⟨d10,rb⟩:=ahI (b:=b) (ws:=ws) g c' a1;have Hr:2 ^ nZ a us b ws<=1024:=gU (J1 (by decide) d10) (by decide);have wh:whole j p=((2 ^ nZ a us b ws:Nat):Int):=by unfold whole;rw [ed]
     have wb:0<=whole j p/\whole j p<=1024:=by rw [wh];exact ⟨Int.natCast_nonneg _,by exact_mod_cast Hr⟩
     refine ⟨_,rfl,L,j,p,rfl,W.kt (cG (aG tG C) (bY _)),d1,d8,y,ld,λH5 s5=>?_⟩;have uW:=aG tH s5;refine ⟨_,rfl,λr6 f6=>?_⟩;km_lay f6 H6 f6 s6 x6;refine ⟨r6,0,whole j p,rfl,x6,by lk, by lk, by lk, by lk, by lk, λl7 f7=>?_⟩;rw [wh,arM];km_lay f7 H7 f7 s7 x7;have s07:=aG uW (aG s6 s7);have U:aB B H7:=aG C (aG s5 (aG s6 s7));refine ⟨_,rfl,n1,_,_,_,Hv,rfl,aZ (U _ _ O),rfl,a,rfl,by lk, by lk, λY fc=>?_⟩;refine tQ (n:=a.toNat) (λi ys Hc=>aB H7 Hc/\Hc Y=some (.lst ys)/\ys.length<=i/\fG H6 Hc Y ys (mC i (gZ a us b ws) (nZ a us b ws))) ⟨bQ fc (cW H7),aM,fQ _,.nil⟩ (aW (by lk)) (λi ys Hc ⟨_,e,l,_⟩=>⟨e,l⟩) ?_ ?_
     ·rintro i ys Hc hi ⟨d,o,ly,q⟩;is_list;refine ⟨_,rfl,_,rfl,ls,_,rfl,.inl (aN (d _ _ (U _ _ x3))),rfl,?_,_,rfl,?_⟩
      ·simp [uF]
      show if lM (.int (0+(i:Int))) ((gZ a us b ws).map V.int)=true then _ else _
      rw [aoD,rO,abo];by_cases ci:(i:Int)∈gZ a us b ws
      ·refine cL (fO ci) ?_;rw [aQ ci];refine ⟨aW (by kl_no),λl8 f8=>?_⟩;km_lay f8 H8 f8 s8 x8;have e8:=s8 _ _ o;have n8:l8≠Y:=λz=>by subst z;rw [o] at f8;cases f8
       exact ⟨e8,bQ fc (aG d s8),aM,by rw [dJ];simp;lk, (q.more s8 (w:=[0]) x8 n8 (aB.free (aG s7 d) f8))⟩
      ·refine bR (by simpa using ci) ?_;rw [aK ci];have n7:l7≠Y:=λz=>by subst z;rw [x7] at fc;cases fc
       exact ⟨_,rfl,o,bQ fc d,aM,by rw [dJ];simp;lk, (q.more (cW _) (d _ _ x7) n7 f7)⟩
     ·rintro ys Hc ⟨d,o,ly,q⟩;refine ⟨Y,ys,_,rfl,o,q.rows,by simp [mC];lk, λi hi=>?_,λr S=>?_,λl9 rs9 H9 f9 s9 x9 rn9=>?_⟩
      ·have R:i<=a.toNat:=by simpa [mC] using hi
       rw [alD _ _ _ _ R];exact gU (rb i R) (by decide)
      ·unfold mC at S;obtain ⟨k,_,rfl⟩:=fW.mp S;by_cases ck:(k:Int)∈gZ a us b ws
       ·rw [aQ ck];simp
       ·rw [aK ck,bh,BX];lk
      ·have ql:=aG s07 d;exact qQ c' l9 rs9 H9 (ql.free f9) (aG ql s9) x9 (aar (λt h=>ql.free h) rn9))
   refine ⟨_,rfl,J,a,us,rfl,mY.kt (cG lC (bY _)),a1,a8,g,D,λlf B ff s3 ⟨rf,xf,M⟩=>?_⟩;have nj:=aG lC s3;have lrf:=M.len;refine ⟨lf,rfl,⟨_,aN xf⟩,λl hl=>?_⟩;have fl:H l=none:=nj.free hl;have lfl:=ail us (cj a us).2;refine rD (xs:=rf) (λi ys Hc=>aB B Hc/\Hc l=some (.lst ys)/\ys.length<=i/\ys=((((gK us (cj a us).2).take i).filter λw=>decide (w∈gK ws (cj b ws).2)).map (·.2)).map V.int) ⟨bQ hl (cW B),aM,fQ _,rfl⟩ (aW (by lk)) (λi ys Hc hi ⟨d,o,D,_⟩=>⟨aN (d _ _ xf),o,D⟩) ?_ ?_
   ·rintro i x ys Hc hx ⟨d,o,D,q⟩;obtain ⟨w0,t0,hw0,rfl,ht0⟩:=M.get hx;refine ⟨⟨.inl rfl,.inr rfl,trivial⟩,_,rfl,_,rfl,I,b,ws,rfl,yr.kt (cG (aG nj d) (bY _)),b1,b8,v,l2,λlg H4 fg C ⟨rg,xg,Nk⟩=>?_⟩;have Np:=aG d C;have e4:=C _ _ o;have tk:(gK us (cj a us).2).take (i+1)=(gK us (cj a us).2).take i++[w0]:=gb hw0;refine ⟨_,_,.tup (Np _ _ ht0) (.cons (.int _) (.cons (.int _) .nil)),.lst xg (aaJ Nk),ahH w0,aga _,anC w0 _,_,rfl,?_⟩;by_cases c:w0∈gK ws (cj b ws).2
    ·refine cL (fO ((Pa _ _).mpr c)) ⟨_,rfl,t0,_,_,_,rfl,rfl,aZ (Np _ _ ht0),rfl,e4,bQ hl Np,aM,by rw [dJ];simp;lk, ?_⟩;rw [tk,zq,cX,cX,q];simp [c]
    ·refine bR (by rw [rR];exact λz=>c ((Pa _ _).mp z)) ⟨Np,e4,by lk, ?_⟩;rw [tk,zq,cX,cX,q];simp [c]
   ·rintro ys Hc ⟨d,o,D,q⟩;rw [lrf,gw] at q;subst q;exact goB l Hc fl (aG s3 d) o)
  refine ⟨_,rfl,J,a,us,rfl,mY,a1,a8,g,D,λm1 H1 s1 m10 m11=>?_⟩;have em1:=Kv g m10 m11;refine ⟨_,rfl,I,b,ws,rfl,yr.kt (cG s1 (bY _)),b1,b8,v,l2,λm2 H2 s2 m20 m21=>?_⟩;have em2:=Kv v m20 m21;have u:=aG s1 s2;refine ⟨_,_,rfl,rfl,_,rfl,?_⟩;by_cases c:dX b ws<dX a us
  ·refine cL (fO (by lk)) ?_;w_left;exact go J a us H2 u (mY.kt (cG u (bY _))) a1 a8 g D (by unfold nZ;rw [aQ c])
  ·refine bR (by simp;lk) ?_;w_left;exact go I b ws H2 u (yr.kt (cG u (bY _))) b1 b8 v l2 (by unfold nZ;rw [aK c])
def aoL:Ge Z "trials" 5 ["net"] (alH eA.many):=by
 o_head (wD Z.Wr,["net"],0);obtain ⟨v,aj,ws,rfl,a,d,e,ok,len,i,g⟩:=h;refine ⟨_,(aO (bw (nG (Y_ Z) hr.m rfl (ao (pv 0) (ao (pv 0) aq))))),_,rfl,_,rfl,v,v,aj,aj,ws,ws,rfl,a,a,d,e,d,e,ok,ok,len,len,?_,?_⟩
 ·rw [Qp,Qo];exact λc H' s'=>i c H' s'
 ·rw [alB,Qp,Qo];exact λc l b H' j s' x r=>g (λz=>absurd c (by unfold Ug at z;lk)) l b H' j s' x r
def adV:Gc Z "falls" 1 ["values"] anz:=by
 o_head (dz Z.Ws,["values","ahead","value"]);obtain ⟨c,cs,rfl,v,J,q⟩:=h;refine ⟨_,(aU (jx jj rfl  (anb rfl T.Lg (ao (pv 0) (ao (wV Ci (pv 0) (xO aL) xM) aq))) (qM rfl (ji (fL 1 nd) (ji (fL 2 nd) qF)))
 (aO (cP (cQ vQ (pv 2) (pv 1))
 (aO (bw pU))
 cT)))
 (aO (bw pU))),?_⟩
 refine ⟨_,rfl,_,rfl,_,rfl,c,_,rfl,aN v,λp fp=>?_⟩;rw [arw];km_lay fp H1 fp l o;have b:=l _ _ v;refine ⟨c,p,rfl,⟨_,aN b⟩,⟨_,aN o⟩,?_⟩;refine ak8 (xs:=cs.map V.int) (ys:=(cs.map V.int).drop 1) (n:=cs.length-1) (by rw [bh];lk) (by rw [xW,bh];lk) (.inr (by rw [xW,bh])) (λi σ Hc=>∃ d k,σ=[some (.ref c),d,k]/\aB H1 Hc/\∀ j,j<i->cs.getD (j+1) 0<=cs.getD j 0) ⟨none,none,rfl,cW _,λj C=>absurd C (by lk)⟩ (λi σ Hc _ ⟨_,_,_,a,_⟩=>⟨aN (a _ _ b),aN (a _ _ o)⟩) ?_ ?_
 ·rintro i x y T σ Hc hi I t D ⟨d,k,rfl,a,e⟩;obtain ⟨z,B,rfl⟩:=u5 I;rw [List.getElem?_drop,Rh] at t;obtain ⟨u,m,rfl⟩:=u5 t;refine ⟨T,_,rfl,aZ aM,rfl,_,_,rfl,_,_,rfl,rfl,?_⟩;have r:aB H1 (upd Hc T (HO.tup [V.int z,V.int u])):=aG a (cu D _);refine ⟨_,rfl,_,rfl,_,_,rfl,rfl,_,rfl,pB (λg=>?_) (λg=>?_)⟩
  ·have g':z<u:=jH g;refine q false _ (aG l r) ⟨(λh=>nomatch h),λh=>?_⟩;have:=h i (by lk);rw [Cp B,Cp m] at this;lk
  ·have g':¬ z<u:=acA g;refine ⟨_,_,rfl,r,λj C=>?_⟩;by_cases c:j<i
   ·exact e j c
   ·have:j=i:=by lk
    subst this;rw [Cp B,Cp m];lk
 ·rintro σ Hc ⟨d,k,rfl,a,e⟩;exact q true Hc (aG l a) ⟨λ_ i hi=>e i (by lk),λ_=>rfl⟩
def akv:Gc Z "is_level" 2 ["counts"] anA:=by
 o_head (dz Z.Wu,["counts"]);obtain ⟨c,cs,rfl,j,pos,g,q⟩:=h;refine ⟨_,(aO (bw (vI (bH (adV Z) hr.m rfl (ao (pv 0) aq)) (uo (adY (ani (pv 0)) (uo (vN uD (bD qP (cJ (pv 0) aL) (cJ (pv 0) (adZ adt aL))) aL))))))),_,rfl,c,cs,rfl,j,g,λb H1 d k=>?_⟩;have a:=d _ _ j;refine ⟨b,rfl,?_⟩;cases b with
 |false =>refine bR (by decide) (q false H1 d ⟨(λh=>nomatch h),λh=>?_⟩);exact k.mpr ((O_ pos).mp h).1
 |true =>
  have l:=k.mp rfl;refine cL rfl ⟨_,rfl,true,.inl ⟨_,aN a,?_⟩,_,rfl,bR (by decide) ?_⟩
  ·cases cs with
   |nil=>simp at pos
   |cons _ _=>rfl
  have e:(cs.map V.int)[(cs.map V.int).length-1]?=some (.int (cs.getD (cs.length-1) 0)):=by rw [bh,jP,FJ (show cs.length-1<cs.length by lk)];rfl
  refine ⟨_,rfl,c,_,_,_,rfl,rfl,aN a,lY (i:=0) (by decide) (by lk),_,rfl,_,rfl,c,_,_,_,rfl,rfl,aN a,ak6 e,_,_,rfl,rfl,_,_,rfl,rfl,q _ H1 d ?_⟩;rw [Fl,O_ pos];exact ⟨λh=>⟨l,h⟩,λh=>h.2⟩
def aoM:Ge Z "levels" 6 ["net"] (aow eA.many):=by
 o_head (wD Z.Wv,["net","unlike","counts"],0);obtain ⟨v,aj,ws,rfl,⟨a,n,q,ok,len⟩,O,I,N,R⟩:=h;refine ⟨_,(aU (bW 1 nd (bH (aoK Z) hr.m rfl (ao (pv 0) aq)))
 (aU (cP (cQ acr (pv 1) zP)
 (aO (bw (g_ (ao bN (ao (bH (Pn Z) hr.m rfl (ao (b_ (pv 0) aL) (ao (b_ (pv 1) aL) (ao (bD pP aL (bH (Ej Z) hr.m rfl (ao (pv 0) aq))) aq)))) aq)))))
 cT)
 (aU (jx PassesOwn.leaving rfl  (jZ (nG (aoL Z) hr.m rfl (ao (pv 0) aq))) (fL 2 nd)
 (aO (cP (j4 (lG (bH (akv Z) hr.m rfl (ao (bH (Gn Z) hr.m rfl (ao (pv 0) (ao (pv 2) aq))) aq))))
 (aO (bw (g_ (ao bN (ao (pv 2) aq)))))
 cT)))
 (aO (bw (g_ (ao bN aq))))))),?_⟩
 refine ⟨_,rfl,v,aj,ws,rfl,a,n,q,ok,len,λH1 c ev=>?_,λT1 i k H1 fT c x1 un=>absurd un (I i k)⟩;have U:=a.kt (cG c (bY _));refine ⟨_,rfl,rfl,_,rfl,bR (by decide) ⟨_,rfl,v,aj,ws,rfl,U,n,q,ok,len,λ_ H2 e=>R H2 (aG c e),λ_ l j H2 fl e u V=>?_⟩⟩;have t:=aG c e;refine ⟨l,rfl,⟨_,aN u⟩,?_⟩;refine uY (xs:=j) (λi σ Hc=>∃ d,σ=[some v,some .non,d]/\aB H2 Hc) ⟨none,rfl,cW _⟩ (λi σ Hc _ ⟨_,_,b⟩=>aN (b _ _ u)) ?_ ?_
 ·rintro i x σ Hc W ⟨d,rfl,b⟩;obtain ⟨r,D,g,rfl,n0,g0,z⟩:=V.get W;have p:r.length=aj.toNat:=by rw [((Jb _ r).mp (fj g)).1,af']
  refine ⟨_,rfl,_,rfl,v,aj,ws,D,r,rfl,a.kt (cG (aG t b) (bY _)),ok,by lk, b _ _ z,p,λla H3 fa B Y=>⟨la,_,rfl,Y,by rw [jE];lk, by rw [jE];lk, λJ H4 M C=>?_⟩⟩;have S:J=true:=C.mpr (O r p);subst S;exact ⟨_,rfl,bR (by decide) ⟨_,rfl,aG b (aG B M)⟩⟩
 ·rintro σ Hc ⟨d,rfl,b⟩;refine ⟨aW (by kl_no),λL y=>?_⟩;have o:=aG t b;exact N L _ (o.free y) (aG o (cu y _)) aM
def af2:Gc Z "put_in_order" 1 ["net","values"] aqs:=by
 o_head (dz Z.Ww,["net","values","now","first","second","greater","lesser"]);obtain ⟨v,aj,ws,c,cs,rfl,⟨n,t,rs,rfl,N,z,y⟩,ok,len,C,J,q⟩:=h;have k:=y.len;refine ⟨_,(aU (bW 2 nd (iy Ik rfl T.zR Bf (ao (pv 1) aq)))
 (aU (jx jj rfl  (vJ (b_ (pv 0) aL)) (qM rfl (ji (fL 3 nd) (ji (fL 4 nd) qF)))
 (aU (bW 5 nd (jM (P_ rfl) rfl T.Gu JF (ao (cJ (pv 2) (pv 3)) (ao (cJ (pv 2) (pv 4)) aq))))
 (aU (bW 6 nd (jM (aiC rfl) rfl T.aqk PyProof.Rows.boot_min (ao (cJ (pv 2) (pv 3)) (ao (cJ (pv 2) (pv 4)) aq))))
 (aU (qO (pv 5) (qN (pv 2) (pv 3) pI))
 (aO (qO (pv 6) (qN (pv 2) (pv 4) pI)))))))
 (aO (bw (pv 2))))),?_⟩
 refine ⟨_,rfl,c,_,rfl,.inl (aN C),λa u=>⟨_,rfl,n,_,_,_,rfl,rfl,aZ (by walk_at "hh"),by rfl,t,rfl,⟨rs,aZ (by walk_at "hh")⟩,?_⟩⟩;refine acn (xs:=rs) (λi σ Hc=>∃ o l g m,σ=[some (.ref n),some (.ref c),some (.ref a),o,l,g,m]/\aB H Hc/\Hc a=some (.lst ((qY cs (ws.take i)).map V.int))) ⟨none,none,none,none,rfl,by walk_at "sm",aM⟩ (λi σ Hc _ ⟨_,_,_,_,_,d,_⟩=>aZ (d _ _ z)) ?_ ?_
 ·rintro i x σ Hc I ⟨o,l,g,m,rfl,d,b⟩;obtain ⟨w0,D,e,rfl,j⟩:=y.get I;obtain ⟨p,O,r,L,M⟩:=bJ.mem ok e;have B:=abm (ws.take i) cs;refine ⟨D,_,rfl,aZ (d _ _ j),rfl,_,_,rfl,_,_,rfl,rfl,_,rfl,_,rfl,a,_,_,_,rfl,rfl,aN b,lY p (by lk),_,rfl,_,rfl,a,_,_,_,rfl,rfl,aN b,lY r (by lk),_,_,rfl,_,rfl,_,rfl,a,_,_,_,rfl,rfl,aN b,lY p (by lk),_,rfl,_,rfl,a,_,_,_,rfl,rfl,aN b,lY r (by lk),_,_,rfl,_,rfl,_,rfl,_,rfl,a,_,w0.1,w0.1.toNat,rfl,rfl,b,sJ p (by rw [bh];lk),_,rfl,_,rfl,_,rfl,a,_,w0.2,w0.2.toNat,rfl,rfl,aM,sJ r (by rw [fV,bh];lk),?_⟩;rw [Ko];refine ⟨_,_,_,_,rfl,bQ u d,?_⟩;rw [aM,gb e,ai9,Qg,zA,zA];rfl
 ·rintro σ Hc ⟨o,l,g,m,rfl,d,b⟩;rw [k,gw] at b;exact ⟨_,rfl,q a Hc u d b⟩
def aoN:Gc Z "orders" 3 ["net"] alx:=by
 o_head (dz Z.Wx,["net","bits"]);obtain ⟨v,aj,ws,rfl,p,w1,w8,ok,len,q1,q2⟩:=h;obtain ⟨n,t,rs,rfl,hn,ht,cR⟩:=id p;refine ⟨_,(aU (jx jj rfl  (jZ (bH (abO Z) hr.m rfl (ao (bD Gd (fB (ao (fB (ao aL (ao aL aq))) aq)) (b_ (pv 0) aL)) aq))) (fL 1 nd)
 (aO (cP (j4 (lG (bH (adV Z) hr.m rfl (ao (bH (af2 Z) hr.m rfl (ao (pv 0) (ao (pv 1) aq))) aq))))
 (aO (bw (g_ (ao bN (ao (pv 1) aq)))))
 cT)))
 (aO (bw (g_ (ao bN aq))))),?_⟩
 refine ⟨aW (by kl_no),λa f0=>⟨aW (by kl_no),λD f1=>⟨_,rfl,n,_,_,_,rfl,rfl,aZ (by walk_at "hh"),by rfl,D,aj,_,rfl,rfl,aM,by lk, by lk, aW (by show 1*aj.toNat<=100000;lk),λe f2=>?_⟩⟩⟩;have er:(replicate aj.toNat [V.ref a]).flatten=replicate aj.toNat (V.ref a):=by
  generalize aj.toNat=k;induction k with
  |zero=>rfl
  |succ k U=>rw [ju,vg,U,ju];rfl
 rw [er];have x0:(upd (upd (upd H a (HO.lst [V.int 0,V.int 1])) D (HO.lst [V.ref a])) e (HO.lst (replicate aj.toNat (V.ref a)))) a=some (.lst (([0,1]:aF).map V.int)):=by show _=some (HO.lst [V.int 0,V.int 1]);walk_at "hh"
 have x2:(upd (upd (upd H a (HO.lst [V.int 0,V.int 1])) D (HO.lst [V.ref a])) e (HO.lst (replicate aj.toNat (V.ref a)))) e=some (.lst (replicate aj.toNat (V.ref a))):=aM;have S:aB H (upd (upd (upd H a (HO.lst [V.int 0,V.int 1])) D (HO.lst [V.ref a])) e (HO.lst (replicate aj.toNat (V.ref a)))):=by walk_at "sm"
 generalize upd (upd (upd H a (HO.lst [V.int 0,V.int 1])) D (HO.lst [V.ref a])) e (HO.lst (replicate aj.toNat (V.ref a)))=H2 at x0 x2 S;have W:Rows H2 (replicate aj.toNat (V.ref a)) (replicate aj.toNat [0,1]):=by
  generalize aj.toNat=k;induction k with
  |zero=>exact .nil
  |succ k U=>rw [ju,ju];exact .cons ⟨a,rfl,x0⟩ U
 refine ⟨e,_,_,rfl,x2,W,by rw [vG];lk, λi hi=>?_,λr hr=>?_,λl3 Ye H3 f3 s3 x3 rn=>?_⟩
 ·rw [vG] at hi;rw [ajb hi,Ot];exact gU (J1 (by decide) (show i<=8 by lk)) (by decide)
 ·rw [(List.mem_replicate.mp hr).2];decide
 have lr:=rn.len;rw [Ot] at lr;have tG:=aG S s3;refine ⟨l3,rfl,⟨_,aN x3⟩,?_⟩;refine uY (xs:=Ye) (λi σ Hc=>∃ R,σ=[some (.ref n),R]/\aB H3 Hc/\∀ j r,j<i->(j5 (replicate aj.toNat [0,1]))[j]?=some r->zE (qY r ws)) ⟨none,rfl,cW _,λj r I=>absurd I (by lk)⟩ (λi σ Hc _ ⟨_,_,d,_⟩=>aN (d _ _ x3)) ?_ ?_
 ·rintro i x σ Hc hx ⟨R,rfl,d,Y⟩;obtain ⟨r,tr,y,rfl,X4,L,htr⟩:=rn.get hx;have l:=(aaQ aj.toNat r).mp (fj y);have B:=d _ _ htr;have q:aB H Hc:=aG tG d;refine ⟨_,rfl,_,rfl,.ref n,aj,ws,tr,r,rfl,p.kt (cG q (bY _)),ok,by lk, B,l.1,λl4 H4 f4 N x4=>⟨l4,_,rfl,x4,by rw [abm,l.1];lk, λb H5 M C=>⟨b,rfl,?_⟩⟩⟩;have o:aB H H5:=aG q (aG N M);cases b with
  |true =>
   refine bR (by decide) ⟨_,rfl,aG d (aG N M),λj u I J=>?_⟩;by_cases c:j<i
   ·exact Y j u c J
   ·have:j=i:=by lk
    subst this;rw [y] at J;cases J;exact C.mp rfl
  |false =>refine cL (by decide) ?_;refine ⟨_,rfl,aW (by kl_no),λO g=>?_⟩;refine q2 O tr r _ (o.free g) (S.free L) (aG o (cu g _)) aM ((cu g _) _ _ (M _ _ (N _ _ B))) l λz=>?_;have:=C.mpr z;cases this
 ·rintro σ Hc ⟨R,rfl,d,Y⟩;have q:aB H Hc:=aG tG d;refine ⟨aW (by kl_no),λO g=>q1 O _ (q.free g) (aG q (cu g _)) aM λr l=>?_⟩;obtain ⟨j,I,ej⟩:=JB.mp ((aaQ aj.toNat r).mpr l);exact Y j r (by rw [lr,<-Ot];exact I) (by simp [I,ej])
def afC:Gc Z "one_lane_each" 2 ["wide","power"] apo:=by
 o_head (dz Z.Wy,["wide","power"]);obtain ⟨aj,n,rfl,p,u,q⟩:=h;refine ⟨_,(aO (bw (iD ["lane"] [("wide",0),("power",1)] rfl (qt rfl T.lD (ao (pv 0) aq)) (by k_all) (by k_mem) (by row_wit1 (bH (Pn Z) hr.m rfl (ao (pv 1) (ao (pv 0) (ao (pv 2) aq)))))))),_,rfl,aj,rfl,by lk, by lk, λl k=>?_⟩;refine tQ (n:=aj.toNat) (λi ys Hc=>aB H Hc/\Hc l=some (.lst ys)/\fG H Hc l ys ((range i).map λi:Nat=>vX aj.toNat i n)) ⟨bQ k (cW H),aM,.nil⟩ (aW (by lk)) (λi ys Hc ⟨_,e,r⟩=>⟨e,by have:=r.len;simp at this;lk⟩) ?_ ?_
 ·rintro i ys Hc hi ⟨c,b,g⟩;is_list;refine ⟨_,rfl,_,rfl,_,rfl,aj,0+(i:Int),n,rfl,p,u,by lk, by lk, λa v j d o=>?_⟩;rw [show (0+(i:Int)).toNat=i by lk] at o;have t:a≠l:=λz=>by subst z;rw [b] at j;cases j
  refine ⟨d _ _ b,bQ k (aG c d),aM,?_⟩;rw [rN,cX];exact g.more d o t (c.free j)
 ·rintro ys Hc ⟨c,b,g⟩;exact q l ys Hc k c b g
def Y5:Gc Z "first_that_parts" 3 ["one","other","rows"] agb:=by
 o_head (dz Z.Wz,["one","other","rows","counts"]);obtain ⟨q,y,aj,us,ws,l,rs,M,rfl,R,V,w1,w8,g,k,N,O,u,rows,L,J,D⟩:=h;have Y:=rows.len;refine ⟨_,(aU (jx jj rfl  (jZ (pv 2)) (fL 3 nd)
 (aO (cP (cQ (ao9 hr.units) (bH (Gn Z) hr.m rfl (ao (pv 0) (ao (pv 3) aq))) (bH (Gn Z) hr.m rfl (ao (pv 1) (ao (pv 3) aq))))
 (aO (bw (pv 3)))
 cT)))
 (aO (bw zP))),?_⟩
 refine ⟨_,rfl,l,rfl,⟨_,aN u⟩,?_⟩;refine uY (xs:=rs) (λi σ Hc=>∃ n,σ=[some q,some y,some (.ref l),n]/\aB H Hc/\∀ r∈M.take i,bC r us=bC r ws) ⟨none,rfl,cW _,by simp⟩ (λi σ Hc _ ⟨_,_,b,_⟩=>aN (b _ _ u)) ?_ ?_
 ·rintro i x σ Hc B ⟨n,rfl,b,all⟩;obtain ⟨r,t,a,rfl,j⟩:=rows.get B;have d:=L r (fj a);refine ⟨_,rfl,_,rfl,q,aj,us,t,r,rfl,R.kt (cG b (bY _)),g,N,b _ _ j,d,λla H3 fa C W=>?_⟩;have e:=aG b C;refine ⟨_,rfl,_,rfl,y,aj,ws,t,r,rfl,V.kt (cG e (bY _)),k,O,e _ _ j,d,λlb I fb v S=>?_⟩;have p:=aG e v;refine ⟨la,lb,_,_,rfl,rfl,aN (v _ _ W),aN S,_,rfl,?_⟩;by_cases c:bC r us=bC r ws
  ·refine bR (by rw [c];simp) ⟨_,rfl,p,?_⟩;rw [gb a];intro U o;rcases nM.mp o with z|z
   ·exact all U z
   ·rw [yU.mp z];exact c
  ·exact cL (by simpa using λz=>c z) ⟨_,rfl,D i t r I p B a (p _ _ j) c⟩
 ·rintro σ Hc ⟨n,rfl,b,all⟩;rw [Y,gw] at all;exact J Hc b all
def aoO:Ge Z "parted" 5 ["one","other"] (aox eA.many):=by
 o_head (wD Z.WD,["one","other","power","by_shares"],0);obtain ⟨j,k,a,ws,rfl,⟨B,c,b,ok,len⟩,⟨S,_⟩,q,e⟩:=h;obtain ⟨D,t1,rs1,R,g,ht1,U⟩:=id B;obtain ⟨n2,t2,W,C,o,Am,hr2⟩:=id S;refine ⟨_,(aU (cP (cQ mj (b_ (pv 0) aL) (b_ (pv 1) aL))
 (aO (Bp Z.yH.FP rfl Z.yH.EY (ao bN aq)))
 cT)
 (aU (bW 2 nd (jM (P_ rfl) rfl T.Gu JF (ao (bH (Ej Z) hr.m rfl (ao (pv 0) aq)) (ao (bH (Ej Z) hr.m rfl (ao (pv 1) aq)) aq))))
 (aU (bW 3 nd (bH (Y5 Z) hr.m rfl (ao (pv 0) (ao (pv 1) (ao (bH (afC Z) hr.m rfl (ao (b_ (pv 0) aL) (ao (pv 2) aq))) aq)))))
 (aU (cP (cQ acr (pv 3) zP)
 (aO (bw (pv 3)))
 cT)
 (aO (bw (bH (Y5 Z) hr.m rfl (ao (pv 0) (ao (pv 1) (ao (nG (Y_ Z) hr.m rfl (ao (pv 0) (ao (pv 1) aq))) aq)))))))))),?_⟩
 refine ⟨_,rfl,D,_,_,_,R,rfl,aZ g,rfl,_,rfl,n2,_,_,_,C,rfl,aZ o,rfl,rfl,_,rfl,bR (by simp) ?_⟩;have y:∀ {H':Hp},aB H H'->eX H' j a ws:=λs=>B.kt (cG s (bY _));have l:∀ {H':Hp},aB H H'->eX H' k a ws:=λs=>S.kt (cG s (bY _));refine ⟨_,rfl,j,a,ws,rfl,B,c,b,ok,len,λH1 N=>⟨_,rfl,k,a,ws,rfl,l N,c,b,ok,len,λH2 s2=>?_⟩⟩;have O:=aG N s2;refine ⟨_,_,rfl,?_⟩;generalize (if whole a ws>whole a ws then whole a ws else whole a ws)=pw';refine ⟨_,rfl,_,rfl,_,rfl,D,_,_,_,R,rfl,aZ (O _ _ g),rfl,_,rfl,a,_,rfl,c,b,λl3 Y H3 f3 V x3 r3=>?_⟩;have u:=aG O V;refine ⟨j,k,a,ws,ws,l3,Y,_,rfl,y u,l u,c,b,ok,ok,by lk, by lk, x3,r3.rows,λr d=>?_,λH4 M all=>?_,λi t r H4 M hi hM hx z=>absurd rfl z⟩
 ·obtain ⟨i,_,rfl⟩:=fW.mp d;exact I_ _ _ _
 have n:=aG u M;refine ⟨_,rfl,rfl,_,rfl,bR (by decide) ⟨_,rfl,_,rfl,_,rfl,_,rfl,j,k,a,a,ws,ws,rfl,y n,l n,c,b,c,b,ok,ok,len,len,λmu I x=>e I (aG n x),λnm l5 p I f5 x x5 r5=>?_⟩⟩;have v:=aG n x;refine ⟨j,k,a,ws,ws,l5,p,_,rfl,y v,l v,c,b,ok,ok,by lk, by lk, x5,r5.rows,λr d=>?_,λJ L as4=>q J (aG v L),λi t r J L hi hM hx z=>absurd rfl z⟩;rw [((Jb _ r).mp d).1];simp [mC]
def aa8:Gc Z "place_on" 1 ["net","lane","start"] aaH:=by
 o_head (dz Z.WK,["net","lane","start","number"]);obtain ⟨v,aj,ws,l,s,rfl,⟨⟨n,t,rs,rfl,o,m,p⟩,C,D,ok,len⟩,J,q⟩:=h;have z:=p.len;refine ⟨_,(aU (jx jj rfl  (aaw rfl T.lD (ao (pv 2) (ao (j6 T (b_ (pv 0) aL)) aq))) (fL 3 nd)
 (aO (cP (zy Qc (pv 1) (b_ (b_ (pv 0) aL) (pv 3)) (by with_unfolding_all rfl))
 (aO (bw (g_ (ao bN (ao (pv 3) (ao (pv 1) aq))))))
 cT)))
 (aO (bw (g_ (ao bN (ao (pv 1) aq)))))),?_⟩
 refine ⟨_,rfl,_,rfl,n,_,_,_,rfl,rfl,aZ o,rfl,t,_,rfl,.inr (aZ m),_,_,rfl,⟨by lk, by lk, by lk, by lk⟩,?_⟩;refine IK (n:=((rs.length:Int)-(s:Int)).toNat) (λi σ Hc=>∃ k,σ=[some (.ref n),some (.int l),some (.int s),k]/\Hc=H/\gF ws l s=lZ ws l (ws.length-s-i) (s+i)) ⟨none,rfl,rfl,rfl⟩ ?_ ?_
 ·rintro i σ Hc hi ⟨k,rfl,rfl,a⟩;have I:s+i<ws.length:=by lk
  have j:(s:Int)+(i:Int)=((s+i:Nat):Int):=by lk
  rw [j];obtain ⟨B,w0,r,_,b,d⟩:=acB p (i:=((s+i:Nat):Int)) (by lk) (by lk);rw [kO] at b;have y:bT ws (s+i)=w0:=by simp [bT,getD,b]
  have u:lZ ws l (ws.length-s-i) (s+i)=if j8 w0 l then .before (s+i) l else lZ ws l (ws.length-s-(i+1)) (s+(i+1)):=by rw [show ws.length-s-i=(ws.length-s-(i+1))+1 by lk];show (if j8 (bT ws (s+i)) l then _ else _)=_;rw [y];rfl
  rw [u] at a;refine ⟨_,rfl,_,rfl,n,_,_,_,rfl,rfl,aZ o,rfl,_,rfl,t,_,_,_,rfl,rfl,aZ m,r,B,_,rfl,.inr (aZ d),rfl,rfl,_,rfl,?_⟩;have x:lM (.int l) [.int w0.1,.int w0.2]=j8 w0 l:=am7 l w0.1 w0.2;show if lM (.int l) [.int w0.1,.int w0.2]=true then _ else _
  rw [x];refine pB (λg=>?_) (λg=>?_)
  ·rw [aQ g] at a;exact ⟨_,rfl,_,rfl,aW (by kl_no),λe c=>q e _ c (cu c _) (by rw [aM,a];rfl)⟩
  ·rw [aK g] at a;exact ⟨_,rfl,rfl,a⟩
 ·rintro σ Hc ⟨k,rfl,rfl,a⟩;have j:ws.length-s-((rs.length:Int)-(s:Int)).toNat=0:=by lk
  rw [j] at a;exact ⟨_,rfl,aW (by kl_no),λe c=>q e _ c (cu c _) (by rw [aM,a];rfl)⟩
def Z6:Gc Z "numbers_of" 1 ["wide","lane","low","high"] apC:=by
 o_head (dz Z.WL,["wide","lane","low","high"]);obtain ⟨aj,cC,lo,hi,rfl,m,u,⟨⟨t,p⟩,v,o⟩,q⟩:=h;refine ⟨_,(aO (bw (iD ["count"] [("lane",1),("wide",0)] rfl (aaw rfl T.lD (ao (pv 2) (ao (pv 3) aq))) (by k_all) (by k_mem) (by row_wit1 (bD jQ (pv 1) (bD pP (pv 2) (pv 0))))))),_,rfl,_,rfl,lo,hi,rfl,⟨by lk, by lk, by lk, by lk⟩,λl b=>?_⟩;refine tQ (n:=(hi-lo).toNat) (λj ys a=>aB H a/\a l=some (.lst ys)/\ys=(ig aj cC lo j).map V.int) ⟨bQ b (cW _),aM,rfl⟩ (aW (by lk)) (λj ys a ⟨r,i,g⟩=>⟨i,by rw [g,bh,Ep];exact bI _⟩) ?_ ?_
 ·rintro j ys a x ⟨d,c,rfl⟩;is_list;refine ⟨_,rfl,_,rfl,_,rfl,_,_,rfl,rfl,.inl ⟨by lk, by lk⟩,_,_,rfl,rfl,c,bQ b d,aM,?_⟩;rw [aal,cX];rfl
 rintro ys H1 ⟨e,k,rfl⟩;exact q l H1 b e k
def agt (F:vY K mg C "__init__" "Play.__init__" Z1 f fd):dw P w K mg au jL 1 f fd ["self","net"] (R_ C):=by
 o_head ["self","net"];obtain ⟨p,dx,v,aj,ws,rfl,hp,⟨⟨n,t,rs,rfl,hn,ht,cR⟩,w1,w8,ok,len⟩,q⟩:=h;have lrs:=cR.len;refine ⟨_,(aU (zQ (pv 0) (pv 1) rfl)
 (aU (zQ (pv 0) (iD ["wicket"] [] rfl (vJ (b_ (pv 1) aL)) (by k_all) (by k_mem) (by row_wit1 (uE (Ck K rfl) (pv 0) aL (λ_ _=>rfl)))) rfl)
 (aU (zQ (pv 0) (bD Gd (fB (ao aL aq)) (b_ (pv 1) aL)) rfl)
 (aU (zQ (pv 0) (fB aq) rfl)
 (aO (zQ (pv 0) (fB aq) rfl)))))),?_⟩
 refine ⟨_,rfl,_,rfl,p,C,dx,[],rfl,hp,Z.TP.cl,Z.TP.nN,(by show 0<1000;decide),?_⟩;have J:∀ b o,H b=some o->b≠p->(upd H p (HO.ins C dx (cZ "net" (V.ref n) []))) b=some o:=λb o e c=>(aV c).trans e;have l:(upd H p (HO.ins C dx (cZ "net" (V.ref n) []))) p=some (.ins C dx (cZ "net" (.ref n) [])):=aM;have R:∀ b,(upd H p (HO.ins C dx (cZ "net" (V.ref n) []))) b=none->H b=none/\b≠p:=λb e=>by
  have c:b≠p:=λz=>by rw [z,aM] at e;cases e
  rw [aV c] at e;exact ⟨e,c⟩
 generalize upd H p (HO.ins C dx (cZ "net" (V.ref n) []))=H1 at J l R;have np:n≠p:=kY hn hp (by intro z;cases z);have tp:t≠p:=kY ht hp (by intro z;cases z);have D:=J _ _ hn np;have I:=J _ _ ht tp;have arQ:dM H1 rs ws:=cR.mono λb xs e=>J _ _ e (kY e hp (by intro z;cases z));refine ⟨_,rfl,n,_,_,_,rfl,rfl,aZ D,rfl,t,rfl,⟨_,aZ I⟩,λa U=>?_⟩;refine yM (xs:=rs) (λj ys Hc=>aB H1 Hc/\Hc a=some (.lst ys)/\ys=((ws.take j).map (·.1)).map V.int) ⟨bQ U (cW _),aM,rfl⟩ (aW (by lk)) (λj ys Hc hj ⟨Y,e1,r1⟩=>⟨aZ (Y _ _ I),e1,by rw [r1];simp;lk⟩) ?_ ?_
 ·rintro j x ys Hc hx ⟨Y,e1,rfl⟩;obtain ⟨w0,t0,hw0,rfl,ht0⟩:=arQ.get hx;isplit;refine ⟨_,rfl,t0,_,_,_,rfl,rfl,aZ (Y _ _ ht0),rfl,e1,bQ U Y,aM,?_⟩;rw [gb hw0,cX,cX];rfl
 rintro ys H2 ⟨s2,e2,rfl⟩;rw [lrs,gw] at e2;have hp2:=s2 _ _ l;have Nq:a≠p:=bF (cV l U);refine ⟨_,rfl,p,C,dx,_,rfl,hp2,Z.TP.cl,Z.TP.nF,(by have:=qy "net" (V.ref n) [];simp at this;lk),?_⟩;have N:(upd H2 p (HO.ins C dx (cZ "facing" (V.ref a) (cZ "net" (V.ref n) [])))) a=some (.lst ((ws.map (·.1)).map V.int)):=(aV Nq).trans e2;have u:(upd H2 p (HO.ins C dx (cZ "facing" (V.ref a) (cZ "net" (V.ref n) [])))) p=some (.ins C dx (cZ "facing" (.ref a) (cZ "net" (.ref n) []))):=aM;have k3:∀ b o,H1 b=some o->b≠p->(upd H2 p (HO.ins C dx (cZ "facing" (V.ref a) (cZ "net" (V.ref n) [])))) b=some o:=λb o e c=>(aV c).trans (s2 _ _ e);have Ae:∀ b,(upd H2 p (HO.ins C dx (cZ "facing" (V.ref a) (cZ "net" (V.ref n) [])))) b=none->H1 b=none:=λb e=>by
  have c:b≠p:=λz=>by rw [z,aM] at e;cases e
  rw [aV c] at e;exact s2.free e
 generalize upd H2 p (HO.ins C dx (cZ "facing" (V.ref a) (cZ "net" (V.ref n) [])))=B at N u k3 Ae;have hn3:=k3 _ _ D np;refine ⟨aW (by kl_no),λS f4=>⟨_,rfl,n,_,_,_,rfl,rfl,aZ ((cu f4 _) _ _ hn3),rfl,S,aj,_,rfl,rfl,aM,by lk, by lk, aW (by show 1*aj.toNat<=100000;lk),λlt f5=>?_⟩⟩;have er:(replicate aj.toNat [V.int 0]).flatten=(replicate aj.toNat (0:Int)).map V.int:=by
  generalize aj.toNat=k;induction k with
  |zero=>rfl
  |succ k ih=>rw [ju,vg,ih,ju,gj];rfl
 rw [er];have d:aB B (upd (upd B S (HO.lst [V.int 0])) lt (HO.lst ((replicate aj.toNat (0:Int)).map V.int))):=aG (cu f4 _) (cu f5 _);have x5:(upd (upd B S (HO.lst [V.int 0])) lt (HO.lst ((replicate aj.toNat (0:Int)).map V.int))) lt=some (.lst ((replicate aj.toNat (0:Int)).map V.int)):=aM;have Yh:B lt=none:=(cu f4 _).free f5;generalize upd (upd B S (HO.lst [V.int 0])) lt (HO.lst ((replicate aj.toNat (0:Int)).map V.int))=H5 at d x5;have Hs:lt≠p:=bF (cV u Yh);have nft:a≠lt:=cV N Yh;refine ⟨_,rfl,p,C,dx,_,rfl,d _ _ u,Z.TP.cl,Z.TP.nT,(by have h1:=qy "net" (V.ref n) [];have h2:=qy "facing" (V.ref a) (cZ "net" (V.ref n) []);simp at h1;lk),aW (by kl_no),λg f6=>?_⟩;have O:g≠p:=λz=>by rw [z,aM] at f6;cases f6
 have r:H5 g=none:=by rw [aV O] at f6;exact f6
 have uV:g≠a:=λz=>by rw [z] at r;rw [d _ _ N] at r;cases r
 have L:g≠lt:=λz=>by rw [z,x5] at r;cases r
 refine ⟨_,rfl,p,C,dx,_,rfl,(aV (bF O)).trans aM,Z.TP.cl,Z.TP.nP,(by have h1:=qy "net" (V.ref n) [];have h2:=qy "facing" (V.ref a) (cZ "net" (V.ref n) []);have h3:=qy "tally" (V.ref lt) (cZ "facing" (V.ref a) (cZ "net" (V.ref n) []));simp at h1;lk),aW (by kl_no),λm y=>?_⟩;have W:m≠p:=λz=>by rw [z,aM] at y;cases y
 have Yi:m≠g:=λz=>by rw [z,aV O,aM] at y;cases y
 have i:H5 m=none:=by rw [aV W,aV Yi,aV W] at y;exact y
 have G9:m≠a:=λz=>by rw [z] at i;rw [d _ _ N] at i;cases i
 have M:m≠lt:=λz=>by rw [z,x5] at i;cases i
 refine ⟨_,rfl,p,C,dx,_,rfl,(aV (bF W)).trans aM,Z.TP.cl,Z.TP.nC,(by have h1:=qy "net" (V.ref n) [];have h2:=qy "facing" (V.ref a) (cZ "net" (V.ref n) []);have h3:=qy "tally" (V.ref lt) (cZ "facing" (V.ref a) (cZ "net" (V.ref n) []));have h4:=qy "places" (V.ref g) (cZ "tally" (V.ref lt) (cZ "facing" (V.ref a) (cZ "net" (V.ref n) [])));simp at h1;lk),q ⟨dx,a,lt,g,m⟩ _ (R _ U).1 (R _ (Ae _ Yh)).1 (R _ (Ae _ (d.free r))).1 (R _ (Ae _ (d.free i))).1 ?_ λb o e c=>?_⟩
 ·refine ⟨aM,?_,?_,⟨[],?_,.nil⟩,?_,nft,bF uV,bF G9,bF L,bF M,bF Yi⟩
  ·show (upd _ p _) a=_;rw [aV Nq,aV (bF G9),aV Nq,aV (bF uV),aV Nq];exact d _ _ N
  ·show (upd _ p _) lt=_;rw [aV Hs,aV (bF M),aV Hs,aV (bF L),aV Hs];exact x5
  ·show (upd _ p _) g=_;rw [aV O,aV (bF Yi),aV O,aM]
  ·show (upd _ p _) m=_;rw [aV W,aM];rfl
 ·have e5:=d _ _ (k3 _ _ (J b o e c) c);rw [aV c,aV (cV e5 i),aV c,aV (cV e5 r),aV c];exact e5
def apY:Kw P w K mg au "Play" C 1 ["self","net"] (R_ C):=let ⟨_,_,F⟩:=Z.WM;⟨⟨_,_,agt Z F,F.fn.binds (by k_sub),Z.akk,F.mt.1,F.mt.2,Z.akl⟩,Z.akm⟩
def af3:j7 P w K mg au C "come_in" 3 ["self","lane","change"] (alb C):=by
 o_head (pF Z.WQ,["self","lane","change"]);obtain ⟨p,v,aj,ws,L,st,cC,c,rfl,k,a,N,l0,l1,q⟩:=h;obtain ⟨n,t,rs,rfl,hn,ht,cR⟩:=id k.1;refine ⟨_,(aU (cP (j4 (lG (bH (Q9 Z) hr.m rfl (ao (b_ (fY (pv 0) rfl) aL) (ao (pv 1) aq)))))
 (aO oK)
 cT)
 (aU (kI (iV oN vo vp tV (fY (pv 0) rfl) (ao (bH (aa8 Z) hr.m rfl (ao (fY (pv 0) rfl) (ao (pv 1) (ao aL aq)))) aq)))
 (aU (kI (iV oN vo vp tV (fY (pv 0) rfl) (ao (pv 2) aq)))
 (aO (bw (bD qP (j6 T (fY (pv 0) rfl)) aL)))))),?_⟩
 refine ⟨_,rfl,p,C,_,_,_,rfl,a.ob,Z.TP.cl,Z.TP.nN,vq _ _,n,_,_,_,rfl,rfl,aZ hn,rfl,_,rfl,aj,cC,rfl,l0,l1,_,rfl,bR (by decide) ?_⟩;obtain ⟨g,O,u⟩:=a.pl;have HD:=o7 u;have ml:=N.ml;refine ⟨_,rfl,p,C,_,_,_,rfl,a.ob,Z.TP.cl,Z.TP.nP,tR _ _,.inl ⟨rfl,_,aN O⟩,_,rfl,p,C,_,_,_,rfl,a.ob,Z.TP.cl,Z.TP.nN,vq _ _,_,rfl,.ref n,aj,ws,cC,0,rfl,k,fQ _,λd H1 f1 x x1=>?_⟩;have B:=a.same x;have r:=x _ _ O;refine ⟨L.lp,_,_,rfl,rfl,r,nY (by lk),?_⟩;obtain ⟨nf,nt,np,nc⟩:=a.M4;have l:(upd H1 L.lp (HO.lst (g++[V.ref d]))) p=some (.ins C L.dx (m8 (.ref n) L)):=(aV np).trans B.ob;have D:(upd H1 L.lp (HO.lst (g++[V.ref d]))) L.lc=some (.lst (st.chg.map V.int)):=(aV (bF a.pc)).trans B.ch;refine ⟨_,rfl,p,C,_,_,_,rfl,l,Z.TP.cl,Z.TP.nC,O8 _ _,.inl ⟨rfl,_,aN D⟩,?_⟩;have cl:=N.cl;refine ⟨_,rfl,L.lc,_,_,rfl,rfl,D,nY (by rw [bh];lk),?_⟩;have S:KT H1 (upd (upd H1 L.lp (HO.lst (g++[V.ref d]))) L.lc (HO.lst (st.chg.map V.int++[V.int c]))):=lN D (lN r (bY _));have y:cN C (upd (upd H1 L.lp (HO.lst (g++[V.ref d]))) L.lc (HO.lst (st.chg.map V.int++[V.int c]))) p (.ref n) L (mO ws st cC c):=by
  refine ⟨(aV nc).trans l,?_,?_,⟨g++[.ref d],?_,?_⟩,?_,a.ft,a.fp,a.fc,a.tp,a.tc,a.pc⟩
  ·rw [aV a.fc,aV a.fp];exact B.fa
  ·rw [aV a.tc,aV a.tp];exact B.ta
  ·rw [aV a.pc,aM]
  ·exact Paired.aeA (vO u λ_ _ z=>(z.kt (cG x (bY _))).kt S) (.cons ⟨d,rfl,S _ _ x1⟩ .nil)
  ·rw [aM];show _=some (HO.lst ((st.chg++[c]).map V.int));rw [cX];rfl
 have j:dW L H (upd (upd H1 L.lp (HO.lst (g++[V.ref d]))) L.lc (HO.lst (st.chg.map V.int++[V.int c]))):=λb o e h1 h2 W Y=>by rw [aV Y,aV W];exact x _ _ e
 generalize upd (upd H1 L.lp (HO.lst (g++[V.ref d]))) L.lc (HO.lst (st.chg.map V.int++[V.int c]))=R at y j;obtain ⟨i,I,J⟩:=y.pl;have M:=o7 J;refine ⟨_,rfl,p,C,_,_,_,rfl,y.ob,Z.TP.cl,Z.TP.nP,tR _ _,L.lp,_,rfl,.inl (aN I),_,_,rfl,rfl,?_⟩;have U:(i.length:Int)-1=(st.aX.length:Int):=by rw [M];show (((st.aX++[_]).length:Nat):Int)-1=_;rw [dJ,yO];lk
 have z:Q (.int ((i.length:Int)-1)) R:=by rw [U];exact q R y j
 exact z
def ahd:j7 P w K mg au C "enter" 4 ["self","lane"] (Ky C 1):=by o_head (pF Z.WR,["self","lane"]);obtain ⟨p,v,aj,ws,L,st,cC,rfl,a,b,c,d,e,q⟩:=h;exact ⟨_,(aO (bw (jN (pv 0) Z.TP.cl (af3 Z) hr.m (ao (pv 1) (ao aL aq))))),_,rfl,p,_,_,rfl,b.ob,oY _ _ (by k_go) (by k_go) (by k_go) (by k_go) (by k_go),_,rfl,p,v,aj,ws,L,st,cC,1,rfl,a,b,c,d,e,q⟩
def ahe:j7 P w K mg au C "where" 2 ["self","walker"] (anj C):=by
 o_head (pF Z.WT,["self","walker"]);obtain ⟨p,v,L,st,i,pl,rfl,b,hi,q⟩:=h;obtain ⟨e,d,a⟩:=b.pl;have k:=o7 a;have j:i<st.aX.length:=(dY.mp hi).1;obtain ⟨r,c,t,rfl,g⟩:=Paired.Dv a hi;refine ⟨_,(aU (cP (PW.pt (uz (j4 (lG (bH (Es Z) hr.m rfl (ao (pv 1) aq)))) (vH (j4 (QD uD ad0 aL (pv 1) (j6 T (fY (pv 0) rfl)))))))
 (aO oK)
 cT)
 (aO (bw (cJ (fY (pv 0) rfl) (pv 1))))),?_⟩
 refine ⟨_,rfl,_,rfl,_,rfl,bR (by decide) ⟨_,rfl,_,_,rfl,rfl,_,rfl,cL (fO (by lk)) ⟨_,rfl,p,C,_,_,_,rfl,b.ob,Z.TP.cl,Z.TP.nP,tR _ _,L.lp,_,rfl,.inl (aN d),_,_,rfl,rfl,_,rfl,bR ?_ ?_⟩⟩⟩
 ·rw [fO (show (i:Int)<(e.length:Int) by lk)];decide
 exact ⟨_,rfl,p,C,_,_,_,rfl,b.ob,Z.TP.cl,Z.TP.nP,tR _ _,_,rfl,L.lp,_,_,_,rfl,rfl,aN d,oO c,q t g⟩
def air:j7 P w K mg au C "turn" 1 ["self","wicket"] (aph C):=by
 o_head (pF Z.WW,["self","wicket","lanes"]);obtain ⟨p,v,aj,ws,L,st,k,rfl,j,a,O,R,q⟩:=h;obtain ⟨n,t,rs,rfl,J,I,u⟩:=id j.1;have M:=u.len;obtain ⟨l,w0,x,_,d,c⟩:=acB u (i:=(k:Int)) (by lk) (by lk);rw [kO] at d;have D:bT ws k=w0:=by simp [bT,getD,d]
 refine ⟨_,(aU (bW 2 nd (b_ (b_ (fY (pv 0) rfl) aL) (pv 1)))
 (aO (qO (qx (cQ iU (cJ (fY (pv 0) rfl) (pv 1)) (b_ (pv 2) aL)) (b_ (pv 2) aL) (b_ (pv 2) aL)) (qN (fY (pv 0) rfl) (pv 1) pI)))),?_⟩
 refine ⟨_,rfl,p,C,_,_,_,rfl,a.ob,Z.TP.cl,Z.TP.nN,vq _ _,n,_,_,_,rfl,rfl,aZ J,rfl,_,rfl,t,_,_,_,rfl,rfl,aZ I,x,_,rfl,p,C,_,_,_,rfl,a.ob,Z.TP.cl,Z.TP.nF,Em _ _,_,rfl,L.lf,_,_,_,rfl,rfl,aN a.fa,lY (i:=(k:Int)) (by lk) (by lk),_,rfl,l,_,_,_,rfl,rfl,aZ c,rfl,rfl,_,rfl,?_⟩;rw [kO];have r:∀ z:Int,z=sO w0 (st.iI.getD k 0)->Q .non (upd H L.lf (HO.lst ((st.iI.map V.int).set k (V.int z)))):=λz N=>by
  rw [zA];refine q _ ⟨(aV a.M4.1).trans a.ob,?_,(aV (bF a.ft)).trans a.ta,?_,(aV (bF a.fc)).trans a.ch,a.ft,a.fp,a.fc,a.tp,a.tc,a.pc⟩ λb o e h1 h2 S U=>(aV h1).trans e
  ·rw [aM,N,<-D];rfl
  ·obtain ⟨B,y,m⟩:=a.pl;exact ⟨B,(aV (bF a.fp)).trans y,vO m λ_ _ z=>z.kt (lN a.fa (bY _))⟩
 refine pB (λg=>?_) (λg=>?_)
 ·have g':=Lh g;exact ⟨_,rfl,l,_,_,_,rfl,rfl,aZ c,rfl,_,rfl,p,C,_,_,_,rfl,a.ob,Z.TP.cl,Z.TP.nF,Em _ _,_,rfl,L.lf,_,(k:Int),k,rfl,rfl,a.fa,by rw [sJ (by lk) (by rw [bh];lk),kO],r w0.2 (by unfold sO;rw [aQ g'])⟩
 ·have g':=MP g;exact ⟨_,rfl,l,_,_,_,rfl,rfl,aZ c,rfl,_,rfl,p,C,_,_,_,rfl,a.ob,Z.TP.cl,Z.TP.nF,Em _ _,_,rfl,L.lf,_,(k:Int),k,rfl,rfl,a.fa,by rw [sJ (by lk) (by rw [bh];lk),kO],r w0.1 (by unfold sO;rw [aK g'])⟩
def ae':j7 P w K mg au C "pass_wicket" 2 ["self","wicket","change"] (apj C):=by
 o_head (pF Z.WX,["self","wicket","change","before","lane"]);obtain ⟨p,v,aj,ws,L,st,k,c,rfl,b,a,e,u,q⟩:=h;refine ⟨_,(aU (bW 3 nd (cJ (fY (pv 0) rfl) (pv 1)))
 (aU (kI (jN (pv 0) Z.TP.cl (air Z) hr.m (ao (pv 1) aq)))
 (aU (bW 4 nd (qx (cQ iU (pv 2) aL) (pv 3) (cJ (fY (pv 0) rfl) (pv 1))))
 (aO (bw (bH (aa8 Z) hr.m rfl (ao (fY (pv 0) rfl) (ao (pv 4) (ao (bD jQ (pv 1) aL) aq))))))))),?_⟩
 refine ⟨_,rfl,p,C,_,_,_,rfl,a.ob,Z.TP.cl,Z.TP.nF,Em _ _,_,rfl,L.lf,_,_,_,rfl,rfl,aN a.fa,lY (i:=(k:Int)) (by lk) (by lk),_,rfl,p,_,_,rfl,a.ob,oY _ _ (by k_go) (by k_go) (by k_go) (by k_go) (by k_go),_,rfl,p,v,aj,ws,L,st,k,rfl,b,a,e,u,λH1 d n=>?_⟩;have y:=b.kt (dW.kt a n);have D:(Gw ws st k).iI.length=ws.length:=by show (st.iI.set k _).length=_;rw [fV];exact e
 have l:∀ z:Int,z=jq ws st k c->Lx (Lb aaH [] E0 (vU (z7 K (mX 0) "net") (vU (mX 4) (vU (lO (uO λi j=>V.int (i+j)) (mX 1) (tC (.int 1))) wB)))) { nx:=λ_ H'=>Q .non H',rt:=Q } [some (.ref p),some (.int k),some (.int c),some (.int (st.iI.getD k 0)),some (.int z)] H1:=λz x=>by refine ⟨_,rfl,p,C,_,_,_,rfl,d.ob,Z.TP.cl,Z.TP.nN,vq _ _,_,rfl,_,rfl,_,_,rfl,rfl,v,aj,ws,z,k+1,by rfl,y,by lk, λt H2 B o r=>?_⟩;rw [x] at r;exact q t H2 (d.same o) (dW.trans n (dW.same o)) r
 sr_in;refine pB (λg=>?_) (λg=>?_)
 ·have g':=Lh g;w_left;exact l _ (by unfold jq;rw [aQ g',kO])
 ·have g':=MP g;refine ⟨_,rfl,p,C,_,_,_,rfl,d.ob,Z.TP.cl,Z.TP.nF,Em _ _,_,rfl,L.lf,_,_,_,rfl,rfl,aN d.fa,lY (i:=(k:Int)) (by lk) (by lk),l _ ?_⟩;unfold jq;rw [aK g',kO];show (st.iI.set k _).getD k 0=_;rw [jY (by lk),aQ rfl]
def ahf:j7 P w K mg au C "leave" 1 ["self","lane","change"] (anm C):=by
 o_head (pF Z.WY,["self","lane","change","before","count"]);obtain ⟨p,v,aj,ws,L,st,l,c,rfl,d,a,tl,m,l1,q⟩:=h;obtain ⟨n,t,rs,rfl,N,W,cR⟩:=id d.1;have S:=d.2.1;have w8:=d.2.2.1;refine ⟨_,(aU (bW 3 nd (cJ (fY (pv 0) rfl) (pv 1)))
 (aU (amU (fY (pv 0) rfl) (pv 1) ak_ (pv 2) ao1 pI)
 (aU (bW 4 nd (qx (cQ iU (pv 2) aL) (pv 3) (cJ (fY (pv 0) rfl) (pv 1))))
 (aO (bw (g_ (ao bN (ao (pv 1) (ao (bD jQ (pv 1) (bD pP (b_ (fY (pv 0) rfl) aL) (pv 4))) aq))))))))),?_⟩
 refine ⟨_,rfl,p,C,_,_,_,rfl,a.ob,Z.TP.cl,Z.TP.nT,yK _ _,_,rfl,L.lt,_,_,_,rfl,rfl,aN a.ta,lY m (by lk),?_⟩;have R:(st.bM.map V.int)[l.toNat]?=some (.int (st.bM.getD l.toNat 0)):=by rw [jP,FJ (show l.toNat<st.bM.length by lk)];rfl
 refine ⟨_,rfl,p,C,_,_,_,rfl,a.ob,Z.TP.cl,Z.TP.nT,yK _ _,_,rfl,L.lt,_,l,_,rfl,rfl,aN a.ta,m,R,_,rfl,_,_,rfl,rfl,L.lt,_,l,l.toNat,rfl,rfl,a.ta,sJ m (by rw [bh];lk),?_⟩;rw [zA];have k:cN C (upd H L.lt (HO.lst ((st.bM.set l.toNat (st.bM.getD l.toNat 0+c)).map V.int))) p (.ref n) L (Gg st l c):=by refine ⟨(aV a.M4.2.1).trans a.ob,(aV a.ft).trans a.fa,aM,?_,(aV (bF a.tc)).trans a.ch,a.ft,a.fp,a.fc,a.tp,a.tc,a.pc⟩;obtain ⟨I,D,x⟩:=a.pl;exact ⟨I,(aV (bF a.tp)).trans D,vO x λ_ _ z=>z.kt (lN a.ta (bY _))⟩
 have u:dW L H (upd H L.lt (HO.lst ((st.bM.set l.toNat (st.bM.getD l.toNat 0+c)).map V.int))):=λb o e h1 h2 U Y=>(aV h2).trans e;generalize upd H L.lt (HO.lst ((st.bM.set l.toNat (st.bM.getD l.toNat 0+c)).map V.int))=H1 at k u;have r:=(dW.kt a u) _ _ N;have B:∀ z:Int,l+aj*z=jR aj st l c->Lx (aes (vU (tC (.str "out")) (vU (mX 1) (vU (lO (uO λi j=>V.int (i+j)) (mX 1) (lO (rI Dq λi j=>V.int (i*j)) (lO (Dr K) (z7 K (mX 0) "net") (tC (.int 0))) (mX 4))) wB)))) { nx:=λ_ H'=>Q .non H',rt:=Q } [some (.ref p),some (.int l),some (.int c),some (.int (st.bM.getD l.toNat 0)),some (.int z)] H1:=λz O=>by refine ⟨_,rfl,_,rfl,_,rfl,p,C,_,_,_,rfl,k.ob,Z.TP.cl,Z.TP.nN,vq _ _,n,_,_,_,rfl,rfl,aZ r,rfl,_,rfl,_,_,rfl,rfl,.inl ⟨by lk, by lk⟩,_,_,rfl,rfl,aW (by kl_no),λM y=>?_⟩;refine q M _ (k.same (cu y _)) (dW.trans u (dW.same (cu y _))) ?_;rw [aM,<-O];rfl
 sr_in;refine pB (λg=>?_) (λg=>?_)
 ·have g':=Lh g;w_left;exact B _ (by unfold jR;rw [aQ g'])
 ·have g':=MP g;have J:(Gg st l c).bM.length=aj.toNat:=by show (st.bM.set _ _).length=_;rw [fV];exact tl
  refine ⟨_,rfl,p,C,_,_,_,rfl,k.ob,Z.TP.cl,Z.TP.nT,yK _ _,_,rfl,L.lt,_,_,_,rfl,rfl,aN k.ta,lY m (by lk),B _ ?_⟩;unfold jR;rw [aK g'];show l+aj*(st.bM.set l.toNat _).getD l.toNat 0=_;rw [jY (by lk),aQ rfl]
def aat:j7 P w K mg au C "step" 4 ["self","walker"] (K8 C):=by
 o_head (pF Z.W0,["self","walker","place"]);obtain ⟨p,v,aj,ws,L,st,i,pl,rfl,B,a,I,hi,no,q⟩:=h;have il:i<st.aX.length:=(dY.mp hi).1;have cl:=I.cl;have u:=I.ps pl (fj hi);refine ⟨_,(aU (bW 2 nd (jN (pv 0) Z.TP.cl (ahe Z) hr.m (ao (pv 1) aq)))
 (aU (cP (cQ iU (b_ (pv 2) aL) bN)
 (aO oK)
 cT)
 (aU (cP (cQ iU (b_ (pv 2) aL) bN)
 (aO (qO (jN (pv 0) Z.TP.cl (ahf Z) hr.m (ao (b_ (pv 2) aL) (ao (cJ (fY (pv 0) rfl) (pv 1)) aq))) (qN (fY (pv 0) rfl) (pv 1) pI)))
 (aO (qO (jN (pv 0) Z.TP.cl (ae' Z) hr.m (ao (b_ (pv 2) aL) (ao (cJ (fY (pv 0) rfl) (pv 1)) aq))) (qN (fY (pv 0) rfl) (pv 1) pI))))
 (aO (bw (cJ (fY (pv 0) rfl) (pv 1))))))),?_⟩
 refine ⟨_,rfl,p,_,_,rfl,a.ob,oY _ _ (by k_go) (by k_go) (by k_go) (by k_go) (by k_go),_,rfl,p,v,L,st,i,pl,rfl,a,hi,λt R=>?_⟩
 -- the new place is put
 have O:∀ (g:cH) (c:Addr) (H1:Hp),cN C H1 p v L g->dW L H H1->g.aX=st.aX->H1 c=some (.tup (rm (jA aj ws st i pl)))->kZ aj ws st i pl=GJ g i (jA aj ws st i pl) ->(aek (z7 K (mX 0) "places") (mX 1) ad3) (.ref c) [some (.ref p),some (.int i),some (.ref t)] H1 (λσ2 H2=>Lx (lO (GF K) (z7 K (mX 0) "places") (mX 1)) { nx:=λ_ H'=>Q .non H',rt:=Q } σ2 H2):=λg c H1 j y e1 x es=>by
  obtain ⟨r,N,D⟩:=j.pl;have HD:=o7 D;rw [e1] at HD;refine ⟨_,rfl,p,C,_,_,_,rfl,j.ob,Z.TP.cl,Z.TP.nP,tR _ _,_,rfl,L.lp,_,(i:Int),i,rfl,rfl,N,by rw [sJ (by lk) (by lk),kO],?_⟩;have M:KT H1 (upd H1 L.lp (HO.lst (r.set i (V.ref c)))):=lN N (bY _);have J:cN C (upd H1 L.lp (HO.lst (r.set i (V.ref c)))) p v L (GJ g i (jA aj ws st i pl)):=by refine ⟨(aV j.M4.2.2.1).trans j.ob,(aV a.fp).trans j.fa,(aV a.tp).trans j.ta,⟨_,aM,?_⟩,(aV (bF a.pc)).trans j.ch,a.ft,a.fp,a.fc,a.tp,a.tc,a.pc⟩;exact Paired.aez ⟨c,rfl,M _ _ x⟩ i (vO D λ_ _ z=>z.kt M)
  have S:dW L H (upd H1 L.lp (HO.lst (r.set i (V.ref c)))):=dW.trans y λb o e h1 h2 h3 h4=>(aV h3).trans e;have Y:(upd H1 L.lp (HO.lst (r.set i (V.ref c)))) L.lp=some (.lst (r.set i (.ref c))):=aM;have U:=M _ _ x;generalize upd H1 L.lp (HO.lst (r.set i (V.ref c)))=H2 at J S Y U;refine ⟨_,rfl,p,C,_,_,_,rfl,J.ob,Z.TP.cl,Z.TP.nP,tR _ _,_,rfl,L.lp,_,_,_,rfl,rfl,aN Y,oO (show (r.set i (V.ref c))[i]?=some (V.ref c) by simp [show i<r.length by lk]),?_⟩;rw [<-es] at J;exact q c H2 J S U
 have W:(st.chg.map V.int)[i]?=some (.int (st.chg.getD i 0)):=by rw [jP,FJ (show i<st.chg.length by lk)];rfl
 cases pl with
 |out l n=>exact absurd no (by simp [cB])
 |exit l =>have d:H t=some (.tup [.str "exit",.int l]):=R;refine ⟨_,rfl,t,_,_,_,rfl,rfl,aZ d,rfl,rfl,_,rfl,bR (by decide) ?_⟩;refine ⟨_,rfl,t,_,_,_,rfl,rfl,aZ d,rfl,rfl,_,rfl,cL (by decide) ?_⟩;refine ⟨_,rfl,p,_,_,rfl,a.ob,oY _ _ (by k_go) (by k_go) (by k_go) (by k_go) (by k_go),_,rfl,t,_,_,_,rfl,rfl,aZ d,rfl,?_⟩;refine ⟨_,rfl,p,C,_,_,_,rfl,a.ob,Z.TP.cl,Z.TP.nC,O8 _ _,_,rfl,L.lc,_,_,_,rfl,rfl,aN a.ch,oO W,p,v,aj,ws,L,st,l,st.chg.getD i 0,rfl,B,a,I.tl,u.1,u.2,λc H1 j y x=>?_⟩;exact O _ c H1 j y rfl x rfl
 |before k l =>have d:H t=some (.tup [.str "before",.int k,.int l]):=R;refine ⟨_,rfl,t,_,_,_,rfl,rfl,aZ d,rfl,rfl,_,rfl,bR (by decide) ?_⟩;refine ⟨_,rfl,t,_,_,_,rfl,rfl,aZ d,rfl,rfl,_,rfl,bR (by decide) ?_⟩;refine ⟨_,rfl,p,_,_,rfl,a.ob,oY _ _ (by k_go) (by k_go) (by k_go) (by k_go) (by k_go),_,rfl,t,_,_,_,rfl,rfl,aZ d,rfl,?_⟩;refine ⟨_,rfl,p,C,_,_,_,rfl,a.ob,Z.TP.cl,Z.TP.nC,O8 _ _,_,rfl,L.lc,_,_,_,rfl,rfl,aN a.ch,oO W,p,v,aj,ws,L,st,k,st.chg.getD i 0,rfl,B,a,I.fl,u.1,λc H1 j y x=>?_⟩;exact O _ c H1 j y rfl x rfl
def agu:j7 P w K mg au C "inside" 1 ["self"] (alf C):=by
 o_head (pF Z.W2,["self"]);obtain ⟨p,v,L,st,rfl,y,O,q⟩:=h;obtain ⟨B,z,g⟩:=y.pl;have N:=o7 g;refine ⟨_,(aO (bw (iD ["walker","place"] [] rfl (Bl rfl T.yI (ao (fY (pv 0) rfl) aq)) (by w_tab) (by row_wit1 (Cj (cQ mj (uE (Ck K rfl) (pv 1) aL (λ_ _=>rfl)) bN))) (by row_wit1 (pv 0))))),_,rfl,p,C,_,_,_,rfl,y.ob,Z.TP.cl,Z.TP.nP,tR _ _,L.lp,rfl,⟨_,aN z⟩,λl m=>?_⟩;refine ai2 (xs:=B) (λj ys Hc=>aB H Hc/\Hc l=some (.lst ys)/\ys=(gR 0 (st.aX.take j)).map V.int) ⟨bQ m (cW _),aM,rfl⟩ (aW (by lk)) (λj ys Hc u ⟨a,c,J⟩=>⟨aN (a _ _ z),c,by rw [J,bh];have:=agH (st.aX.take j) 0;rw [gW] at this;lk⟩) ?_ ?_
 ·rintro j x o ys Hc D I ⟨a,c,rfl⟩;have R:j<B.length:=(dY.mp D).1;have u:st.aX[j]?=some st.aX[j]:=by simp [show j<st.aX.length by lk]
  obtain ⟨r,e,t,rfl,M⟩:=Paired.Dv g u;rw [D] at e;cases e;have d:=af8 (st.aX.take j) st.aX[j] 0;rw [<-gb u,gW,tY (by lk),oM] at d;have b:aB Hc (upd Hc o (HO.tup [V.int j,V.ref t])):=cu I _;refine ⟨o,_,rfl,aZ aM,rfl,_,_,rfl,_,_,rfl,rfl,⟨.inl rfl,.inl rfl,trivial⟩,?_⟩;generalize upd Hc o (HO.tup [V.int j,V.ref t])=H2 at b;have n:=b _ _ c;have i:=b _ _ (a _ _ M);generalize st.aX[j]=pl at d i;cases pl with
  |before k l' =>refine ⟨_,rfl,t,_,_,_,rfl,rfl,aZ i,rfl,rfl,_,rfl,cL (by decide) ?_⟩;refine ⟨_,rfl,n,bQ m (aG a b),aM,?_⟩;rw [d,cX];rfl
  |exit l' =>refine ⟨_,rfl,t,_,_,_,rfl,rfl,aZ i,rfl,rfl,_,rfl,cL (by decide) ?_⟩;refine ⟨_,rfl,n,bQ m (aG a b),aM,?_⟩;rw [d,cX];rfl
  |out l' S =>refine ⟨_,rfl,t,_,_,_,rfl,rfl,aZ i,rfl,rfl,_,rfl,bR (by decide) ?_⟩;refine ⟨aG a b,n,?_⟩;rw [d];show _=(gR 0 (st.aX.take j)++[]).map V.int;rw [nO]
 rintro ys Hc ⟨a,c,rfl⟩;rw [N,gw] at c;exact q l Hc m a c
def agv:j7 P w K mg au C "counts" 1 ["self"] (ai1 C):=by o_head (pF Z.W3,["self"]);obtain ⟨p,v,L,st,rfl,b,q⟩:=h;exact ⟨_,(aO (bw (iy Ik rfl T.zR Bf (ao (fY (pv 0) rfl) aq)))),_,rfl,p,C,_,_,_,rfl,b.ob,Z.TP.cl,Z.TP.nT,yK _ _,L.lt,_,rfl,.inl (aN b.ta),λl a=>q l _ a (cu a _) aM⟩
def Za:j7 P w K mg au C "standing" 2 ["self"] (an7 C):=by
 o_head (pF Z.W4,["self","found","lane","count"]);obtain ⟨p,v,aj,ws,L,st,rfl,b,j,tl,S,q⟩:=h;obtain ⟨n,tn,rns,rfl,W,htn,cR⟩:=id b.1;have R:=b.2.1;have w8:=b.2.2.1;refine ⟨_,(aU (bW 1 nd (fB aq))
 (aU (jx jj rfl  (Bl rfl T.yI (ao (fY (pv 0) rfl) aq)) (qM rfl (ji (fL 2 nd) (ji (fL 3 nd) qF)))
 (aO (kI (iV oN Kl Km IV (pv 1) (ao (bH (Z6 Z) hr.m rfl (ao (b_ (fY (pv 0) rfl) aL) (ao (pv 2) (ao aL (ao (pv 3) aq))))) aq)))))
 (aO (bw (jM Zk rfl T.abj aci (ao (pv 1) aq)))))),?_⟩
 refine ⟨aW (by kl_no),λe o=>?_⟩;km_lay o H0 o N x0;have I:=j.same N;refine ⟨_,rfl,p,C,_,_,_,rfl,I.ob,Z.TP.cl,Z.TP.nT,yK _ _,L.lt,rfl,⟨_,aN I.ta⟩,?_⟩;refine Bm (xs:=st.bM.map V.int) (λi σ Hc=>∃ u B,σ=[some (.ref p),some (.ref e),u,B]/\aB H Hc/\Hc e=some (.lst ((fD aj 0 (st.bM.take i)).map V.int))) ⟨none,none,rfl,N,x0⟩ (λi σ Hc _ ⟨_,_,_,c,_⟩=>aN (c _ _ j.ta)) ?_ ?_
 ·rintro i x k σ Hc hx O ⟨u,B,rfl,c,d⟩;obtain ⟨z,D,rfl⟩:=u5 hx;have il:i<st.bM.length:=(dY.mp D).1;have bz:=Cw (t:=st.bM) i;rw [Fx,D,RZ] at bz;have g:aB Hc (upd Hc k (HO.tup [V.int i,V.int z])):=cu O _;refine ⟨k,_,rfl,aZ aM,rfl,?_⟩;generalize upd Hc k (HO.tup [V.int i,V.int z])=H1 at g;refine ⟨_,_,rfl,_,_,rfl,rfl,?_⟩;have r:=aG c g;have eY:=j.same r;have Y:=Iz aj 0 (st.bM.take i);have la:=Qx st.bM i;refine ⟨_,rfl,.inl ⟨rfl,_,aN (g _ _ d)⟩,_,rfl,p,C,_,_,_,rfl,eY.ob,Z.TP.cl,Z.TP.nN,vq _ _,n,_,_,_,rfl,rfl,aZ (r _ _ W),rfl,_,rfl,_,rfl,aj,i,0,z,rfl,R,w8,⟨⟨by lk, by lk⟩,by lk, by lk⟩,λa H2 fa J U=>⟨e,a,_,_,rfl,rfl,J _ _ (g _ _ d),U,aW (by rw [bh,bh,Ep];lk),_,_,rfl,bQ o (aG r J),?_⟩⟩;rw [aM,gb D,ZL,cX,gW,tY (by lk),oM,Fo]
 ·rintro σ Hc ⟨u,B,rfl,c,d⟩;rw [bh,gw] at d;have Y:=Iz aj 0 st.bM;exact ⟨_,rfl,e,_,rfl,aN d,by lk, λl y M pm pw=>q l y _ (c.free M) (bQ (c.free M) c) pm pw aM⟩
def ais:j7 P w K mg au C "owed" 2 ["self"] (apD C):=by
 o_head (pF Z.W5,["self","found","lane","count"]);obtain ⟨p,v,aj,ws,L,st,rfl,b,j,tl,S,q⟩:=h;obtain ⟨n,tn,rns,rfl,W,htn,cR⟩:=id b.1;have R:=b.2.1;have w8:=b.2.2.1;refine ⟨_,(aU (bW 1 nd (fB aq))
 (aU (jx jj rfl  (Bl rfl T.yI (ao (fY (pv 0) rfl) aq)) (qM rfl (ji (fL 2 nd) (ji (fL 3 nd) qF)))
 (aO (kI (iV oN Kl Km IV (pv 1) (ao (bH (Z6 Z) hr.m rfl (ao (b_ (fY (pv 0) rfl) aL) (ao (pv 2) (ao (pv 3) (ao aL aq))))) aq)))))
 (aO (bw (jM Zk rfl T.abj aci (ao (pv 1) aq)))))),?_⟩
 refine ⟨aW (by kl_no),λe o=>?_⟩;km_lay o H0 o N x0;have I:=j.same N;refine ⟨_,rfl,p,C,_,_,_,rfl,I.ob,Z.TP.cl,Z.TP.nT,yK _ _,L.lt,rfl,⟨_,aN I.ta⟩,?_⟩;refine Bm (xs:=st.bM.map V.int) (λi σ Hc=>∃ u B,σ=[some (.ref p),some (.ref e),u,B]/\aB H Hc/\Hc e=some (.lst ((k_ aj 0 (st.bM.take i)).map V.int))) ⟨none,none,rfl,N,x0⟩ (λi σ Hc _ ⟨_,_,_,c,_⟩=>aN (c _ _ j.ta)) ?_ ?_
 ·rintro i x k σ Hc hx O ⟨u,B,rfl,c,d⟩;obtain ⟨z,D,rfl⟩:=u5 hx;have il:i<st.bM.length:=(dY.mp D).1;have bz:=Cw (t:=st.bM) i;rw [Fx,D,RZ] at bz;have g:aB Hc (upd Hc k (HO.tup [V.int i,V.int z])):=cu O _;refine ⟨k,_,rfl,aZ aM,rfl,?_⟩;generalize upd Hc k (HO.tup [V.int i,V.int z])=H1 at g;refine ⟨_,_,rfl,_,_,rfl,rfl,?_⟩;have r:=aG c g;have eY:=j.same r;have Y:=Jd aj 0 (st.bM.take i);have la:=Qx st.bM i;refine ⟨_,rfl,.inl ⟨rfl,_,aN (g _ _ d)⟩,_,rfl,p,C,_,_,_,rfl,eY.ob,Z.TP.cl,Z.TP.nN,vq _ _,n,_,_,_,rfl,rfl,aZ (r _ _ W),rfl,_,rfl,_,rfl,aj,i,z,0,rfl,R,w8,⟨⟨by lk, by lk⟩,by lk, by lk⟩,λa H2 fa J U=>⟨e,a,_,_,rfl,rfl,J _ _ (g _ _ d),U,aW (by rw [bh,bh,Ep];lk),_,_,rfl,bQ o (aG r J),?_⟩⟩;rw [aM,gb D,aak,cX,gW,tY (by lk),oM,Int.zero_sub]
 ·rintro σ Hc ⟨u,B,rfl,c,d⟩;rw [bh,gw] at d;have Y:=Jd aj 0 st.bM;exact ⟨_,rfl,e,_,rfl,aN d,by lk, λl y M pm pw=>q l y _ (c.free M) (bQ (c.free M) c) pm pw aM⟩
def af4:j7 P w K mg au C "lacking" 3 ["self"] (apE C):=by
 o_head (pF Z.W6,["self","wide","greatest"]);obtain ⟨p,v,aj,ws,L,st,rfl,b,i,tl,c,q⟩:=h;obtain ⟨n,tn,S,rfl,J,Y,cR⟩:=id b.1;have x:=b.2.1;have O:=b.2.2.1;refine ⟨_,(aU (bW 1 nd (b_ (fY (pv 0) rfl) aL))
 (aU (bW 2 nd (acz rfl rfl T.Gu (yJ (pv 0) Z.TP.cl (Za Z) hr.m) aL))
 (aO (bw (iD ["number"] [("wide",1),("self",0)] rfl (qt rfl T.lD (ao (pv 2) aq)) (by k_all) (by row_wit1 (Cj (cQ T9 (bD xK (pv 0) (pv 1)) (uE (akU K rfl) (an4 K rfl (pv 2) rfl) (bD nU (pv 0) (pv 1)) (λ_ _=>rfl))))) (by row_wit1 (pv 0))))))),?_⟩
 refine ⟨_,rfl,p,C,_,_,_,rfl,i.ob,Z.TP.cl,Z.TP.nN,vq _ _,n,_,_,_,rfl,rfl,aZ J,rfl,?_⟩;dsimp only [lK];refine t_ (a:=qW _ _) λN hN=>⟨_,rfl,p,_,_,rfl,i.ob,oY _ _ (by k_go) (by k_go) (by k_go) (by k_go) (by k_go),p,.ref n,aj,ws,L,st,rfl,b,i,tl,c,λa ns H1 fa r pm pw I=>?_⟩;have z:∀ g,sX aj st.bM g->N [some (.ref p),some (.int aj),some (.int g)] H1:=λg u=>hN _ _ (by
  have g0:=u.nonneg;have g6:=u.lt x O tl c;refine ⟨_,rfl,_,rfl,by lk, by lk, λl t=>?_⟩;refine tQ (n:=g.toNat) (λj ys k=>aB H1 k/\k l=some (.lst ys)/\ys=(uI aj st.bM j).map V.int) ⟨bQ t (cW _),aM,rfl⟩ (aW (by lk)) (λj ys k ⟨s4,W,R⟩=>⟨W,by rw [R,bh];exact aaZ _ _ _⟩) ?_ ?_
  ·rintro j ys k hj ⟨o,y,rfl⟩;have ej:(0:Int)+(j:Int)=(j:Int):=rO _;rw [ej];have D:=rP (j:Int) (show aj≠0 by lk);have m1:=rQ (j:Int) (show 0<aj by lk);have d:=(i.same r).same o;refine ⟨⟨.inl rfl,.inr rfl,.inr rfl,trivial⟩,_,rfl,_,rfl,_,_,rfl,rfl,⟨by lk, by lk⟩,_,rfl,p,C,_,_,_,rfl,d.ob,Z.TP.cl,Z.TP.nT,yK _ _,_,rfl,_,rfl,_,_,rfl,rfl,by lk, L.lt,_,_,_,rfl,rfl,aN d.ta,lY D (by lk),_,_,rfl,rfl,_,rfl,pB (λg=>?_) (λg=>?_)⟩
   ·refine ⟨_,rfl,y,bQ t o,aM,?_⟩;have g':=jH g;rw [aam,aQ g',cX];rfl
   ·refine ⟨o,y,?_⟩;have g':=acA g;rw [aam,aK g',nO]
  ·rintro ys H2 ⟨M,B,rfl⟩;exact q l g H2 (r.free t) (aG r M) u B)
 exact ⟨a,ns,rfl,aN I,λe=>z 0 (ajE pm e),λm U=>z m (al1 x pm U)⟩
def ait:j7 P w K mg au C "rest" 5 ["self"] (apk C):=by
 o_head (pF Z.W7,["self","walker"]);obtain ⟨p,v,aj,ws,L,st,rfl,J,l,wf,q⟩:=h;have ok:=J.2.2.2.1;have ml:=wf.ml;have N:∀ (m:Str),(¬ m="changes")->(¬ m="places")->(¬ m="tally")->(¬ m="facing")->(¬ m="net")->(m8 v L).lookup m=none:=λm=>oY _ _;refine ⟨_,(aO (jx jj rfl  (jZ (yJ (pv 0) Z.TP.cl (agu Z) hr.m)) (fL 1 nd)
 (aO (QC jj  (cQ mj (b_ (cJ (fY (pv 0) rfl) (pv 1)) aL) bN)
 (aO (kI (jN (pv 0) Z.TP.cl (aat Z) hr.m (ao (pv 1) aq)))))))),?_⟩
 refine ⟨_,rfl,p,_,_,rfl,l.ob,N _ (by k_go) (by k_go) (by k_go) (by k_go) (by k_go),p,v,L,st,rfl,l,by lk, λli H1 Y s1 M=>?_⟩;obtain ⟨rp0,xp0,_⟩:=l.pl;have lnf:li≠L.lf:=bF (cV l.fa Y);have lnt:li≠L.lt:=bF (cV l.ta Y);have lnp:li≠L.lp:=bF (cV xp0 Y);have lnc:li≠L.lc:=bF (cV l.ch Y);refine ⟨li,rfl,⟨_,aN M⟩,uY (K:=K) (a:=li) (xs:=(gR 0 st.aX).map V.int) (λi σ Hc=>∃ (v1:Option V) (c:cH),σ=[some (.ref p),v1]/\cN C Hc p v L c/\Wf aj ws c/\dW L H Hc/\Hc li=some (.lst ((gR 0 st.aX).map V.int))/\c.aX.length=st.aX.length/\∀ d,oZ aj ws ((gR 0 st.aX).drop i) c d->oZ aj ws (gR 0 st.aX) st d) ⟨none,st,rfl,l.same s1,wf,dW.same s1,M,rfl,λd h=>h⟩ (λi σ Hc _ ⟨_,_,_,_,_,_,xl,_⟩=>aN xl) ?_ ?_⟩
 ·rintro i x σ Hc hx ⟨v1,c,rfl,Yk,S,kC,U,I,e⟩;obtain ⟨z,hz,rfl⟩:=u5 hx;obtain ⟨j,pl,ez,hj,no⟩:=ZD st.aX 0 (fj hz);rw [oM] at ez;subst ez;have jl:j<st.aX.length:=(dY.mp hj).1;have hd:(gR 0 st.aX).drop i=(j:Int)::(gR 0 st.aX).drop (i+1):=by obtain ⟨il,ei⟩:=dY.mp hz;rw [<-ei];exact List.drop_eq_getElem_cons il
  have hj':c.aX[j]?=some (c.aX[j]'(by lk)):=by simp [show j<c.aX.length by lk]
  refine Sh (λm σ k=>∃ (b:cH) (pl:Place),σ=[some (.ref p),some (.int j)]/\cN C k p v L b/\Wf aj ws b/\dW L H k/\k li=some (.lst ((gR 0 st.aX).map V.int))/\b.aX.length=st.aX.length/\b.aX[j]?=some pl/\m=Ma ws.length pl/\∀ d,vZ aj ws j b d->vZ aj ws j c d) _ ⟨c,_,rfl,Yk,S,kC,U,I,hj',rfl,λd h=>h⟩ ?_ ?_
  ·rintro m σ k ⟨b,pl,rfl,n,W,kD,D,O,B,rfl,run⟩;obtain ⟨rp,xp,hp⟩:=n.pl;obtain ⟨r,u,t,rfl,ht⟩:=Paired.Dv hp B;have ktD:KT H k:=dW.kt l kD;by_cases o:cB pl=true
   ·cases pl with
    |before k' l'=>exact absurd o (by simp [cB])
    |exit l'=>exact absurd o (by simp [cB])
    |out l' n' =>refine ⟨_,rfl,p,C,_,_,_,rfl,n.ob,Z.TP.cl,Z.TP.nP,tR _ _,_,rfl,L.lp,_,_,_,rfl,rfl,aN xp,oO u,t,_,_,_,rfl,rfl,aZ ht,rfl,rfl,_,rfl,bR (by decide) ?_⟩;refine ⟨_,b,rfl,n,W,kD,D,O,λd h=>e d ?_⟩;rw [hd];exact .cons (run _ (.done B o)) h
   ·have g:cB pl=false:=by simpa using o
    have Av:∀ {R:Bool->Hp->Prop},R true k->Gq (lO rNe (lO (Dr K) (lO (GF K) (z7 K (mX 0) "places") (mX 1)) (tC (V.int 0))) (tC (V.str "out"))) [some (.ref p),some (.int j)] k R:=λhR=>by
     cases pl with
     |out l' n'=>exact absurd g (by simp [cB])
     |before k' l'=>exact ⟨_,rfl,p,C,_,_,_,rfl,n.ob,Z.TP.cl,Z.TP.nP,tR _ _,_,rfl,L.lp,_,_,_,rfl,rfl,aN xp,oO u,t,_,_,_,rfl,rfl,aZ ht,rfl,rfl,_,rfl,hR⟩
     |exit l'=>exact ⟨_,rfl,p,C,_,_,_,rfl,n.ob,Z.TP.cl,Z.TP.nP,tR _ _,_,rfl,L.lp,_,_,_,rfl,rfl,aN xp,oO u,t,_,_,_,rfl,rfl,aZ ht,rfl,rfl,_,rfl,hR⟩
    refine Av (cL rfl ⟨_,rfl,p,_,_,rfl,n.ob,N _ (by k_go) (by k_go) (by k_go) (by k_go) (by k_go),_,rfl,p,v,aj,ws,L,b,j,pl,rfl,J.kt ktD,n,W,B,g,λt5 H5 pa5 k5 x5=>⟨_,ai5 W B g,_,_,rfl,pa5,acI ok W B,dW.trans kD k5,k5 _ _ D lnf lnt lnp lnc,by rw [rE];exact O,step_at B,rfl,λd h=>run d (.more B g h)⟩⟩)
  ·rintro σ k Q' Q'' hq h;obtain ⟨y,f0,a1,b1,c1,d1,e1,f1,f2,f3,f4,f5,y2,f6,a2,b2,c2,d2,g1,g2,g3,g4,a3,b3,c3,d3,g5,g6,g7,g8,g9,k',m1,h2⟩:=h;exact ⟨y,f0,a1,b1,c1,d1,e1,f1,f2,f3,f4,f5,y2,f6,a2,b2,c2,d2,g1,g2,g3,g4,a3,b3,c3,d3,g5,g6,g7,g8,g9,k',m1,hq _ _ h2⟩
 ·rintro σ Hc ⟨v1,c,rfl,Yk,S,kC,U,I,e⟩;rw [bh,List.drop_length] at e;exact q c Hc (e _ .nil) Yk kC
def CG:Gc Z "spaced" 1 ["things"] amb:=by
 o_head (dz Z.W8,["things"]);obtain ⟨a,xs,ys,rfl,j,pw,len,q⟩:=h;refine ⟨_,(aO (bw (iV qD Kg Kh KN bN (ao (iD ["thing"] [] rfl (Lj (jZ (pv 0)) (vJ (pv 0))) (by k_all) (by k_mem) (by row_wit1 (iy ajF rfl T.o9 qu (ao (pv 0) aq)))) aq)))),?_⟩;have C:(ofString " ")=⟨#[32]⟩:=by k_go
 have t:xs.length=ys.length:=o7 pw;have B:=FT pw;refine ⟨rfl,?_⟩;have step:∀ (b:Addr) (i:Nat) (x:V) (zs:aA) (Hc:Hp),H b=none->xs[i]?=some x->(aB H Hc/\Hc b=some (.lst zs)/\zs=(ys.take i).map V.str)->∃ y:Str,(ZQ [x] Hc λv p=>p b=some (.lst zs)/\aB H (upd p b (.lst (zs++[v])))/\(upd p b (.lst (zs++[v]))) b=some (.lst (zs++[v]))/\zs++[v]=(ys.take (i+1)).map V.str):=λb i x zs Hc g l ⟨d,c,m⟩=>by
  have I:i<ys.length:=by have:=(dY.mp l).1;lk
  have k:ys[i]?=some ys[i]:=by simp [I]
  obtain ⟨J,n,u⟩:=Paired.Dv pw k;rw [l] at n;cases n;subst m;have o:∀ z:Str,ys[i]=z->Hc b=some (.lst ((ys.take i).map V.str))/\aB H (upd Hc b (.lst ((ys.take i).map V.str++[V.str z])))/\(upd Hc b (.lst ((ys.take i).map V.str++[V.str z]))) b=some (.lst ((ys.take i).map V.str++[V.str z]))/\(ys.take i).map V.str++[V.str z]=(ys.take (i+1)).map V.str:=λz D =>
   ⟨c,bQ g d,aM,by rw [gb k,cX,D];rfl⟩
  refine ⟨ys[i],?_⟩;generalize ys[i]=z at u o;cases u with
  |int h=>exact .int _ rfl (xP h) (o _ rfl)
  |str h=>exact .str _ rfl (o _ rfl)
 have e:∀ (b:Addr) (Hc:Hp),(aB H Hc/\Hc b=some (.lst (ys.map V.str)))->adJ K (.str (ofString " ")) [.ref b] Hc Q:=λb Hc ⟨d,c⟩=>by rw [C];exact ⟨_,b,ys,rfl,rfl,aN c,by rw [show (⟨#[32]⟩:Str).length=1 from rfl];lk, q Hc d⟩
 rcases j with j|j
 ·refine .inl ⟨_,rfl,a,rfl,⟨_,aN j⟩,λb g=>?_⟩;refine rD (xs:=xs) (λi zs Hc=>aB H Hc/\Hc b=some (.lst zs)/\zs=(ys.take i).map V.str) ⟨bQ g (cW H),aM,rfl⟩ (aW (by lk)) (λi zs Hc hi ⟨d,c,m⟩=>⟨aN (d _ _ j),c,by rw [m,bh,gW];lk⟩) ?_ ?_
  ·rintro i x zs Hc l r;obtain ⟨y,k⟩:=step b i x zs Hc g l r;exact ⟨⟨.inl rfl,trivial⟩,sI ⟨_,rfl,k⟩⟩
  ·rintro zs Hc ⟨d,c,rfl⟩;rw [t,gw] at c;exact e b Hc ⟨d,c⟩
 ·refine .inr ⟨_,rfl,a,rfl,⟨_,aZ j⟩,λb g=>?_⟩;refine yM (xs:=xs) (λi zs Hc=>aB H Hc/\Hc b=some (.lst zs)/\zs=(ys.take i).map V.str) ⟨bQ g (cW H),aM,rfl⟩ (aW (by lk)) (λi zs Hc hi ⟨d,c,m⟩=>⟨aZ (d _ _ j),c,by rw [m,bh,gW];lk⟩) ?_ ?_
  ·rintro i x zs Hc l r;obtain ⟨y,k⟩:=step b i x zs Hc g l r;exact ⟨⟨.inl rfl,trivial⟩,sI ⟨_,rfl,k⟩⟩
  ·rintro zs Hc ⟨d,c,rfl⟩;rw [t,gw] at c;exact e b Hc ⟨d,c⟩
def Oo:Gc Z "spaced_or_none" 2 ["numbers"] abF:=by
 o_head (dz Z.W9,["numbers"]);obtain ⟨a,ns,rfl,b,d,len,q⟩:=h;refine ⟨_,(aO (bw (qx (akI (pv 0) (λ_=>rfl)) (bH (CG Z) hr.m rfl (ao (pv 0) aq)) bN))),_,rfl,!(ns.map V.int).isEmpty,.inl ⟨_,aN b,rfl⟩,?_⟩;cases ns with
 |nil=>exact bR (by decide) (q H (cW _))
 |cons n r =>refine cL rfl ⟨_,rfl,a,_,_,rfl,.inl b,Bs d,by rw [bh];lk, λH1 c=>?_⟩;exact q H1 c
def adW:Gr Z "net" ["new net","text"] ajS:=by o_head (qe 8 Z.W_,["things"]);obtain ⟨l,d,aj,ws,rfl,a,c,b,ok,len,q⟩:=h;exact ⟨_,(aO (bw (bH (akq Z) hr.m rfl (ao (cJ (pv 0) aL) aq)))),_,rfl,l,_,_,_,rfl,rfl,aN a,rfl,aj,ws,rfl,c,b,ok,len,q⟩
def akx:Gr Z "folded" ["new net","number"] (arL (u6 eA.d_ 4)):=by o_head (Dz 12 Z.Xa,["things"],0);obtain ⟨l,y,x,rfl,a,h⟩:=h;refine ⟨_,(aO (bw (b_ (nG (Sy Z) hr.m rfl (ao (cJ (pv 0) aL) aq)) aL))),_,rfl,l,_,_,_,rfl,rfl,aN a,rfl,agW h λu H' ⟨t,v,p,e,b,q⟩=>?_⟩;subst e;exact ⟨t,_,_,_,rfl,rfl,aZ b,rfl,q⟩
def aky:Gr Z "rounds" ["new net","number"] (aeF (Qs eA.d_)):=by o_head (Dz 8 Z.Xb,["things"],0);obtain ⟨l,y,x,rfl,a,h⟩:=h;exact ⟨_,(aO (bw (nG (aoG Z) hr.m rfl (ao (cJ (pv 0) aL) aq)))),_,rfl,l,_,_,_,rfl,rfl,aN a,rfl,h⟩
def akz:Gr Z "behind" ["new net","net","net"] (arK (adF ⟨eA.d_,eA.d_,eA.d_,eA.d_,eA.many,eA.d_,eA.d_,eA.d_⟩ FN)):=by o_head (Dz 3 Z.Xc,["things"],0);obtain ⟨l,y,x,z,rfl,a,h⟩:=h;exact ⟨_,(aO (bw (nG (aoI Z) hr.m rfl (ao (cJ (pv 0) aL) (ao (cJ (pv 0) aL) aq))))),_,rfl,l,_,_,_,rfl,rfl,aN a,rfl,_,rfl,l,_,_,_,rfl,rfl,aN a,rfl,h⟩
def akA:Gr Z "mirror" ["new net","net"] (aeF aaf):=by o_head (qe 2 Z.Xd,["things"]);obtain ⟨l,y,x,rfl,a,h⟩:=h;exact ⟨_,(aO (bw (bH (aku Z) hr.m rfl (ao (cJ (pv 0) aL) aq)))),_,rfl,l,_,_,_,rfl,rfl,aN a,rfl,h⟩
def adh:Gr Z "play" ["new play","net"] (ajT C):=by o_head (qe 3 Z.Xe,["things"]);obtain ⟨l,k,v,aj,ws,rfl,c,b,q⟩:=h;exact ⟨_,(aO (bw (ak9 (apY Z) hr.m rfl (ao (cJ (pv 0) aL) aq)))),_,rfl,l,_,_,_,rfl,rfl,aN c,rfl,λx dx d j g=>an5 b x dx d j λL H2 a i e=>q x L H2 a i e⟩
def aoP:Gr Z "rest" ["play"] (ajV C):=by
 o_head (qe 6 Z.Xf,["things"]);obtain ⟨l,p,v,aj,ws,L,st,rfl,e,b,c,d,q⟩:=h;refine ⟨_,(aU (kI (yJ (cJ (pv 0) aL) Z.TP.cl (ait Z) hr.m))
 (aO (bw bN))),?_⟩
 exact ⟨_,rfl,l,_,_,_,rfl,rfl,aN e,rfl,p,_,_,rfl,c.ob,oY _ _ (by k_go) (by k_go) (by k_go) (by k_go) (by k_go),p,v,aj,ws,L,st,rfl,b,c,d,λi H' r a g=>q i H' r a g⟩
def aoQ:Gr Z "show" ["net"] ajU:=by o_head (qe 2 Z.Xg,["things"]);obtain ⟨l,v,aj,ws,rfl,b,a,q⟩:=h;exact ⟨_,(aO (bw (bH (akr Z) hr.m rfl (ao (cJ (pv 0) aL) aq)))),_,rfl,l,_,_,_,rfl,rfl,aN b,rfl,v,aj,ws,rfl,a.1,a.2.1,a.2.2.1,a.2.2.2.1,a.2.2.2.2,q⟩
def amN:Gr Z "exits" ["net","number"] Py:=by
 o_head (qe 3 Z.Xh,["things","net","counts"]);obtain ⟨l,v,aj,ws,cs,ys,rfl,d,b,e,r,q⟩:=h;obtain ⟨n,t,rs,rfl,u,C,I⟩:=id b.1;refine ⟨_,(aU (bW 1 nd (cJ (pv 0) aL))
 (aU (bW 2 nd (wV Ci (pv 0) (xO aL) xM))
 (aU (cP (cQ mj (j6 T (pv 2)) (b_ (pv 1) aL))
 (aO oK)
 cT)
 (aO (bw (bH (CG Z) hr.m rfl (ao (bH (Gn Z) hr.m rfl (ao (pv 1) (ao (pv 2) aq))) aq))))))),?_⟩
 refine ⟨_,rfl,l,_,_,_,rfl,rfl,aN d,oO (j:=0) rfl,_,rfl,_,rfl,l,_,rfl,aN d,λg k=>?_⟩;rw [ajX];km_lay k H1 k c i;have z:=b.2.1;have D:=b.2.2.1;exact ⟨_,rfl,g,_,rfl,.inl (aN i),_,rfl,n,_,_,_,rfl,rfl,aZ (c _ _ u),rfl,rfl,_,rfl,bR (LQ (je V.int (by rw [bh,e];lk))) ⟨_,rfl,_,rfl,.ref n,aj,ws,g,cs,rfl,b.1.kt (cG c (bY _)),b.2.2.2.1,by have:=b.2.2.2.2;lk, i,e,λa H2 B x y=>⟨a,_,ys,rfl,.inl y,r,by rw [bh,jE];lk, λp o=>q p (aG c (aG x o))⟩⟩⟩
def Zb:Gc Z "verdict_words" 2 ["told"] apQ:=by o_head (dz Z.Xi,["told"]);obtain ⟨t,x,rfl,a,q⟩:=h;exact ⟨_,(aO (bw (qx (cQ iU (j6 T (pv 0)) aL) (b_ (pv 0) aL) (bH (CG Z) hr.m rfl (ao (bD vK (fB (ao (b_ (pv 0) aL) aq)) (b_ (pv 0) aL)) aq))))),_,rfl,t,_,rfl,.inr (aZ a),rfl,_,rfl,cL (by simp) ⟨_,rfl,t,_,_,_,rfl,rfl,aZ a,rfl,q⟩⟩
def akB:Gr Z "levels" ["net"] (ami eA.many):=by o_head (Dz 7 Z.Xj,["things"],0);obtain ⟨l,v,aj,ws,rfl,c,a,b,g,q,e⟩:=h;refine ⟨_,(aO (bw (bH (Zb Z) hr.m rfl (ao (nG (aoM Z) hr.m rfl (ao (cJ (pv 0) aL) aq)) aq)))),_,rfl,l,_,_,_,rfl,rfl,aN c,rfl,v,aj,ws,rfl,a,b,g,λj H1 k d i=>?_,e⟩;exact ⟨j,_,rfl,i,q H1 d⟩
def aa9:Gr Z "orders" ["net"] amj:=by o_head (qe 4 Z.Xk,["things"]);obtain ⟨l,v,aj,ws,rfl,d,a,e,q⟩:=h;refine ⟨_,(aO (bw (bH (Zb Z) hr.m rfl (ao (bH (aoN Z) hr.m rfl (ao (cJ (pv 0) aL) aq)) aq)))),_,rfl,l,_,_,_,rfl,rfl,aN d,rfl,v,aj,ws,rfl,a.1,a.2.1,a.2.2.1,a.2.2.2.1,a.2.2.2.2,λc H1 n i j _=>?_,λc k r H1 _ _ _ _ _ g b=>absurd (aj4 a.2.2.2.1 a.2.1 e r g) b⟩;exact ⟨c,_,rfl,j,q H1 i⟩
def amO:Gr Z "alike" ["net","net"] (amk eA.many):=by
 o_head (Dz 6 Z.Xl,["things","counts"],0);obtain ⟨l,v,d,aj,ws,rfl,b,a,g,q,e⟩:=h;refine ⟨_,(aU (bW 1 nd (nG (aoO Z) hr.m rfl (ao (cJ (pv 0) aL) (ao (cJ (pv 0) aL) aq))))
 (aO (bw (qx (cQ adv (pv 1) zP) bN (bH (CG Z) hr.m rfl (ao (bD vK (fB (ao bN aq)) (pv 1)) aq)))))),?_⟩
 refine ⟨_,rfl,l,_,_,_,rfl,rfl,aN b,rfl,_,rfl,l,_,_,_,rfl,rfl,aN b,rfl,v,d,aj,ws,rfl,a,g,λH1 c=>?_,e⟩;exact ⟨_,rfl,rfl,_,rfl,cL rfl (q H1 c)⟩
def amP:Gr Z "enter" ["play","number"] (apK C (Ky C 1)):=by o_head (qe 5 Z.Xm,["things"]);obtain ⟨l,p,x,v,L,st,rfl,a,b,h⟩:=h;exact ⟨_,(aO (bw (iy wQ rfl T.o9 qu (ao (jN (cJ (pv 0) aL) Z.TP.cl (ahd Z) hr.m (ao (cJ (pv 0) aL) aq)) aq)))),_,rfl,l,_,_,_,rfl,rfl,aN a,rfl,p,_,_,rfl,b.ob,oY _ _ (by k_go) (by k_go) (by k_go) (by k_go) (by k_go),_,rfl,l,_,_,_,rfl,rfl,aN a,rfl,agY (E':=E0) h λu H' ⟨i,e,c,q⟩=>by subst e;exact ⟨i,rfl,xP c,q⟩⟩
def aoR:Gr Z "step" ["play","number"] (aok C (K8 C)):=by o_head (qe 5 Z.Xn,["things"]);obtain ⟨l,p,x,v,L,st,rfl,a,b,h⟩:=h;refine ⟨_,(aO (bw (bH (CG Z) hr.m rfl (ao (jN (cJ (pv 0) aL) Z.TP.cl (aat Z) hr.m (ao (cJ (pv 0) aL) aq)) aq)))),_,rfl,l,_,_,_,rfl,rfl,aN a,rfl,p,_,_,rfl,b.ob,oY _ _ (by k_go) (by k_go) (by k_go) (by k_go) (by k_go),_,rfl,l,_,_,_,rfl,rfl,aN a,rfl,?_⟩;exact ahZ (E':=E0) h λu H' ⟨t,pl,e,d,c,q⟩=>by subst e;exact ⟨t,_,_,rfl,.inr d,adM c,by cases pl<;>simp [rm],q⟩
def akC:Gr Z "counts" ["play"] (KQ C "counts"):=by
 o_head (qe 2 Z.Xo,["things"]);obtain ⟨l,p,v,aj,ws,L,st,rfl,i,b,d,tl,c,q⟩:=h;have g:=b.2.1;have o:=b.2.2.1;refine ⟨_,(aO (bw (bH (CG Z) hr.m rfl (ao (yJ (cJ (pv 0) aL) Z.TP.cl (agv Z) hr.m) aq)))),_,rfl,l,_,_,_,rfl,rfl,aN i,rfl,p,_,_,rfl,d.ob,oY _ _ (by k_go) (by k_go) (by k_go) (by k_go) (by k_go),p,v,L,st,rfl,d,λa H1 t n r=>?_⟩;have j:=(sV.counts (aj:=aj) (st:=st)).small g o tl c;refine ⟨a,_,_,rfl,.inl r,Bs j,by rw [bh];lk, λH2 k=>?_⟩;have e:Txt.join ⟨#[32]⟩ (st.bM.map bL)=iR st.bM:=by unfold iR;rw [aK (λz=>by rw [z] at tl;simp at tl;lk)]
 rw [e];exact q _ H2 (aG n k) .counts
def akD:Gr Z "stands" ["play"] (KQ C "standing"):=by o_head (qe 3 Z.Xp,["things"]);obtain ⟨l,p,v,aj,ws,L,st,rfl,i,c,d,tl,b,q⟩:=h;have e:=c.2.1;have g:=c.2.2.1;refine ⟨_,(aO (bw (bH (Oo Z) hr.m rfl (ao (yJ (cJ (pv 0) aL) Z.TP.cl (Za Z) hr.m) aq)))),_,rfl,l,_,_,_,rfl,rfl,aN i,rfl,p,_,_,rfl,d.ob,oY _ _ (by k_go) (by k_go) (by k_go) (by k_go) (by k_go),p,v,aj,ws,L,st,rfl,c,d,tl,b,λa ns H1 r n pm pw o=>?_⟩;have td:Cy aj st.bM "standing" _:=.inl ⟨rfl,pm,pw⟩;have j:=(sV.told (aj:=aj) (st:=st) td).small e g tl b;exact ⟨a,_,rfl,o,j,td.len e g tl b,λH2 k=>q _ H2 (aG n k) (.told td)⟩
def aoS:Gr Z "owes" ["play"] (KQ C "owed"):=by o_head (qe 3 Z.Xq,["things"]);obtain ⟨l,p,v,aj,ws,L,st,rfl,i,c,d,tl,b,q⟩:=h;have e:=c.2.1;have g:=c.2.2.1;refine ⟨_,(aO (bw (bH (Oo Z) hr.m rfl (ao (yJ (cJ (pv 0) aL) Z.TP.cl (ais Z) hr.m) aq)))),_,rfl,l,_,_,_,rfl,rfl,aN i,rfl,p,_,_,rfl,d.ob,oY _ _ (by k_go) (by k_go) (by k_go) (by k_go) (by k_go),p,v,aj,ws,L,st,rfl,c,d,tl,b,λa ns H1 r n pm pw o=>?_⟩;have td:Cy aj st.bM "owed" _:=.inr (.inl ⟨rfl,pm,pw⟩);have j:=(sV.told (aj:=aj) (st:=st) td).small e g tl b;exact ⟨a,_,rfl,o,j,td.len e g tl b,λH2 k=>q _ H2 (aG n k) (.told td)⟩
def amQ:Gr Z "lacks" ["play"] (KQ C "lacking"):=by o_head (qe 4 Z.Xr,["things"]);obtain ⟨l,p,v,aj,ws,L,st,rfl,j,c,d,tl,b,q⟩:=h;have e:=c.2.1;have i:=c.2.2.1;refine ⟨_,(aO (bw (bH (Oo Z) hr.m rfl (ao (yJ (cJ (pv 0) aL) Z.TP.cl (af4 Z) hr.m) aq)))),_,rfl,l,_,_,_,rfl,rfl,aN j,rfl,p,_,_,rfl,d.ob,oY _ _ (by k_go) (by k_go) (by k_go) (by k_go) (by k_go),p,v,aj,ws,L,st,rfl,c,d,tl,b,λa g H1 u o t r=>?_⟩;have td:Cy aj st.bM "lacking" _:=.inr (.inr ⟨rfl,g,t,rfl⟩);have k:=(sV.told (aj:=aj) (st:=st) td).small e i tl b;exact ⟨a,_,rfl,r,k,td.len e i tl b,λH2 n=>q _ H2 (aG o n) (.told td)⟩
def akE:Gc Z "words_of" 1 ["row"] (ajM (vR fM)):=by
 o_head (dz Z.Xu,["row","words"]);obtain ⟨x,w0,r,rfl,len,a,j,q⟩:=h;refine ⟨_,(aU (cP (j4 (lG (jM El rfl T.Bc boot_isinstance (ao (pv 0) (ao (zx (v:=V.ty "str") (u:=.type "str") rfl T.o9 (by k_go) rfl) aq)))))
 (aO oK)
 cT)
 (aU (bW 1 nd (iV qD Ke Kf QM (pv 0) (ao bN aq)))
 (aU (cP (Tw (ajz Z.RT.kd (cJ (pv 1) aL) (Cg (v:=V.ref _) rfl Z.RT.at_ rfl)) (by with_unfolding_all rfl))
 (aO oK)
 cT)
 (aO (bw (qx (cQ iU (cJ (pv 1) aL) bN) (iV qD Ke Kf ajA (pv 0) (ao bN (ao aL aq))) (pv 1))))))),?_⟩
 have i:(ofString " ")=⟨#[32]⟩:=by k_go
 refine ⟨_,rfl,_,_,_,true,rfl,jg.str _,rfl,_,rfl,bR (by decide) ⟨_,rfl,rfl,x,ofString " ",rfl,rfl,rfl,by lk, λl b=>?_⟩⟩;rw [i,a];km_lay b H1 b d e;refine ⟨_,rfl,l,_,_,_,rfl,rfl,aN e,yp,.inr w0,rfl,_,rfl,bR (by rw [j];decide) ⟨_,rfl,l,_,_,_,rfl,rfl,aN e,yp,rfl,_,rfl,?_⟩⟩;by_cases c:w0="net"
 ·refine cL (by rw [c];simp) ⟨_,rfl,rfl,x,ofString " ",2,rfl,rfl,rfl,by lk, by lk, by lk, λk g=>?_⟩;rw [i];refine q k _ (d.free g) (aG d (cu g _)) ?_;rw [aM];unfold xZ;rw [a,aQ (by rw [c];rfl)]
 ·refine bR (λz=>c (V.str.inj (jH z))) ⟨_,rfl,q l H1 b d ?_⟩;rw [e];unfold xZ;rw [a,aK (show ¬ (w0::r).head?=some (ofString "net") from λz=>c (iB z))]
def akF:Gc Z "kinds_of" 1 ["words"] (aof K (vR fM)):=by
 o_head (dz Z.Xv,["words","kinds"]);obtain ⟨l,w0,r,m,f,rfl,g,⟨a,kt,o,e,b⟩,p,I,J,q⟩:=h;refine ⟨_,(aU (bW 1 nd (b_ (acY Z.RT.kd (Cg (v:=V.ref _) rfl Z.RT.at_ rfl) (cJ (pv 0) aL) (λ_ _=>rfl)) aL))
 (aU (cP (cQ iU (cJ (pv 0) aL) bN)
 (aO (bw (bD aoa (pv 1) (bD an' (g_ (ao bN aq)) (bD qP (bD qP (j6 T (pv 0)) aL) (j6 T (pv 1)))))))
 cT)
 (aO (bw (pv 1))))),?_⟩
 refine ⟨_,rfl,l,_,_,_,rfl,rfl,aN g,yp,.inr w0,a,rfl,o,a,_,_,_,rfl,rfl,(e H).sq,rfl,_,rfl,l,_,_,_,rfl,rfl,aN g,yp,rfl,_,rfl,?_⟩;by_cases c:w0="exits"
 ·refine cL (by rw [c];simp) ⟨_,rfl,aW (by kl_no),λB d=>?_⟩;km_lay d H1 d j y;have i:=j _ _ g;refine ⟨_,rfl,l,_,rfl,.inl (aN i),_,_,rfl,rfl,_,rfl,kt,_,rfl,.inr (b H1).sq,_,_,rfl,rfl,B,_,_,rfl,rfl,y,by simp,by simp;lk, by simp;lk, λp2 H2 x k=>?_⟩;have u:((((map V.str (w0::r)).length:Nat):Int)-1-(((map V.str m).length:Nat):Int)).toNat=r.length-m.length:=by rw [bh,bh,gA];lk
  rw [u,QX] at k;refine ⟨kt,p2,_,_,rfl,rfl,b H2,k,by simpa using p,aW (by rw [bh,vG];lk),λC t n D=>q C t (aG j (aG x n)) ?_⟩;unfold eV;rw [aQ c,cX,List.map_replicate];exact D
 ·refine bR (λz=>c (V.str.inj (jH z))) ⟨_,rfl,q kt H (cW _) ?_⟩;unfold eV;rw [aK c];exact b H
def amR:Gc Z "is_name" 1 ["word"] al9:=by
 o_head (dz Z.Xw,["word"]);obtain ⟨y,rfl,len,q⟩:=h;refine ⟨_,(aO (bw (vI (abd uD uD aL (jM Ij rfl T.zV zu (ao (pv 0) aq)) (Cq rfl Z.OD)) (uo (jM (Qe rfl) rfl T.Uc boot_all (ao (iD ["sign"] [] rfl (adK (pv 0)) (by k_all) (by k_mem) (by row_wit1 (Kq aax (pv 0) (acX rfl Z.Ov) (by with_unfolding_all rfl)))) aq)))))),_,rfl,y,rfl,aW (by lk),_,_,rfl,rfl,?_⟩;by_cases k:(1:Int)<=(y.length:Int)
 rotate_left
 ·refine ⟨_,rfl,bR (by simpa using k) ⟨_,rfl,bR (by decide) (q false H (cW _) (uU λz=>k (by have:=z.1;rw [cO] at this;lk)))⟩⟩
 refine ⟨_,rfl,cL (fO k) ⟨_,_,rfl,rfl,_,rfl,?_⟩⟩;by_cases g:(y.length:Int)<=8
 rotate_left
 ·exact bR (by simpa using g) (q false H (cW _) (uU λz=>g (by have:=z.2.1;rw [cO] at this;lk)))
 refine cL (fO g) ⟨_,rfl,y,rfl,λl m=>?_⟩;refine QS (x:=y) (λi ys Hc=>aB H Hc/\Hc l=some (.lst ys)/\ys=(((Ls y).take i).map λc=>decide (97<=c/\c<=122)).map V.bl) ⟨bQ m (cW H),aM,rfl⟩ (aW (by show (Ls y).length<=_;rw [cO];lk)) (λi ys Hc ⟨e,a,n⟩=>⟨a,by rw [n,bh,bh,gW];lk⟩) ?_ ?_
 ·rintro i c ys Hc d ⟨e,a,rfl⟩;isplit;refine ⟨_,rfl,_,_,rfl,rfl,?_⟩;rw [aoe c];refine ⟨a,bQ m e,aM,?_⟩;have j:(Ls y)[i]?=some c:=by unfold Ls;rw [Kd];exact d
  rw [gb j,cX,cX];rfl
 ·rintro ys Hc ⟨e,a,rfl⟩;have p:((Ls y).take y.cps.size)=Ls y:=zc (by rw [cO];exact bI _);rw [p] at a;refine ⟨l,_,rfl,aN a,q _ Hc e ?_⟩;rw [wZ];constructor
  ·intro h;refine ⟨by rw [cO];lk, by rw [cO];lk, λc d=>jH (h _ (fW.mpr ⟨c,d,rfl⟩))⟩
  ·intro h b o;obtain ⟨c,d,rfl⟩:=fW.mp o;exact fO (h.2.2 c d)
def aqX:Gc Z "fits" 2 ["kind","word"] apH:=by
 o_head (dz Z.Xx,["kind","word"]);obtain ⟨k,x,rfl,len,q⟩:=h;have PL:=(Z5 Z);refine ⟨_,(aU (cP (cQ iU (pv 0) bN)
 (aO (bw pU))
 cT)
 (aO (bw (qx (cQ iU (pv 0) bN) (bH PL hr.m rfl (ao (pv 1) aq)) (bH (amR Z) hr.m rfl (ao (pv 1) aq)))))),?_⟩
 sr_in;by_cases c:k="text"
 ·subst c;exact cL (by simp) (q true H (cW _) (Hl .text))
 refine bR (λz=>c (V.str.inj (jH z))) ?_;sr_in;by_cases a:k="number"
 ·subst a;refine cL (by simp) ⟨_,rfl,x,rfl,len,λb H1 d e=>q b H1 d (e.trans ⟨λz=>.num z,λz=>?_⟩)⟩;cases z with
  |num h=>exact h
  |name i g h=>exact absurd rfl g
 ·refine bR (λz=>a (V.str.inj (jH z))) ⟨_,rfl,x,rfl,len,λb H1 d e=>q b H1 d (e.trans ⟨λz=>.name c a z,λz=>?_⟩)⟩;cases z with
  |text=>exact absurd rfl c
  |num h=>exact absurd rfl a
  |name i g h=>exact h
def ae6:Gc Z "refuse_unless_fitting" 3 ["kinds","words"] (ajO K):=by
 o_head (dz Z.Xy,["kinds","words","kind","word"]);obtain ⟨t,l,ks,xs,rfl,n,k,z,len,le,q⟩:=h;have v:ks.length=xs.length:=o7 z;refine ⟨_,(aU (cP (cQ mj (j6 T (pv 1)) (j6 T (pv 0)))
 (aO oK)
 cT)
 (aO (jx jj rfl  (QJ rfl T.Lg (ao (pv 0) (ao (pv 1) aq))) (qM rfl (ji (fL 2 nd) (ji (fL 3 nd) qF)))
 (aO (cP (j4 (lG (bH (aqX Z) hr.m rfl (ao (pv 2) (ao (pv 3) aq)))))
 (aO oK)
 cT))))),?_⟩
 refine ⟨_,rfl,l,_,rfl,.inl (aN k),_,rfl,t,_,rfl,.inr n,rfl,_,rfl,bR (by simp [v]) ⟨_,rfl,_,rfl,t,l,rfl,⟨_,n⟩,⟨_,aN k⟩,?_⟩⟩;refine anc (xs:=ks.map V.str) (ys:=xs.map V.str) (by rw [bh,bh];exact v) (λi σ Hc=>∃ o p,σ=[some (.ref t),some (.ref l),o,p]/\aB H Hc) ⟨none,none,rfl,cW _⟩ (λi σ Hc _ ⟨_,_,_,a⟩=>⟨a.arJ n,aN (a _ _ k)⟩) ?_ ?_
 ·rintro i x y j σ Hc L J C ⟨o,p,rfl,a⟩;obtain ⟨u,r,rfl⟩:=wX L;obtain ⟨e,c,rfl⟩:=wX J;have B:aB Hc (upd Hc j (HO.tup [V.str u,V.str e])):=cu C _;refine ⟨j,_,rfl,aZ aM,rfl,?_⟩;generalize upd Hc j (HO.tup [V.str u,V.str e])=H1 at B;refine ⟨_,_,rfl,_,_,rfl,rfl,_,rfl,_,rfl,u,e,rfl,le e (fj c),λb H2 I D=>?_⟩;obtain ⟨M,d,g⟩:=Paired.Dv z c;rw [r] at d;cases d;rw [D.mpr g];walk2;exact ⟨_,_,rfl,aG a (aG B I)⟩
 ·rintro σ Hc ⟨o,p,rfl,a⟩;exact q Hc a
def Z7:Gc Z "taken_from" 1 ["shelf","name"] aoh:=by
 o_head (dz Z.Xz,["shelf","name"]);obtain ⟨a,aY,x,v,rfl,c,b,q⟩:=h;refine ⟨_,(aU (cP (Tw (aaV (yc hr) (pv 1) (pv 0)) (by with_unfolding_all rfl))
 (aO oK)
 cT)
 (aO (bw (acT (yc hr) (pv 0) (pv 1) (λ_ _=>rfl))))),?_⟩
 have g:qZ H a (kV (.inr x)) (some v):=by rw [<-b];exact qZ.k c
 exact ⟨_,rfl,_,rfl,a,_,rfl,g,_,rfl,bR (by simp) ⟨_,rfl,_,rfl,a,v,rfl,g,q⟩⟩
def agw (F:vY K mg Cd "__init__" "Desk.__init__" Z2 f fd):dw P w K mg au jL 1 f fd ["self"] (ac7 Cd):=by
 o_head ["self"];obtain ⟨d,dx,rfl,k,q⟩:=h;refine ⟨_,(aU (zQ (pv 0) Jo rfl)
 (aO (zQ (pv 0) Jo rfl))),?_⟩
 intro n i;have c:d≠n:=cV k i;refine ⟨_,rfl,d,Cd,dx,[],rfl,(aV c).trans k,Z.TD.cl,Z.TD.nN,(by show 0<1000;decide),?_⟩;intro p fp;have g:p≠d:=λz=>by rw [z,aM] at fp;cases fp
 have pn:p≠n:=λz=>by rw [z,aV (bF c),aM] at fp;cases fp
 have a:H p=none:=by rw [aV g,aV pn] at fp;exact fp
 refine ⟨_,rfl,d,Cd,dx,_,rfl,(aV (bF g)).trans aM,Z.TD.cl,Z.TD.nP,(by have:=qy "nets" (V.ref n) [];simp at this;lk),q ⟨dx,n,p⟩ _ i a ⟨aM,?_,?_,bF pn,by simp,by simp⟩ λb o e j=>?_⟩
 ·show (upd _ d _) n=_;rw [aV (bF c),aV (bF pn),aV (bF c),aM]
 ·show (upd _ d _) p=_;rw [aV g,aM]
 ·rw [aV j,aV (cV e a),aV j,aV (cV e i)];exact e
def apZ:Kw P w K mg au "Desk" Cd 1 ["self"] (ac7 Cd):=let ⟨_,_,F⟩:=Z.XD;⟨⟨_,_,agw Z F,F.fn.binds (by k_dec),Z.akn,F.mt.1,F.mt.2,Z.ako⟩,Z.akp⟩
def afD:j7 P w K mg au Cd "thing_of" 2 ["self","kind","word"] (aoi Cd):=by
 o_head (pF Z.XF,["self","kind","word"]);obtain ⟨d,D,kn,kp,k,x,v,rfl,a,th,q⟩:=h;refine ⟨_,(aU (cP (cQ iU (pv 1) bN)
 (aO (bw (bH (Z7 Z) hr.m rfl (ao (fY (pv 0) rfl) (ao (pv 2) aq)))))
 cT)
 (aU (cP (cQ iU (pv 1) bN)
 (aO (bw (bH (Z7 Z) hr.m rfl (ao (fY (pv 0) rfl) (ao (pv 2) aq)))))
 cT)
 (aO (bw (qx (cQ iU (pv 1) bN) (iy aaX rfl T.Lf Qf (ao (pv 2) aq)) (pv 2)))))),?_⟩
 sr_in;cases th with
 |net h =>refine cL (by simp) ?_;exact ⟨_,rfl,d,Cd,_,_,_,rfl,a.ob,Z.TD.cl,Z.TD.nN,abE _,_,rfl,D.n,kn,x,v,rfl,a.ne,h,q⟩
 |play h =>refine bR (by k_go) ?_;refine ⟨_,rfl,rfl,_,rfl,cL (by simp) ?_⟩;exact ⟨_,rfl,d,Cd,_,_,_,rfl,a.ob,Z.TD.cl,Z.TD.nP,aa2 _,_,rfl,D.q,kp,x,v,rfl,a.pl,h,q⟩
 |num h l =>refine bR (by k_go) ?_;refine ⟨_,rfl,rfl,_,rfl,bR (by k_go) ?_⟩;refine ⟨_,rfl,rfl,_,rfl,cL (by simp) ?_⟩;exact ⟨_,rfl,x,_,rfl,h,l,q⟩
 |other b c e =>refine bR (λz=>b (V.str.inj (jH z))) ?_;refine ⟨_,rfl,rfl,_,rfl,bR (λz=>c (V.str.inj (jH z))) ?_⟩;refine ⟨_,rfl,rfl,_,rfl,bR (λz=>e (V.str.inj (jH z))) ?_⟩;exact ⟨_,rfl,q⟩
def aa_:Dh P w K mg au Cd "say" 14 ["self","row"] (pY P w K mg au (vR fM) 13 Cd):=by
 o_head (arN Z.XH,["self","row","words","kinds","things","told"],0);obtain ⟨d,D,kn,kp,x,w0,u,I,o,kr,sp,ts,rfl,da,len,U,hw,⟨f1,rk,cal⟩,mD,lx,fit,th,le,ln,lp,q⟩:=h;refine ⟨_,(aU (bW 2 nd (bH (akE Z) hr.m rfl (ao (pv 1) aq)))
 (aU (bW 3 nd (bH (akF Z) hr.m rfl (ao (pv 2) aq)))
 (aU (kI (bH (ae6 Z) hr.m rfl (ao (pv 3) (ao (wV Ci (pv 2) (xO aL) xM) aq))))
 (aU (aho (i:=4) nd rfl (by k_in) ["kind","word"] [("self",0)] rfl (QJ rfl T.Lg (ao (pv 3) (ao (wV Ci (pv 2) (xO aL) xM) aq))) (by w_tab) (by k_mem) (by row_wit1 (jN (pv 2) Z.TD.cl (afD Z) hr.m (ao (pv 0) (ao (pv 1) aq)))))
 (aU (bW 5 nd (ajG (k:=13) (b_ (acY Z.RT.kd (Cg (v:=V.ref _) rfl Z.RT.at_ rfl) (cJ (pv 2) aL) (λ_ _=>rfl)) aL) hr.m (ao (pv 4) aq)))
 (aU (cP (cQ iU (b_ (pv 3) aL) bN)
 (aU (Kz (yc hr) (fY (pv 0) rfl) (cJ (pv 2) aL) (pv 5) rfl)
 (aO (bw bN)))
 cT)
 (aU (cP (cQ iU (b_ (pv 3) aL) bN)
 (aU (Kz (yc hr) (fY (pv 0) rfl) (cJ (pv 2) aL) (pv 5) rfl)
 (aO (bw bN)))
 cT)
 (aO (bw (pv 5)))))))))),?_⟩
 obtain ⟨r,hsp⟩:∃ r,Txt.split x ⟨#[32]⟩=w0::r:=by
  cases e:Txt.split x ⟨#[32]⟩ with
  |nil=>rw [e] at U;cases U
  |cons a b=>rw [e] at U;exact ⟨b,by rw [iB U]⟩
 obtain ⟨ar,kt,hv,hr1,hr2⟩:=rk.ex;refine ⟨_,rfl,x,w0,r,rfl,len,hsp,by rw [hv];rfl,λl H1 fl s1 x1=>?_⟩;rw [hw] at x1;refine ⟨_,rfl,l,w0,u::o,I::kr,f1,rfl,x1,rk,by simp,by simp;lk, by rw [gA];lk, λt H2 s2 lB=>?_⟩;have x2:=s2 _ _ x1;have ct:ou (map V.str (w0::u::o)) (some 1) none=map V.str (u::o):=ajL _ _;refine ⟨_,rfl,_,rfl,1,rfl,l,_,rfl,aN x2,λl3 f3=>?_⟩;rw [ct];km_lay f3 H3 f3 s3 x3;refine ⟨t,l3,_,_,rfl,(lB.same s3).sq,x3,fit,by rw [gA];lk, le,λH4 s4=>?_⟩;have Aw:=aG s3 s4;have x4:=Aw _ _ x2;have B:=lB.same Aw;refine ⟨_,rfl,_,rfl,1,rfl,l,_,rfl,aN x4,λl5 f5=>?_⟩;rw [ct];km_lay f5 H5 f5 s5 x5;have Y:aB H H5:=aG s1 (aG s2 (aG Aw s5));have M:=B.same s5;obtain ⟨Yl,MN⟩:=th.len;refine ⟨t,l5,rfl,⟨_,M.sq⟩,⟨_,aN x5⟩,λW fc=>?_⟩;refine abl (xs:=(eV w0 (I::kr) (o.length+1)).map V.str) (ys':=(u::o).map V.str) (by rw [bh,bh];exact Yl) (λi ys Hc=>aB H5 Hc/\Hc W=some (.lst ys)/\ys=ts.take i) ⟨bQ fc (cW _),aM,rfl⟩ (aW (by rw [bh,Yl,gA];lk)) (λi ys Hc _ ⟨J,e1,e2⟩=>⟨(M.same J).sq,aN (J _ _ x5),e1,by rw [e2,gW];lk⟩) ?_ ?_
 ·rintro i x' y' T1 ys Hc hx hy fT ⟨J,e1,rfl⟩;obtain ⟨k1,hk1,rfl⟩:=wX hx;obtain ⟨y1,hy1,rfl⟩:=wX hy;obtain ⟨v1,hv1,ti⟩:=th.get hk1 hy1;have g:aB Hc (upd Hc T1 (HO.tup [V.str k1,V.str y1])):=cu fT _;refine ⟨T1,_,rfl,aZ aM,rfl,?_⟩;generalize upd Hc T1 (HO.tup [V.str k1,V.str y1])=p at g;refine ⟨_,_,rfl,_,_,rfl,rfl,⟨.inl rfl,.inl rfl,.inr rfl,trivial⟩,sI ?_⟩;have N:=da.same (aG Y (aG J g));refine ⟨_,rfl,d,D.dx,jD D,rfl,N.ob,mR _ (by k_go) (by k_go),_,rfl,_,rfl,d,D,kn,kp,k1,y1,v1,rfl,N,ti,g _ _ e1,bQ fc (aG J g),aM,?_⟩;rw [gb hv1]
 ·rintro ys p ⟨g,e6,rfl⟩;rw [bh,Yl,<-MN,gw] at e6;have Ed:=aG s5 g;have sq6:=B.same Ed;have x6:=Ed _ _ x4;have fc0:H W=none:=Y.free fc;refine ⟨_,rfl,l,_,_,_,rfl,rfl,aN x6,yp,.inr w0,ar,rfl,hv,ar,_,_,_,rfl,rfl,(hr1 p).sq,rfl,f1,_,sp,rfl,cal,_,rfl,_,q W p fc0 (aG Y g) e6,λv C en=>?_⟩;have hk0:jK ((eV w0 (I::kr) (o.length+1)).map V.str) 0=some (V.str I):=by
   unfold eV;split
   ·rw [RB];exact yp
   ·exact yp
  have N:=da.same (aG Y g);have S:∀ {R:Bool->Hp->Prop} {y:Str},KT p C->R (decide (V.str I=V.str y)) C->Gq (lO rEq (lO (Dr K) (mX 3) (tC (V.int 0))) (tC (V.str y))) [some (.ref d),some (.str x),some (.ref l),some (.ref t),some (.ref W),some v] C R:=λc hR =>
   ⟨_,rfl,t,_,_,_,rfl,rfl,(sq6.kt c).sq,hk0,rfl,_,rfl,hR⟩
  cases en with
  |net e j O =>subst e;have c:KT p C:=cG j (bY _);refine S c (cL (by simp) ?_);have L:=N.same j;refine ⟨_,rfl,_,rfl,d,Cd,_,_,_,rfl,L.ob,Z.TD.cl,Z.TD.nN,abE _,_,rfl,l,_,_,_,rfl,rfl,aN (j _ _ x6),aeE,D.n,_,rfl,uJ.k (k:=.inr u) L.ne (nY (by lk)),?_⟩;exact O
  |play e j O =>subst e;have c:KT p C:=cG j (bY _);refine S c (bR (by k_go) ?_);refine S c (cL (by simp) ?_);have L:=N.same j;refine ⟨_,rfl,_,rfl,d,Cd,_,_,_,rfl,L.ob,Z.TD.cl,Z.TD.nP,aa2 _,_,rfl,l,_,_,_,rfl,rfl,aN (j _ _ x6),aeE,D.q,_,rfl,uJ.k (k:=.inr u) L.pl (nY (by lk)),?_⟩;exact O
  |other n1 n2 c O =>refine S c (bR (λz=>n1 (V.str.inj (jH z))) ?_);refine S c (bR (λz=>n2 (V.str.inj (jH z))) ?_);exact ⟨_,rfl,O⟩
def qw:j7 P w K mg au Cd "say" 14 ["self","row"] (apJ P w K mg au (vR fM) 13 Cd):=(aa_ Z).non
def aiu:Gc Z "_law_text" 1 ["_law_net"] al7:=by
 refine dz Z.XJ λf fd F=>?_;have T:=Z.T;refine F.fn.ok aoE (λvs H Q E h=>?_) (λW A outer s H vs Q E hr h=>?_)
 ·obtain ⟨n,t,aj,ws,rfl,_⟩:=h;rfl
 ·obtain ⟨n,t,aj,ws,rfl,u,⟨rs,r,C⟩,w1,N,ok,len,q⟩:=h;have j:=C.len;have l:=TQ N ok;have v:=Cv (n:=aj) (by lk) (by lk);refine ⟨_,(aO (bw (iV qD Kg Kh KN bN (ao (bD vK (fB (ao (bD jW (iy wQ rfl T.o9 qu (ao (b_ (pv 0) aL) aq)) bN) aq)) (iD ["_law_first","_law_second"] [] rfl (jZ (b_ (pv 0) aL)) (by w_tab) (by k_mem) (by row_wit1 (bD jW (bD jW (iy (Ih K rfl) rfl T.o9 qu (ao (pv 0) aq)) bN) (iy (Ih K rfl) rfl T.o9 qu (ao (pv 1) aq)))))) aq)))),rfl,_,rfl,n,_,_,_,rfl,rfl,aZ u,rfl,aj,rfl,Bj (by lk) (by lk),bL aj,":",rfl,rfl,aW (by rw [v];show 1+1<=100000;decide),aW (by kl_no),λO B=>?_⟩;km_lay B H1 B c S;refine ⟨_,rfl,n,_,_,_,rfl,rfl,aZ (c _ _ u),rfl,t,rfl,⟨_,aN (c _ _ r)⟩,λp z=>?_⟩;refine rD (xs:=rs) (λi ys Hc=>aB H1 Hc/\Hc p=some (.lst ys)/\ys=((ws.take i).map D_).map V.str) ⟨bQ z (cW H1),aM,rfl⟩ (aW (by lk)) (λi ys Hc hi ⟨a,b,J⟩=>⟨aN (a _ _ (c _ _ r)),b,by rw [J,bh,bh,gW];lk⟩) ?_ ?_
  ·rintro i x ys Hc Y ⟨a,b,rfl⟩;obtain ⟨w0,U,d,rfl,g⟩:=C.get Y;have f0:=l w0 (fj d);have m:=Cv f0.1 f0.2.1;have L:=Cv f0.2.2.1 f0.2.2.2;refine ⟨U,_,rfl,aZ (a _ _ (c _ _ g)),rfl,_,_,rfl,_,_,rfl,rfl,⟨.inl rfl,.inl rfl,trivial⟩,sI ⟨_,rfl,w0.1,rfl,Bj f0.1 f0.2.1,bL w0.1,"-",rfl,rfl,aW (by rw [m];show 1+1<=100000;decide),_,rfl,w0.2,rfl,Bj f0.2.2.1 f0.2.2.2,_,bL w0.2,rfl,rfl,aW (by rw [jc,m,L];show 1+1+1<=100000;decide),b,bQ z a,aM,?_⟩⟩;rw [gb d,cX,cX];rfl
  ·rintro ys Hc ⟨a,b,rfl⟩;rw [j,gw] at b;refine ⟨O,p,_,_,rfl,rfl,a _ _ S,b,aW (by rw [bh,bh];show 1+_<=_;lk),λy D=>?_⟩;km_lay y H2 D M R;have o:(ofString " ")=⟨#[32]⟩:=by k_go
   have sl:=Sv D_ (n:=3) ws λw k=>by rw [adU (l w k)];exact bI _
   have I:=aaj (x:=bL aj++(":":Str)) ws λw k=>adU (l w k);refine ⟨ofString " ",y,(bL aj++(":":Str))::ws.map D_,rfl,rfl,aN R,?_,?_⟩
   ·rw [gj,qC,gA,bh,jc,v,o];show 1+1+_+(ws.length+1)*1<=_;lk
   ·rw [o,wU];have e:Str.join ⟨#[32]⟩ ((bL aj++(":":Str))::ws.map D_)=oA aj ws:=by refine pR ?_;rw [I,gY,zU (by lk) (by lk)];rfl
    rw [e];exact q _ (aG c (aG a M))
def Z8:Gc Z "_law_words" 1 ["_law_numbers"] abF:=by
 o_head (dz Z.XM,["_law_numbers"]);obtain ⟨a,ns,rfl,l,n,len,q⟩:=h;refine ⟨_,(aU (cP (cQ (ao8 hr.units) (pv 0) (fB aq))
 (aO (bw bN))
 cT)
 (aO (bw (iV qD Kg Kh KN bN (ao (iD ["_law_number"] [] rfl (jZ (pv 0)) (by k_all) (by k_mem) (by row_wit1 (iy (Ih K rfl) rfl T.o9 qu (ao (pv 0) aq)))) aq))))),?_⟩
 have t:(ofString " ")=⟨#[32]⟩:=by k_go
 have pw:=Bs n;have d:=FT pw;rw [bh] at d;refine ⟨_,rfl,aW (by kl_no),λy f0=>?_⟩;km_lay f0 k f0 g v;refine ⟨a,y,ns,[],rfl,rfl,aN (g _ _ l),aN v,_,rfl,?_⟩;by_cases c:ns=[]
 ·refine cL (fO c) ?_;have e:iR ns=ofString "none":=aQ c;have:=q k g;rw [e] at this;exact this
 refine bR (by simpa using c) ?_;have u:iR ns=Txt.join ⟨#[32]⟩ (ns.map bL):=aK c;refine ⟨rfl,_,rfl,a,rfl,⟨_,aN (g _ _ l)⟩,λm o=>?_⟩;refine rD (xs:=ns.map V.int) (λi zs Hc=>aB k Hc/\Hc m=some (.lst zs)/\zs=((ns.take i).map bL).map V.str) ⟨bQ o (cW k),aM,rfl⟩ (aW (by rw [bh];lk)) (λi zs Hc hi ⟨j,b,r⟩=>⟨aN (j _ _ (g _ _ l)),b,by rw [r,bh,bh,gW];lk⟩) ?_ ?_
 ·rintro i x zs Hc B ⟨j,b,rfl⟩;obtain ⟨z,p,rfl⟩:=u5 B;isplit;refine ⟨_,rfl,z,rfl,xP (n z (fj p)),b,bQ o j,aM,?_⟩;rw [gb p,cX,cX];rfl
 ·rintro zs Hc ⟨j,b,rfl⟩;rw [bh,gw] at b;rw [t];refine ⟨_,m,ns.map bL,rfl,rfl,aN b,by rw [show (⟨#[32]⟩:Str).length=1 from rfl,bh];lk, ?_⟩;rw [<-u];exact q Hc (aG g j)
def aau:Gc Z "_law_said" 15 ["_law_desk","_law_row"] (amn P w K mg au (vR fM) eA.many Cd):=by
 o_head (dz Z.XQ,["_law_desk","_law_row","_law_said_here"]);obtain ⟨d,D,kn,kp,x,rfl,g,h⟩:=h;refine ⟨_,(aU (bW 2 nd bN)
 (aU (anw rfl rfl (anv (i:=2) nd rfl (by k_in) (ame (pv 0) Z.TD.cl (aa_ Z) hr.m (ao (pv 1) aq))) rfl Z.Ea.Iw (λ_=>(aO (bW 2 nd bN))))
 (aO (bw (pv 2))))),?_⟩
 refine ⟨_,rfl,d,D.dx,jD D,rfl,g.ob,mR _ (by k_go) (by k_go),_,rfl,_,_,h,λv H1 ⟨⟨y,b⟩,q⟩=>?_,λc H1 q=>?_⟩
 ·subst b;exact ⟨_,rfl,q⟩
 ·obtain ⟨e,q⟩:=q;subst e;refine ⟨Z.Ea.ajh,λea a=>?_⟩;have j:aB H1 (upd H1 ea (UJ ea (.ref eA.many))):=cu a _;exact ⟨_,rfl,q _ j⟩
def aiv:Gc Z "_law_made" 15 ["_law_pen_here","_law_desk","_law_wide"] (amo Cd):=by
 o_head (dz Z.XR,["_law_pen_here","_law_desk","_law_wide","_law_wickets_here","_law_rows"]);obtain ⟨pn,d,D,k,rfl,u,⟨pa,pb,pc,hp0⟩,da,q⟩:=h;have I:=vL k;have C:=zX u;obtain ⟨Ym,nk2⟩:=uc (i:=pw k) (by lk) (by lk);have nkl:=yL Ym;refine ⟨_,(aU (bW 3 nd (bH (af0 Z) hr.m rfl (ao (pv 0) (ao (pv 2) (ao (bH (tU Z) hr.m rfl (ao (pv 0) (ao aL aq))) aq)))))
 (aU (bW 4 nd (fB (ao (bD jW bN (bH (aiu Z) hr.m rfl (ao (g_ (ao (pv 2) (ao (pv 3) aq))) aq))) (ao (bD jW (bD jW (cJ (fB (ao bN (ao bN aq))) (bH (tU Z) hr.m rfl (ao (pv 0) (ao aL aq)))) bN) (iy wQ rfl T.o9 qu (ao (pv 2) aq))) aq))))
 (aU (kI (iV oN vo vp tV (pv 4) (ao bN aq)))
 (aU (cP (cQ iU (bH (tU Z) hr.m rfl (ao (pv 0) (ao aL aq))) aL)
 (aO (kI (iV oN vo vp tV (pv 4) (ao bN aq))))
 cT)
 (aO (bw (vN (adB hr.units) (iD ["_law_row"] [("_law_desk",1)] rfl (jZ (pv 4)) (by k_all) (by k_mem) (by row_wit1 (jN (pv 1) Z.TD.cl (qw Z) hr.m (ao (pv 0) aq)))) (bD Gd (fB (ao bN aq)) (j6 T (pv 4)))))))))),?_⟩
 try dsimp only [lK]
 refine t_ (a:=qW _ _) λN U=>⟨_,rfl,_,rfl,_,rfl,pn,_,_,_,4,rfl,hp0,by decide,by decide,λm a1 b1 c1 m0 m4=>?_⟩;wrow_args pn H1 nkr k1 hp1;refine ⟨pn,pw k,m,rfl,⟨_,_,_,hp1⟩,I,C,m0,by lk, λlw jV H2 f2 k2 ⟨a2,b2,c2,hp2⟩ wl Ax as5=>?_⟩;have k02:=yd k1 k2;refine U _ _ ?_;clear U N
 try dsimp only [lK]
 refine t_ (a:=qW _ _) λN U=>⟨_,rfl,_,rfl,aW (by kl_no),λtn ftn=>?_⟩;km_lay ftn H3 ftn s3 x3;refine ⟨tn,lw,pw k,jV,rfl,x3,wl.same s3,I,C,Ax,by lk, λH4 s4=>?_⟩;have nl:=QT (pw k) jV;have l6:(ofString "net v ").length=6:=by k_go
 refine ⟨_,_,rfl,rfl,aW (by rw [l6,nl];lk),aW (by kl_no),λl5 f5=>?_⟩;km_lay f5 H5 f5 s5 x5;have Ef:=aG s3 (aG s4 s5);have Yn:=Ef _ _ hp2;refine ⟨_,rfl,pn,_,_,_,2,rfl,Yn,by decide,by decide,λr a6 b6 c6 r0 r2=>?_⟩;have n5:l5≠pn:=bF (cV (s4 _ _ (s3 _ _ hp2)) f5);have k6:Kp pn H (upd H5 pn (HO.lst [V.int a6,V.int b6,V.int c6])):=yd k02 (yd (Kp.same Ef) Kp.upd);have Yo:(upd H5 pn (HO.lst [V.int a6,V.int b6,V.int c6])) pn=some (.lst [V.int a6,V.int b6,V.int c6]):=aM;have x6:(upd H5 pn (HO.lst [V.int a6,V.int b6,V.int c6])) l5=some (.lst [V.str "folded",V.str "rounds"]):=(aV n5).trans x5;generalize upd H5 pn (HO.lst [V.int a6,V.int b6,V.int c6])=H6 at k6 Yo x6;obtain ⟨fw,efw,hfw⟩:∃ fw:Str,jK [V.str "folded",V.str "rounds"] r=some (.str fw)/\(fw="folded" \/ fw="rounds"):=by
  have h:r=0\/r=1:=by lk
  rcases h with h|h<;>subst h
  ·exact ⟨_,rfl,.inl rfl⟩
  ·exact ⟨_,rfl,.inr rfl⟩
 have lfw:fw.length=6:=by rcases hfw with rfl|rfl<;>k_go
 have l3:(ofString " w ").length=3:=by k_go
 refine ⟨l5,_,_,_,rfl,rfl,aN x6,efw,_,_,rfl,rfl,aW (by rw [lfw,l3];decide),_,rfl,pw k,rfl,xP (by lk),_,_,rfl,rfl,aW (by rw [jc,lfw,l3];show _+(bL (pw k)).length<=_;lk),?_⟩;generalize er0:(ofString "net v ")++oA (pw k) jV=R;generalize er1:fw++(ofString " w ")++ofString (toString (pw k))=c;kn_lay l fr H7 s7 x7;have nr:l≠pn:=bF (cV Yo fr);have hp7:=s7 _ _ Yo;have k7:Kp pn H H7:=yd k6 (Kp.same s7);refine U _ _ ?_;clear U N;refine ⟨_,rfl,.inl ⟨rfl,_,aN x7⟩,l,_,_,rfl,rfl,x7,nY (by show 2<100000;decide),?_⟩;have x8:(upd H7 l (HO.lst ([V.str R,V.str c]++[V.str "behind w v w"]))) l=some (.lst [V.str R,V.str c,V.str "behind w v w"]):=aM;have hp8:(upd H7 l (HO.lst ([V.str R,V.str c]++[V.str "behind w v w"]))) pn=_:=(aV (bF nr)).trans hp7;have frH:H l=none:=by
  by_cases z:H l=none
  ·exact z
  ·obtain ⟨o,ho⟩:=Option.ne_none_iff_exists'.mp z;rw [k6 _ _ ho nr] at fr;cases fr
 have k8:dI [pn] H (upd H7 l (HO.lst ([V.str R,V.str c]++[V.str "behind w v w"]))):=λb o e nb=>(aV (λz=>by rw [z,frH] at e;cases e)).trans (k7 b o e (by simpa using nb));generalize upd H7 l (HO.lst ([V.str R,V.str c]++[V.str "behind w v w"]))=H8 at x8 hp8 k8
 try dsimp only [lK]
 refine adI (λσ Hc=>∃ rows:bK,σ=[some (.ref pn),some (.ref d),some (.int (pw k)),some (.ref lw),some (.ref l)]/\(rows=[R,c,"behind w v w"]\/rows=[R,c,"behind w v w","mirror w w"])/\Hc l=some (.lst (rows.map V.str))/\wG Hc pn/\dI [pn] H Hc) (λN U=>?_) ?_
 ·refine ⟨_,rfl,pn,_,_,_,2,rfl,hp8,by decide,by decide,λt a9 b9 c9 t0 t2=>?_⟩;have k9:dI [pn] H (upd H8 pn (HO.lst [V.int a9,V.int b9,V.int c9])):=ur k8 (sS (by simp));have hp9:(upd H8 pn (HO.lst [V.int a9,V.int b9,V.int c9])) pn=some (.lst [V.int a9,V.int b9,V.int c9]):=aM;have x9:(upd H8 pn (HO.lst [V.int a9,V.int b9,V.int c9])) l=some (.lst [V.str R,V.str c,V.str "behind w v w"]):=(aV nr).trans x8;generalize upd H8 pn (HO.lst [V.int a9,V.int b9,V.int c9])=H9 at k9 hp9 x9;refine ⟨rfl,_,rfl,pB (λg=>?_) (λg=>?_)⟩
  ·refine ⟨_,rfl,.inl ⟨rfl,_,aN x9⟩,l,_,_,rfl,rfl,x9,nY (by show 3<100000;decide),U _ _ ⟨_,rfl,.inr rfl,aM,⟨_,_,_,(aV (bF nr)).trans hp9⟩,λb o e nb=>(aV (λz=>by rw [z,frH] at e;cases e)).trans (k9 b o e nb)⟩⟩
  ·exact U _ _ ⟨_,rfl,.inl rfl,x9,⟨_,_,_,hp9⟩,k9⟩
 rintro σ Hc ⟨rows,rfl,Dl,xr,pe,kc⟩;have asZ:rows.length<=4:=by rcases Dl with rfl|rfl<;>simp
 obtain ⟨_,_,_,hpc⟩:=id pe;obtain ⟨e1,e2,e3⟩:=Fe da hp0;have lV:=da.kps kc (by simpa using e1) (by simpa using e2) (by simpa using e3);refine ⟨_,rfl,l,rfl,⟨_,aN xr⟩,λlc fc=>?_⟩;have nlr:l≠D.n:=λz=>by have:=lV.ne;rw [<-z,xr] at this;cases this
 have M00:rB Cd Hc Hc d D k jV 0 []:=⟨dI.refl _ _,bY _,lV,by simp,λ_ z=>(nomatch z),λz=>absurd z (by decide),λz=>absurd z (by decide),λ_=>rfl,λz=>absurd z (by decide)⟩;refine rD (K:=K) (a:=l) (xs:=rows.map V.str) (λj ys Hd=>∃ kn,rB Cd Hc Hd d D k jV j kn/\Hd lc=some (.lst ys)/\ys=replicate j (V.str "ok")) ⟨[],M00.same (cu fc _),aM,rfl⟩ (aW (by rw [bh];lk)) (λj ys Hd _ ⟨kn,M,e,e2⟩=>⟨aN (M.ks _ _ xr (by simpa using nlr)),e,by rw [e2];simp⟩) ?_ ?_
 ·rintro j x ys H0 hx ⟨kn,p,x0,rfl⟩;obtain ⟨z,hz,rfl⟩:=wX hx;have jl:j<rows.length:=(dY.mp hz).1;got_up;refine ⟨_,rfl,d,D.dx,jD D,rfl,p.da.ob,mR _ (by k_go) (by k_go),_,rfl,?_⟩;have HF:kn.length<900:=by have:=p.ln;lk
  have HJ:([]:dU).length<900:=by decide
  have nlc:lc≠D.n:=λz=>by have:=p.da.ne;rw [<-z,x0] at this;cases this
  have S:∀ {Hy:Hp} {x:Str} {v:V} {us:aP},aB H0 Hy->eG Hy v (pw k) us->((j=0/\x="v"/\us=jV)\/(1<=j/\x="w"/\us.length<=(if j+1=2 then 36 else 40)/\jh (pw k) us/\k<=dX (pw k) us/\(j+1<=3->k<=dX (pw k) (us.map (jJ (pw k)))))) ->(upd Hy D.n (HO.dK (cD kn (.inr x) v))) lc=some (.lst (replicate j (V.str "ok")))/\∃ j_,rB Cd Hc (upd (upd Hy D.n (HO.dK (cD kn (.inr x) v))) lc (HO.lst (replicate j (V.str "ok")++[V.str "ok"]))) d D k jV (j+1) j_/\(upd (upd Hy D.n (HO.dK (cD kn (.inr x) v))) lc (HO.lst (replicate j (V.str "ok")++[V.str "ok"]))) lc=some (.lst (replicate j (V.str "ok")++[V.str "ok"]))/\replicate j (V.str "ok")++[V.str "ok"]=replicate (j+1) (V.str "ok"):=λ{Hy x v us} sy ny hx=>by have xy:(upd Hy D.n (HO.dK (cD kn (.inr x) v))) lc=some (.lst (replicate j (V.str "ok"))):=(aV nlc).trans (sy _ _ x0);exact ⟨xy,_,(p.put sy ny hx).lst fc xy,aM,by rw [Ft]⟩
  have hj:j=0\/j=1\/j=2\/j=3:=by lk
  rcases hj with rfl|rfl|rfl|rfl
  ·have W:R=z:=by rcases Dl with rfl|rfl<;>simpa using hz
   rw [<-W,<-er0];exact ac9 (adW Z) p.da HF HJ (by rw [gY];rfl) aeG (by rw [nl];lk) λO H1 fl y B=>⟨O,_,pw k,jV,rfl,B,I,C,Ax,by lk, λv H2 s2 n2=>.net rfl s2 (S (aG y s2) ⟨n2,I,C,Ax,by lk⟩ (.inl ⟨rfl,rfl,rfl⟩))⟩
  ·have W:c=z:=by rcases Dl with rfl|rfl<;>simpa using hz
   rw [<-W,<-er1];obtain ⟨Ak,U4⟩:=fold_all u;obtain ⟨X8,_⟩:=acQ u;have aeH:=apR u;rcases hfw with rfl|rfl
   ·exact adP (akx Z) p.da HF HJ (nm:="w") (by rw [gY,gY];rfl) (by k_go) (by k_go) (by k_go) (by k_go) pD Ym nk2 λO H1 fl y B=>⟨O,_,_,rfl,B,.inl ⟨k,rfl,by lk, u,λT v pv H' f s' x Y pp=>⟨T,v,pv,rfl,x,.net rfl s' (S (aG y s') ⟨Y,I,C,Ak,by lk⟩ (.inr ⟨bI _,rfl,by rw [aQ rfl];lk, alT u,(abM u).1,λ_=>(abM u).2⟩))⟩⟩⟩
   ·exact adP (aky Z) p.da HF HJ (nm:="w") (by rw [gY,gY];rfl) (by k_go) (by k_go) (by k_go) (by k_go) pD Ym nk2 λO H1 fl y B=>⟨O,_,_,rfl,B,.inl ⟨k,rfl,u,λv H' s' Y=>.net rfl s' (S (aG y s') ⟨Y,I,C,X8,by lk⟩ (.inr ⟨bI _,rfl,by rw [aQ rfl];lk, anM u,(ade u).1,λ_=>(ade u).2⟩))⟩⟩
  ·have W:(ofString "behind w v w")=z:=by rcases Dl with rfl|rfl<;>simpa using hz
   rw [<-W];obtain ⟨vv,ev,nv⟩:=p.nv (by lk);obtain ⟨vw,us,ew,J,lu,HN,du,dm⟩:=p.nw (bI _);rw [aQ rfl] at lu;refine apO (akz Z) p.da HF HJ ev ew (nm:="w") (by k_go) (by k_go) (by k_go) (by k_go) (by k_go) pD aeG pD λO H1 fl y B=>⟨O,_,_,_,rfl,B,vv,vw,pw k,pw k,jV,us,rfl,nv.1.kt (cG y (bY _)),J.1.kt (cG y (bY _)),I,C,I,C,Ax,J.2.2.2.1,by lk, by lk, ?_⟩;have eb:FN (pw k) jV (pw k) us=.net (pw k) (jV++us):=by unfold FN;rw [aK (λz=>z rfl),aK (by lk)]
   rw [eb];exact λv' H' s' n'=>.net rfl s' (S (aG y s') ⟨n',I,C,Ax.app J.2.2.2.1,by rw [dJ];lk⟩ (.inr ⟨by lk, rfl,by rw [aK (by lk),dJ];lk, jh.ahead HN,gU du (aa7 Ax),λ_=>by rw [cX];exact gU (dm (by lk)) (aa7 (Sq Ax))⟩))
  ·have W:(ofString "mirror w w")=z:=by
    rcases Dl with rfl|rfl
    ·simp at jl
    ·simpa using hz
   rw [<-W];obtain ⟨vw,us,ew,J,lu,HN,du,dm⟩:=p.nw (by lk);rw [aK (by lk)] at lu;exact apM (akA Z) p.da HF HJ ew (nm:="w") (by k_go) (by k_go) (by k_go) (by k_go) (by k_go) pD pD λO H1 fl y B=>⟨O,_,_,rfl,B,⟨vw,pw k,us,rfl,J.1.kt (cG y (bY _)),by lk, λv' H' s' n'=>.net rfl s' (S (aG y s') ⟨n',I,C,Sq J.2.2.2.1,by rw [bh];lk⟩ (.inr ⟨by lk, rfl,by rw [aK (by lk),bh];lk, (afN J.2.2.2.1).mpr HN,dm (by lk),λz=>absurd z (by lk)⟩))⟩⟩
 rintro ys Hd ⟨kn,M,B,rfl⟩;rw [bh] at M B;have n3:3<=rows.length:=by rcases Dl with rfl|rfl<;>simp
 obtain ⟨vw,us,ew,J,lu,HN,du,_⟩:=M.nw (by lk);refine ⟨aW (by kl_no),λl2 f2=>?_⟩;km_lay f2 H2' f2 s2 x2;have Nv:=s2 _ _ (M.ks _ _ xr (by simpa using nlr));refine ⟨_,rfl,l,_,rfl,.inl (aN Nv),l2,_,_,rfl,rfl,x2,by lk, by rw [bh];lk, aW (by rw [bh];show 1*_<=_;simp;lk),λl3 f3=>?_⟩;rw [bh,kO,QX];km_lay l3 H3' f3 s3' L;have wJ:=aG s2 s3';have M3:=M.same wJ;have S:Q (.bl true) H3':=by
  refine q kn vw us H3' M3.da M3.ln ew (J.kt (cG wJ (bY _))) ?_ HN du ?_ ?_
  ·rw [aK (by lk)] at lu;exact lu
  ·exact ⟨_,_,_,M3.ks _ _ hpc (by simpa using bF e2)⟩
  ·exact ur (kc.mono (λa h=>by simp at h;simp [h])) (M3.ks.mono (λa h=>by simp at h;simp [h]))
 have y1:=wJ _ _ B;have n34:rows.length=3\/rows.length=4:=by lk
 rcases n34 with e|e
 ·rw [e] at y1 L;exact ⟨.list [.str "ok",.str "ok",.str "ok"],.list [.str "ok",.str "ok",.str "ok"],.lst y1 (.cons (.str _) (.cons (.str _) (.cons (.str _) .nil))),.lst L (.cons (.str _) (.cons (.str _) (.cons (.str _) .nil))),by k_go,by k_go,by k_go,S⟩
 ·rw [e] at y1 L;exact ⟨.list [.str "ok",.str "ok",.str "ok",.str "ok"],.list [.str "ok",.str "ok",.str "ok",.str "ok"],.lst y1 (.cons (.str _) (.cons (.str _) (.cons (.str _) (.cons (.str _) .nil)))),.lst L (.cons (.str _) (.cons (.str _) (.cons (.str _) (.cons (.str _) .nil)))),by k_go,by k_go,by k_go,S⟩
def aiw:Gc Z "_law_gone" 15 ["_law_pen_here","_law_desk","_law_name","_law_lanes"] (amq C Cd):=by
 o_head (dz Z.XS,["_law_pen_here","_law_desk","_law_name","_law_lanes","_law_left","_law_out","_law_k","_law_lane","_law_turn","_law_walker","_law_words_here"]);obtain ⟨pn,d,D,kn,kp,nm,ll,N,p,v,aj,ws,L,rfl,⟨tL,pb0,pc0,U⟩,da,ln,lp,hn,hp,B,lv,pa,np,xl,nl,nn,hl,len,q⟩:=h;have w1:=B.2.1;have w8:=B.2.2.1;have ok:=B.2.2.2.1;have lw:=B.2.2.2.2;have nml:=lW hn;refine ⟨_,(aU (bW 4 nd (fB aq))
 (aU (bW 5 nd Jo)
 (aU (jx jj rfl  (Bl rfl T.yI (ao (pv 3) aq)) (qM rfl (ji (fL 6 nd) (ji (fL 7 nd) qF)))
 (aU (cP (cQ mj (jN (pv 1) Z.TD.cl (qw Z) hr.m (ao (bD jW (bD jW (bD jW bN (pv 2)) bN) (iy wQ rfl T.o9 qu (ao (pv 7) aq))) aq)) (iy wQ rfl T.o9 qu (ao (pv 6) aq)))
 (aO (bw zP))
 cT)
 (aO (jx jj rfl  (qt rfl T.lD (ao (bH (tU Z) hr.m rfl (ao (pv 0) (ao aL aq))) aq)) (fL 8 nd)
 (aU (bW 9 nd (bH (tU Z) hr.m rfl (ao (pv 0) (ao (bD jQ (pv 6) aL) aq))))
 (aO (cP (Tw (aaV (yc hr) (pv 9) (pv 5)) (by with_unfolding_all rfl))
 (aU (bW 10 nd (iV qD Ke Kf QM (jN (pv 1) Z.TD.cl (qw Z) hr.m (ao (bD jW (bD jW (bD jW bN (pv 2)) bN) (iy wQ rfl T.o9 qu (ao (pv 9) aq))) aq)) (ao bN aq)))
 (aO (cP (cQ iU (cJ (pv 10) aL) bN)
 (aU (Kz (yc hr) (pv 5) (pv 9) pU rfl)
 (aO (kI (iV oN vo vp tV (pv 4) (ao (cJ (pv 10) aL) aq)))))
 cT)))
 cT)))))))
 (aO (bw (pv 4)))))),?_⟩
 refine ⟨aW (by kl_no),λla fa=>?_⟩;km_lay fa H1 fa s1 x1;intro lo O;km_lay O H2 O s2 x2;have Y:=aG s1 s2;have HS:=da.same s1;have G2:jU C Cd H H2 d D kn kp p v aj ws L (jF aj ws) (eE aj (N.take 0)) pn la [] lo []:=by refine ⟨dI.same Y,cG Y (bY _),da.same Y,pa.same Y,?_,⟨_,_,_,Y _ _ U⟩,s2 _ _ x1,x2,.nil,λi hi=>absurd hi (zm _),λ_ _=>rfl,bI _,fa,s1.free O,λz=>pa.live _ z fa,λz=>(pa.same s1).live _ z O,np,bF (cV U fa),bF (cV (s1 _ _ U) O),cV x1 O,cV HS.ne O,cV HS.pl O⟩;show Go true aj ws (jF aj ws) (eE aj []);rw [abH];exact Go.start w1
 refine ⟨_,rfl,ll,rfl,⟨_,aN (Y _ _ xl)⟩,?_⟩;have aqY:∀ {Hc:Hp},dI (pn::L.own p) H Hc->Hc ll=some (.lst (N.map V.int)):=λk=>k _ _ xl (by simp;exact ⟨nn,nl⟩);refine Bm (xs:=N.map V.int) (λi σ Hc=>∃ (v6 v7 v8 v9 I:Option V) (st:cH) (ns:aF) (kd:dU),σ=[some (.ref pn),some (.ref d),some (.str nm),some (.ref ll),some (.ref la),some (.ref lo),v6,v7,v8,v9,I]/\jU C Cd H Hc d D kn kp p v aj ws L st (eE aj (N.take i)) pn la ns lo kd/\st.aX.length=i) ⟨none,none,none,none,none,jF aj ws,[],[],rfl,G2,rfl⟩ (λi σ Hc _ ⟨_,_,_,_,_,_,_,_,_,g,_⟩=>aN (aqY g.sk)) ?_ ?_
 ·rintro i x T1 σ Hc hx fT ⟨v6,v7,v8,v9,I,st,ns,kd,rfl,g,Mh⟩;obtain ⟨cC,hz,rfl⟩:=u5 hx;have il:i<N.length:=(dY.mp hz).1;obtain ⟨l0,l1⟩:=hl cC (fj hz);have sT:aB Hc (upd Hc T1 (HO.tup [V.int i,V.int cC])):=cu fT _;refine ⟨T1,_,rfl,aZ aM,rfl,?_⟩;have g1:=g.same sT;generalize upd Hc T1 (HO.tup [V.int i,V.int cC])=H3 at sT g1;refine ⟨_,_,rfl,_,_,rfl,rfl,?_⟩;obtain ⟨nt1,nt2⟩:=uc (i:=cC) (by lk) (by lk);have X4:=yL nt1;have l6:(ofString "enter ").length=6:=by k_go
  have lb:(ofString " ").length=1:=by k_go
  -- it comes in
  refine ⟨_,rfl,d,D.dx,jD D,rfl,g1.da.ob,mR _ (by k_go) (by k_go),_,rfl,_,_,rfl,rfl,aW (by rw [l6];lk),_,_,rfl,rfl,aW (by rw [jc,l6,lb];lk),_,rfl,cC,rfl,xP (by lk),_,_,rfl,rfl,aW (by rw [jc,jc,l6,lb];show _+(bL cC).length<=_;lk),adO (nm:=nm) (c:=bL cC) (amP Z) g1.da ln lp hp (by rw [gY,gY,gY,blank];show (([101,110,116,101,114,32]++Ls nm)++[32])++Ls (bL cC)=[101,110,116,101,114]++32::(Ls nm++32::Ls (bL cC));simp) (by k_go) (by k_go) (by k_go) (by k_go) hn nt1 nt2 λl4 H4 fl4 s4 x4=>?_⟩;have g4:=g1.same s4;have sm:((st.aX.length:Nat):Int).natAbs<=10000:=by lk
  refine ⟨l4,p,.int cC,v,L,st,rfl,x4,g4.pl,⟨p,v,aj,ws,L,st,cC,rfl,B.kt g4.kt,g4.pl,g4.go.wf,l0,l1,λH5 pl5 kl5=>⟨_,rfl,sm,.other (by k_go) (by k_go) (dW.kt g4.pl kl5) ?_⟩⟩⟩;have g5:=g4.enter ok l0 l1 (by lk) pl5 kl5;have U4:(mO ws st cC 1).aX.length=i+1:=by simp [mO];lk
  have ec:(eE aj (N.take i)).set cC.toNat ((eE aj (N.take i)).getD cC.toNat 0+1)=eE aj (N.take (i+1)):=by rw [gb hz,aa4 l0 l1]
  rw [ec] at g5;generalize mO ws st cC 1=st1 at g5 U4;refine ⟨_,rfl,i,rfl,xP (by lk),rfl,_,rfl,bR (LQ (by rw [Mh];rfl)) ?_⟩
  -- some go on
  obtain ⟨p1,p2,p3,Yn⟩:=id g5.pe;refine ⟨_,rfl,pn,_,_,_,6,rfl,Yn,by decide,by decide,λm a6 b6 c6 m0 m6=>?_⟩;have g6:=g5.take a6 b6 c6;generalize upd H5 pn (HO.lst [V.int a6,V.int b6,V.int c6])=H6 at g6;refine ⟨m,rfl,by lk, by lk, ?_⟩;refine IK (n:=m.toNat) (λj σ Hd=>∃ (v8 v9 I:Option V) (st:cH) (ns:aF) (kd:dU),σ=[some (.ref pn),some (.ref d),some (.str nm),some (.ref ll),some (.ref la),some (.ref lo),some (.int i),some (.int cC),v8,v9,I]/\jU C Cd H Hd d D kn kp p v aj ws L st (eE aj (N.take (i+1))) pn la ns lo kd/\st.aX.length=i+1) ⟨v8,v9,I,st1,ns,kd,rfl,g6,U4⟩ ?_ ?_
  ·rintro j σ Hd hj ⟨w8',w9,w10,a,R,M,rfl,W,y⟩;obtain ⟨p1,p2,p3,hpd⟩:=id W.pe;refine ⟨_,rfl,_,rfl,_,_,rfl,rfl,pn,_,_,_,(i:Int)+1,rfl,hpd,by lk, by lk, λwk a7 b7 c7 wk0 wk1=>?_⟩;have g7:=W.take a7 b7 c7;generalize upd Hd pn (HO.lst [V.int a7,V.int b7,V.int c7])=H7 at g7;obtain ⟨b,rfl⟩:∃ b:Nat,wk=(b:Int):=⟨wk.toNat,by lk⟩;have Yp:b<a.aX.length:=by lk
   have u:a.aX[b]?=some a.aX[b]:=by simp [Yp]
   generalize a.aX[b]=pl at u;refine ⟨_,rfl,_,rfl,lo,_,rfl,qZ.k (k:=.inl (b:Int)) g7.xo,_,rfl,?_⟩;by_cases o:cB pl=true
   ·exact bR (by rw [(W.od b Yp).mpr ⟨pl,u,o⟩];decide) ⟨_,_,_,a,R,M,rfl,g7,y⟩
   have o':cB pl=false:=by simpa using o
   have nos:(dh M (.inl (b:Int))).isSome=false:=by
    cases e:(dh M (.inl (b:Int))).isSome with
    |false=>rfl
    |true =>obtain ⟨i_,e1,e2⟩:=(W.od b Yp).mp e;rw [u] at e1;cases e1;exact absurd e2 o
   refine cL (by rw [nos];rfl) ?_;obtain ⟨nw1,nw2⟩:=uc (i:=(b:Int)) (by lk) (by lk);have nwl:=yL nw1;have l5:(ofString "step ").length=5:=by k_go
   refine ⟨_,rfl,d,D.dx,jD D,rfl,g7.da.ob,mR _ (by k_go) (by k_go),_,rfl,_,_,rfl,rfl,aW (by rw [l5];lk),_,_,rfl,rfl,aW (by rw [jc,l5,lb];lk),_,rfl,(b:Int),rfl,xP (by lk),_,_,rfl,rfl,aW (by rw [jc,jc,l5,lb];show _+(bL (b:Int)).length<=_;lk),adO (nm:=nm) (c:=bL (b:Int)) (aoR Z) g7.da ln lp hp (by rw [gY,gY,gY,blank];show (([115,116,101,112,32]++Ls nm)++[32])++Ls (bL (b:Int))=[115,116,101,112]++32::(Ls nm++32::Ls (bL (b:Int)));simp) (by k_go) (by k_go) (by k_go) (by k_go) hn nw1 nw2 λl8 H8 fl8 s8 x8=>?_⟩;have t:=g7.same s8;have aeN:=B.kt t.kt;have sm2:=ah1 aeN t.go.wf (by have:=t.go.few.le;lk) u o';refine ⟨l8,p,.int b,v,L,a,rfl,x8,t.pl,⟨p,v,aj,ws,L,a,b,pl,rfl,aeN,t.pl,t.go.wf,u,o',λt9 H9 pl9 Nx x9=>⟨t9,_,rfl,x9,sm2,λAg uQ=>.other (by k_go) (by k_go) (cG uQ (dW.kt t.pl Nx)) ?_⟩⟩⟩;have wds:=ah0 ok w1 w8 lw lv t.go (by lk) u o';have spl:=aj6 wds;have lpl:=aor sm2;refine ⟨rfl,Hq (jA aj ws a b pl),ofString " ",rfl,rfl,rfl,by lk, λHW f11=>?_⟩;km_lay f11 uR f11 DW J;rw [blank,spl] at J;have Mi:=aG uQ DW;by_cases oo:cB (jA aj ws a b pl)=true
   ·obtain ⟨l,n,eo⟩:∃ l n,jA aj ws a b pl=.out l n:=by
     cases e:jA aj ws a b pl with
     |out l n=>exact ⟨l,n,rfl⟩
     |before k l=>rw [e] at oo;simp [cB] at oo
     |exit l=>rw [e] at oo;simp [cB] at oo
    rw [eo] at J;have U5:uR HW=some (.lst [V.str "out",V.str (bL l),V.str (bL n)]):=J;refine ⟨_,rfl,HW,_,_,_,rfl,rfl,aN U5,oO (j:=0) rfl,rfl,_,rfl,cL (by simp) ?_⟩;have aeO:dI (L.own p) H8 H9:=Nx.own;have xo:=Mi _ _ (aeO _ _ t.xo t.no);have xa:=Mi _ _ (aeO _ _ t.xl t.na);have lkd:M.length<1000:=by have h1:=t.ld;have h2:=t.pm.length_eq;have h3:=Ji a.aX 0;lk
    refine ⟨_,rfl,_,rfl,lo,_,rfl,uJ.k (k:=.inl (b:Int)) xo (nY (by lk)),?_⟩;have gf:=t.out ok u o' eo pl9 Nx Mi;have x12:(upd uR lo (HO.dK (cD M (.inl (b:Int)) (.bl true)))) HW=some (.lst [V.str "out",V.str (bL l),V.str (bL n)]):=(aV (kY U5 xo (by intro z;cases z))).trans U5;have Az:(upd uR lo (HO.dK (cD M (.inl (b:Int)) (.bl true)))) la=some (.lst (R.map λn=>V.str (bL n))):=(aV t.nao).trans xa;have lns:R.length<1000:=by have h2:=t.pm.length_eq;have h3:=Ji a.aX 0;lk
    exact ⟨_,rfl,.inl ⟨rfl,_,aN Az⟩,_,rfl,HW,_,_,_,rfl,rfl,aN x12,oO (j:=2) rfl,la,_,_,rfl,rfl,Az,nY (by rw [bh];lk),_,_,_,kZ aj ws a b pl,R++[n],_,rfl,gf,by rw [rE];exact y⟩
   ·have S:cB (jA aj ws a b pl)=false:=by simpa using oo
    have gf:=(t.step ok u o' S pl9 Nx).same Mi;obtain ⟨w0,r,ew,nw0⟩:∃ w0 r,pH (jA aj ws a b pl)=w0::r/\¬ w0="out":=by
     cases e:jA aj ws a b pl with
     |out l n=>rw [e] at S;simp [cB] at S
     |before k l=>exact ⟨_,_,rfl,by k_go⟩
     |exit l=>exact ⟨_,_,rfl,by k_go⟩
    rw [ew] at J;exact ⟨_,rfl,HW,_,_,_,rfl,rfl,aN J,yp,rfl,_,rfl,bR (by simp;exact nw0) ⟨_,_,_,kZ aj ws a b pl,R,M,rfl,gf,by rw [rE];exact y⟩⟩
  ·rintro σ Hd ⟨w8',w9,w10,a,R,M,rfl,W,y⟩;exact ⟨_,_,_,_,_,a,R,M,rfl,W,y⟩
 ·rintro σ Hc ⟨v6,v7,v8,v9,I,st,ns,kd,rfl,g,Mh⟩;rw [bh] at Mh;have gg:=g.go;rw [bh,gw] at gg;exact ⟨_,rfl,q la ns st Hc fa g.pl gg Mh g.xl g.pm g.sk g.kt⟩
def af5:Gc Z "_law_at_rest" 15 ["_law_desk","_law_name","_law_due","_law_many"] (aos C Cd):=by
 o_head (dz Z.X3,["_law_desk","_law_name","_law_due","_law_many","_law_words_here","_law_told","_law_turn","_law_word"]);obtain ⟨d,D,kn,kp,nm,wg,p,v,aj,ws,L,st0,cs,rfl,da,ln,lp,hn,hp,B,lv,tL,Yq,len,ed,q⟩:=h;have w1:=B.2.1;have ok:=B.2.2.2.1;have nml:=lW hn;refine ⟨_,(aU (cP (PW.pt (uz (cQ mj (jN (pv 0) Z.TD.cl (qw Z) hr.m (ao (bD jW bN (pv 1)) aq)) bN) (vH (cQ mj (jN (pv 0) Z.TD.cl (qw Z) hr.m (ao (bD jW bN (pv 1)) aq)) (pv 2)))))
 (aO (bw pU))
 cT)
 (aU (bW 4 nd (fB (ao bN (ao bN (ao bN aq)))))
 (aU (bW 5 nd Jo)
 (aU (bW 6 nd (bD nU (jM Ij rfl T.zV zu (ao (pv 1) aq)) aL))
 (aU (jx jj rfl  (jZ (bD vK (wV Ci (pv 4) (xO (pv 6)) xM) (wV Ci (pv 4) xM (xO (pv 6))))) (fL 7 nd)
 (aO (Kz (yc hr) (pv 5) (pv 7) (jN (pv 0) Z.TD.cl (qw Z) hr.m (ao (bD jW (bD jW (pv 7) bN) (pv 1)) aq)) rfl)))
 (aO (bw (vN (adB hr.units) (iD ["_law_word"] [("_law_told",5)] rfl (jZ (pv 4)) (by k_all) (by k_mem) (by row_wit1 (acT (yc hr) (pv 1) (pv 0) (λ_ _=>rfl)))) (fB (ao (bH (Z8 Z) hr.m rfl (ao (iy (Zn rfl) rfl T.zR Bf (ao (iy Qm rfl T.lD Ip (ao (pv 3) aq)) aq)) aq)) (ao bN (ao bN aq)))))))))))),?_⟩
 have l5:(ofString "rest ").length=5:=by k_go
 have l7:(ofString "counts ").length=7:=by k_go
 -- all N out
 refine ⟨_,rfl,d,D.dx,jD D,rfl,da.ob,mR _ (by k_go) (by k_go),_,rfl,_,_,rfl,rfl,aW (by rw [l5];lk),Gy (nm:=nm) (aoP Z) da ln lp hp (by rw [gY];rfl) (by k_go) (by k_go) (by k_go) (by k_go) hn λl1 H1 X6 s1 x1=>⟨l1,p,v,aj,ws,L,st0,rfl,x1,B.kt (cG s1 (bY _)),tL.same s1,Yq.wf,λst H2 R oJ Yr=>.other (by k_go) (by k_go) (dW.kt (tL.same s1) Yr) ?_⟩⟩;have N:=Yq.rest ok R;have e:=R.all;have ks2:dI (L.own p) H H2:=ur (dI.same s1) Yr.own;have mH:KT H H2:=pW (cG s1 (bY _)) (dW.kt (tL.same s1) Yr);obtain ⟨e1,e2,e3⟩:=u9 da tL;have Ys:=da.kps ks2 e1 e2 e3;have tl:=N.wf.tl;have I:fK st.bM<=63:=by have:=N.few.le;rw [R.len] at this;lk
 have sB:∀ {Hc:Hp},aB H2 Hc->eG Hc v aj ws:=λt=>B.kt (cG t mH);refine ⟨rfl,_,rfl,bR (by simp) ?_⟩
 -- the counts
 refine ⟨_,rfl,d,D.dx,jD D,rfl,Ys.ob,mR _ (by k_go) (by k_go),_,rfl,_,_,rfl,rfl,aW (by rw [l7];lk),Gy (nm:=nm) (akC Z) Ys ln lp hp (by rw [gY];rfl) (by k_go) (by k_go) (by k_go) (by k_go) hn λl3 H3 Vk s3 x3=>⟨l3,p,v,aj,ws,L,st,rfl,x3,sB s3,oJ.same s3,tl,I,λns H4 s4 O=>.other (by k_go) (by k_go) (cG s4 (bY _)) ?_⟩⟩;have en:=agc O rfl;have et:=(ac_ ok w1 lv N e).1;refine ⟨_,rfl,rfl,_,rfl,bR (LQ (by rw [ed,en,et])) ?_⟩;have Aw:=aG s3 s4
 -- the words
 refine ⟨aW (by kl_no),λW fw=>?_⟩;km_lay fw H5 fw s5 x5;intro lt ft;km_lay ft H6 ft s6 x6;have Ef:=aG Aw s5;refine ⟨_,rfl,nm,rfl,aW (by lk),_,_,rfl,rfl,by decide,?_⟩;obtain ⟨t,et3⟩:∃ t:Int,t=((nm.length:Nat):Int) % 3:=⟨_,rfl⟩;have t0:0<=t:=by lk
 have t3:t<3:=by lk
 rw [<-et3];refine ⟨_,rfl,_,rfl,t,rfl,W,_,rfl,aN (s6 _ _ x5),λl7' f7=>?_⟩;km_lay f7 H7 f7 s7 x7;refine ⟨_,rfl,_,rfl,t,rfl,W,_,rfl,aN (s7 _ _ (s6 _ _ x5)),λl8 f8=>?_⟩;km_lay f8 H8 f8 s8 x8;obtain ⟨l,eo,ol,ho,oh⟩:=aqN t0 t3;refine ⟨l7',l8,_,_,rfl,rfl,s8 _ _ x7,x8,aW (by rw [<-dJ,eo,bh];lk),λl9 f9=>?_⟩;rw [eo];km_lay f9 H9 f9 s9 x9;have s69:=aG s7 (aG s8 s9);have s59:=aG s6 s69;have n9:l9≠lt:=bF (cV (s8 _ _ (s7 _ _ x6)) f9);refine ⟨l9,rfl,⟨_,aN x9⟩,uY (K:=K) (a:=l9) (xs:=l.map V.str) (λi σ Hc=>∃ (v7:Option V) (kd:dU),σ=[some (.ref d),some (.str nm),some (.str wg),some (.int cs.sum),some (.ref W),some (.ref lt),some (.int t),v7]/\aB H5 Hc/\Hc lt=some (.dK kd)/\Hc l9=some (.lst (l.map V.str))/\kd.length<=i/\∀ x∈l.take i,dh kd (.inr x)=some (.str (qU cs.sum x))) ⟨none,[],rfl,s59,s69 _ _ x6,x9,bI _,λx M=>(by simp at M)⟩ (λi σ Hc _ ⟨_,_,_,_,_,x,_⟩=>aN x) ?_ ?_⟩
 ·rintro i x σ Hc M ⟨v7,kd,rfl,Y,xt,xc,mD,hk⟩;obtain ⟨z,hz,rfl⟩:=wX M;have il:i<l.length:=(dY.mp hz).1;have hz':=ho z (fj hz);have zl:z.length<=6:=by rcases hz' with rfl|rfl|rfl<;>k_go
  have lb:(ofString " ").length=1:=by k_go
  have U:=aG Ef Y;have lV:=Ys.same U;have cU:∀ {y:Str} {o:Hp},y=qU cs.sum z->aB Hc o->∃ (v7:Option V) (Yt:dU),([some (.ref d),some (.str nm),some (.str wg),some (.int cs.sum),some (.ref W),some (.ref lt),some (.int t),some (.str z)]:St)=[some (.ref d),some (.str nm),some (.str wg),some (.int cs.sum),some (.ref W),some (.ref lt),some (.int t),v7]/\aB H5 (upd o lt (.dK (cD kd (.inr z) (.str y))))/\(upd o lt (.dK (cD kd (.inr z) (.str y)))) lt=some (.dK Yt)/\(upd o lt (.dK (cD kd (.inr z) (.str y)))) l9=some (.lst (l.map V.str))/\Yt.length<=i+1/\∀ x∈l.take (i+1),dh Yt (.inr x)=some (.str (qU cs.sum x)):=λ{y o} u J=>by
   refine ⟨_,_,rfl,bQ ft (aG Y J),aM,(aV n9).trans (J _ _ xc),?_,λx M=>?_⟩
   ·have:=zH kd (.inr z) (.str y);lk
   ·rw [rJ];by_cases c:x=z
    ·subst c;rw [aQ rfl,u]
    ·rw [aK (λh=>c (La h))];rw [gb hz] at M;rcases nM.mp M with h|h
     ·exact hk x h
     ·exact absurd (yU.mp h) c
  refine ⟨_,rfl,d,D.dx,jD D,rfl,lV.ob,mR _ (by k_go) (by k_go),_,rfl,_,_,rfl,rfl,aW (by rw [lb];lk),_,rfl,_,_,rfl,rfl,aW (by rw [jc,lb];lk),?_⟩;have S:Ls (z++ofString " "++nm)=Ls z++32::Ls nm:=by rw [gY,gY,blank];show (_++[32])++_=_;simp
  have kb:kd.length<900:=by lk
  rcases hz' with rfl|rfl|rfl
  ·refine Gy (nm:=nm) (akD Z) lV ln lp hp S (by k_go) (by k_go) (by k_go) (by k_go) hn λla Ha fla g xa=>⟨la,p,v,aj,ws,L,st,rfl,xa,sB (aG U g),oJ.same (aG U g),tl,I,λns Hb r O=>.other (by k_go) (by k_go) (cG r (bY _)) ?_⟩;have u:=PB ok w1 lv N e (.inl rfl) O;rw [aQ rfl] at u;exact ⟨_,rfl,_,rfl,lt,_,rfl,uJ.k (k:=.inr "stands") (r _ _ (g _ _ xt)) (nY (by lk)),cU (by rw [u];rfl) (aG g r)⟩
  ·refine Gy (nm:=nm) (aoS Z) lV ln lp hp S (by k_go) (by k_go) (by k_go) (by k_go) hn λla Ha fla g xa=>⟨la,p,v,aj,ws,L,st,rfl,xa,sB (aG U g),oJ.same (aG U g),tl,I,λns Hb r O=>.other (by k_go) (by k_go) (cG r (bY _)) ?_⟩;have u:=PB ok w1 lv N e (.inr (.inl rfl)) O;rw [aK (by k_go)] at u;exact ⟨_,rfl,_,rfl,lt,_,rfl,uJ.k (k:=.inr "owes") (r _ _ (g _ _ xt)) (nY (by lk)),cU (by rw [u];exact (aK (by k_go)).symm) (aG g r)⟩
  ·refine Gy (nm:=nm) (amQ Z) lV ln lp hp S (by k_go) (by k_go) (by k_go) (by k_go) hn λla Ha fla g xa=>⟨la,p,v,aj,ws,L,st,rfl,xa,sB (aG U g),oJ.same (aG U g),tl,I,λns Hb r O=>.other (by k_go) (by k_go) (cG r (bY _)) ?_⟩;have u:=PB ok w1 lv N e (.inr (.inr rfl)) O;rw [aK (by k_go)] at u;exact ⟨_,rfl,_,rfl,lt,_,rfl,uJ.k (k:=.inr "lacks") (r _ _ (g _ _ xt)) (nY (by lk)),cU (by rw [u];exact (aK (by k_go)).symm) (aG g r)⟩
 rintro σ Hc ⟨v7,kd,rfl,Y,xt,xc,mD,hk⟩;rw [bh,gw] at hk;have xw:=Y _ _ x5;refine ⟨_,rfl,W,rfl,⟨_,aN xw⟩,λlr fr=>?_⟩;refine rD (K:=K) (a:=W) (xs:=([("stands":Str),"owes","lacks"]).map V.str) (λj ys o=>aB Hc o/\o lr=some (.lst ys)/\ys=(([("stands":Str),"owes","lacks"]).take j).map λx=>V.str (qU cs.sum x)) ⟨bQ fr (cW _),aM,rfl⟩ (aW (by kl_no)) (λj ys o _ ⟨a1,a2,a3⟩=>⟨aN (a1 _ _ xw),a2,by rw [a3,bh,gW];exact R3 _ _⟩) ?_ ?_
 ·rintro j x ys o M ⟨J,xd,rfl⟩;obtain ⟨z,hz,rfl⟩:=wX M;got_up;have hv:=hk z (oh z (by have:=fj hz;simpa using this));have dg:qZ o lt (.str z) (some (.str (qU cs.sum z))):=by have:=qZ.k (k:=.inr z) (J _ _ xt);rw [hv] at this;exact this
  refine ⟨_,rfl,_,rfl,lt,_,rfl,dg,xd,bQ fr J,aM,?_⟩;rw [gb hz,cX];rfl
 rintro ys o ⟨J,xd,rfl⟩;have s0:0<=cs.sum:=by rw [(N.fw rfl).sm];lk
 have sN:cs.sum<=60:=by rw [(Yq.fw rfl).sm];lk
 refine ⟨_,rfl,_,rfl,λr1 tK=>?_⟩;km_lay tK He tK sr1 xr1;refine ⟨r1,0,_,rfl,xr1,by decide,by decide,by lk, by lk, by lk, λr2 Eh=>?_⟩;km_lay Eh Hf Eh sr2 Nv;rw [aoq] at Nv;refine ⟨r2,iH cs.sum.toNat,rfl,Nv,λn hn'=>?_,by rw [QZ];lk, λHg sg=>?_⟩
 ·have:=Jq.mp hn';lk
 refine ⟨aW (by kl_no),λl10 f10=>?_⟩;km_lay f10 Hh f10 uQ x10;have Yu:=aG sr1 (aG sr2 (aG sg uQ));have a1:qU cs.sum "stands"=iR (iH cs.sum.toNat):=aQ rfl;have a2:qU cs.sum "owes"="none":=aK (by k_go);have a3:qU cs.sum "lacks"="none":=aK (by k_go);have y1:Hh lr=some (.lst [V.str (iR (iH cs.sum.toNat)),V.str "none",V.str "none"]):=by have:=Yu _ _ xd;rw [show (([("stands":Str),"owes","lacks"]).take (([("stands":Str),"owes","lacks"]).map V.str).length).map (λx=>V.str (qU cs.sum x))=[V.str (qU cs.sum "stands"),V.str (qU cs.sum "owes"),V.str (qU cs.sum "lacks")] from rfl,a1,a2,a3] at this;exact this
 have sh:=agd (a:=iR (iH cs.sum.toNat)) (b:="none") (c:="none") ⟨aj_ _,by k_go,by k_go⟩;have cU:Q (.bl true) Hh:=q Hh (ur ks2 (dI.same (aG Ef (aG Y (aG J Yu))))) (cG (aG Ef (aG Y (aG J Yu))) mH);refine ⟨_,_,.lst y1 (.cons (.str _) (.cons (.str _) (.cons (.str _) .nil))),.lst x10 (.cons (.str _) (.cons (.str _) (.cons (.str _) .nil))),sh,sh,akb,?_⟩;have z:Q (.bl (PySem.Spec.same (.list [.str (iR (iH cs.sum.toNat)),.str "none",.str "none"]) (.list [.str (iR (iH cs.sum.toNat)),.str "none",.str "none"]))) Hh:=by rw [ah2];exact cU
 exact z
def ap0 (F:oW K mg "law" yg f fd):dw P w K mg au jL 16 f fd ["_law_script"] (Li K):=by
 o_head ["_law_script","_law_pen_here","_law_desk","_law_wide","_law_lanes","_law_came","_law_due","_law_text_here","_law_name","_law_some","_law_left"];obtain ⟨sa,ns,rfl,hS,h63,q⟩:=h;refine ⟨_,(aU (bW 1 nd (bH (Qz Z) hr.m rfl (ao (pv 0) (ao aL aq))))
 (aU (bW 2 nd (ajI (apZ Z) hr.m rfl))
 (aU (bW 3 nd (cJ (fB (ao aL (ao aL (ao aL (ao aL aq))))) (bH (tU Z) hr.m rfl (ao (pv 1) (ao aL aq)))))
 (aU (cP (PW.pt (uz (j4 (lG (bH (aiv Z) hr.m rfl (ao (pv 1) (ao (pv 2) (ao (pv 3) aq)))))) (uz (cQ mj (jN (pv 2) Z.TD.cl (qw Z) hr.m (ao bN aq)) bN) (vH (cQ mj (jN (pv 2) Z.TD.cl (qw Z) hr.m (ao bN aq)) bN)))))
 (aO (bw pU))
 cT)
 (aU (bW 1 nd (bH (Qz Z) hr.m rfl (ao (pv 0) (ao aL aq))))
 (aU (bW 4 nd (iD ["_law_k"] [("_law_pen_here",1),("_law_wide",3)] rfl (qt rfl T.lD (ao (bH (tU Z) hr.m rfl (ao (pv 1) (ao aL aq))) aq)) (by k_all) (by k_mem) (by row_wit1 (bH (tU Z) hr.m rfl (ao (pv 1) (ao (pv 2) aq))))))
 (aU (bW 5 nd (bH (Z8 Z) hr.m rfl (ao (iD ["_law_lane"] [("_law_lanes",4)] rfl (qt rfl T.lD (ao (pv 3) aq)) (by k_all) (by k_mem) (by row_wit1 (bmK K rfl (iV oN PySem.F.slot_list_count PySem.F.type_list_count amh (pv 1) (ao (pv 0) aq))))) aq)))
 (aU (bW 6 nd (jN (pv 2) Z.TD.cl (qw Z) hr.m (ao (bD jW bN (pv 5)) aq)))
 (aU (bW 7 nd (jN (pv 2) Z.TD.cl (qw Z) hr.m (ao bN aq)))
 (aU (cP (PW.pt (uz (cQ mj (jN (pv 2) Z.TD.cl (qw Z) hr.m (ao (bD jW bN (pv 7)) aq)) bN) (vH (zy O1 (bH (aau Z) hr.m rfl (ao (pv 2) (ao bN aq))) (fB (ao bN (ao bN aq))) (by with_unfolding_all rfl)))))
 (aO (bw pU))
 cT)
 (aU (jx jj rfl  (jZ (fB (ao (g_ (ao bN (ao (pv 4) aq))) (ao (g_ (ao bN (ao (agI (pv 4) (adZ adt aL)) aq))) aq)))) (qM rfl (ji (fL 8 nd) (ji (fL 9 nd) qF)))
 (aU (bW 10 nd (bH (aiw Z) hr.m rfl (ao (bH (Qz Z) hr.m rfl (ao (pv 0) (ao (bD jQ aL (jM Ij rfl T.zV zu (ao (pv 8) aq))) aq))) (ao (pv 2) (ao (pv 8) (ao (pv 9) aq))))))
 (aU (cP (PW.pt (uz (cQ adv (pv 10) zP) (vH (cQ mj (ake rfl rfl T.zV rfl T.aql (pv 10)) (j6 T (pv 10))))))
 (aO (bw pU))
 cT)
 (aU (cP (cQ (apg hr.units) (iD ["_law_word"] [("_law_lanes",4)] rfl (jZ (pv 10)) (by k_all) (by row_wit1 (Cj (zy (afJ K rfl) (pv 0) (iD ["_law_number"] [] rfl (qt rfl T.lD (ao (jM (afK K rfl) rfl T.zV zu (ao (pv 1) aq)) aq)) (by k_all) (by k_mem) (by row_wit1 (iy (Ih K rfl) rfl T.o9 qu (ao (pv 0) aq)))) (by with_unfolding_all rfl)))) (by row_wit1 (pv 0))) (fB aq))
 (aO (bw pU))
 cT)
 (aO (cP (j4 (lG (bH (af5 Z) hr.m rfl (ao (pv 2) (ao (pv 8) (ao (pv 6) (ao (j6 T (pv 4)) aq)))))))
 (aO (bw pU))
 cT))))))
 (aO (bw (vI (Kq Qc (bH (aau Z) hr.m rfl (ao (pv 2) (ao bN aq))) (fB (ao bN (ao bN aq))) (by with_unfolding_all rfl)) (uo (vN iU (jN (pv 2) Z.TD.cl (qw Z) hr.m (ao bN aq)) bN)))))))))))))))),?_⟩
 refine ⟨_,rfl,sa,ns,0,rfl,hS,h63,by lk, by lk, λp0 a0 b0 c0 f0=>?_⟩;km_lay f0 H0 f0 s0 x0
 -- the as6
 intro d dx fd Ho ndx;refine ⟨d,dx,rfl,aM,λD H1 fn fq HS k1=>⟨rfl,?_⟩⟩;have out:∀ {b:Addr},(upd (upd H0 dx (.own d)) d (.ins Cd dx [])) b=none->H0 b=none:=λ{b} e=>by
  have a1:b≠d:=λz=>by rw [z,aM] at e;cases e
  have a2:b≠dx:=λz=>by rw [z,aV ndx,aM] at e;cases e
  rw [aV a1,aV a2] at e;exact e
 have fn1:H0 D.n=none:=out fn;have fq1:H0 D.q=none:=out fq;have s1:aB H0 H1:=λb o e=>k1 b o ((aV (cV e fd)).trans ((aV (cV e Ho)).trans e)) (cV e fd);clear k1 fn fq out;have s01:=aG s0 s1;have fnH:H D.n=none:=s0.free fn1;have fqH:H D.q=none:=s0.free fq1
 -- so aj
 refine ⟨aW (by kl_no),λl0 fl0=>?_⟩;have hp1:=s1 _ _ x0;obtain ⟨k2,hp2,x2,n2⟩:=Z_ hp1 fl0 (.lst [V.int 1,V.int 2,V.int 4,V.int 8]);km_lay l0 H2 fl0 s12 z_;refine ⟨_,rfl,p0,_,_,_,4,rfl,hp2,by decide,by decide,λv a3 b3 c3 v0 v4'=>?_⟩;have s3:aB H (upd H2 p0 (.lst [.int a3,.int b3,.int c3])):=bQ f0 (aG s01 s12);have Yv:fZ Cd (upd H2 p0 (.lst [.int a3,.int b3,.int c3])) d D [] []:=by obtain ⟨e1,e2,e3⟩:=Fe (HS.same s12) hp2;exact (HS.same s12).kps (S:=[p0]) (sS (by simp)) (by simpa using e1) (by simpa using e2) (by simpa using e3)
 have hp3:(upd H2 p0 (.lst [.int a3,.int b3,.int c3])) p0=some (.lst [.int a3,.int b3,.int c3]):=aM;have x3:(upd H2 p0 (.lst [.int a3,.int b3,.int c3])) l0=some (.lst [V.int 1,V.int 2,V.int 4,V.int 8]):=(aV n2).trans x2;generalize upd H2 p0 (HO.lst [V.int a3,V.int b3,V.int c3])=H3 at s3 Yv hp3 x3;have ez:jK [V.int 1,V.int 2,V.int 4,V.int 8] v=some (.int (pw v.toNat))/\v.toNat<=3:=by
  have wc:v=0\/v=1\/v=2\/v=3:=by lk
  rcases wc with h|h|h|h<;>subst h<;>exact ⟨rfl,by decide⟩
 obtain ⟨ez,Yw⟩:=ez;generalize v.toNat=k at ez Yw;have w1:=vL k;have w8:=zX Yw;refine ⟨l0,_,_,_,rfl,rfl,aN x3,ez,?_⟩
 try dsimp only [lK]
 refine t_ λN I=>⟨_,rfl,_,rfl,_,rfl,p0,d,D,k,rfl,Yw,⟨_,_,_,hp3⟩,Yv,λkn B ws H4 Ny ln4 HX DG l40 lv dp pe4 ks4=>?_⟩;have ok:=DG.2.2.2.1;have s4:aB H H4:=ks4.old s3 (λb hb=>by
  simp at hb;rcases hb with rfl|rfl
  ·exact f0
  ·exact fnH)
 walk2;have HY:kn.length<900:=by lk
 -- two plays
 refine ⟨_,rfl,d,D.dx,jD D,rfl,Ny.ob,mR _ (by k_go) (by k_go),abG (nm:="one") (a:="w") (adh Z) Ny HY (by decide) HX (by k_go) adQ pD λl5 H5 yE s5 x5=>⟨l5,_,B,pw k,ws,rfl,x5,DG.kt (cG s5 (bY _)),λr L1 H6 tK Ba s6=>.play rfl s6 ?_⟩⟩;have Nz:=aG s5 s6;have Y:=Ny.same Nz;obtain ⟨o1,o2,o3⟩:=u9 Y Ba;have kq7:dI [D.q] H6 (upd H6 D.q (HO.dK (cD [] (.inr "one") (.ref r)))):=sS (by simp);have qp:KT H6 (upd H6 D.q (HO.dK (cD [] (.inr "one") (.ref r)))):=λb xs e=>(aV (kY e Y.pl (by intro z;cases z))).trans e;have tM:fZ Cd (upd H6 D.q (HO.dK (cD [] (.inr "one") (.ref r)))) d D kn (cD [] (.inr "one") (.ref r)):=⟨(aV (kY Y.ob Y.pl (by intro z;cases z))).trans Y.ob,(aV Y.nq).trans Y.ne,aM,Y.nq,Y.ln,by have:=zH [] (.inr (ofString "one")) (V.ref r);simp at this;lk⟩;have NK:=Ba.keep kq7 qp (Dc o3);have s7:aB H (upd H6 D.q (HO.dK (cD [] (.inr "one") (.ref r)))):=bQ fqH (aG s4 Nz);have Mj:=(DG.kt (cG Nz (bY _))).kt qp;have arT:∀ b∈L1.own r,H b=none:=λb hb=>(aG s4 s5).free (tK b hb);generalize upd H6 D.q (HO.dK (cD [] (.inr "one") (.ref r)))=H7 at tM NK s7 Mj;refine ⟨rfl,_,rfl,bR (by simp) ⟨_,rfl,d,D.dx,jD D,rfl,tM.ob,mR _ (by k_go) (by k_go),abG (nm:="other") (a:="w") (adh Z) tM HY (by have:=zH [] (.inr (ofString "one")) (V.ref r);simp at this;lk) HX (by k_go) abK pD λl8 H8 fl8 s8 x8=>⟨l8,_,B,pw k,ws,rfl,x8,Mj.kt (cG s8 (bY _)),λp2 wN H9 Eh wK s9=>.play rfl s9 ?_⟩⟩⟩;have H_:=aG s8 s9;have R:=tM.same H_;have U6:=NK.same H_;obtain ⟨q1,q2,q3⟩:=u9 R wK;obtain ⟨r1,r2,r3⟩:=u9 R U6;have dj:Dj (L1.own r) (wN.own p2):=λb hb hb2=>(NK.same s8).live b hb (Eh b hb2);have kq:dI [D.q] H9 (upd H9 D.q (HO.dK (cD (cD [] (.inr "one") (.ref r)) (.inr "other") (.ref p2)))):=sS (by simp);have kt:KT H9 (upd H9 D.q (HO.dK (cD (cD [] (.inr "one") (.ref r)) (.inr "other") (.ref p2)))):=λb xs e=>(aV (kY e R.pl (by intro z;cases z))).trans e;obtain ⟨kp,Ia⟩:∃ kp:dU,kp=cD (cD [] (.inr (ofString "one")) (V.ref r)) (.inr (ofString "other")) (.ref p2):=⟨_,rfl⟩;have lkp:kp.length<=2:=by rw [Ia];have:=zH (cD [] (.inr (ofString "one")) (V.ref r)) (.inr (ofString "other")) (.ref p2);have:=zH [] (.inr (ofString "one")) (V.ref r);simp at this;lk
 have v1:dh kp (.inr (ofString "one"))=some (.ref r):=by rw [Ia,rJ,aK (by k_go),rJ,aQ rfl]
 have v2:dh kp (.inr (ofString "other"))=some (.ref p2):=by rw [Ia,rJ,aQ rfl]
 have DK:fZ Cd (upd H9 D.q (HO.dK (cD (cD [] (.inr "one") (.ref r)) (.inr "other") (.ref p2)))) d D kn kp:=⟨(aV (kY R.ob R.pl (by intro z;cases z))).trans R.ob,(aV R.nq).trans R.ne,by rw [aM,Ia],R.nq,R.ln,by lk⟩;have eY:=U6.keep kq kt (Dc r3);have oJ:=wK.keep kq kt (Dc q3);have uQ:aB H (upd H9 D.q (HO.dK (cD (cD [] (.inr "one") (.ref r)) (.inr "other") (.ref p2)))):=bQ fqH (aG s7 H_);have Gz:=(Mj.kt (cG H_ (bY _))).kt kt;have arU:∀ b∈wN.own p2,H b=none:=λb hb=>(aG s7 s8).free (Eh b hb);generalize upd H9 D.q (HO.dK (cD (cD [] (.inr "one") (.ref r)) (.inr "other") (.ref p2)))=Ag at DK eY oJ uQ Gz;clear kq kt U6 wK R H_ s8 s9 x8 tM NK Mj s7 kq7 qp Y Ba Nz s5 s6 x5 x3 hp3 Yv s3 q1 q2 q3 r1 r2 r3 o1 o2 o3 Ia tK Eh;refine ⟨rfl,_,rfl,bR (by simp) (I _ _ ?_)⟩;clear I N
 -- the g
 refine ⟨_,rfl,sa,ns,1,rfl,uQ.seq hS,h63,by lk, by lk, λpn a11 b11 c11 f11=>?_⟩;km_lay f11 uR f11 DW aeP
 try dsimp only [lK]
 refine t_ λN I=>⟨_,rfl,pn,_,_,_,21,rfl,aeP,by decide,by decide,λm a12 NP c12 m0 m21=>?_⟩;have Ml:aB Ag (upd uR pn (HO.lst [V.int a12,V.int NP,V.int c12])):=bQ f11 DW;have Mp:(upd uR pn (HO.lst [V.int a12,V.int NP,V.int c12])) pn=some (.lst [V.int a12,V.int NP,V.int c12]):=aM;generalize upd uR pn (HO.lst [V.int a12,V.int NP,V.int c12])=H12 at Ml Mp;refine ⟨m,rfl,by lk, by lk, λu Yx=>?_⟩;have Yy:u≠pn:=bF (cV Mp Yx);have Mq:Ag u=none:=Ml.free Yx;refine tQ (n:=m.toNat) (λj ys Hc=>aB Ag Hc/\wG Hc pn/\Hc u=some (.lst ys)/\∃ ls:aF,ys=ls.map V.int/\ls.length=j/\∀ l∈ls,0<=l/\l<pw k) ⟨bQ Mq Ml,⟨_,_,_,(aV (bF Yy)).trans Mp⟩,aM,[],rfl,rfl,λ_ z=>(nomatch z)⟩ (aW (by lk)) (λj ys Hc ⟨_,_,e1,ls,e2,e3,_⟩=>⟨e1,by rw [e2,bh];lk⟩) ?_ ?_
 ·rintro j ys Hc hj ⟨sc,⟨t1,t2,t3,hpc⟩,xc,ls,rfl,lls,hls⟩;is_list;refine ⟨_,rfl,_,rfl,pn,_,_,_,pw k,rfl,hpc,by lk, by lk, λl a13 b13 c13 l0' l1'=>⟨(aV Yy).trans xc,bQ Mq (bQ f11 sc),⟨_,_,_,(aV (bF Yy)).trans aM⟩,aM,ls++[l],by rw [cX];rfl,by rw [dJ,yO,lls],λz hz=>?_⟩⟩;rcases nM.mp hz with h|h
  ·exact hls z h
  ·rw [yU.mp h];exact ⟨l0',l1'⟩
 rintro ys H13 ⟨wJ,_,Az,g,rfl,llen,hl⟩;refine I _ _ ?_;clear I N;have l20:g.length<=20:=by lk
 clear Ml Mp DW aeP Yx;have e11:u∉L1.own r:=λz=>eY.live _ z Mq;have Vn:u∉wN.own p2:=λz=>oJ.live _ z Mq
 try dsimp only [lK]
 refine t_ (a:=qW _ _) λN I=>⟨_,rfl,pw k,rfl,by lk, by lk, λlc flc=>?_⟩;refine tQ (n:=(pw k).toNat) (λj ys Hc=>aB H13 Hc/\Hc lc=some (.lst ys)/\ys=((eE (pw k) g).take j).map V.int) ⟨bQ flc (cW _),aM,rfl⟩ (aW (by lk)) (λj ys Hc ⟨_,e1,e2⟩=>⟨e1,by rw [e2,bh,gW];exact R3 _ _⟩) ?_ ?_
 ·rintro j ys Hc hj ⟨sc,xc,rfl⟩;rw [show (0:Int)+(j:Int)=(j:Int) from rO _];got_up;refine ⟨_,rfl,.inl ⟨rfl,_,aN (sc _ _ Az)⟩,_,rfl,u,g,_,rfl,rfl,sc _ _ Az,xc,bQ flc sc,aM,?_⟩;rw [gb (FW (aj:=pw k) (ls:=g) hj),cX];rfl
 rintro ys H14 ⟨s14,x14,rfl⟩;have cl:=Bt (pw k) g;rw [<-cl,gw] at x14;have uM:eE (pw k) g≠[]:=λz=>by rw [z] at cl;simp at cl;lk
 refine ⟨lc,eE (pw k) g,rfl,x14,λc hc=>by have:=Q0 hc;lk, by lk, λH15 s15=>?_⟩;have Uk:=aG s14 s15;have Ul:=aG wJ Uk;have U7:=DK.same Ul;have aec:=Gz.kt (cG Ul (bY _));refine I _ _ ?_;clear I N
 try dsimp only [lK]
 refine t_ (a:=qW _ _) λN I=>?_;have lw8:(ofString "exits w ").length=8:=by k_go
 have lwn:(iR (eE (pw k) g)).length<=90000:=by rw [Q6 uM];have b1:=FT (Bs (ns:=eE (pw k) g) λc hc=>by have:=Q0 hc;lk);have b2:=TX ((eE (pw k) g).map bL);unfold Wt at b2;rw [bh] at b1 b2;show (Txt.join ⟨#[32]⟩ _).length<=_;lk
 refine ⟨_,rfl,d,D.dx,jD D,rfl,U7.ob,mR _ (by k_go) (by k_go),_,rfl,_,_,rfl,rfl,aW (by rw [lw8];lk),?_⟩;rw [amt uM];have csum:(eE (pw k) g).sum=(g.length:Int):=amu hl;have lsm:=aj5 ok w1 lv cl (by lk) (by lk);refine aoo (nm:="w") (amN Z) U7 HY (by lk) HX aec pD (λc hc=>by have:=Q0 hc;lk) cl lsm λH16 Ec=>?_;have tne:bC (eE (pw k) g) ws≠[]:=λz=>by have:=je List.length z;rw [jE,cl] at this;simp at this;lk
 rw [<-Q6 tne];have Um:=aG Ul Ec;refine I _ _ ?_;clear I N
 try dsimp only [lK]
 refine t_ (a:=qW _ _) λN I=>?_;have U8:=DK.same Um;have aed:=Gz.kt (cG Um (bY _));refine ⟨_,rfl,d,D.dx,jD D,rfl,U8.ob,mR _ (by k_go) (by k_go),Lr (nm:="w") (aoQ Z) U8 HY (by lk) HX (by k_go) (by k_go) (by k_go) (by k_go) (by k_go) pD λl17 H17 as7 NQ x17=>⟨l17,B,pw k,ws,rfl,x17,aed.kt (cG NQ (bY _)),λH18 NT=>.other (by k_go) (by k_go) (cG NT (bY _)) ?_⟩⟩;have aee:=aG Um (aG NQ NT);have aeQ:=DK.same aee;refine I _ _ ?_;clear I N
 try dsimp only [lK]
 refine adI (λσ Hc=>σ=[some (.ref sa),some (.ref pn),some (.ref d),some (.int (pw k)),some (.ref u),some (.str (iR (eE (pw k) g))),some (.str (iR (bC (eE (pw k) g) ws))),some (.str (oA (pw k) ws)),none,none,none]/\∃ t:dU,t.length<=3/\dh t (.inr (ofString "w"))=some B/\fZ Cd Hc d D t kp/\cN C Hc r B L1 (jF (pw k) ws)/\cN C Hc p2 B wN (jF (pw k) ws)/\aB H Hc/\eG Hc B (pw k) ws/\Hc u=some (.lst (g.map V.int))) (λN I=>?_) ?_
 ·have l9:(ofString "net twin ").length=9:=by k_go
  have nl:=QT (pw k) ws;refine ⟨_,rfl,d,D.dx,jD D,rfl,aeQ.ob,mR _ (by k_go) (by k_go),_,rfl,_,_,rfl,rfl,aW (by rw [l9,nl];lk),ac9 (nm:="twin") (txt:=oA (pw k) ws) (adW Z) aeQ HY (by lk) (by rw [gY];rfl) adb (by rw [nl];lk) λl19 H19 as8 Yz x19=>⟨l19,_,pw k,ws,rfl,x19,w1,w8,ok,l40,λO wO NZ nt=>.net rfl NZ ?_⟩⟩;have zY:=aG aee (aG Yz NZ);have U:=DK.same zY;obtain ⟨u1,u2,u3⟩:=u9 U (eY.same zY);obtain ⟨y1,y2,y3⟩:=u9 U (oJ.same zY);have aeR:dI [D.n] wO (upd wO D.n (HO.dK (cD kn (.inr "twin") O))):=sS (by simp);have Mr:KT wO (upd wO D.n (HO.dK (cD kn (.inr "twin") O))):=λb xs e=>(aV (kY e U.ne (by intro z;cases z))).trans e;obtain ⟨t,N5⟩:∃ t:dU,t=cD kn (.inr (ofString "twin")) O:=⟨_,rfl⟩;have lkn:t.length<=3:=by rw [N5];have:=zH kn (.inr (ofString "twin")) O;lk
  have M:dh t (.inr (ofString "w"))=some B:=by rw [N5,rJ,aK (by k_go)];exact HX
  have ht':dh t (.inr (ofString "twin"))=some O:=by rw [N5,rJ,aQ rfl]
  have Ms:fZ Cd (upd wO D.n (HO.dK (cD kn (.inr "twin") O))) d D t kp:=⟨(aV (kY U.ob U.ne (by intro z;cases z))).trans U.ob,by rw [aM,N5],(aV (bF U.nq)).trans U.pl,U.nq,by lk, U.lp⟩;have aeS:=(eY.same zY).keep aeR Mr (Dc u2);have aeT:=(oJ.same zY).keep aeR Mr (Dc y2);have s21:aB H (upd wO D.n (HO.dK (cD kn (.inr "twin") O))):=bQ fnH (aG uQ zY);have Uo:=(Gz.kt (cG zY (bY _))).kt Mr;have aeU:eG (upd wO D.n (HO.dK (cD kn (.inr "twin") O))) O (pw k) ws:=⟨nt.kt Mr,w1,w8,ok,by lk⟩;have aeV:(upd wO D.n (HO.dK (cD kn (.inr "twin") O))) u=some (.lst (g.map V.int)):=(aV (λz=>by have:=U.ne;rw [<-z,(aG Uk (aG Ec (aG NQ (aG NT (aG Yz NZ))))) _ _ Az] at this;cases this)).trans ((aG Uk (aG Ec (aG NQ (aG NT (aG Yz NZ))))) _ _ Az);generalize upd wO D.n (HO.dK (cD kn (.inr "twin") O))=H21 at Ms aeS aeT s21 Uo aeU aeV;refine ⟨rfl,_,rfl,bR (by simp) ?_⟩
  -- the two alike
  have yes:∀ {y:Str} {Hx:Hp},(y="yes" \/ y="many")->(!lM (.str y) [V.str "yes",V.str "many"])=false:=λhy=>by rcases hy with rfl|rfl<;>k_go
  have done:∀ {Hx:Hp},aB H21 Hx->N [some (.ref sa),some (.ref pn),some (.ref d),some (.int (pw k)),some (.ref u),some (.str (iR (eE (pw k) g))),some (.str (iR (bC (eE (pw k) g) ws))),some (.str (oA (pw k) ws)),none,none,none] Hx:=λJ=>I _ _ ⟨rfl,t,lkn,M,Ms.same J,aeS.same J,aeT.same J,aG s21 J,Uo.kt (cG J (bY _)),J _ _ aeV⟩;refine ⟨_,rfl,d,D,t,kp,_,rfl,Ms,aop (nm:="w") (b:="twin") (amO Z) Ms (by lk) (by lk) M ht' (by k_go) (by k_go) (by k_go) (by k_go) (by k_go) pD adb λl22 H22 as9 N6 x22=>⟨l22,B,O,pw k,ws,rfl,x22,Uo.kt (cG N6 (bY _)),aeU.kt (cG N6 (bY _)),λH23 tG=>.other (by k_go) (by k_go) (cG tG (bY _)) ⟨⟨_,rfl⟩,?_⟩,λH23 tG=>⟨rfl,λH24 Aw=>?_⟩⟩⟩
  ·refine ⟨aW (by kl_no),λYB YC=>⟨YB,_,rfl,.inl (aN aM),rfl,rfl,_,rfl,bR (by k_go) (done (aG N6 (aG tG (cu YC _))))⟩⟩
  ·refine ⟨aW (by kl_no),λYB YC=>⟨YB,_,rfl,.inl (aN aM),rfl,rfl,_,rfl,bR (by k_go) (done (aG N6 (aG tG (aG Aw (cu YC _)))))⟩⟩
 rintro σ H30 ⟨rfl,t,lkn,M,arV,Ba,wK,s30,aef,aeW⟩;clear DK Gz aed U8 U7 aec eY oJ Ny DG
 -- fJ,one behind the other
 refine ⟨_,rfl,aW (by kl_no),λt1 ft1=>?_⟩;km_lay ft1 H31 ft1 Ei x31;refine ⟨_,rfl,_,rfl,u,_,rfl,rfl,aN (Ei _ _ aeW),λlr N7=>?_⟩;rw [<-List.map_reverse];km_lay N7 H32 N7 s32 x32;refine ⟨aW (by kl_no),λt2 ft2=>?_⟩;km_lay ft2 H33 ft2 s33 x33;refine ⟨aW (by kl_no),λlt flt=>?_⟩;km_lay flt H34 flt N8 x34;have Lw:=aG s32 s33;have zZ:=aG Ei (aG Lw N8);have g1:lr∉L1.own r:=λz=>(Ba.same Ei).live _ z N7;have g2:lr∉wN.own p2:=λz=>(wK.same Ei).live _ z N7;have g3:lt∉L1.own r:=λz=>(Ba.same (aG Ei Lw)).live _ z flt;have g4:lt∉wN.own p2:=λz=>(wK.same (aG Ei Lw)).live _ z flt;refine ⟨lt,rfl,⟨_,aN x34⟩,uY (K:=K) (a:=lt) (xs:=[V.ref t1,V.ref t2]) (λi σ Hc=>∃ (v8 v9 v10:Option V),σ=[some (.ref sa),some (.ref pn),some (.ref d),some (.int (pw k)),some (.ref u),some (.str (iR (eE (pw k) g))),some (.str (iR (bC (eE (pw k) g) ws))),some (.str (oA (pw k) ws)),v8,v9,v10]/\aB H Hc/\KT H34 Hc/\fZ Cd Hc d D t kp/\(i=0->cN C Hc r B L1 (jF (pw k) ws))/\(i<=1->cN C Hc p2 B wN (jF (pw k) ws))/\Hc u=some (.lst (g.map V.int))/\Hc lr=some (.lst (g.reverse.map V.int))/\Hc lt=some (.lst [V.ref t1,V.ref t2])) ⟨none,none,none,rfl,aG s30 zZ,bY _,arV.same zZ,λ_=>Ba.same zZ,λ_=>wK.same zZ,zZ _ _ aeW,(aG s33 N8) _ _ x32,x34⟩ (λi σ Hc _ ⟨_,_,_,_,_,_,_,_,_,_,_,x⟩=>aN x) ?_ ?_⟩
 ·rintro i x σ Hc hx ⟨v8,v9,v10,rfl,sc,ktc,W,arW,hp2',N_,xlr,xlt⟩;have Mg:=aef.kt (pW (cG zZ (bY _)) ktc);obtain ⟨nm,p,L,lx,ls,T1,ex,hT,hnm,nml,hv,pa,fr,xl,ecs,lls,hls,n1,n2,n3,n4,alt⟩:∃ (nm:Str) (p:Addr) (L:dB) (lx:Addr) (ls:aF) (T1:Addr),x=.ref T1/\H34 T1=some (.tup [.str nm,.ref lx])/\iM (Ls nm)/\nm.length<=5/\dh kp (.inr nm)=some (.ref p)/\cN C Hc p B L (jF (pw k) ws)/\(∀ b∈L.own p,H b=none)/\Hc lx=some (.lst (ls.map V.int))/\eE (pw k) ls=eE (pw k) g/\ls.length=g.length/\(∀ l∈ls,0<=l/\l<pw k)/\lx∉L.own p/\u∉L.own p/\lr∉L.own p/\lt∉L.own p/\(i=0->Dj (wN.own p2) (L.own p)):=by
   have il:i<2:=(dY.mp hx).1;have hi:i=0\/i=1:=by lk
   rcases hi with rfl|rfl
   ·exact ⟨"one",r,L1,u,g,t1,(iB hx).symm,(aG Lw N8) _ _ x31,adQ,by k_go,v1,arW rfl,arT,N_,rfl,rfl,hl,e11,e11,g1,g3,λ_=>dj.symm⟩
   ·exact ⟨"other",p2,wN,lr,g.reverse,t2,(iB hx).symm,N8 _ _ x33,abK,by k_go,v2,hp2' (bI _),arU,xlr,amm _ _,List.length_reverse,λl h=>hl l (List.mem_reverse.mp h),g2,Vn,g2,g4,λz=>absurd z (by decide)⟩
  subst ex;refine ⟨T1,_,rfl,aZ (ktc _ _ hT),rfl,_,_,rfl,_,_,rfl,rfl,_,rfl,_,rfl,nm,rfl,aW (by lk),_,_,rfl,rfl,sa,ns,2+(nm.length:Int),rfl,sc.seq hS,h63,by lk, by lk, λpq ea eb ec Ib=>?_⟩;km_lay Ib H40 Ib Ie x40;have U9:KT Hc H40:=cG Ie (bY _);refine ⟨_,rfl,_,rfl,_,rfl,pq,d,D,t,kp,nm,lx,ls,p,B,pw k,ws,L,rfl,⟨_,_,_,x40⟩,W.same Ie,by lk, by lk, hnm,hv,Mg.kt U9,lv,pa.same Ie,λz=>pa.live _ z Ib,Ie _ _ xl,n1,cV xl Ib,hls,by lk, λla Bb st Oa fla arX GR aqZ xla aeX arY aeY=>?_⟩;rw [ecs] at GR
  -- what is kept
  have DN:∀ b o,Hc b=some o->b∉L.own p->Oa b=some o:=λb o e nb=>arY b o (Ie b o e) (by simp;exact ⟨cV e Ib,nb⟩);obtain ⟨o1,o2,o3⟩:=u9 W pa;have arZ:fZ Cd Oa d D t kp:={ W with ob:=DN _ _ W.ob o1,ne:=DN _ _ W.ne o2,pl:=DN _ _ W.pl o3 };have aq0:=(Mg.kt U9).kt aeY
  -- the numbers apart
  have pmS:=aeX.trans (GR.fw rfl).pm;have as_:=GR.wf.tl;have ar0:Bb.Nodup:=pmS.nodup_iff.mpr (O4 w1 0 st.bM (by lk));have bd:∀ n∈Bb,0<=n/\n<(g.length:Int):=λn hn=>by have:=ZW ok w1 lv GR (pmS.mem_iff.mp hn);rw [aqZ,lls] at this;exact this
  have ata:Bb.length<=20:=by have h2:=aeX.length_eq;have h3:=Ji st.aX 0;lk
  have Mt:Oa la=some (.lst ((Bb.map bL).map V.str)):=by rw [xq];exact xla
  have ndS:(Bb.map bL).Nodup:=ah3 ar0 λn hn=>by have:=bd n hn;lk
  refine ⟨_,rfl,rfl,_,rfl,bR (by simp) ⟨_,rfl,la,Bb.map bL,rfl,aN Mt,ndS,by rw [bh];lk, _,rfl,la,_,rfl,.inl (aN Mt),rfl,_,rfl,bR (LQ (by simp)) ⟨_,rfl,la,rfl,⟨_,aN Mt⟩,λlf flf=>?_⟩⟩⟩;refine rD (K:=K) (a:=la) (xs:=(Bb.map bL).map V.str) (λj ys Hd=>aB Oa Hd/\Hd lf=some (.lst ys)/\ys=[]) ⟨bQ flf (cW _),aM,rfl⟩ (aW (by rw [bh,bh];lk)) (λj ys Hd _ ⟨a1,a2,a3⟩=>⟨aN (a1 _ _ Mt),a2,by rw [a3];exact fQ _⟩) ?_ ?_
  ·rintro j x ys Hd hx' ⟨sd,xd,rfl⟩;obtain ⟨z,hz,rfl⟩:=wX hx';obtain ⟨n,hn,rfl⟩:=fW.mp (fj hz);have bn:=bd n hn;have ar3:=sd _ _ (DN _ _ N_ n2);refine ⟨⟨.inl rfl,.inr rfl,trivial⟩,_,rfl,_,rfl,u,_,rfl,.inl (aN ar3),(g.length:Int),(by simp),by lk, by lk, λli Ao=>?_⟩;refine tQ (n:=g.length) (λj2 zs He=>aB Hd He/\He li=some (.lst zs)/\zs=((iH j2).map bL).map V.str) ⟨bQ Ao (cW _),aM,rfl⟩ (aW (by lk)) (λj2 zs He ⟨_,a2,a3⟩=>⟨a2,by rw [a3,bh,bh,QZ];exact bI _⟩) ?_ ?_
   ·rintro j2 zs He hj2 ⟨se,xe,rfl⟩;rw [show (0:Int)+(j2:Int)=(j2:Int) from rO _];isplit;refine ⟨_,rfl,(j2:Int),rfl,xP (by lk),xe,bQ Ao se,aM,?_⟩;rw [ajY,cX,cX];rfl
   rintro zs He ⟨se,xe,rfl⟩;have em:lM (.str (bL n)) (((iH g.length).map bL).map V.str)=true:=abJ _ _ (fW.mpr ⟨n,Jq.mpr bn,rfl⟩);exact ⟨li,_,rfl,.inl (aN xe),rfl,aa6 _,_,rfl,bR (by show ¬ ((!lM (.str (bL n)) (((iH g.length).map bL).map V.str))=true);rw [em];decide) ⟨aG sd se,se _ _ xd,rfl⟩⟩
  rintro ys H42 ⟨s42,x42,rfl⟩;refine ⟨aW (by kl_no),λl43 f43=>?_⟩;km_lay f43 H43 f43 s43 x43;refine ⟨.list [],.list [],.lst (s43 _ _ x42) .nil,.lst x43 .nil,by k_go,by k_go,by k_go,_,rfl,bR (by k_go) ?_⟩;have Dm:=aG s42 s43
  -- at rest
  refine ⟨_,rfl,_,rfl,_,rfl,_,rfl,u,_,rfl,.inl (aN (Dm _ _ (DN _ _ N_ n2))),d,D,t,kp,nm,_,p,B,pw k,ws,L,st,eE (pw k) g,(by rw [csum,bh];rfl),arZ.same Dm,by lk, by lk, hnm,hv,aq0.kt (cG Dm (bY _)),lv,arX.same Dm,GR,by lk, rfl,λH45 ar4 ar5=>?_⟩;walk2;have kk:∀ b o,Hc b=some o->b∉L.own p->H45 b=some o:=λb o e nb=>ar4 b o (Dm b o (DN b o e nb)) nb;have ktE:KT Hc H45:=pW U9 (pW aeY (pW (cG Dm (bY _)) ar5));refine ⟨_,_,_,rfl,λb o e=>kk b o (sc b o e) (λz=>by rw [fr b z] at e;cases e),pW ktc ktE,{ W with ob:=kk _ _ W.ob o1,ne:=kk _ _ W.ne o2,pl:=kk _ _ W.pl o3 },λz=>absurd z (by lk),λz=>?_,kk _ _ N_ n2,kk _ _ xlr n3,kk _ _ xlt n4⟩;have i0:i=0:=by lk
  exact (hp2' (by lk)).keep (S:=L.own p) (λb o e nb=>kk b o e nb) ktE (alt i0)
 rintro σ H50 ⟨v8,v9,v10,rfl,s50,ar6,DP,_,_,_,_,_⟩;have Uq:=aef.kt (pW (cG zZ (bY _)) ar6);refine ⟨_,rfl,d,D,t,kp,_,rfl,DP,Lr (nm:="w") (akB Z) DP (by lk) (by lk) M (by k_go) (by k_go) (by k_go) (by k_go) (by k_go) pD λl51 H51 atb YD x51=>⟨l51,B,pw k,ws,rfl,x51,Uq.kt (cG YD (bY _)),lv,λ_ _=>ah4 ok lv dp,λH52 Og=>.other (by k_go) (by k_go) (cG Og (bY _)) ⟨⟨_,rfl⟩,?_⟩,λH52 Og=>⟨rfl,λH53 s53=>?_⟩⟩⟩
 ·refine ⟨aW (by kl_no),λYF YG=>⟨YF,_,rfl,.inl (aN aM),rfl,rfl,_,rfl,cL (by k_go) ?_⟩⟩;have J:=aG YD (aG Og (cu YG (HO.lst [V.str "levels",V.str "many"])));exact ⟨_,rfl,d,D.dx,jD D,rfl,(DP.same J).ob,mR _ (by k_go) (by k_go),Lr (nm:="w") (aa9 Z) (DP.same J) (by lk) (by lk) M (by k_go) (by k_go) (by k_go) (by k_go) (by k_go) pD λYH H55 ar7 YJ x55=>⟨YH,B,pw k,ws,rfl,x55,Uq.kt (cG (aG J YJ) (bY _)),lv,λH56 Ed=>.other (by k_go) (by k_go) (cG Ed (bY _)) ⟨rfl,q _⟩⟩⟩
 ·refine ⟨aW (by kl_no),λYF YG=>⟨YF,_,rfl,.inl (aN aM),rfl,rfl,_,rfl,cL (by k_go) ?_⟩⟩;have J:=aG YD (aG Og (aG s53 (cu YG (HO.lst [V.str "levels",V.str "many"]))));exact ⟨_,rfl,d,D.dx,jD D,rfl,(DP.same J).ob,mR _ (by k_go) (by k_go),Lr (nm:="w") (aa9 Z) (DP.same J) (by lk) (by lk) M (by k_go) (by k_go) (by k_go) (by k_go) (by k_go) pD λYH H55 ar7 YJ x55=>⟨YH,B,pw k,ws,rfl,x55,Uq.kt (cG (aG J YJ) (bY _)),lv,λH56 Ed=>.other (by k_go) (by k_go) (cG Ed (bY _)) ⟨rfl,q _⟩⟩⟩
end
def zbn:bK:=["len","max","min","int","bool","list","tuple","str","dict","range","isinstance","all","any","enumerate","sum","abs","sorted","reversed","zip","ord","repr","set","divmod","ValueError","KeyError"]
def all_mk {l:PySem.W.OpenLaw} {fa:Addr} (X:K.In h) (G:h.Ns mainGlobals mg) (hfa:mg "law"=some (.ref fa)) (aC:nsIn K mainGlobals "Play"=some (some (.ref C))) (pg:plainGet K C empty=true) (hd:hasDictIn K C=true) (po:plainOver K C=true) (sa:findIn K (.ref C) "__setattr__"=some (some (.builtin "object.__setattr__"))) (mk:makesIn K C=true) (kc:keepIn K (.ref C)=true) (Ur:findIn K (.ref C) "net"=some none) (Ra:findIn K (.ref C) "facing"=some none) (SJ:findIn K (.ref C) "tally"=some none) (Rb:findIn K (.ref C) "places"=some none) (QB:findIn K (.ref C) "changes"=some none) (YK:nsIn K mainGlobals "Desk"=some (some (.ref Cd))) (YL:plainGet K Cd empty=true) (hdd:hasDictIn K Cd=true) (YM:plainOver K Cd=true) (YQ:findIn K (.ref Cd) "__setattr__"=some (some (.builtin "object.__setattr__"))) (YS:makesIn K Cd=true) (YT:keepIn K (.ref Cd)=true) (T3:findIn K (.ref Cd) "nets"=some none) (SM:findIn K (.ref Cd) "plays"=some none) {Dd:Addr} (KY:nsIn K mainGlobals "TooMany"=some (some (.ref Dd))) (KZ:excIn K Dd Ai "ValueError.__new__"=true) (SN:exmOne K (.ref Dd) (.ref Dd)=some true) {ud:Addr} (Jr:nsIn K mainGlobals "NoNet"=some (some (.ref ud))) (Js:excIn K ud Ai "ValueError.__new__"=true) {aH:Addr} {odH:jy} {nH:Nat} {slH:uy} {tH1 tH2 tH3 tH4:Tok} (gH:nsIn K mainGlobals "HALVED_WIDES"=some (some (.ref aH))) (lH:K.lookup aH=some ⟨.type "tuple",odH,.seq #[.int 1 tH1,.int 2 tH2,.int 4 tH3,.int 8 tH4] nH,slH⟩) {afE:Tok} (Ow:nsIn K mainGlobals "LONGEST_NAME"=some (some (.int 8 afE))) {agx:Tok} (O5:nsIn K mainGlobals "MOST_LANES"=some (some (.int 8 agx))) {afF:Tok} (Ox:nsIn K mainGlobals "MOST_WICKETS"=some (some (.int 40 afF))) {afd:Tok} (Oj:nsIn K mainGlobals "MOST_DOUBLINGS"=some (some (.int 10 afd))) {afG:Tok} (Oz:nsIn K mainGlobals "MOST_FIGURES"=some (some (.int 60 afG))) {aq1:Tok} (Us:nsIn K mainGlobals "SMALL_LETTERS"=some (some (.str "abcdefghijklmnopqrstuvwxyz" aq1))) {aq2:Tok} (Ut:nsIn K mainGlobals "FIGURES"=some (some (.str "0123456789" aq2))) {RW:Addr} {fM:Array DictEntry} {epR:Nat} (aR:nsIn K mainGlobals "ROWS"=some (some (.ref RW))) (lR:K.lookup RW=some ⟨.type "dict",none,.dict fM epR,#[]⟩) (hR:Br w fM.toList Fb) (nR:(RW == sysModules)=false) (E:Ev0 K mg C Cd fM) {YW:Addr} {ar8 aeZ:jy} {ar9:uy} {ar_ ae0 ae1 ae2 U_ ae3:Value} (Oh:nsIn K mainGlobals "law"=some (some (.ref YW))) (YX:K.lookup YW=some ⟨ar_,ar8,.func (fnOf "law" "law" (kJ yg) (jO yg) (gJ yg) .none ae0 ae1 ae2 aeZ U_ ae3),ar9⟩) (YZ:codeIn K U_ "law"=true) (Y0:keepIn K (.ref YW)=true) (zz:∀ x∈zbn,nsIn K mainGlobals x=some none) : ∃ fd:FuncData,(∀ (s:Shared) (v:Value),BindsTo s fd ⟨[v],[]⟩ [("_law_script",v)])/\∀ au:Heap,K.In au->au.Ns mainGlobals mg->dw l.prog w K mg au jL 16 fa fd ["_law_script"] (Li K):=by
 have e:=hfa.symm.trans (kj X G Oh);cases e;have TP:ad4 K C:=⟨⟨pg,hd,po,sa⟩,Ur,Ra,SJ,Rb,QB⟩;have k:aea K Cd:=⟨⟨YL,hdd,YM,YQ⟩,T3,SM⟩;have r:ad7 K mg Dd:=⟨KZ,kj X G KY,SN⟩;have i:adG K mg ud:=⟨Js,kj X G Jr⟩;have b:aeD K mg ⟨ud,ud,ud,ud,Dd,ud,ud,ud⟩:=⟨Js,KZ,kj X G Jr,kj X G KY⟩;have c:ad8 K mg:=⟨aH,kj X G gH,λH=>.inr ⟨_,_,_,lH,rfl,rfl,aW (by show 4<=100000;decide),.cons ⟨tH1,rfl⟩ (.cons ⟨tH2,rfl⟩ (.cons ⟨tH3,rfl⟩ (.cons ⟨tH4,rfl⟩ .nil)))⟩⟩;have q:∃ t,mg "LONGEST_NAME"=some (.int 8 t):=⟨_,kj X G Ow⟩;have o:∃ t,mg "MOST_LANES"=some (.int 8 t):=⟨_,kj X G O5⟩;have d:∃ t,mg "MOST_WICKETS"=some (.int 40 t):=⟨_,kj X G Ox⟩;have m:∃ t,mg "MOST_DOUBLINGS"=some (.int 10 t):=⟨_,kj X G Oj⟩;have n:∃ t,mg "MOST_FIGURES"=some (.int 60 t):=⟨_,kj X G Oz⟩;have g:∃ t,mg "SMALL_LETTERS"=some (.str "abcdefghijklmnopqrstuvwxyz" t):=⟨_,kj X G Us⟩;have p:∃ t,mg "FIGURES"=some (.str "0123456789" t):=⟨_,kj X G Ut⟩;have j:aeb l.prog w K mg RW (wz fM.toList Fb):=⟨al5 lR hR ZS nR,kj X G aR⟩;have a:oW K mg "law" yg _ _:=⟨K7 YX YZ Y0,kj X G Oh⟩;have T:Bn mg:=by constructor<;>exact PySem.W.mg_none_of X G (zz _ (by k_go))
 exact ⟨fnOf "law" "law" (kJ yg) (jO yg) (gJ yg) .none ae0 ae1 ae2 aeZ U_ ae3,λs v=>.of_eq rfl,λau _ _=>ap0 ⟨E,TP,k,r,i,b,c,q,o,d,m,n,g,p,j,T,mk,kc,(kj X G aC),YS,YT,(kj X G YK)⟩ a⟩
def walk {l:PySem.W.OpenLaw} {q:Program} {d:DefRec} {K:Params->bG} (hn:l.most=some 63) (hdf:d.params.defaults=[]) (hY:∀ (w:World) (h:Heap),YP w h->(K w.params).In h) (F:∀ (w:World) (mg:dR) (fa:Addr) (h:Heap),(K w.params).In h->h.Ns mainGlobals mg->mg d.name=some (.ref fa) ->∃ fd:FuncData,(∀ (s:Shared) (u:Value),BindsTo s fd ⟨[u],[]⟩ [("_law_script",u)])/\∀ au:Heap,(K w.params).In au->au.Ns mainGlobals mg->dw l.prog w (K w.params) mg au jL 16 fa fd ["_law_script"] (Li (K w.params))) : PySem.W.WalkO q loose XP YP l.row.toRowW d [] (λf vs=>PySem.call f vs):=L2.am3 (n:=63) (k:=16) (x:="_law_script") (CX:=λ_=>jL) (sp:=λw=>Li (K w.params)) hn (by decide) hdf ⟨rfl,by decide,by decide,rfl⟩ hY F (λ_ _ a ns b _ c=>⟨a,ns,rfl,c,b,λ_=>rfl⟩) λ_ _ _ _ _ z=>z
end
end
end L2
end
local macro_rules|`(tactic| o_head $n:num)=>`(tactic| (refine' L2.aqU $(Lean.mkIdent `KX) $(Lean.mkIdent `G) $n ?a ?l ?c ?k rfl (by decide) ?gx ?gy ?gz ?gs;(case a|l|c|k=>k_is);(case gx=>exact rfl);(case gy|gz=>k_is);(case gs=>repeat constructor)))
open PySem PySem.W PyProof.Rows
set_option maxRecDepth 100000 in
set_option maxHeartbeats 0 in
theorem PySem.Challenge.cw_evenpass_k94_whole_from_text_to_numbers_holds : PySem.Challenge.rw_evenpass_k94_whole_from_text_to_numbers.Holds := by
 w_on;o_law;k_head;(case hw=>w_witness2)
 k_fill
 refine L2.walk (l:=PySem.Challenge.rw_evenpass_k94_whole_from_text_to_numbers) rfl rfl (λw h Y=>PySem.W.km_in_of Y) ?F
 case F =>
  intro w mg fa h KX G hmg
  refine' L2.all_mk KX G hmg ?aC ?pg ?hd ?po ?sa ?mk ?kc ?Ur ?Ra ?SJ ?Rb ?QB ?YK ?YL ?hdd ?YM ?YQ ?YS ?YT ?T3 ?SM ?KY ?KZ ?SN ?Jr ?Js ?gH ?lH ?Ow ?O5 ?Ox ?Oj ?Oz ?Us ?Ut ?aR ?lR ?hR ?nR ⟨?p1,?p2,?p3,?p4,?p5,?p6,?p7,?p8,?p9,?Hr,?VJ,?VL,?VN,?VP,?VR,?V0,?V1,?V2,?V3,?V4,?V5,?V6,?V7,?V8,?V9,?V_,?Wa,?Wb,?Wc,?Wg,?Wh,?Wi,?Wj,?Wm,?Wn,?Wo,?Wq,?Wr,?Ws,?Wu,?Wv,?Ww,?Wx,?Wy,?Wz,?WD,?WK,?WL,?WM,?WQ,?WR,?WT,?WW,?WX,?WY,?W0,?W2,?W3,?W4,?W5,?W6,?W7,?W8,?W9,?W_,?Xa,?Xb,?Xc,?Xd,?Xe,?Xf,?Xg,?Xh,?Xi,?Xj,?Xk,?Xl,?Xm,?Xn,?Xo,?Xp,?Xq,?Xr,?Xu,?Xv,?Xw,?Xx,?Xy,?Xz,?XD,?XF,?XH,?XJ,?XM,?XQ,?XR,?XS,?X3⟩ ?Oh ?YX ?YZ ?Y0 ?zz
  (case aC|pg|hd|po|sa|mk|kc|Ur|Ra|SJ|Rb|QB=>k_is)
  (case YK|YL|hdd|YM|YQ|YS|YT|T3|SM=>k_is)
  (case KY=>k_is);(case KZ=>k_exc);(case SN=>kernel_rfl)
  (case Jr=>k_is);(case Js=>k_exc)
  (case gH|lH=>k_is)
  (case Ow=>k_is)
  (case O5=>k_is)
  (case Ox=>k_is)
  (case Oj=>k_is)
  (case Oz=>k_is)
  (case Us=>k_is)
  (case Ut=>k_is)
  (case aR|lR=>k_is);(case hR=>repeat (first|exact trivial|refine ⟨⟨_,rfl⟩,rfl,?_⟩));(case nR=>rfl)
  (case Oh|YX|YZ|Y0=>k_is)
  (case zz=>unfold L2.zbn;(repeat refine List.forall_mem_cons.2 ⟨by k_is,?_⟩);exact List.forall_mem_nil _)
  case p1|p2|p3|p4|p5|p6|p7|p8|p9|Hr|VJ|VL|VN|VP|VR|V0|V1|V2|V3|V4|V5|V6|V7|V8|V9|V_|Wa|Wb|Wc|Wg|Wh|Wi|Wj|Wm|Wn|Wo|Wq|Wr|Ws|Wu|Wv|Ww|Wx|Wy|Wz|WD|WK|WL|W8|W9|Xi|Xu|Xv|Xw|Xx|Xy|Xz|XJ|XM|XQ|XR|XS|X3=>refine' L2.aqS KX G ?a ?l ?c ?k;(case a|l|c|k=>k_is)
  case WM|WQ|WR|WT|WW|WX|WY|W0|W2|W3|W4|W5|W6|W7|XD|XF|XH=>refine' L2.aqT mg ?a ?i ?l ?c ?k;(case a|i|l|c|k=>k_is)
  case W_=>o_head 0
  case Xa=>o_head 1
  case Xb=>o_head 2
  case Xc=>o_head 4
  case Xd=>o_head 6
  case Xe=>o_head 8
  case Xf=>o_head 9
  case Xg=>o_head 10
  case Xh=>o_head 12
  case Xj=>o_head 13
  case Xk=>o_head 14
  case Xl=>o_head 17
  case Xm=>o_head 18
  case Xn=>o_head 20
  case Xo=>o_head 21
  case Xp=>o_head 22
  case Xq=>o_head 23
  case Xr=>o_head 24
