import PyProof.Rows.All
import KE.KIntText
import OpenK.KEqL
import KE.KNestM
import KE.KRevSl
import KE.KTryMore
import KE.KMinKey
import KE.KLam
import PySem.Challenge.RW_evenpass_k94_whole_from_text_to_numbers
set_option Elab.async false
set_option linter.all false
set_option genSizeOf false
set_option maxRecDepth 100000
set_option maxHeartbeats 4000000
structure PySem.W.Fast:Prop where (tw8113273786160777390 tw16628083636350937546 tw109800509317521822 tw17899531663627380158 tw7743737379919376081 tw5406746679727406258 tw6133615397794671033 tw4512474284374892170 tw4164077489922588387 tw12946868965032491553 tw12948913935003872828 tw9805683490869170522 tw9897661020353225178 tw9703920848342755785 tw12919163103537291381 tw13405984617077649329 tw4508039481078349631 tw2473157334620003096 tw15046186973424590263 tw9019382780164897308 tw3521949741644641697 tw9467833686791873957 tw11568564008147010612 tw2070699695554878610 tw7805971660186496442 tw10741250200931768246 tw5760082140279365804 tw2013494761211525119 tw10511883764175723557 tw3340934034637183905 tw12799813921917950498 tw12348472677120920604 tw7584468557395237266 tw11724745220692499517 tw4653718057378917050 tw12883120686938615099 tw10752338895602072662 tw15892338077614126110 tw11959023348361946263 tw783706510056803533 tw6175220365293508794 tw7938723601658154402 tw4697721544609452960 tw9944819140681923830 tw577813913048506528 tw15771589873842965519 tw1053763812420080707 tw15260865720280037475 tw2906325493107904274 tw13129710850134774751 tw2254612923022767011 tw18186008704269021696 tw12730904655084121063 tw17610413991970532887 tw8294707146989012853 tw4898997648372611293 tw13089820577277841435 tw2478732322326699134 tw3469598054256333782 tw11072995191272623085 tw1448730403997411074 tw11506677694689025798 tw9376813082822690115 tw8873191180589440825 tw3004082193210696504 tw11653443516521204505 tw6746176918220574132 tw14543796750418486720 tw16202823986731439044 tw13821424042418274895 tw14484255601997504656 tw2076144359084023791 tw3268885054756736566 tw8400996375012469388 tw7974133583205614427 tw15227081424415254156 tw16097318478857097388 tw3034100160596377380 tw15578636810730780539 tw17650383770323217602 tw13074568647065132292 tw16899565518999149098 tw478707780647321737 tw8617609351142311612 tw751338265239976133 tw11850451991193612190 tw8756087306363403112 tw11012154215826096481 tw4580040522934583371 tw1782378624655347667 tw17328222487134235697 tw838932179857019601 tw14142709849332874304 tw149568174769296934 tw12188395352530587068 tw8310466244074013518 tw12899126240425385737 tw13315591476456706101 tw5799047127601913464 tw13999011236653365558 tw3402677808192906489 tw13320691113061482844 tw17792336741411918838 tw3365405074828829188 tw17668750679563936279 tw9613434492315573585 tw12898804544686190258 tw9673587047905384468 tw17939696792909934224 tw13824259450218148250 tw6226661304370455630 tw16511890628874167352 tw1940107118332277698 tw7107926626422220190 tw9065524162011259086 tw11987900462640126599 tw2915591947840180073 tw2558272557887067317 tw18191202425229626683 tw8058640733494811626 tw13160986874771320376 tw6245783573516104503 tw10947021105990432552 tw9607516299059387678 tw7017124861456655600 tw17695263057684915596 tw12685931242231653579 tw15430516683880912014 tw2917316501116983315 tw18078193569008693751 tw1589325012799448976 tw15420731026777604562 tw5213374256374760187 tw13405942379468965345 tw8869280334419029547 tw10370737290983049137 tw8661627061573597287 tw16369464379537402433 tw15207391140889358251 tw5905709282842458525 tw7518260035631257285 tw11255186402040291988 tw18382910852053426153 tw12088111667528860959 tw6813077314563060285 tw668470592429728399 tw14519351984879296446 tw15650784334497535155 tw2884438116693209464 tw14836732718539111215 tw15676992188694087296 tw6781999612954212946 tw9370681078602134592 tw6087340541687969313 tw9770226771443215478 tw16516339843447509274 tw13538933096612735743 tw12628216296128163992 tw5855164581570746108 tw9699994999547584223 tw6725274364181130614 tw13256063133841125151 tw3136417378481297553 tw8920880475025890489 tw2209635219715317534 tw14794826271910212646 tw651776789918279546 tw18207395627624531518 tw16015019855741496110 tw10856209408700309833 tw12360700837667753858 tw3836012832358018112 tw11980799880842311200 tw3442387294760508655 tw5658942342032988014 tw15125781222663361598 tw11698713583798398012 tw648558814737197784 tw7206234376002137488 tw16254151330652656700 tw4147913697601380349 tw5782508225137990682 tw17853754307363825586 tw1533300202114528603 tw13130673878779289895 tw12223347544889068341 tw13997908096689789258 tw3618752601262255264 tw14674484329103474222 tw7251851927726103816 tw17694040757592283330 tw2422337418995783630 tw15326310534219859249 tw15670743983130984216 tw5055851865079562906 tw9083087519514311685 tw14335116929915598597 tw18380284550436752206 tw16640059777652848223 tw17745927458864540476 tw17548961786750971655 tw7813646435553452070 tw11482803592078905665 tw16063613715288363060 tw3369348724832720839 tw5979239486261125542 tw12664733192800383152 tw9195610542431784853 tw4671351005403922729 tw12884201014705662288 tw8177908525234479442 tw15532708590721085188 tw3403594079839877431 tw4503006703558307018 tw18299015752260004082 tw12044941811837926510 tw2245485905128957100 tw13355658201053726556 tw13332128584444167690 tw5804989788935365144 tw5832760877842493304 tw9986548711583881751 tw15638680793130842843 tw11482544638182956723 tw9036197188123047529 tw3899166523794646368 tw12002636348728440344 tw171417685070395098 tw15508369148960530301 tw13648319322414437453 tw547906983121195516 tw9934520255328425802 tw2354356280043237696 tw7900457811298333351 tw8130551660387090352 tw12904917901321251779 tw329138802102769954 tw6583331179305590444 tw3103642244013902905 tw13388584294942196642 tw11215166344515257875 tw3006365527011506628 tw9314658504866884849 tw5454517636569469906 tw17143723364303302718 tw10541263013252864936 tw15560055623775991929 tw15149593968477042379 tw1462234319269369955 tw6026355524523166462 tw4760398370763564987 tw11975886097025654642 tw4021819461910494791 tw3061404531846742200 tw10284159498236316548 tw7957756672976235417 tw15593581923741259823 tw16227056045863160239 tw2975453251659260108 tw15725673211881569441 tw14137985277689342554 tw16550499358723780479 tw16983289390932033117 tw17387813056724002644 tw3828125818463972671 tw1814551578503227964 tw9783709125401359861 tw15354044984476282320 tw5164215524491258266 tw14611670924931657812 tw1733996142565840804 tw497447721633145395 tw2695789516959301968 tw13801552009156960154 tw11272433420476492302 tw14158120855772662412 tw3180876010170053498 tw13452030225605058289 tw1509480990921052186 tw10230696714201511873 tw765206706805920673 tw2506658117967575914 tw18207439118664799526 tw11265122772276440219 tw14624646857688429094 tw11314886826442396557 tw6972260052322413943 tw7583909195315918030 tw11953693681810692752 tw14964265739437948647 tw1942090762191370805 tw7194405789030922291 tw9688574236005289028 tw7447977848497025743 tw6484705236779280638 tw5680791808745173403 tw11969237246408539010 tw6616084360440119235 tw7631551095494023871 tw339408123387551743 tw18294437162839127482 tw1305686958210040859 tw5217518960495532670 tw3297464399680667792 tw13431086425507167033 tw2643706818879768255 tw4550498421076603884 tw2594638419790535256 tw17165195209652220366 tw10781486905746633995 tw12470598310671056492 tw1835327745527038676 tw9180712900990778196 tw2093880194292302092 tw17926948503076452756 tw9923157134503132589 tw6976935286312285609 tw5013489475452923387 tw2571215974749795676 tw9139189632138981536 tw2080445002579868779 tw14237578266230343878 tw17816490496982367180 tw12312915190596847377 tw9973159913781427362 tw14293469390866543990 tw17352983714905627896 tw18044361458251989890 tw16789091540314836481 tw7715908396216666389 tw662245035478339831 tw7710982887401153881 tw7855108357910996039 tw15231430442777500435 tw13074327389388103761 tw12678213546772274287 tw168541928253181024 tw9261851418609840562 tw15946711306335660833 tw1828956984964259750 tw13827582768209784606 tw7073756339473751555 tw13944250993605255336 tw10726897734905081370 tw4050669128219063347 tw5729358327721182954 tw5297762930240032676 tw16728576586487958382 tw2815998619486566422 tw1465145676027683829 tw3479089668834007240 tw17695487053590752342 tw8246126132495047596 tw7037414042667926685 tw16303428951720660561 tw15561546235869056854 tw5342685176693907808 tw271785697654354038 tw6329546633679296587 tw10653983304721781739 tw6730894576424526869 tw7228548522460786380 tw3733352808012475342 tw16157905592694801390 tw2435352283339193806 tw14683098104310953557 tw7907622088485815261 tw1695424522464464268 tw12758279246924465867 tw15693678753568230624 tw15382921060266827752 tw10856507756783218299 tw6756370489208334770 tw17099560428122254853 tw7056938373396267955 tw10364882527916031581 tw17470018943499814173 tw14202034229975822476 tw4281805370492185804 tw4580009731134496973 tw14363459960635273977 tw8246776673388929257 tw17388345547851312583 tw12660161652973013648 tw9490133681682922796 tw15471390602179489712 tw12541876685343437407 tw4766981134598018236 tw1810454673732757353 tw905352652064877487 tw1548505227294398907 tw13643458218992313180 tw6778947501014732942 tw5869442957823294551 tw12598509936793692197 tw9531426998622939565 tw14363354387675140991 tw11425115509018789405 tw7317738905834068090 tw423274549781524093 tw7130627031395670682 tw13999588442160132590 tw5757413137067298410 tw14472424758814102544 tw16190708373876921871 tw4503942920060156440 tw7385968509397504903 tw1282699005294444152 tw14814045572861993834 tw14379312714889272354 tw17577663242088547847 tw16778712825589692778 tw9811032289012288769 tw6267966863092300005 tw15984711291671408980 tw14991090259989457899 tw17181515486361200817 tw1191161139929158880 tw16919903364642643630 tw18396709654380679346 tw5619646108633366037 tw6273895243558922185 tw18344272608622916300 tw15863887813859758166 tw17511412047547784906 tw1887863285064669018 tw1406553943004778226 tw8101529675766789252 tw9576186221207779845 tw9123101446888318899 tw1440306666602085822 tw14031862488427808684 tw11230445487601078382 tw9132708093520148482 tw6827772912389292822 tw17731792081677056265 tw13911379162423011872 tw8167039172327650781 tw9494355118689199192 tw12235724175319226371 tw3908467022709289763 tw8253406374701927419 tw2951786592858614303 tw8240009389330051197 tw1631774500354748052 tw17741899722821680222 tw14684139093886989152 tw7579395697967884063 tw4179977857921681883 tw7942777382466430826 tw6766320164290333274 tw17990887466146852073 tw17642049980324397968 tw8490640558337008683 tw2452464026371102846 tw6699369852623741205 tw4508450951546856435 tw15493239893709489311 tw11622431877583132293 tw6705017558364495697 tw4680526155138504336 tw2981302397957245994 tw2123910142171321065 tw4719881698967854684 tw13347677904468637879 tw9486158874534134736 tw7177390283236199734 tw7786497674886263482 tw1442793220991381332 tw14621178612305553968 tw2700165004017959634 tw3549559248093001308 tw1328842929120307405 tw15807275512414961154 tw2109666692147588580 tw2161878725886732467 tw15838675510016158868 tw11427395274482396201 tw15088070309542053171 tw12198343514548764923 tw6307501249213534555 tw702407595819335733 tw3114172877810704627 tw6606294770063212294 tw14529493494346877092 tw1263038630424014261 tw983695882947224021 tw18157170937233711036 tw6116493899000353221 tw12823766365505861452 tw7552490939705405328 tw5551416993733976173 tw17675106266754987562 tw15462036530265933197 tw12034334193696080370 tw8321695349921063362 tw7739993082212448635 tw5691661769863823167 tw9079904420828998662 tw8421898824524825155 tw8357111289903426257 tw798627164723147155 tw17002078936163217098 tw7567059340477032627 tw17180069657853111120 tw14862080778764015102 tw11522302377905019972 tw12131474411589588249 tw3301993445681614614 tw6195783482700710662 tw1644259455908905891 tw10975810263467627441 tw3048203369459675477 tw10273758097116455137 tw11230682209632405107 tw17461120647877483491 tw2553840026522633604 tw7829733488448926073 tw17997632469275305185 tw9819053107994387642 tw13272311456457819057 tw8005575004657068543 tw6149963137012404271 tw8372622415723758780 tw3711269444354669485 tw1916215725299310514 tw8815977477115082736 tw18169381892710895442 tw16065652069062217853 tw11936853565940910505 tw11204792002288545217 tw9684941254351148362 tw10412607578850312986 tw9768042394695686717 tw1304534205233908277 tw17869444510489166698 tw8246394129381697184 tw1912302371830204864 tw13304480941901402180 tw11330733607066924678 tw1910039970769732415 tw9464039837261274861 tw14764898507942107753 tw9230044637271368910 tw8736882959745096761 tw7862160438068834785 tw9907052668128295201 tw17067531821361849226 tw15184295977824222019 tw14182228177812124734 tw6941221344331966217 tw15109436575159480516 tw11696354652761727347 tw8705154306569316645 tw3298129138768048043 tw5568480721582612547 tw15577184425509486433 tw489852636124251862 tw12714407924700227325 tw5793408851674823670 tw7864393535993168095 tw5306032452402835389 tw2073401896552513071 tw5079463203446717566 tw7762679049226832986 tw691759967423328092 tw10583954968659439633 tw4286893661620508969 tw922573253855194271 tw1666575188038135967 tw727163517151093174 tw7932069205274154356 tw17417320301934778111 tw16713877749793302273 tw11568182217200184193 tw16960243230774169174 tw18199727484189323403 tw4498769131779461077 tw13356473037240231434 tw8601681807410030872 tw1521071810207644051 tw1918578475911179219 tw13594572088621700920 tw13550351797778096674 tw12004741644163410522 tw10116117460053436045 tw1888050638974288908 tw12100749022381431010 tw12971087854049861640 tw13248380845818836289 tw11578338556217929377 tw11446480624009632537 tw9599920582712518805 tw13832876753903627441 tw3211751967806491360 tw11403832156399053818 tw13744089059583172202 tw15041499175388092491 tw15825180752871298437 tw14930372784086826127 tw1974684111337499158 tw3815251983933925463 tw16882384125848114688 tw15164902271820133791 tw14882035705540584024 tw11625946831943536152 tw13571734241873941816 tw1428319614667058585 tw246440716584370047 tw239214371706672504 tw8816118615980965973 tw4663811442703230315 tw5271420599511994202 tw84083082989682546 tw3587200255243905427 tw7577724109123413341 tw9219634907011158763 tw15463359702128976894 tw17569194407044113222 tw17751789979599756190:True)
open PySem
variable {us aJ vs:List Value} {u cd pm ct oc:Value} {a b it C f:Addr} {h au:Heap} {eY:Array Value} {α β:Type} {P prog:Program} {w:World} {g':Array GenState} {t' i j n:Nat} {ch fp:List Addr} {N ps:List Str} {x bZ:Str} {A:Around} {E Q:Value->Shared->Prop} {e tg:Expr} {s:Shared} {pos pos':Pos} {ak:List (Addr×Obj)} {op:CmpOp} {K:PySem.W.Frag} {es:List Expr} {body:List Stmt} {lo:Int} {mA mg:Str->Option Value} {R:Result->Shared->Prop} {kw:List (Str×Value)} {env:Env} {fd:FuncData} {outer:List Env} {kindOf:Str->Option NameKind} {scope:Scope} {an od:Option Addr} {osl:Array (Option Value)}
section
local macro_rules | `(tactic| lk) => `(tactic| first | lia | omega)
local macro_rules | `(tactic| k_in) => `(tactic| first | exact Or.inl rfl | exact Or.inr rfl)
local macro_rules | `(tactic| k_ne) => `(tactic| first | decide | lia | omega)
local macro_rules | `(tactic| k_go) => `(tactic| decide +kernel)
local macro_rules | `(tactic| k_dec) => `(tactic| walk_at "b1")
local macro_rules | `(tactic| k_sub) => `(tactic| walk_at "b2")
def T3:=@Sum.inl.inj
def lJ:=@decide_eq_false
def Dd:=@beq_eq_false_iff_ne
def K_:=@Sum.inr.inj
def o7:=@PySem.Paired.length
def aQ:=@if_pos
def aK:=@if_neg
def iz:=@Option.some.inj
def cF:=@PySem.Heap.lt_size
def fQ:=@PySem.Heap.get?_push_size
def mL:=@Nat.lt_of_lt_of_le
def uf:=@Nat.lt_irrefl
def fO:=@Nat.ne_of_lt
def SN:=@PySem.W.hideAll_get
def CG:=@List.mem_filter
def pL:=@List.mem_range
def gR:=@Nat.le_trans
def CJ:=@Nat.le_of_lt
def SQ:=@List.filterMap_cons
def iy:=@List.mem_cons_self
def fG:=@List.mem_cons_of_mem
def fW:=@List.mem_cons
def bF:=@Ne.symm
def nM:=@List.mem_append
def SX:=@List.mem_append_left
def dY:=@List.getElem?_eq_some_iff
def zJ:=@List.getElem?_set_self
def zK:=@List.getElem?_set_ne
def lE:=@PySem.wpAny_mono
def adh:=@PySem.Calls.Name_function_global
def qI:=@PySem.wpAny_truthy_bool
def xQ:=@Array.length_toList
def je:=@congrArg
def CK:=@PySem.wpAny_execs_nil
def S5:=@PySem.wpAny_execs_cons
def bf:=@PySem.wpAny_bind
def zL:=@PySem.wpAny_holding
def zM:=@PySem.wpAny_passesOwn
def iQ:=@Bool.false_ne_true
def vB:=@Nat.ne_of_gt
def cY:=@PySem.wpAny_pure
def S6:=@PySem.wpAny_pyNext_list_item
def S7:=@PySem.wpAny_pyNext_list_end
def S8:=@Int.mul_one
def FW:=@PySem.wpAny_pyIter_list
def dF:=@PySem.Heap.get?_push_of_some
def bI:=@Nat.le_refl
def KZ:=@PySem.wpAny_pyIter_tuple
def xR:=@PyProof.Rows.callWith_type1
def S9:=@List.mem_filterMap
def pN:=@List.mem_append_right
def fP:=@Nat.zero_le
def S_:=@Int.fdiv_eq_ediv_of_nonneg
def adi:=@PyProof.noPylong_small
def ug:=@Bool.eq_iff_iff
def vC:=@PySem.sizeLine_eq
def gU:=@List.size_toArray
def K1:=@Array.mem_toList_iff
def Tc:=@PySem.W.plainGet_of
def zN:=@beq_iff_eq
def gw:=@List.length_cons
def gb:=@List.map_cons
def bh:=@List.length_map
def rZ:=@True.intro
def pO:=@PySem.Heap.size_push
def Td:=@Nat.le_of_eq
def CN:=@Nat.lt_succ_self
def su:=@PySem.W.kia_one
def Te:=@PySem.W.kitx_list
def Tf:=@PySem.Calls.spliced_nil
def Tg:=@PySem.Calls.spliced_cons
def nO:=@List.append_nil
def K3:=@PySem.wpAny_call
def sE:=@PySem.codeAny_mono
def xU:=@PySem.wpAny_Call_Name_kw
def FZ:=@PySem.W.callWith_K
def Tj:=@PySem.W.methodCall_KW
def vD:=@Nat.le_succ
def sG:=@List.nodup_cons
def Tn:=@List.of_mem_zip
def adk:=@PySem.W.cellsFrom_some
def adl:=@Option.isSome_iff_exists
def gV:=@List.length_take
def Ga:=@PySem.mem_of_lookup
def xV:=@List.getElem?_append_right
def uh:=@List.getElem?_replicate
def qJ:=@List.getElem?_append_left
def jP:=@List.getElem?_map
def eZ:=@List.mem_of_getElem?
def dJ:=@List.length_append
def vG:=@List.length_replicate
def adn:=@PyProof.Rows.callWith_builtin1
def CP:=@PySem.wpAny_loadPart'
def Tp:=@PySem.noFill_tuple_add
def Tq:=@PySem.F.slot_tuple_add
def Tr:=@PySem.F.entry_tuple_add
def Tt:=@PySem.F.args_tuple_add_2
def kO:=@Int.toNat_natCast
def zO:=@List.map_nil
def xW:=@List.length_drop
def Rb:=@PySem.slot_list_getitem
def tW:=@PySem.typeIs_str
def Rc:=@Bool.or_false
def Js:=@PySem.Heap.get?_update_self
def u_:=@PySem.Heap.get?_update_other
def fU:=@List.length_set
def tX:=@if_true
def rM:=@if_false
def Rf:=@List.all_cons
def Bt:=@Bool.and_eq_true
def yN:=@List.any_cons
def vf:=@PySem.typeIs_int
def ju:=@List.replicate_succ
def vg:=@List.flatten_cons
def vh:=@List.append_assoc
def jG:=@List.foldl_cons
def lX:=@PySem.call_meets
def yO:=@List.length_singleton
def Rg:=@Nat.add_comm
def Jt:=@PySem.wpAny_binaryOp_repeat_ref
def Ju:=@PySem.F.fills_int_mul
def wY:=@PySem.F.slot_int_rmul
def Jv:=@PySem.F.slot_int_index
def Jw:=@PySem.F.entry_int_rmul
def Jx:=@PySem.F.args_int_rmul_2
def Jy:=@Nat.mul_comm
def fM:=@decide_eq_true
def Rh:=@Nat.lt_of_le_of_lt
def Bu:=@Or.inr
def Bv:=@List.forIn_cons
def Bw:=@List.lookup_cons
def Bx:=@Option.map_some
def wZ:=@List.all_eq_true
def yP:=@PySem.wpAny_newObj_type
def BJ:=@List.getElem?_eq_none_iff
def Jz:=@List.mem_iff_getElem
def Ri:=@List.getElem_mem
def w5:=@PySem.codeAny_builtin
def Rj:=@PySem.F.entry_max_loop
def yQ:=@PySem.Around.under_plainId
def yR:=@PySem.F.plain_max_loop
def rN:=@PySem.wpAny_seqItems
def Fe:=@PySem.wpAny_tryCatch
def Rk:=@PySem.wpAny_updateSeq
def yS:=@PySem.wpAny_letGo
def gq:=@List.take_length
def JB:=@List.take_add_one
def BK:=@PySem.plainId_quiet
def yU:=@List.mem_singleton
def yV:=@Bool.false_eq_true
def JC:=@PySem.wpAny_rule
def Rm:=@Nat.succ_ne_self
def Fg:=@Nat.lt_succ_of_lt
def JD:=@PyProof.Rows.boot_max
def jH:=@of_decide_eq_true
def yW:=@List.foldl_append
def Fi:=@List.map_set
def cX:=@List.map_append
def Rn:=@Int.le_trans
def JF:=@Bool.or_eq_true
def Fj:=@decide_eq_true_eq
def yX:=@Int.le_refl
def JG:=@PySem.wpAny_callSpecial?_slot
def JH:=@PySem.F.slot_tuple_iterator_next
def JK:=@PySem.wpAny_call_entry
def abO:=@PySem.F.entry_tuple_iterator_next
def abP:=@PySem.F.args_tuple_iterator_next_1
def qC:=@PySem.wpAny_field
def Ro:=@PySem.AutoSeq1.wpAny_loadPart'
def BL:=@PySem.Value.type.inj
def abQ:=@PySem.wpAny_letOwnedTupleGo_enum
def JL:=@PySem.wpAny_pyIter_enum
def JM:=@List.getElem?_toArray
def JN:=@PySem.wpAny_pyIter_zip
def vm:=@Nat.le_add_right
def qD:=@List.sum_cons
def rO:=@List.range_succ
def yZ:=@List.getElem?_eq_none
def JQ:=@List.getElem?_range
def tY:=@Nat.min_eq_left
def zc:=@List.take_of_length_le
def Rp:=@List.length_eq_zero_iff
def JR:=@List.set_eq_of_length_le
def tZ:=@List.not_mem_nil
def JT:=@or_false
def JV:=@Nat.add_zero
def Rq:=@Int.add_zero
def rP:=@Int.zero_add
def Fl:=@Int.sub_zero
def Rr:=@List.ext_getElem?
def abR:=@List.getElem?_of_mem
def oM:=@Nat.zero_add
def JW:=@Array.toArray_toList
def fV:=@List.mem_map
def xq:=@List.map_map
def xu:=@List.map_congr_left
def Fo:=@List.getElem?_eq_getElem
def abS:=@PySem.F.excBase_ValueError
def BP:=@Int.mul_neg
def zj:=@Int.add_mul_ediv_left
def Fp:=@Int.ediv_eq_zero_of_lt
def rQ:=@Int.emod_nonneg
def rR:=@Int.emod_lt_of_pos
def Rt:=@Nat.add_mul
def abT:=@List.dropLast_concat_getLast
def Ru:=@Nat.sub_self
def Fq:=@List.replicate_succ'
def Rv:=@List.getElem?_zip_eq_some
def abU:=@List.pairwise_iff_getElem
def BR:=@PySem.wpAny_setField_rec
def JX:=@PySem.wpAny_onRaise
def Rw:=@PySem.wpAny_updateSeq_pair
def JZ:=@PySem.F.slot_zip_next
def abV:=@List.range_eq_range'
def BW:=@List.length_range
def zm:=@Nat.not_lt_zero
def abW:=@List.length_erase_of_mem
def abX:=@List.mem_of_mem_erase
def zp:=@List.Pairwise.map
def abY:=@List.Pairwise.imp_of_mem
def zq:=@List.filter_append
def Rx:=@List.filter_cons
def J0:=@Nat.pow_le_pow_right
def abZ:=@List.set_append_left
def ab0:=@List.set_append_right
def Ry:=@Nat.pow_pos
def xG:=@List.find?_cons
def Rz:=@List.cons_append
def ab1:=@Option.map_eq_some_iff
def RB:=@PySem.tupleKind_room_in1
def ab2:=@PySem.F.slot_dict_getitem
def J1:=@List.foldl_nil
def RD:=@Nat.zero_lt_succ
def ab3:=@List.take_append_drop
def Ft:=@PySem.F.slot_tuple_mul
def xH:=@Int.toNat_of_nonneg
def RG:=@PySem.F.entry_tuple_mul
def RJ:=@PySem.F.args_tuple_mul_2
def BX:=@ne_true_of_eq_false
def BZ:=@PySem.F.slot_str_split
def B_:=@PySem.F.entry_str_split
def RK:=@PySem.F.args_str_split_2
def J2:=@PySem.sizeLine_eq
def RL:=@PySem.F.args_str_split_3
def RM:=@PySem.StrLaws.subAt_one
def ab4:=@Nat.mul_le_mul_right
def RN:=@Nat.mul_le_mul
def J3:=@List.cons.inj
def rT:=@decide_eq_true_iff
def Fv:=@Int.ediv_nonneg
def J4:=@Int.emod_add_mul_ediv
def ab5:=@Int.add_mul_emod_self_left
def J6:=@Int.emod_eq_of_lt
def RP:=@Int.mul_le_mul
def ab6:=@List.length_filter_le
def J7:=@Int.ediv_neg_of_neg_of_pos
def RQ:=@List.pairwise_lt_range
def J8:=@List.nodup_nil
def J9:=@List.range'_append_1
def ab7:=@List.getElem?_cons_succ
def ab8:=@List.extract_toArray
def ab9:=@List.extract_eq_drop_take'
def J_:=@List.drop_drop
def RV:=@List.drop_left
def Fw:=@List.getD_eq_getElem?_getD
def RX:=@Option.getD_some
def ab_:=@Int.mul_nonpos_of_nonneg_of_nonpos
def Ka:=@Int.mul_le_mul_of_nonneg_left
def ab':=@List.perm_ext_iff_of_nodup
def RZ:=@PyProof.Rows.F.plain_set_update_loop
def xJ:=@PySem.F.called_set
def Kc:=@Array.getElem?_toList
def zu:=@PySem.boot_len
def R0:=@Nat.min_le_left
def kj:=@PySem.W.mg_of
def jj:=@PySem.PassesOwn.never
def oN:=@PySem.F.plainAttrs_list
def vo:=@PySem.F.slot_list_append
def vp:=@PySem.F.type_list_append
def qF:=@PySem.F.plainAttrs_str
def acd:=@PySem.F.slot_str_startswith
def ace:=@PySem.F.type_str_startswith
def acf:=@PySem.F.slot_str_partition
def acg:=@PySem.F.type_str_partition
def Kd:=@PySem.F.slot_str_split
def Ke:=@PySem.F.type_str_split
def Kf:=@PySem.F.slot_str_join
def Kg:=@PySem.F.type_str_join
def Kh:=@PySem.F.slot_list_extend
def Kl:=@PySem.F.type_list_extend
def ach:=@PyProof.Rows.boot_sorted
open False (elim)
open ForInStep (yield)
open Lean (mkIdent)
open List (Nodup Pairwise Perm Sublist foldl getD map range range' replicate)
open PySem.Builtin.List (listTooLong)
open PySem.Builtin.Range (rangeSize)
open PySem.Builtin.SmallTypes (nextOf ownedTupleHandOut ownedTupleIsFree)
open PySem.Builtin.Str (occurrences partsBetween strSliceIndices strSub subAt)
open PySem.Builtin.Tuple (tupleExact)
open PySem.Heap (ExtBut FlyingW IsList IsTuple SameBut)
open PySem.PyData (canLay0 canLayAll0 depthAll strOk)
open PySem.Str (empty ofString)
open PySem.StrLaws (occBody)
open PySem.Txt (partition splitMax startswith)
open PySem.Value (bytes float type)
open PySem.W (Looks codeIn emptyDict excIn exmOne findIn fnOf handedIn hasDictIn hideAll instObj isFn keepIn kitAny kitOne lookIn makesIn methodObj nsIn plainGet plainOver takerIn)
namespace L2
abbrev sH:=Option Value
abbrev nQ:=List Env
abbrev gA:=List Nat
abbrev asG:=List (List Int)
abbrev um:=List (Str×Addr)
abbrev CQ:=Unit->Shared->Prop
abbrev lF:=Value->Shared->Prop
abbrev bK:=List Str
abbrev aF:=List Int
abbrev jk:=List Addr
abbrev jy:=Option Addr
abbrev bV:=List Value
abbrev g_:=Array Value
abbrev ux:=Array sH
abbrev dR:=Str->sH
abbrev bG:=PySem.W.Frag
abbrev aP:=List (Int×Int)
section
open PySem.Spec PyProof.Rows
abbrev eE:=Sum Int Str
abbrev iT:=List (eE×Value)
def Df:eE->Value->Bool
 |.inl k,v=>Value.isInt k v
 |.inr x,v=>Value.isStrOf x v
def aq3 (w:World):eE->Int
 |.inl k=>hashInt k
 |.inr x=>hashStr w x
theorem uX:∀ {k:eE} {v:Value},Df k v=true->(∃ i t,k=Sum.inl i/\v=Value.int i t)\/(∃ x t,k=Sum.inr x/\v=Value.str x t)
 |.inl i,v,h=>by obtain ⟨t,e⟩:=Value.isInt_shape (k:=i) (v:=v) h;exact .inl ⟨i,t,rfl,e⟩
 |.inr x,v,h=>by obtain ⟨t,e⟩:=Value.isStrOf_shape (x:=x) (v:=v) h;exact .inr ⟨x,t,rfl,e⟩
theorem aiw (i:Int) (t:Tok):Df (.inl i) (.int i t)=true:=by simp [Df,Value.isInt]
theorem aix (x:Str) (t:Tok):Df (.inr x) (.str x t)=true:=by simp [Df,Value.isStrOf]
theorem aoS (a b:Int):decide ((Sum.inl a:eE)=Sum.inl b)=(a == b):=by
 by_cases e:a=b
 ·subst e;simp
 ·have h:¬ (Sum.inl a:eE)=Sum.inl b:=λq=>e (T3 q);rw [lJ h];exact (Dd.mpr e).symm
theorem aoT (a b:Str):decide ((Sum.inr a:eE)=Sum.inr b)=decide (a=b):=by
 by_cases e:a=b
 ·subst e;simp
 ·have h:¬ (Sum.inr a:eE)=Sum.inr b:=λq=>e (K_ q);rw [lJ h,lJ e]
theorem aoU (a:Int) (b:Str):decide ((Sum.inl a:eE)=Sum.inr b)=false:=lJ (λq=>nomatch q)
theorem aoV (a:Str) (b:Int):decide ((Sum.inr a:eE)=Sum.inl b)=false:=lJ (λq=>nomatch q)
def kE (prog:Program) (w:World):PySem.KeyKind prog w eE where
 is:=Df
 hash:=aq3 w
 inj:=λv a b g d=>by
  rcases uX g with ⟨i,t,rfl,rfl⟩|⟨x,t,rfl,rfl⟩
  ·rcases uX d with ⟨j,u,rfl,e⟩|⟨y,u,rfl,e⟩
   ·injection e with e1 _;rw [e1]
   ·exact nomatch e
  ·rcases uX d with ⟨j,u,rfl,e⟩|⟨y,u,rfl,e⟩
   ·exact nomatch e
   ·injection e with e1 _;rw [e1]
 byValue:=λk v h=>by
  rcases uX h with ⟨i,t,rfl,rfl⟩|⟨x,t,rfl,rfl⟩<;>rfl
 pyHash:=λc h=>by
  rcases uX c with ⟨i,t,rfl,rfl⟩|⟨x,t,rfl,rfl⟩
  ·exact wpAny_pyHash_int h
  ·exact wpAny_pyHash_str h
 eqBool:=λl c h=>by
  rcases uX l with ⟨i,t,rfl,rfl⟩|⟨x,t,rfl,rfl⟩
  ·rcases uX c with ⟨j,u,rfl,rfl⟩|⟨y,u,rfl,rfl⟩
   ·rw [aoS] at h;exact wpAny_eqBool_int h
   ·rw [aoU] at h;exact SeqAt.EqAt.int_str i t y u _ _ _ _ h
  ·rcases uX c with ⟨j,u,rfl,rfl⟩|⟨y,u,rfl,rfl⟩
   ·rw [aoV] at h;exact SeqAt.EqAt.str_int x t j u _ _ _ _ h
   ·rw [aoT] at h;exact wpAny_eqBool_str h
 «strs»:=λk x t v h=>by
  rcases uX h with ⟨i,u,rfl,e⟩|⟨y,u,rfl,e⟩
  ·exact nomatch e
  ·injection e with e1 _
   subst e1
   cases v<;>rfl
theorem agx (prog:Program) (w:World) (i:Int) (t:Tok):(kE prog w).is (.inl i) (.int i t)=true:=aiw i t
theorem O5 (prog:Program) (w:World) (x:Str) (t:Tok):(kE prog w).is (.inr x) (.str x t)=true:=aix x t
inductive V where
 |non|bl (b:Bool)|int (i:Int)|str (x:Str)|pG (b:Array UInt8)|flt (b:UInt64)|ref (a:Addr)|ty (n:String)
 deriving DecidableEq
abbrev aA:=List V
abbrev dU:=List (eE×V)
def cA:V->Value->Prop
 |.non,u=>u=Value.none
 |.bl b,u=>u=Value.bool b
 |.int i,u=>∃ t,u=Value.int i t
 |.str x,u=>∃ t,u=Value.str x t
 |.pG b,u=>∃ t,u=bytes b t
 |.flt b,u=>∃ t,u=float b t
 |.ref a,u=>u=Value.ref a
 |.ty n,u=>u=type n
abbrev bO:aA->bV->Prop:=Paired cA
theorem bO.length {xs:aA} (r:bO xs us):xs.length=us.length:=o7 r
theorem bO.get:∀ {xs:aA} {us:bV} {i:Nat} {x:V},bO xs us->xs[i]?=some x->∃ u,us[i]?=some u/\cA x u
 |_,_,_,_,.nil,e=>by simp at e
 |_,_,0,_,.cons r _,e=>by simp at e;subst e;exact ⟨_,rfl,r⟩
 |_,_,i+1,x,.cons _ t,e=>by obtain ⟨u,h1,h2⟩:=bO.get (i:=i) (x:=x) t (by simpa using e);exact ⟨u,by simpa using h1,h2⟩
theorem bO.set {x:V} (r:cA x u):∀ {xs:aA} {us:bV} (i:Nat),bO xs us->bO (xs.set i x) (us.set i u)
 |_,_,_,.nil=>.nil
 |_,_,0,.cons _ t=>.cons r t
 |_,_,i+1,.cons q t=>.cons q (bO.set r i t)
theorem bO.append:∀ {xs ys:aA} {us ws:bV},bO xs us->bO ys ws->bO (xs++ys) (us++ws)
 |_,_,_,_,.nil,s=>s
 |_,_,_,_,.cons r t,s=>.cons r (bO.append t s)
theorem bO.take:∀ {xs:aA} {us:bV} (n:Nat),bO xs us->bO (xs.take n) (us.take n)
 |_,_,0,_=>.nil
 |_,_,_+1,.nil=>.nil
 |_,_,n+1,.cons r t=>.cons r (bO.take n t)
theorem bO.drop:∀ {xs:aA} {us:bV} (n:Nat),bO xs us->bO (xs.drop n) (us.drop n)
 |_,_,0,r=>r
 |_,_,_+1,.nil=>.nil
 |_,_,n+1,.cons _ t=>bO.drop n t
def mW:Option V->sH->Prop
 |some v,some u=>cA v u
 |none,none=>True
 |_,_=>False
def KV {κ:Type}:List (κ×V)->List (κ×Value)->Prop:=Paired λ(p:κ×V) (q:κ×Value)=>p.1=q.1/\cA p.2 q.2
def kV:eE->V
 |.inl i=>.int i
 |.inr x=>.str x
inductive HO where
  |lst (xs:aA)
  |tup (xs:aA)
  |dK (aY:dU)|dT (aY:List (List eE×V))
  |set (S:Int->Bool) (n:Nat)
  |ins (C dx:Addr) (fs:List (Str×V))
  |own (x:Addr)
  |xd (fs:List (Str×V))
  |met (f x:Addr)
  |rng (lo hi:Int)
  |oE (o:Obj) (u:HO)
  |yt (q:Str×Int×Int)
  |ext (φ:Heap->Prop)
abbrev Hp:=Addr->Option HO
abbrev asH:=Nat->aA->Hp->Prop
def upd (H:Hp) (a:Addr) (o:HO):Hp:=λb=>if b=a then some o else H b
theorem aM {H:Hp} {o:HO}:upd H a o a=some o:=by unfold upd;rw [aQ rfl]
theorem aV {H:Hp} {o:HO} (h:b≠a):upd H a o b=H b:=by unfold upd;rw [aK h]
theorem Km {H:Hp} {o u:HO}:upd (upd H a o) a u=upd H a u:=by
 funext b;unfold upd;split<;>rfl
theorem kY {H:Hp} {o u:HO} (h:H a=some o) (h':H b=some u) (d:o≠u):a≠b:=by intro e;subst e;rw [h] at h';exact d (iz h')
theorem cV {H:Hp} {o:HO} (h:H a=some o) (h':H b=none):a≠b:=by intro e;subst e;rw [h] at h';cases h'
def oU (h:Heap) (a:Addr) (eY:g_):Prop:=∃ o,h.get? a=some o/\o.cls=.type "tuple"/\∃ n,o.data=.seq eY n/\o.dict=none
theorem oU.tup {h:Heap} {a:Addr} {eY:g_} (x:oU h a eY):IsTup h a eY:=let ⟨o,e,c,n,d,_⟩:=x;⟨o,e,c,n,d⟩
theorem oU.lt (x:oU h a eY):a<h.objs.size:=let ⟨_,e,_⟩:=x;cF e
theorem oU.new (h:Heap) (eY:g_):oU (h.push { cls:=.type "tuple",data:=.seq eY }) h.objs.size eY:=⟨_,fQ _ rfl,rfl,_,rfl,rfl⟩
section
variable (P:Program) (w:World)
def dZ (H:Hp) (h:Heap) (a:Addr):HO->Prop
 |.lst xs=>xs.length<=sizeLine/\∃ (aJ:bV) (n:Nat),bO xs aJ/\h.get? a=some { cls:=.type "list",data:=.seq aJ.toArray n }
 |.tup xs=>xs.length<=sizeLine/\∃ aJ:bV,bO xs aJ/\oU h a aJ.toArray
 |.dK aY=>aY.length<=sizeLine/\(a == sysModules)=false/\∃ vs,KV aY vs/\h.DictOf (kE P w) a vs
 |.dT aY=>aY.length<=sizeLine/\(a == sysModules)=false/\∃ xs:List (List eE×Addr×Value),
   Paired (λ(p:List eE×V) (q:List eE×Addr×Value)=>p.1=q.1/\H q.2.1=some (.tup (p.1.map kV))/\cA p.2 q.2.2) aY xs /\
   ∃ o es b,h.get? a=some o/\o.ExactDict/\o.data=.dict es b/\es.toList=xs.map (entryOfKey (tupleKind (kE P w)))/\(xs.map (·.1)).Nodup
 |.set S n=>h.SetOf (intKind P w) a S n
 |.ins C dx fs=>H dx=some (.own a)/\fs.length<=1000/\dx≠a/\h.get? a=some (instObj C dx) /\
   ∃ mA,h.Ns1 dx mA/\(∀ f,mW (fs.lookup f) (mA f))/\PySem.Within mA (fs.map (·.1))
 |.own _=>∃ o,h.get? a=some o
 |.xd fs=>∃ mA,h.Ns1 a mA/\∀ f,mW (fs.lookup f) (mA f)
 |.rng lo hi=>∃ t u v,h.get? a=some { cls:=.type "range",data:=.fields #[.int lo t,.int hi u,.int 1 v] }
 |.oE o u=>h.get? a=some o/\dZ H h a u
 |.yt q=>h.get? a=some { cls:=.none,data:=.fields #[] }\/∃ c,h.get? a=some { cls:=.none,data:=.fields #[rawInt q.2.1,rawInt q.2.2,.ref c] }/\H c=some (.own a)/\h.CodeRec (.ref c) q.1
 |.met f x=>h.get? a=some (methodObj (.ref f) (.ref x))
 |.ext φ=>φ h/\(∃ o,h.get? a=some o)/\∀ h1 h2:Heap,φ h1->(∀ o,h1.get? a=some o->h2.get? a=some o)->φ h2
def gM (H:Hp) (h:Heap):Prop:=∀ a o,H a=some o->dZ P w H h a o
end
section
variable {H H':Hp} {h':Heap} {o:HO}
theorem dZ.lt (x:dZ P w H h a o):a<h.objs.size:=by
 cases o with
 |lst xs=>obtain ⟨_,_,_,_,e⟩:=x;exact cF e
 |tup xs=>obtain ⟨_,_,_,p⟩:=x;exact p.lt
 |dK aY=>obtain ⟨_,_,_,_,o,_,_,e,_⟩:=x;exact cF e
 |dT aY=>obtain ⟨_,_,_,_,o,_,_,e,_⟩:=x;exact cF e
 |set S n=>obtain ⟨o,_,_,_,e,_⟩:=x;exact cF e
 |ins C dx fs=>obtain ⟨_,_,_,e,_⟩:=x;exact cF e
 |own y=>obtain ⟨_,e⟩:=x;exact cF e
 |xd fs=>obtain ⟨_,⟨_,_,_,e,_⟩,_⟩:=x;exact cF e
 |rng lo hi=>obtain ⟨_,_,_,e⟩:=x;exact cF e
 |oE b u=>obtain ⟨e,_⟩:=x;exact cF e
 |yt q =>
  rcases (show h.get? a=some { cls:=.none,data:=.fields #[] }\/∃ c,h.get? a=some { cls:=.none,data:=.fields #[rawInt q.2.1,rawInt q.2.2,.ref c] }/\H c=some (.own a)/\h.CodeRec (.ref c) q.1 from x) with e|⟨_,e,_⟩
  ·exact cF e
  ·exact cF e
 |met f y=>exact cF (show h.get? a=some _ from x)
 |ext φ=>obtain ⟨_,⟨_,e⟩,_⟩:=x;exact cF e
theorem Paired.aef {F G:α->β->Prop}:∀ {l₁:List α} {l₂:List β},Paired F l₁ l₂->(∀ a b,F a b->G a b)->Paired G l₁ l₂
 |_,_,.nil,_=>.nil
 |_,_,.cons r t,f=>.cons (f _ _ r) (Paired.aef t f)
def vO:=@Paired.aef
theorem dZ.stay (x:dZ P w H h a o) (k:∀ b u,(b=a\/H b=some (.own a))->h.get? b=some u->h'.get? b=some u) (ho:∀ b,H b=some (.own a)->H' b=some (.own a)) (ht:∀ b xs,H b=some (.tup xs)->H' b=some (.tup xs)):dZ P w H' h' a o:=by
 induction o with
 |lst xs=>obtain ⟨z,aJ,n,r,e⟩:=x;exact ⟨z,aJ,n,r,k _ _ (.inl rfl) e⟩
 |tup xs=>obtain ⟨z,aJ,r,g,e,c⟩:=x;exact ⟨z,aJ,r,g,k _ _ (.inl rfl) e,c⟩
 |dK aY=>obtain ⟨z,y,vs,r,g,es,i,e,c⟩:=x;exact ⟨z,y,vs,r,g,es,i,k _ _ (.inl rfl) e,c⟩
 |dT aY =>obtain ⟨z,y,xs,r,g,es,i,e,c⟩:=x;exact ⟨z,y,xs,vO r λp q z=>⟨z.1,ht _ _ z.2.1,z.2.2⟩,g,es,i,k _ _ (.inl rfl) e,c⟩
 |set S n=>obtain ⟨g,es,i,t,e,c⟩:=x;exact ⟨g,es,i,t,k _ _ (.inl rfl) e,c⟩
 |ins C dx fs =>obtain ⟨d,z,m,e,mA,⟨od,es,i,D,c⟩,r⟩:=x;exact ⟨ho _ d,z,m,k _ _ (.inl rfl) e,mA,⟨od,es,i,k _ _ (.inr d) D,c⟩,r⟩
 |own y=>obtain ⟨g,e⟩:=x;exact ⟨g,k _ _ (.inl rfl) e⟩
 |xd fs=>obtain ⟨mA,⟨od,es,i,e,c⟩,r⟩:=x;exact ⟨mA,⟨od,es,i,k _ _ (.inl rfl) e,c⟩,r⟩
 |rng lo hi=>obtain ⟨t,u,v,e⟩:=x;exact ⟨t,u,v,k _ _ (.inl rfl) e⟩
 |oE g u B=>obtain ⟨e,q⟩:=x;exact ⟨k _ _ (.inl rfl) e,B q⟩
 |yt q =>
  rcases (show h.get? a=some { cls:=.none,data:=.fields #[] }\/∃ c,h.get? a=some { cls:=.none,data:=.fields #[rawInt q.2.1,rawInt q.2.2,.ref c] }/\H c=some (.own a)/\h.CodeRec (.ref c) q.1 from x) with e|⟨c,e,l,J,oc,vs,t,I,j,rest⟩
  ·exact .inl (k a _ (.inl rfl) e)
  ·cases I;exact .inr ⟨c,k a _ (.inl rfl) e,ho c l,c,oc,vs,t,rfl,k c _ (.inr l) j,rest⟩
 |met f y =>have e:h.get? a=some (methodObj (.ref f) (.ref y)):=x;show h'.get? a=some (methodObj (.ref f) (.ref y));exact k a _ (.inl rfl) e
 |ext φ=>obtain ⟨p,⟨o,e⟩,st⟩:=x;exact ⟨st _ _ p λo q=>k _ _ (.inl rfl) q,⟨o,k _ _ (.inl rfl) e⟩,st⟩
theorem gM.lt (x:gM P w H h) (e:H a=some o):a<h.objs.size:=(x a o e).lt
theorem gM.fresh (x:gM P w H h) (e:h.objs.size<=a):H a=none:=by
 cases q:H a with
 |none=>rfl
 |some u=>exact absurd (mL (x.lt q) e) (uf _)
theorem gM.kept (x:gM P w H h) (k:∀ b u,h.get? b=some u->h'.get? b=some u):gM P w H h':=λa o e =>
 (x a o e).stay (λb u _ q=>k b u q) (λ_ q=>q) λ_ _ q=>q
theorem gM.laid (x:gM P w H h) (k:∀ b u,h.get? b=some u->h'.get? b=some u) (hp:h.objs.size<=a) (new:dZ P w (upd H a o) h' a o):gM P w (upd H a o) h':=λb u e=>by
 have g:=x.fresh hp;by_cases d:b=a
 ·subst d;rw [aM] at e;cases e;exact new
 ·rw [aV d] at e;exact (x b u e).stay (λc v _ q=>k c v q) (λc q=>by rw [aV (cV q g)];exact q) λc xs q=>by rw [aV (cV q g)];exact q
end
def Rd (H:Hp) (a:Addr) (u:HO):Prop:=H a=some u\/∃ o,H a=some (.oE o u)
theorem Rd.ok {H:Hp} {u:HO} (r:Rd H a u) (x:gM P w H h):dZ P w H h a u:=by
 rcases r with r|⟨o,r⟩
 ·exact x a u r
 ·obtain ⟨_,q⟩:=x a _ r;exact q
def GR:Option HO->Prop
 |some (.lst _)=>True
 |some (.dK _)=>True
 |some (.dT _)=>True
 |some (.set _ _)=>True
 |some (.ins _ _ _)=>True
 |some (.ext _)=>True
 |_=>False
section
variable {H:Hp} {h':Heap} {x e:Addr} {o':HO}
theorem gM.write (ok:gM P w H h) (mu:GR (H x)) (he:e=x\/H e=some (.own x)) (k:∀ b u,b≠e->h.get? b=some u->h'.get? b=some u) (heo:∃ u,h'.get? e=some u) (new:dZ P w (upd H x o') h' x o'):gM P w (upd H x o') h':=λb u q=>by
 have d:∀ c y,H c=some (.own y)->c≠x:=λc y r z=>by subst z;rw [r] at mu;exact mu
 have j:∀ c xs,H c=some (.tup xs)->c≠x:=λc xs r z=>by subst z;rw [r] at mu;exact mu
 by_cases g:b=x
 ·subst g;rw [aM] at q;cases q;exact new
 ·rw [aV g] at q;by_cases a:b=e
  ·have l:H b=some (.own x):=by
    rcases he with z|z
    ·exact absurd (a.trans z) g
    ·rw [a];exact z
   rw [q] at l;cases l;obtain ⟨v,m⟩:=heo;exact ⟨v,by rw [a];exact m⟩
  ·refine (ok b u q).stay (λc v i r=>k c v ?_ r) (λc r=>by rw [aV (d c b r)];exact r) λc xs r=>by rw [aV (j c xs r)];exact r
   rcases i with rfl|i
   ·exact a
   ·rintro rfl;rcases he with z|z
    ·exact d c b i z
    ·rw [i] at z;cases z;exact g rfl
end
structure Un (fs ex:jk) (H H':Hp) (h h':Heap):Prop where
 keep:∀ b o,h.get? b=some o->H b=none->b∉fs->b∉ex->h'.get? b=some o
 slot:∀ b o,h.get? b=some o->H b=none->b∈fs->b∉ex->∃ sl,h'.get? b=some { o with slots:=sl }
 free:∀ b o,h.get? b=some o->H b=none->b∉ex->H' b=none
 there:∀ b o,h.get? b=some o->b∉ex->∃ o',h'.get? b=some o'
 tups:∀ b xs,H b=some (.tup xs)->H' b=some (.tup xs)
 mq:∀ b o u,H b=some (.oE o u)->H' b=some (.oE o u)
 jf:∀ b ps,H b=some (.yt ps)->H' b=some (.yt ps)/\∀ c o,H c=some (.own b)->h.get? c=some o->H' c=some (.own b)/\h'.get? c=some o
section
variable {fs fs' ex ex':jk} {H H1 H2:Hp} {h1 h2 h':Heap} {x e:Addr} {o:HO}
theorem Un.any (u:Un fs ex H H1 h h1) {ob:Obj} (q:h.get? b=some ob) (n:H b=none) (hx:b∉ex):∃ sl,h1.get? b=some { ob with slots:=sl }:=by
 by_cases a:b∈fs
 ·exact u.slot b ob q n a hx
 ·exact ⟨ob.slots,u.keep b ob q n a hx⟩
theorem Un.trans (a:Un fs ex H H1 h h1) (b:Un fs ex H1 H2 h1 h2):Un fs ex H H2 h h2 where
 keep:=λc g q n k i=>b.keep c g (a.keep c g q n k i) (a.free c g q n i) k i
 slot:=λc g q n k i=>by obtain ⟨sl,j⟩:=a.slot c g q n k i;obtain ⟨l,m⟩:=b.slot c _ j (a.free c g q n i) k i;exact ⟨l,m⟩
 free:=λc g q n i=>by obtain ⟨o',j⟩:=a.there c g q i;exact b.free c o' j (a.free c g q n i) i
 there:=λc g q i=>by obtain ⟨o',j⟩:=a.there c g q i;exact b.there c o' j i
 tups:=λc xs q=>b.tups c xs (a.tups c xs q)
 mq:=λc g xs q=>b.mq c g xs (a.mq c g xs q)
 jf:=λc ps q=>⟨(b.jf c ps (a.jf c ps q).1).1,λd o e x=>let z:=(a.jf c ps q).2 d o e x;(b.jf c ps (a.jf c ps q).1).2 d o z.1 z.2⟩
theorem Un.kept (k:∀ b u,h.get? b=some u->h'.get? b=some u):Un fs ex H H h h':=⟨λb a q _ _ _=>k b a q,λb a q _ _ _=>⟨a.slots,k b a q⟩,λ_ _ _ n _=>n,λb a q _=>⟨a,k b a q⟩,λ_ _ q=>q,λ_ _ _ q=>q,λ_ _ q=>⟨q,λc o e x=>⟨e,k c o x⟩⟩⟩
theorem Un.refl:Un fs ex H H h h:=Un.kept λ_ _ q=>q
theorem Un.laid (k:∀ b u,h.get? b=some u->h'.get? b=some u) (hp:h.objs.size<=a) (hn:H a=none):Un fs ex H (upd H a o) h h' where
 keep:=λb u q _ _ _=>k b u q
 slot:=λb u q _ _ _=>⟨u.slots,k b u q⟩
 free:=λb u q n _=>by rw [aV (fO (mL (cF q) hp))];exact n
 there:=λb u q _=>⟨u,k b u q⟩
 tups:=λb xs q=>by rw [aV (cV q hn)];exact q
 mq:=λb u xs q=>by rw [aV (cV q hn)];exact q
 jf:=λb ps q=>⟨by rw [aV (cV q hn)];exact q,λc u e x=>⟨by rw [aV (cV e hn)];exact e,k c u x⟩⟩
theorem Un.write (mu:GR (H x)) (he:e=x\/H e=some (.own x)) (k:∀ b u,b≠e->h.get? b=some u->h'.get? b=some u) (heo:∃ u,h'.get? e=some u):Un fs ex H (upd H x o) h h':=by
 have j:∀ b,H b=none->b≠x:=λb n z=>by subst z;rw [n] at mu;exact mu
 have i:∀ b,H b=none->b≠e:=λb n z=>by
  subst z;rcases he with r|r
  ·exact j b n r
  ·rw [n] at r;cases r
 have a:∀ b u,H b=some u->¬ GR (some u)->b≠x:=λb u q nm z=>by subst z;rw [q] at mu;exact nm mu
 refine ⟨λb u q n _ _=>k b u (i b n) q,λb u q n _ _=>⟨u.slots,k b u (i b n) q⟩,λb u q n _=>by rw [aV (j b n)];exact n,λb u q _=>?_,
  λb xs q=>by rw [aV (a b _ q λz=>z)];exact q,λb u xs q=>by rw [aV (a b _ q λz=>z)];exact q,λb ps q=>⟨by rw [aV (a b _ q λz=>z)];exact q,λc u g x=>⟨by rw [aV (a c _ g λz=>z)];exact g,k c u (λz=>he.elim (λr=>a c _ g (λz=>z) (z.trans r)) λr=>by rw [<-z,g] at r;cases r;rw [q] at mu;exact mu) x⟩⟩⟩
 by_cases d:b=e
 ·subst d;exact heo
 ·exact ⟨u,k b u d q⟩
theorem Un.mono (u:Un fs ex H H1 h h1) (hs:∀ b∈fs,b∈fs') (hx:∀ b∈ex,b∈ex'):Un fs' ex' H H1 h h1:=⟨λb c q n d a=>u.keep b c q n (λz=>d (hs b z)) λz=>a (hx b z),λ_ _ q n _ a=>u.any q n λz=>a (hx _ z),λb c q n a=>u.free b c q n λz=>a (hx b z),λb c q a=>u.there b c q λz=>a (hx b z),u.tups,u.mq,u.jf⟩
end
def mZ (h:Heap) (H:Hp):jk:=(range h.objs.size).filter λa=>(H a).isSome
def wA (h:Heap) (H:Hp):Heap:=hideAll h (mZ h H)
theorem aiy (h:Heap) (H:Hp):(wA h H).objs.size=h.objs.size:=PySem.W.hideAll_size _ _
theorem akF {H:Hp} {o:Obj} (e:h.get? b=some o) (n:H b=none):(wA h H).get? b=some o:=SN _ e λa=>by have q:(H b).isSome=true:=(CG.mp a).2;rw [n] at q;simp at q
theorem amR {H:Hp} {o:Obj} (e:(wA h H).get? b=some o):h.get? b=some o/\H b=none:=by
 have a:h.get? b=some o:=PySem.W.of_hideAll (mZ h H) e;refine ⟨a,?_⟩;cases q:H b with
 |none=>rfl
 |some x =>have c:b∈mZ h H:=CG.mpr ⟨pL.mpr (cF a),by simp [q]⟩;have z:(wA h H).get? b=none:=PySem.W.hideAll_none (mZ h H) c;rw [z] at e;cases e
structure Mod (K:bG) (mg:dR) (au:Heap):Prop where
 yu:K.In au
 glob:au.Ns mainGlobals mg
 blt:∃ mb,au.Ns builtinsNs mb/\∀ x:Str,x≠"__name__"->mb x=bootBuiltins x
 nolimit:au.NoLimit
structure Cx where
 prog:Program
 w:World
 K:bG
 mg:Str->sH
 au:Heap
 A:Around
 N:bK
 s₀:Shared
 H₀:Hp
 env:Env
 outer:nQ
 stack:nQ
 ex:jk
 fn:Str->Bool
 calm:Bool
 pn:List (Addr×Obj)
 xe:Value->Shared->Prop
def d7 (l:nQ):jk:=l.filterMap (·.frame)
abbrev Cx.fs (X:Cx):jk:=d7 X.outer
def Mt (sc:Scope) (x:Str):Prop:=sc.names.lookup x=some .local\/sc.names.lookup x=some .cell\/sc.names.lookup x=some .free
def vP (sc:Scope) (x:Str):Prop:=sc.names.lookup x=some .local\/sc.names.lookup x=some .cell
def Look (env:Env) (h:Heap) (m:dR) (x:Str) (u:Value):Prop :=
 (env.kindOf x=some .local/\m x=some u)\/((env.kindOf x=some .cell\/env.kindOf x=some .free)/\∃ c,env.cells.lookup x=some c/\h.IsCell c (some u))
structure Cx.Ok (X:Cx):Prop where
 mod:Mod X.K X.mg X.au
 kind:X.env.scope.kind=.function
 glob:X.env.globals=mainGlobals
 blt:X.env.builtins=builtinsNs
 above:X.s₀.heap.objs.size<=X.env.locals
 inj:∀ x y c,X.env.cells.lookup x=some c->X.env.cells.lookup y=some c->x=y
 has:∀ x,(X.env.kindOf x=some .cell\/X.env.kindOf x=some .free)->∃ c,X.env.cells.lookup x=some c
 cab:∀ x c,X.fn x=true->X.env.cells.lookup x=some c->X.s₀.heap.objs.size<=c
 hd:X.calm=true->X.A.handled=none
 frames:X.A.frames=some X.stack
 stk:X.stack=X.outer\/(X.stack=X.env::X.outer/\X.env.frame=some X.env.locals)
 Mu:∀ b∈X.ex,b≠X.env.locals/\∀ x c,X.env.cells.lookup x=some c->c≠b
 bs:∀ b o,X.au.get? b=some o->X.s₀.heap.get? b=some o/\X.H₀ b=none
 uK:X.au.objs.size<=X.s₀.heap.objs.size
 Dm:∀ b o,X.au.get? b=some o->b∉X.ex
 Dn:∀ b∈X.ex,b∉X.fs
 qb:X.s₀.heap.FunFrames X.au X.outer
 uL:∀ b∈X.fs,X.H₀ b=none
structure aD (X:Cx) (ak:List (Addr×Obj)) (σ:List (Option V)) (H:Hp) (s:Shared):Prop where
 ok:X.Ok
 os:s.os=X.s₀.os
 bare:AllBare s.gens
 au:Un X.fs X.ex X.H₀ H X.s₀.heap s.heap
 loc:∃ m,s.heap.Ns X.env.locals m/\∀ (i:Nat) (x:Str) (v:V),X.N[i]?=some x->σ[i]?=some (some v)->Mt X.env.scope x->∃ u,cA v u/\Look X.env s.heap m x u
 cell:∀ x c,X.env.cells.lookup x=some c->∃ v,s.heap.IsCell c v
 free:H X.env.locals=none
 o8:∀ x c,X.env.cells.lookup x=some c->H c=none
 pin:∀ p∈X.pn++ak,s.heap.get? p.1=some p.2/\H p.1=none/\p.1≠X.env.locals/\p.1∉X.fs/\∀ v,p.2.data≠.cell v
 hok:gM X.prog X.w H s.heap
 len:σ.length=X.N.length
section
variable {X:Cx} {σ:List (Option V)} {H H':Hp} {h':Heap}
theorem Cx.Ok.aq5 (ok:X.Ok) {o:Obj} (e:X.au.get? b=some o):b∉X.fs:=λa=>by have:=(ok.qb.mem a).1;rw [e] at this;cases this
theorem aD.bs (I:aD X ak σ H s):∀ b o,X.au.get? b=some o->s.heap.get? b=some o/\H b=none:=λb o e =>
 ⟨I.au.keep b o (I.ok.bs b o e).1 (I.ok.bs b o e).2 (I.ok.aq5 e) (I.ok.Dm b o e),I.au.free b o (I.ok.bs b o e).1 (I.ok.bs b o e).2 (I.ok.Dm b o e)⟩
theorem aD.bk (I:aD X ak σ H s):∀ b o,X.au.get? b=some o->s.heap.get? b=some o:=λb o e=>(I.bs b o e).1
theorem aD.mod (I:aD X ak σ H s):Mod X.K X.mg X.au:=I.ok.mod
theorem aD.gn (I:aD X ak σ H s):X.K.In s.heap:=I.ok.mod.yu.keeps I.bk
theorem aD.lt (I:aD X ak σ H s):X.env.locals<s.heap.objs.size:=let ⟨_,a,_⟩:=I.loc;a.lt
theorem aD.sz (I:aD X ak σ H s):X.s₀.heap.objs.size<=s.heap.objs.size:=gR I.ok.above (CJ I.lt)
theorem aD.aq6 (I:aD X ak σ H s) (h:s.heap.objs.size<=a):a∉X.fs:=λb=>by obtain ⟨_,o,c,_⟩:=I.ok.qb.mem b;exact absurd (mL (cF c) (gR I.sz h)) (uf _)
theorem aD.uM (I:aD X ak σ H s):∀ x c,X.env.cells.lookup x=some c->c≠X.env.locals:=λx c e z=>by obtain ⟨v,o,d,g⟩:=I.cell x c e;obtain ⟨m,⟨o',es,i,b,a,_⟩,_⟩:=I.loc;rw [z,b] at d;cases d;rw [a] at g;cases g
theorem aD.qb (I:aD X ak σ H s):s.heap.FunFrames X.au X.outer:=by
 have all:∀ (l:nQ),(∀ b∈d7 l,b∈X.fs)->X.s₀.heap.FunFrames X.au l->s.heap.FunFrames X.au l:=by
  intro l;induction l with
  |nil=>intro _ _;trivial
  |cons env r k =>rintro g ⟨j,⟨L,o,a,i,m,n⟩,hr⟩;have d:L∈X.fs:=g L (by unfold d7;rw [SQ,a];exact iy);obtain ⟨sl,e⟩:=I.au.slot L o m (I.ok.uL L d) d λz=>I.ok.Dn L z d;exact ⟨j,⟨L,_,a,i,e,n⟩,k (λb c=>g b (by unfold d7;rw [SQ,a];exact fG _ c)) hr⟩
 exact all X.outer (λ_ c=>c) I.ok.qb
theorem aD.stack (I:aD X ak σ H s):s.heap.FunFrames X.au X.stack:=by
 rcases I.ok.stk with e|⟨e,b⟩
 ·rw [e];exact I.qb
 ·rw [e];obtain ⟨m,a,_⟩:=I.loc;refine .cons (by rw [I.ok.kind];decide) b a ?_ I.qb;exact Heap.get?_none_of_le (gR I.ok.uK I.ok.above)
theorem aD.K4 (I:aD X ak σ H s):∀ b∈d7 X.stack,b∈X.env.locals::X.fs:=λb a=>by
 rcases I.ok.stk with e|⟨e,c⟩
 ·rw [e] at a;exact fG _ a
 ·rw [e] at a;unfold d7 at a;rw [SQ,c] at a;exact a
theorem aD.Fx (I:aD X ak σ H s):∀ b∈d7 X.stack,H b=none:=λb a=>by
 rcases fW.mp (I.K4 b a) with e|a
 ·rw [e];exact I.free
 ·obtain ⟨_,o,c,_⟩:=I.ok.qb.mem a;exact I.au.free b o c (I.ok.uL b a) λz=>I.ok.Dn b z a
theorem aD.step {d':Drawn} (I:aD X ak σ H s) (hch:∀ b∈ch,(b∈X.ex\/X.s₀.heap.objs.size<=b)/\b≠X.env.locals/\(∀ x c,X.env.cells.lookup x=some c->c≠b)/\∀ p∈X.pn++ak,p.1≠b) (keep:∀ b o,b≠X.env.locals->b∉X.fs->b∉ch->s.heap.get? b=some o->H b=none->h'.get? b=some o) (slot:∀ b o,b≠X.env.locals->b∈X.fs->b∉ch->s.heap.get? b=some o->H b=none->∃ sl,h'.get? b=some { o with slots:=sl }) (free:∀ b o,b∉ch->s.heap.get? b=some o->H b=none->H' b=none) (there:∀ b o,b∉ch->s.heap.get? b=some o->∃ o',h'.get? b=some o') (tups:∀ b xs,H b=some (.tup xs)->H' b=some (.tup xs)) (mq:∀ b o u,H b=some (.oE o u)->H' b=some (.oE o u)) (jf:∀ b ps,H b=some (.yt ps)->H' b=some (.yt ps)/\∀ c o,H c=some (.own b)->s.heap.get? c=some o->H' c=some (.own b)/\h'.get? c=some o) (ns:∀ m,s.heap.Ns X.env.locals m->h'.Ns X.env.locals m) (hok:gM X.prog X.w H' h') (hg:AllBare g') : aD X ak σ H' { s with heap:=h',gens:=g',drawn:=d',toks:=t' }:=by
 have C:∀ b o,X.s₀.heap.get? b=some o->b≠X.env.locals:=λb o e=>fO (mL (cF e) I.ok.above);have D:∀ b o,X.s₀.heap.get? b=some o->b∉X.ex->b∉ch:=λb o e a t=>by
  rcases (hch b t).1 with z|z
  ·exact a z
  ·exact absurd (mL (cF e) z) (uf _)
 have g:∀ x c,X.env.cells.lookup x=some c->∀ v,s.heap.IsCell c v->h'.IsCell c v:=λx c e v ⟨o,y,M⟩=>by
  have B:c∉ch:=λz=>(hch c z).2.2.1 x c e rfl;by_cases R:c∈X.fs
  ·obtain ⟨sl,q⟩:=slot c o (I.uM x c e) R B y (I.o8 x c e);exact ⟨_,q,M⟩
  ·exact ⟨o,keep c o (I.uM x c e) R B y (I.o8 x c e),M⟩
 refine ⟨I.ok,I.os,hg,⟨λb o e n t a=>?_,λb o e n t a=>?_,λb o e n a=>?_,λb o e a=>?_,λb xs e=>tups b xs (I.au.tups b xs e),λb o xs e=>mq b o xs (I.au.mq b o xs e),λb ps e=>?_⟩,?_,λx c e=>?_,?_,λx c e=>?_,λp S=>?_,hok,I.len⟩
 ·exact keep b o (C b o e) t (D b o e a) (I.au.keep b o e n t a) (I.au.free b o e n a)
 ·obtain ⟨sl,j⟩:=I.au.slot b o e n t a;obtain ⟨L,J⟩:=slot b _ (C b o e) t (D b o e a) j (I.au.free b o e n a);exact ⟨L,J⟩
 ·obtain ⟨o',j⟩:=I.au.there b o e a;exact free b o' (D b o e a) j (I.au.free b o e n a)
 ·obtain ⟨o',j⟩:=I.au.there b o e a;exact there b o' (D b o e a) j
 ·exact ⟨(jf b ps (I.au.jf b ps e).1).1,λc o j x=>let z:=(I.au.jf b ps e).2 c o j x;(jf b ps (I.au.jf b ps e).1).2 c o z.1 z.2⟩
 ·obtain ⟨m,U,W⟩:=I.loc;refine ⟨m,ns m U,λi x v j J V=>?_⟩;obtain ⟨u,r,l⟩:=W i x v j J V;refine ⟨u,r,?_⟩;rcases l with l|⟨k,c,e,z⟩
  ·exact .inl l
  ·exact .inr ⟨k,c,e,g x c e _ z⟩
 ·obtain ⟨v,z⟩:=I.cell x c e;exact ⟨v,g x c e v z⟩
 ·obtain ⟨m,⟨o,_,_,y,_⟩,_⟩:=I.loc;exact free _ o (λz=>(hch _ z).2.1 rfl) y I.free
 ·obtain ⟨v,o,y,M⟩:=I.cell x c e;exact free c o (λz=>(hch c z).2.2.1 x c e rfl) y (I.o8 x c e)
 ·obtain ⟨e,n,O,N,d⟩:=I.pin p S;have B:p.1∉ch:=λz=>(hch p.1 z).2.2.2 p S rfl;exact ⟨keep p.1 p.2 O N B e n,free p.1 p.2 B e n,O,N,d⟩
theorem aD.un (I:aD X ak σ H s) (u:Un X.fs [] H H' s.heap h') (hok:gM X.prog X.w H' h'):aD X ak σ H' { s with heap:=h',toks:=t' }:=by obtain ⟨m,⟨o,es,q,i,r⟩,_⟩:=id I.loc;obtain ⟨sl,l⟩:=u.any i I.free (by simp);exact I.step (g':=s.gens) (d':=s.drawn) (ch:=[]) (λ_ z=>nomatch z) (λb o _ c _ e n=>u.keep b o e n c (by simp)) (λb o _ c _ e n=>u.slot b o e n c (by simp)) (λb o _ e n=>u.free b o e n (by simp)) (λb o _ e=>u.there b o e (by simp)) u.tups u.mq u.jf (λp j=>by obtain ⟨o',d,g,a,k⟩:=j;rw [i] at a;cases a;exact ⟨_,d,g,l,k⟩) hok I.bare
theorem aD.call {d':Drawn} (I:aD X ak σ H s) (u:Un (d7 X.stack) ch H H' s.heap h') (hok:gM X.prog X.w H' h') (hg:AllBare g') (hch:∀ b∈ch,(b∈X.ex\/X.s₀.heap.objs.size<=b)/\b≠X.env.locals/\(∀ x c,X.env.cells.lookup x=some c->c≠b)/\∀ p∈X.pn++ak,p.1≠b) : aD X ak σ H' { s with heap:=h',gens:=g',drawn:=d',toks:=t' }:=by obtain ⟨m,⟨o,es,y,k,r⟩,_⟩:=id I.loc;obtain ⟨sl,g⟩:=u.any k I.free λz=>(hch _ z).2.1 rfl;exact I.step (ch:=ch) hch (λb o g t a e n=>u.keep b o e n (λz=>(fW.mp (I.K4 b z)).elim g t) a) (λb o _ _ a e n=>u.any e n a) (λb o a e n=>u.free b o e n a) (λb o a e=>u.there b o e a) u.tups u.mq u.jf (λv l=>by obtain ⟨o',i,j,d,q⟩:=l;rw [k] at d;cases d;exact ⟨_,i,j,g,q⟩) hok hg
theorem aD.turned (I:aD X ak σ H s) (k:∀ b o,b≠it->s.heap.get? b=some o->h'.get? b=some o) (hn:H it=none) (hL:it≠X.env.locals) (h1:it∈X.ex\/X.s₀.heap.objs.size<=it) (h2:∀ x c,X.env.cells.lookup x=some c->c≠it) (h3:∀ p∈X.pn++ak,p.1≠it):aD X ak σ H { s with heap:=h',toks:=t' }:=by
 have d:∀ b u,H b=some u->b≠it:=λb u e z=>by rw [z,hn] at e;cases e
 refine I.step (g':=s.gens) (d':=s.drawn) (ch:=[it]) (λb l=>?_) (λb o _ _ a e _=>k b o (λz=>a (by simp [z])) e) (λb o _ _ a e _=>⟨o.slots,k b o (λz=>a (by simp [z])) e⟩) (λ_ _ _ _ n=>n) (λb o a e=>⟨o,k b o (λz=>a (by simp [z])) e⟩) (λ_ _ e=>e) (λ_ _ _ e=>e) (λb ps e=>⟨e,λc o g x=>⟨g,k c o (d c _ g) x⟩⟩) (λm j=>?_) (λb u e=>?_) I.bare
 ·have e:b=it:=by simpa using l
  subst e;exact ⟨h1,hL,h2,h3⟩
 ·obtain ⟨o,es,i,t,r⟩:=j;exact ⟨o,es,i,k _ o (bF hL) t,r⟩
 ·refine (I.hok b u e).stay (λc v a q=>k c v ?_ q) (λ_ q=>q) λ_ _ q=>q;rcases a with z|z
  ·rw [z];exact d b u e
  ·exact d c _ z
theorem aD.tok (I:aD X ak σ H s) (t:Nat):aD X ak σ H { s with toks:=t }:=I.un (h':=s.heap) (t':=t) Un.refl I.hok
theorem aD.kept (I:aD X ak σ H s) (k:∀ b u,s.heap.get? b=some u->h'.get? b=some u):aD X ak σ H { s with heap:=h',toks:=t' }:=I.un (Un.kept k) (I.hok.kept k)
theorem aD.laid {o:HO} (I:aD X ak σ H s) (k:∀ b u,s.heap.get? b=some u->h'.get? b=some u) (hp:s.heap.objs.size<=a) (new:dZ X.prog X.w (upd H a o) h' a o) : aD X ak σ (upd H a o) { s with heap:=h',toks:=t' }:=I.un (Un.laid k hp (I.hok.fresh hp)) (I.hok.laid k hp new)
theorem aD.write {x e:Addr} {o:HO} (I:aD X ak σ H s) (mu:GR (H x)) (he:e=x\/H e=some (.own x)) (k:∀ b u,b≠e->s.heap.get? b=some u->h'.get? b=some u) (heo:∃ u,h'.get? e=some u) (new:dZ X.prog X.w (upd H x o) h' x o):aD X ak σ (upd H x o) { s with heap:=h',toks:=t' }:=I.un (Un.write mu he k heo) (I.hok.write mu he k heo new)
theorem aD.weak {σ':List (Option V)} (I:aD X ak σ H s) (hl:σ'.length=σ.length) (w:∀ (i:Nat) v,σ'[i]?=some (some v)->σ[i]?=some (some v)):aD X ak σ' H s:=⟨I.ok,I.os,I.bare,I.au,let ⟨m,e,a⟩:=I.loc;⟨m,e,λi x v c b d=>a i x v c (w i v b) d⟩,I.cell,I.free,I.o8,I.pin,I.hok,hl.trans I.len⟩
theorem aD.aci {adW:List (Addr×Obj)} (I:aD X ak σ H s) (h:∀ p∈adW,s.heap.get? p.1=some p.2/\H p.1=none/\p.1≠X.env.locals/\p.1∉X.fs/\∀ v,p.2.data≠.cell v):aD X adW σ H s:=⟨I.ok,I.os,I.bare,I.au,I.loc,I.cell,I.free,I.o8,λp a=>(nM.mp a).elim (λz=>I.pin p (SX _ z)) (h p),I.hok,I.len⟩
theorem aa_ (hN:N.Nodup) (a:N[i]?=some x) (b:N[j]?=some x):i=j:=by obtain ⟨h1,c⟩:=dY.mp a;obtain ⟨h2,d⟩:=dY.mp b;exact (List.getElem_inj hN).mp (c.trans d.symm)
theorem aau {M:Model} {v:V} {Q:CQ} (I:aD X ak σ H s) (hN:X.N.Nodup) (hi:X.N[i]?=some x) (hx:vP X.env.scope x) (r:cA v u) (h:∀ s',aD X ak (σ.set i (some v)) H s'->(∃ a,SameBut a s.heap s'.heap/\(a=X.env.locals\/X.env.cells.lookup x=some a))->Q () s') (hf:X.fn x=true\/X.env.scope.names.lookup x=some .local:=by first|exact .inl rfl|exact .inr rfl|assumption):wpAny M A (storeName X.env x u) Q E s:=by
 obtain ⟨m,hn,hl⟩:=id I.loc;have W:(X.env.scope.kind == .class || (X.env.scope.kind == .module && X.env.locals != X.env.globals))=false:=by rw [I.ok.kind];rfl
 have hiσ:i<σ.length:=by rw [I.len];exact (dY.mp hi).1
 have uM:=I.uM;have tracked:∀ {a:Addr} {h':Heap},(∃ o,s.heap.get? a=some o/\H a=none)->SameBut a s.heap h'->gM X.prog X.w H h':=λ{a h'} ha g b ob e=>by
  obtain ⟨_,_,B⟩:=ha;refine (I.hok b ob e).stay (λc w' t q=>(g.2 c ?_).trans q) (λ_ q=>q) λ_ _ q=>q;rintro rfl;rcases t with rfl|t
  ·rw [B] at e;cases e
  ·rw [B] at t;cases t
 rcases hx with D|D
 ·refine wpAny_storeName_local D hn (λh' hn' g=>?_) W;obtain ⟨oL,_,_,hoL,_⟩:=id hn;refine h _ ⟨I.ok,I.os,I.bare,⟨λb o e n O hx=>?_,λb o e n O hx=>?_,I.au.free,λb o e hx=>?_,I.au.tups,I.au.mq,λb ps e=>⟨(I.au.jf b ps e).1,λd o l x1=>let z:=(I.au.jf b ps e).2 d o l x1;⟨z.1,(g.2 d (cV z.1 I.free)).trans z.2⟩⟩⟩,⟨_,hn',λj y v' l C e3=>?_⟩,λy c e=>?_,I.free,I.o8,λp hp=>?_,tracked ⟨oL,hoL,I.free⟩ g,by simpa using I.len⟩ ⟨_,g,.inl rfl⟩
  ·exact (g.2 b (fO (mL (cF e) I.ok.above))).trans (I.au.keep b o e n O hx)
  ·obtain ⟨sl,l⟩:=I.au.slot b o e n O hx;exact ⟨sl,(g.2 b (fO (mL (cF e) I.ok.above))).trans l⟩
  ·obtain ⟨o',l⟩:=I.au.there b o e hx;exact ⟨o',(g.2 b (fO (mL (cF e) I.ok.above))).trans l⟩
  ·by_cases L:j=i
   ·subst L;rw [hi] at l;cases l;rw [zJ hiσ] at C;cases C;exact ⟨u,r,.inl ⟨D,by simp⟩⟩
   ·rw [zK (bF L)] at C;obtain ⟨u',r',q⟩:=hl j y v' l C e3;refine ⟨u',r',?_⟩;rcases q with ⟨k,e⟩|⟨k,c,e,z⟩
    ·refine .inl ⟨k,?_⟩;have:y≠x:=λe=>L (aa_ hN l (e ▸ hi));simp [this,e]
    ·exact .inr ⟨k,c,e,z.sameBut g (uM y c e)⟩
  ·obtain ⟨w',z⟩:=I.cell y c e;exact ⟨w',z.sameBut g (uM y c e)⟩
  ·obtain ⟨e,n,Y,nf,d⟩:=I.pin p hp;exact ⟨(g.2 p.1 Y).trans e,n,Y,nf,d⟩
 ·have J:X.fn x=true:=by
   rcases hf with z|z
   ·exact z
   ·rw [z] at D;cases D
  obtain ⟨c,t⟩:=I.ok.has x (.inl D);obtain ⟨w',z⟩:=I.cell x c t;refine wpAny_storeName_cell I.ok.kind D t z (λh' S g=>?_);obtain ⟨oc,R,aq7⟩:=id z;refine h { s with heap:=h' } ⟨I.ok,I.os,I.bare,⟨λb o e n O hx=>?_,λb o e n O hx=>?_,I.au.free,λb o e hx=>?_,I.au.tups,I.au.mq,λb ps e=>⟨(I.au.jf b ps e).1,λd o l x1=>let z:=(I.au.jf b ps e).2 d o l x1;⟨z.1,(g.2 d (cV z.1 (I.o8 x c t))).trans z.2⟩⟩⟩,⟨m,hn.sameBut g (bF (uM x c t)),λj y v' l C e3=>?_⟩,λy c' e=>?_,I.free,I.o8,λp hp=>?_,tracked ⟨oc,R,I.o8 x c t⟩ g,by simpa using I.len⟩ ⟨c,g,.inr t⟩
  ·exact (g.2 b (fO (mL (cF e) (I.ok.cab x c J t)))).trans (I.au.keep b o e n O hx)
  ·obtain ⟨sl,l⟩:=I.au.slot b o e n O hx;exact ⟨sl,(g.2 b (fO (mL (cF e) (I.ok.cab x c J t)))).trans l⟩
  ·obtain ⟨o',l⟩:=I.au.there b o e hx;exact ⟨o',(g.2 b (fO (mL (cF e) (I.ok.cab x c J t)))).trans l⟩
  ·by_cases L:j=i
   ·subst L;rw [hi] at l;cases l;rw [zJ hiσ] at C;cases C;exact ⟨u,r,.inr ⟨.inl D,c,t,S⟩⟩
   ·rw [zK (bF L)] at C;obtain ⟨u',r',q⟩:=hl j y v' l C e3;refine ⟨u',r',?_⟩;rcases q with q|⟨k,c',e,z'⟩
    ·exact .inl q
    ·refine .inr ⟨k,c',e,z'.sameBut g ?_⟩;rintro rfl;exact L (aa_ hN l (I.ok.inj _ _ _ e t ▸ hi))
  ·by_cases U:c'=c
   ·subst U;exact ⟨_,S⟩
   ·obtain ⟨w2,z2⟩:=I.cell y c' e;exact ⟨w2,z2.sameBut g U⟩
  ·obtain ⟨e,n,Y,nf,d⟩:=I.pin p hp;refine ⟨(g.2 p.1 ?_).trans e,n,Y,nf,d⟩;intro q;rw [q,R] at e;have q':oc=p.2:=iz e;exact d w' (by rw [<-q'];exact aq7)
theorem Ji {M:Model} {v:V} {Q:CQ} (I:aD X ak σ H s) (hN:X.N.Nodup) (hi:X.N[i]?=some x) (hx:vP X.env.scope x) (r:cA v u) (h:∀ s',aD X ak (σ.set i (some v)) H s'->Q () s') (hf:X.fn x=true\/X.env.scope.names.lookup x=some .local:=by first|exact .inl rfl|exact .inr rfl|assumption):wpAny M A (storeName X.env x u) Q E s:=aau I hN hi hx r (λs' a _=>h s' a) hf
theorem aD.call' {s':Shared} (I:aD X ak σ H s) (ho:s'.os=s.os) (u:Un (d7 X.stack) ch H H' s.heap s'.heap) (hok:gM X.prog X.w H' s'.heap) (hg:AllBare s'.gens) (hch:∀ b∈ch,(b∈X.ex\/X.s₀.heap.objs.size<=b)/\b≠X.env.locals/\(∀ x c,X.env.cells.lookup x=some c->c≠b)/\∀ p∈X.pn++ak,p.1≠b):aD X ak σ H' s':=by obtain ⟨h',g',d',t',o'⟩:=s';have e:o'=s.os:=ho;subst e;exact I.call (g':=g') (t':=t') (d':=d') u hok hg hch
end
abbrev XK:=Value->jy->Hp->Prop
abbrev St:=List (Option V)
abbrev VK:=V->Hp->Prop
abbrev TE:=St->Hp->VK->Prop
abbrev TT:=St->Hp->(Bool->Hp->Prop)->Prop
abbrev TA:=St->Hp->(aA->Hp->Prop)->Prop
structure qK where
 nx:St->Hp->Prop
 rt:VK
 bk:St->Hp->Prop:=λ_ _=>False
 ct:St->Hp->Prop:=λ_ _=>False
abbrev TS:=qK->St->Hp->Prop
def EP (X:Cx) (ak:List (Addr×Obj)) (σ:St) (Q:VK) (u:Value) (s':Shared):Prop:=∃ v H',aD X ak σ H' s'/\cA v u/\Q v H'
def TP (X:Cx) (ak:List (Addr×Obj)) (σ:St) (Q:Bool->Hp->Prop) (b:Bool) (s':Shared):Prop:=∃ H',aD X ak σ H' s'/\Q b H'
def AP (X:Cx) (ak:List (Addr×Obj)) (σ:St) (Q:aA->Hp->Prop) (us:bV) (s':Shared):Prop:=∃ vs H',aD X ak σ H' s'/\bO vs us/\Q vs H'
def SP (X:Cx) (ak:List (Addr×Obj)) (D:qK) (f:Flow) (s':Shared):Prop :=
 match f with
 |.next=>∃ σ' H',aD X ak σ' H' s'/\D.nx σ' H'
 |.brk=>∃ σ' H',aD X ak σ' H' s'/\D.bk σ' H'
 |.cont=>∃ σ' H',aD X ak σ' H' s'/\D.ct σ' H'
 |.ret u=>∃ v σ' H',aD X ak σ' H' s'/\cA v u/\D.rt v H'
def PE (X:Cx) (e:Expr) (t:TE):Prop :=
 ∀ (ak:List (Addr×Obj)) (s:Shared) (σ:St) (H:Hp) (Q:VK),aD X ak σ H s->t σ H Q->wpAny (model X.prog X.w) X.A (eval e X.env) (EP X ak σ Q) X.xe s
def PT (X:Cx) (e:Expr) (t:TT):Prop :=
 ∀ (ak:List (Addr×Obj)) (s:Shared) (σ:St) (H:Hp) (Q:Bool->Hp->Prop),aD X ak σ H s->t σ H Q->wpAny (model X.prog X.w) X.A (isTrue e X.env (eval e X.env)) (TP X ak σ Q) X.xe s
def PW (X:Cx) (e:Expr) (t:TT):Prop :=
 ∀ (whole:Sem Value) (ak:List (Addr×Obj)) (s:Shared) (σ:St) (H:Hp) (Q:Bool->Hp->Prop),aD X ak σ H s->t σ H Q->wpAny (model X.prog X.w) X.A (isTrue e X.env whole) (TP X ak σ Q) X.xe s
theorem PW.pt {X:Cx} {t:TT} (h:PW X e t):PT X e t:=h _
def PA (X:Cx) (es:List Expr) (t:TA):Prop :=
 ∀ (pos:Pos) (ak:List (Addr×Obj)) (s:Shared) (σ:St) (H:Hp) (Q:aA->Hp->Prop),aD X ak σ H s->t σ H Q->wpAny (model X.prog X.w) X.A (spliced (backTo pos (starEach es X.env))) (AP X ak σ Q) X.xe s
def PS (X:Cx) (st:Stmt) (t:TS):Prop :=
 ∀ (ak:List (Addr×Obj)) (s:Shared) (σ:St) (H:Hp) (D:qK),aD X ak σ H s->t D σ H->wpAny (model X.prog X.w) X.A (exec st X.env) (SP X ak D) X.xe s
def oF (X:Cx) (st:List Stmt) (t:TS):Prop :=
 ∀ (ak:List (Addr×Obj)) (s:Shared) (σ:St) (H:Hp) (D:qK),aD X ak σ H s->t D σ H->wpAny (model X.prog X.w) X.A (execs st X.env) (SP X ak D) X.xe s
theorem bA {t:Sem α} {Q Q':α->Shared->Prop} {M:Model} (h:wpAny M A t Q E s) (hQ:∀ a s,Q a s->Q' a s):wpAny M A t Q' E s:=lE h hQ λ_ _ x=>x
section
variable {X:Cx}
inductive aeh (i:Nat) (σ:St) (H:Hp) (Q:VK):Prop
 |mk (v:V) (e:σ[i]?=some (some v)) (q:Q v H)
def mX (i:Nat):TE:=aeh i
def tC (v:V):TE:=λ_ H Q=>Q v H
theorem aoW (hN:X.N[i]?=some x) (hv:Mt X.env.scope x) (hd:(x == ("__debug__":Str))=false:=by decide) (hcd:(x == ("__classdict__":Str))=false:=by decide):PE X (.Name x pos) (mX i):=by
 rintro ak s σ H Q I ⟨v,e,h⟩;obtain ⟨m,j,n⟩:=I.loc;obtain ⟨u,r,l⟩:=n i x v hN e hv;have d:EP X ak σ Q u s:=⟨v,H,I,r,h⟩;rcases l with ⟨b,k⟩|⟨b,c,g,a⟩
 ·exact wpAny_Name (wpAny_loadName_local I.ok.kind b j k d) hd
 ·rcases b with b|b
  ·exact wpAny_Name (wpAny_loadName_cell I.ok.kind b g a d) hd
  ·exact wpAny_Name (wpAny_loadName_free I.ok.kind b g a d hcd) hd
theorem aL {i j pos}:PE X (.Constant (.int i) j pos) (tC (.int i)):=λ_ _ _ H _ I h=>wpAny_Constant_int ⟨.int i,H,I.tok _,⟨_,rfl⟩,h⟩
theorem pW {b j pos}:PE X (.Constant (.bool b) j pos) (tC (.bl b)):=λ_ _ _ H _ I h=>Constant_bool ⟨.bl b,H,I,rfl,h⟩
theorem zP {j pos}:PE X (.Constant .none j pos) (tC .non):=λ_ _ _ H _ I h=>Constant_none ⟨.non,H,I,rfl,h⟩
theorem bN {x j pos}:PE X (.Constant (.str x) j pos) (tC (.str x)):=λ_ _ _ H _ I h=>Calls.Constant_str ⟨.str x,H,I.tok _,⟨_,rfl⟩,h⟩
def Gl (X:Cx) (x:Str):Prop:=X.env.kindOf x=some .globalImplicit
theorem Ca {σ:St} {H:Hp} (I:aD X ak σ H s) (hg:Gl X x) (hm:X.mg x=some u) (h:Q u s) (hd:(x == ("__debug__":Str))=false:=by decide):wpAny (model X.prog X.w) X.A (eval (.Name x pos) X.env) Q E s:=adh I.ok.kind hg (Calls.loadGlobal_global (by rw [I.ok.glob];exact I.mod.glob.keeps I.bk) hm h) hd
theorem qM {σ:St} {H:Hp} (I:aD X ak σ H s) (hg:Gl X x) (hm:X.mg x=none) (hv:bootBuiltins x=some u) (h:Q u s) (hn:x≠"__name__":=by decide) (hd:(x == ("__debug__":Str))=false:=by decide):wpAny (model X.prog X.w) X.A (eval (.Name x pos) X.env) Q E s:=by obtain ⟨a,h1,h2⟩:=I.mod.blt;exact adh I.ok.kind hg (Calls.loadGlobal_builtin (by rw [I.ok.glob];exact I.mod.glob.keeps I.bk) hm (by rw [I.ok.blt];exact h1.keeps I.bk) ((h2 x hn).trans hv) h) hd
theorem Ce {v:V} (hg:Gl X x) (hm:X.mg x=some u) (r:cA v u) (hd:(x == ("__debug__":Str))=false:=by decide):PE X (.Name x pos) (tC v):=λ_ _ _ H _ I h=>Ca I hg hm ⟨v,H,I,r,h⟩ hd
theorem zx {v:V} (hg:Gl X x) (hm:X.mg x=none) (hv:bootBuiltins x=some u) (r:cA v u) (hn:x≠"__name__":=by decide) (hd:(x == ("__debug__":Str))=false:=by decide):PE X (.Name x pos) (tC v):=λ_ _ _ H _ I h=>qM I hg hm hv ⟨v,H,I,r,h⟩ hn hd
inductive Gz (x:V) (H:Hp) (Q:Bool->Hp->Prop):Prop
 |mk (c:Bool) (e:x=.bl c) (q:Q c H)
inductive OfI (x:V) (H:Hp) (Q:Int->Hp->Prop):Prop
 |mk (i:Int) (e:x=.int i) (q:Q i H)
inductive T7 (n:Nat) (o:HO) (H:Hp) (Q:VK):Prop
 |mk (l:n<=sizeLine) (q:∀ p,H p=none->Q (.ref p) (upd H p o))
variable {a b:Expr} {ta tb:TE}
def PC (X:Cx) (op:CmpOp) (a b:Expr) (t:TE):Prop :=
 ∀ (ak:List (Addr×Obj)) (s:Shared) (σ:St) (H:Hp) (Q:VK),aD X ak σ H s->t σ H Q ->
  wpAny (model X.prog X.w) X.A (eval a X.env) (λv c=>wpAny (model X.prog X.w) X.A (eval b X.env) (λu d=>wpAny (model X.prog X.w) X.A (compareOp op v u) (EP X ak σ Q) X.xe d) X.xe c) X.xe s
def tB (t:TE):TT:=λσ H Q=>t σ H λx H1=>Gz x H1 Q
theorem Tv {t:TE} (h:PC X op a b t) (h1:behindInMarks op b=false:=by first|exact asu _ (by decide) (by decide)|rfl):PT X (.Compare a [op] [b] pos) (tB t):=by intro ak s σ H Q I j;refine wpAny_isTrue_Compare1 (bA (h ak s σ H _ I j) λv k h1=>bA h1 λu m h2=>bA h2 λc l ⟨x,H1,e,i,g⟩=>?_) h1;obtain ⟨d,rfl,q⟩:=g;cases i;exact qI ⟨H1,e,q⟩
theorem lG {t:TE} (h:PE X e t) (he:∀ whole,isTrue e X.env whole=(do let v <-whole;standAt e.pos;holding [v] (truthy v)):=by intro _;rfl):PT X e (tB t):=by intro ak s σ H Q I c;refine isTrue_plain (bA (h ak s σ H _ I c) λv i ⟨x,H1,g,a,b⟩=>?_) (he _);obtain ⟨d,rfl,q⟩:=b;cases a;exact qI ⟨H1,g,q⟩
variable {tA tB':TT} {rest:List Expr}
def tOr (t u:TT):TT:=λσ H Q=>t σ H λc H1=>if c=true then Q true H1 else u σ H1 Q
def aq8 (t:TT):TT:=λσ H Q=>t σ H λc H1=>Q (!c) H1
theorem vH (ha:PT X a tA):PW X (.BoolOp .Or [a] pos) tA:=by
 intro b ak s σ H Q I h;refine isTrue_or (bA (ha ak s σ H Q I h) λc d e=>?_);cases c with
 |false=>exact isTrue_or_nil e
 |true=>exact e
theorem uy (ha:PT X a tA) (hb:PW X (.BoolOp .Or (b::rest) pos) tB'):PW X (.BoolOp .Or (a::b::rest) pos) (tOr tA tB'):=by
 intro g ak s σ H Q I h;refine isTrue_or (bA (ha ak s σ H _ I h) λc i ⟨H1,e,d⟩=>?_);cases c with
 |true=>exact ⟨H1,e,d⟩
 |false=>exact hb g ak i σ H1 Q e d
theorem j4 (ha:PT X a tA):PT X (.UnaryOp .Not a pos) (aq8 tA):=by intro ak s σ H Q I h;exact isTrue_not (ha ak s σ H (λc H1=>Q (!c) H1) I h)
def ap0 (ta tb:TE):TE:=λσ H Q=>ta σ H λx H1=>Gz x H1 λc H1=>if c=true then tb σ H1 Q else Q (.bl false) H1
def aq9 (ta tb:TE):TE:=λσ H Q=>ta σ H λx H1=>Gz x H1 λc H1=>if c=true then Q (.bl true) H1 else tb σ H1 Q
def ap1 (ta:TE):TE:=λσ H Q=>ta σ H λx H1=>Gz x H1 λc H1=>Q (.bl (!c)) H1
theorem uo {op} {t:TE} (h:PE X a t):PE X (.BoolOp op [a] pos) t:=λak s σ H Q I b=>BoolOp_one (h ak s σ H Q I b)
theorem vI (ha:PE X a ta) (hb:PE X (.BoolOp .And (b::rest) pos) tb):PE X (.BoolOp .And (a::b::rest) pos) (ap0 ta tb):=by
 intro ak s σ H Q I h;refine BoolOp_and (bA (ha ak s σ H _ I h) λv i ⟨x,H1,e,g,d⟩=>?_);obtain ⟨c,rfl,d⟩:=d;cases g;refine qI ?_;cases c with
 |true=>exact hb ak i σ H1 Q e d
 |false=>exact ⟨.bl false,H1,e,rfl,d⟩
theorem adX (ha:PE X a ta) (hb:PE X (.BoolOp .Or (b::rest) pos) tb):PE X (.BoolOp .Or (a::b::rest) pos) (aq9 ta tb):=by
 intro ak s σ H Q I h;refine BoolOp_or (bA (ha ak s σ H _ I h) λv i ⟨x,H1,e,g,d⟩=>?_);obtain ⟨c,rfl,d⟩:=d;cases g;refine qI ?_;cases c with
 |false=>exact hb ak i σ H1 Q e d
 |true=>exact ⟨.bl true,H1,e,rfl,d⟩
theorem aoX (ha:PE X a ta):PE X (.UnaryOp .Not a pos) (ap1 ta):=by intro ak s σ H Q I h;refine UnaryOp_ (bA (ha ak s σ H _ I h) λv g ⟨x,H1,e,d,b⟩=>?_);obtain ⟨c,rfl,b⟩:=b;cases d;exact not_of (qI ⟨.bl (!c),H1,e,rfl,b⟩)
def tIf (t:TT) (ta tb:TE):TE:=λσ H Q=>t σ H λc H1=>if c=true then ta σ H1 Q else tb σ H1 Q
theorem qy {c:Expr} (hc:PT X c tA) (ha:PE X a ta) (hb:PE X b tb):PE X (.IfExp c a b pos) (tIf tA ta tb):=by
 intro ak s σ H Q I h;refine wpAny_IfExp (bA (hc ak s σ H _ I h) λd g ⟨H1,i,e⟩=>?_);cases d with
 |true=>exact ha ak g σ H1 Q i e
 |false=>exact hb ak g σ H1 Q i e
end
def dH (K:bG) (H:Hp) (a:Addr) (xs:aA):Prop :=
 Rd H a (.lst xs) \/
  ∃ (o:Obj) (aJ:g_) (n:Nat),K.lookup a=some o/\o.cls=.type "list"/\o.dict=none/\o.data=.seq aJ n/\aJ.size<=sizeLine/\bO xs aJ.toList
def gF (K:bG) (H:Hp) (a:Addr) (xs:aA):Prop :=
 Rd H a (.tup xs) \/
  ∃ (o:Obj) (aJ:g_) (n:Nat),K.lookup a=some o/\o.cls=.type "tuple"/\o.data=.seq aJ n/\aJ.size<=sizeLine/\bO xs aJ.toList
def aq_:Value->Option V
 |.none=>some .non
 |.bool b=>some (.bl b)
 |.int i _=>some (.int i)
 |.str x _=>some (.str x)
 |.bytes b _=>some (.pG b)
 |.float b _=>some (.flt b)
 |.ref a=>some (.ref a)
 |.type n=>some (.ty n)
 |_=>none
theorem cA.abs {x:V} (r:cA x u):aq_ u=some x:=by
 cases x with
 |non=>cases r;rfl
 |bl _=>cases r;rfl
 |int _=>obtain ⟨t,rfl⟩:=r;rfl
 |str _=>obtain ⟨t,rfl⟩:=r;rfl
 |pG _=>obtain ⟨t,rfl⟩:=r;rfl
 |flt _=>obtain ⟨t,rfl⟩:=r;rfl
 |ref _=>cases r;rfl
 |ty _=>cases r;rfl
theorem cA.inj {x y:V} (r:cA x u) (q:cA y u):x=y:=iz (r.abs.symm.trans q.abs)
theorem bO.inj:∀ {xs ys:aA} {us:bV},bO xs us->bO ys us->xs=ys
 |_,_,_,.nil,.nil=>rfl
 |_,_,_,.cons r t,.cons r' t'=>by rw [r.inj r',bO.inj t t']
section
variable {X:Cx} {σ:St} {H:Hp} {xs ys:aA}
theorem dH.of (h:H a=some (.lst xs)):dH K H a xs:=.inl (.inl h)
def aN:=@dH.of
theorem gF.of (h:H a=some (.tup xs)):gF K H a xs:=.inl (.inl h)
def aZ:=@gF.of
theorem aD.list (I:aD X ak σ H s) (h:dH X.K H a xs):∃ aJ:bV,bO xs aJ/\PlainL s.heap a aJ.toArray/\xs.length<=sizeLine:=by
 rcases h with h|⟨o,aJ,n,c,d,g,b,i,r⟩
 ·obtain ⟨z,aJ,n,r,e⟩:=h.ok I.hok;exact ⟨aJ,r,⟨_,n,e,rfl,rfl,rfl⟩,z⟩
 ·refine ⟨aJ.toList,r,⟨o,n,I.gn a o c,d,g,by simpa using b⟩,?_⟩;have e:=r.length;simp only [xQ] at e;lk
theorem aD.tuple (I:aD X ak σ H s) (h:gF X.K H a xs):∃ aJ:bV,bO xs aJ/\IsTup s.heap a aJ.toArray/\xs.length<=sizeLine:=by
 rcases h with h|⟨o,aJ,n,c,d,b,g,r⟩
 ·obtain ⟨z,aJ,r,p⟩:=h.ok I.hok;exact ⟨aJ,r,p.tup,z⟩
 ·refine ⟨aJ.toList,r,⟨o,I.gn a o c,d,n,by simpa using b⟩,?_⟩;have e:=r.length;simp only [xQ] at e;lk
theorem aD.Es (I:aD X ak σ H s) (h:dH X.K H a xs) (h':dH X.K H a ys):xs=ys:=by
 obtain ⟨aJ,r,⟨o,n,e,_,_,d⟩,_⟩:=I.list h;obtain ⟨its',g,⟨o',i,c,_,_,b⟩,_⟩:=I.list h';rw [e] at c;cases c;rw [d] at b;injection b with d1 _;have:aJ=its':=by simpa using je Array.toList d1
 subst this;exact r.inj g
theorem aD.PN (I:aD X ak σ H s) (h:gF X.K H a xs) (h':gF X.K H a ys):xs=ys:=by
 obtain ⟨aJ,r,⟨o,e,_,n,d⟩,_⟩:=I.tuple h;obtain ⟨its',g,⟨o',c,_,i,b⟩,_⟩:=I.tuple h';rw [e] at c;cases c;rw [d] at b;injection b with d1 _;have:aJ=its':=by simpa using je Array.toList d1
 subst this;exact r.inj g
end
abbrev Cx.wish (X:Cx) (E:lF):Cx:={ X with xe:=E }
abbrev Cx.yw (X:Cx):Cx:=X.wish λ_ _=>False
theorem Cx.Ok.wish {X:Cx} (ok:X.Ok) (E:lF):(X.wish E).Ok:=⟨ok.mod,ok.kind,ok.glob,ok.blt,ok.above,ok.inj,ok.has,ok.cab,ok.hd,ok.frames,ok.stk,ok.Mu,ok.bs,ok.uK,ok.Dm,ok.Dn,ok.qb,ok.uL⟩
theorem Cx.Ok.sI {X:Cx} (ok:(X.wish E).Ok):X.Ok:=⟨ok.mod,ok.kind,ok.glob,ok.blt,ok.above,ok.inj,ok.has,ok.cab,ok.hd,ok.frames,ok.stk,ok.Mu,ok.bs,ok.uK,ok.Dm,ok.Dn,ok.qb,ok.uL⟩
section
variable {X:Cx} {σ:St} {H:Hp}
theorem aD.wish (I:aD X ak σ H s) (E:lF):aD (X.wish E) ak σ H s:=⟨I.ok.wish E,I.os,I.bare,I.au,I.loc,I.cell,I.free,I.o8,I.pin,I.hok,I.len⟩
theorem aD.sI (I:aD (X.wish E) ak σ H s):aD X ak σ H s:=⟨I.ok.sI,I.os,I.bare,I.au,I.loc,I.cell,I.free,I.o8,I.pin,I.hok,I.len⟩
theorem SP.sI {D:qK} {f:Flow} {s':Shared} (h:SP (X.wish E) ak D f s'):SP X ak D f s':=by
 cases f with
 |next=>obtain ⟨σ',H',I,q⟩:=h;exact ⟨σ',H',I.sI,q⟩
 |brk=>obtain ⟨σ',H',I,q⟩:=h;exact ⟨σ',H',I.sI,q⟩
 |cont=>obtain ⟨σ',H',I,q⟩:=h;exact ⟨σ',H',I.sI,q⟩
 |ret u=>obtain ⟨v,σ',H',I,r,q⟩:=h;exact ⟨v,σ',H',I.sI,r,q⟩
theorem oF.yw {st:List Stmt} {t:TS} (h:oF X.yw st t):oF X st t:=λak s σ H D I a =>
 lE (h ak s σ H D (I.wish _) a) (λ_ _ q=>q.sI) λ_ _ z=>elim z
end
section
variable {X:Cx} {st:Stmt} {rest:List Stmt} {t u:TS} {te:TE}
def ap3:TS:=λD σ H=>D.nx σ H
def Ut (t u:TS):TS:=λD σ H=>t { D with nx:=u D } σ H
theorem cT:oF X [] ap3:=λ_ _ σ H _ I h=>CK ⟨σ,H,I,h⟩
theorem aU (h1:PS X st t) (h2:oF X rest u):oF X (st::rest) (Ut t u):=by
 intro ak s σ H D I h;refine S5 (bA (h1 ak s σ H { D with nx:=u D } I h) λf b q=>?_);cases f with
 |next =>obtain ⟨σ',H',a,q⟩:=q;exact h2 ak b σ' H' D a q
 |ret v=>exact q
 |brk=>exact q
 |cont=>exact q
theorem aO (h1:PS X st t):oF X [st] t:=by
 intro ak s σ H D I h;refine S5 (bA (h1 ak s σ H D I h) λf a q=>?_);cases f with
 |next=>exact CK q
 |ret v=>exact q
 |brk=>exact q
 |cont=>exact q
theorem aD.quiet {σ:St} {H:Hp} (I:aD X ak σ H s):interactive X.env=false:=by simp [interactive,I.ok.kind]
def ap4 (te:TE):TS:=λD σ H=>te σ H λ_ H1=>D.nx σ H1
theorem kI (he:PE X e te) (hs:swapsWith e none pos.line X.env=pure false:=by rfl):PS X (.Expr e pos) (ap4 te):=by intro ak s σ H D I h;exact wpAny_Expr_any (bA (he ak s σ H _ I h) λv d ⟨x,H1,b,c,a⟩=>⟨σ,H1,b,a⟩) I.quiet hs
def Lw (te:TE):TS:=λD σ H=>te σ H D.rt
theorem bw (he:PE X e te):PS X (.Return (some e) pos) (Lw te):=by intro ak s σ H D I h;exact wpAny_Return_some (bA (he ak s σ H _ I h) λv d ⟨x,H1,c,a,b⟩=>⟨x,σ,H1,c,a,b⟩)
def aq' (c:TT) (t u:TS):TS:=λD σ H=>c σ H λb H1=>if b=true then t D σ H1 else u D σ H1
theorem cP {c:Expr} {a b:List Stmt} {tc:TT} (hc:PT X c tc) (ha:oF X a t) (hb:oF X b u):PS X (.If c a b pos) (aq' tc t u):=by
 intro ak s σ H D I h;refine wpAny_If (bA (hc ak s σ H _ I h) λd g ⟨H1,i,e⟩=>?_);cases d with
 |true=>exact ha ak g σ H1 D i e
 |false=>exact hb ak g σ H1 D i e
def aoY:TS:=λ_ _ _=>False
theorem oK:PS X st aoY:=λ_ _ _ _ _ _ h=>h.elim
end
abbrev TG:=V->St->Hp->(St->Hp->Prop)->Prop
abbrev yx:=aA->St->Hp->(St->Hp->Prop)->Prop
def PG (X:Cx) (target:Expr) (t:TG):Prop :=
 ∀ (ak:List (Addr×Obj)) (s:Shared) (σ:St) (H:Hp) (v:V) (u:Value) (Q:St->Hp->Prop),aD X ak σ H s->cA v u->t v σ H Q ->
  wpAny (model X.prog X.w) X.A (assign target X.env u) (λ_ s'=>∃ σ' H',aD X ak σ' H' s'/\Q σ' H') X.xe s
def GZ (X:Cx) (ts:List Expr) (t:yx):Prop :=
 ∀ (ak:List (Addr×Obj)) (s:Shared) (σ:St) (H:Hp) (vs:aA) (us:bV) (Q:St->Hp->Prop),aD X ak σ H s->bO vs us->t vs σ H Q ->
  wpAny (model X.prog X.w) X.A (assignInOrder ((assignEach ts X.env).map (·.2)) us) (λ_ s'=>∃ σ' H',aD X ak σ' H' s'/\Q σ' H') X.xe s
abbrev GC:=V->V->V->Hp->(Hp->Prop)->Prop
def Uu (X:Cx) (t:GC):Prop :=
 ∀ (ak:List (Addr×Obj)) (s:Shared) (σ:St) (H:Hp) (o i v:V) (b a u:Value) (Q:Hp->Prop),aD X ak σ H s->cA o b->cA i a->cA v u->t o i v H Q ->
  wpAny (model X.prog X.w) X.A (setItem b a u) (λ_ s'=>∃ H',aD X ak σ H' s'/\Q H') X.xe s
abbrev Ac:=V->V->Hp->VK->Prop
def G3 (X:Cx) (op:Operator) (t:Ac):Prop :=
 ∀ (ak:List (Addr×Obj)) (s:Shared) (σ:St) (H:Hp) (x y:V) (v u:Value) (Q:VK),aD X ak σ H s->cA x v->cA y u->t x y H Q ->
  wpAny (model X.prog X.w) X.A (inplaceOp op v u) (EP X ak σ Q) X.xe s
section
variable {X:Cx}
def lK (i:Nat):TG:=λv σ H Q=>Q (σ.set i (some v)) H
theorem amS (hN:X.N.Nodup) (hi:X.N[i]?=some x) (hx:vP X.env.scope x) (hf:X.fn x=true\/X.env.scope.names.lookup x=some .local:=by first|exact .inl rfl|exact .inr rfl|assumption):PG X (.Name x pos) (lK i):=by intro ak s σ H v u Q I r h;exact wpAny_assign_Name (Ji I hN hi hx r (λs' a=>⟨_,H,a,h⟩) hf)
def ara:yx:=λvs σ H Q=>vs=[]/\Q σ H
def ap5 (t:TG) (u:yx):yx:=λvs σ H Q=>∃ v r,vs=v::r/\t v σ H λσ' H'=>u r σ' H' Q
theorem qG:GZ X [] ara:=by rintro ak s σ H vs us Q I r ⟨e,h⟩;subst e;cases r;exact assignInOrder_nil ⟨σ,H,I,h⟩
theorem ji {t:TG} {u:yx} (h1:PG X e t) (h2:GZ X es u) (hs:(assignEach (e::es) X.env).map (·.2)=assign e X.env::(assignEach es X.env).map (·.2):=by rfl):GZ X (e::es) (ap5 t u):=by
 rintro ak s σ H vs us Q I r ⟨v,i,b,h⟩;subst b;cases r with
 |cons r a =>rw [hs];refine assignInOrder_cons (bA (h1 ak s σ H _ _ _ I r h) λ_ c ⟨σ1,H1,d,g⟩=>?_);exact h2 ak c σ1 H1 _ _ Q d a g
def aei (K:bG) (n:Nat) (t:yx):TG:=λv σ H Q=>∃ a xs,v=.ref a/\gF K H a xs/\xs.length=n/\t xs σ H Q
theorem qN {k:Nat} {t:yx} (hc:X.calm=true) (h:GZ X es t) (hn:(assignEach es X.env).length=n:=by rfl) (hst:(assignEach es X.env).findIdx? (·.1)=none:=by rfl):PG X (.Tuple es k pos) (aei X.K n t):=by rintro ak s σ H v u Q I r ⟨a,xs,d,g,l,p⟩;subst d;cases r;obtain ⟨aJ,c,m,q⟩:=I.tuple g;refine assign_Tuple_tuple (I.ok.hd hc) m (by simp [hn,<-l,c.length]) hst λh' i=>?_;have j:aD X ak σ H { s with heap:=h' }:=I.kept (t':=s.toks) λb o e=>i b o (fO (cF e)) e;exact h ak _ σ H xs _ Q j (by simpa using c) p
def aej (to ti:TE) (t:GC):TG:=λv σ H Q=>to σ H λo H1=>ti σ H1 λi H2=>t o i v H2 λa=>Q σ a
theorem qO {o i:Expr} {to ti:TE} {t:GC} (ho:PE X o to) (hi:PE X i ti) (hs:Uu X t) (ha:∀ v,assign (.Subscript o i pos) X.env v=(do
   let ov <-holding [v] (eval o X.env);let iv <-holding [v,ov] (eval i X.env)
   standAt pos
   holding [v,ov,iv] (setItem ov iv v)
   release [v,ov,iv] []):=by intro _;rfl):PG X (.Subscript o i pos) (aej to ti t):=by
 intro ak s σ H v u Q I r h;rw [ha];exact bf (zL (bA (ho ak s σ H _ I h) λov c ⟨x,H1,g,m,k⟩=>bf (zL (bA (hi ak c σ H1 _ g k) λiv j ⟨y,H2,a,e,b⟩=>bf (wpAny_standAt (bf (zL (bA (hs ak j σ H2 x y v ov iv u _ a m e r b) λ_ p ⟨n,d,l⟩=>wpAny_release ⟨σ,n,d,l⟩))))))))
def qX (te:TE) (g:TG):TS:=λD σ H=>te σ H λx H1=>g x σ H1 D.nx
theorem qP {te:TE} {g:TG} (he:PE X e te) (hg:PG X tg g) (hs:swapsWithSole [tg] e pos.line X.env=pure false:=by rfl) (hw:swappedStores [tg] e X.env=pure none:=by rfl) (h1:(assignEach [tg] X.env).map (·.2)=[assign tg X.env]:=by rfl):PS X (.Assign [tg] e pos) (qX te g):=by intro ak s σ H D I h;refine wpAny_Assign_stores (bA (he ak s σ H _ I h) λv c ⟨x,H1,d,a,b⟩=>?_) hs hw;rw [h1];exact bA (hg ak c σ H1 x v _ d a b) λ_ i q=>q
theorem aoZ {te:TE} (hN:X.N.Nodup) (hi:X.N[i]?=some x) (hx:vP X.env.scope x) (he:PE X e te) (hs:swapsWith e (some (.Name x pos')) pos.line X.env=pure false:=by rfl) (hf:X.fn x=true\/X.env.scope.names.lookup x=some .local:=by first|exact .inl rfl|exact .inr rfl|assumption) : PS X (.Assign [.Name x pos'] e pos) (qX te (lK i)):=by intro ak s σ H D I h;refine wpAny_Assign_Name (bA (he ak s σ H _ I h) λv j ⟨y,H1,d,a,c⟩=>?_) hs;exact Ji d hN hi hx a (λg b=>⟨_,H1,b,c⟩) hf
def arb (i:Nat) (te:TE) (ti:Ac):TS:=λD σ H=>aeh i σ H λx H=>te σ H λy H1=>ti x y H1 λz H2=>D.nx (σ.set i (some z)) H2
theorem Tw {te:TE} {op:Operator} {ti:Ac} (hN:X.N.Nodup) (hi:X.N[i]?=some x) (hx:vP X.env.scope x) (he:PE X e te) (ho:G3 X op ti) (hf:X.fn x=true\/X.env.scope.names.lookup x=some .local:=by first|exact .inl rfl|exact .inr rfl|assumption) : PS X (.AugAssign (.Name x pos') op e pos) (arb i te ti):=by
 rintro ak s σ H D I ⟨v,o,h⟩;obtain ⟨m,q,S⟩:=I.loc;have d:Mt X.env.scope x:=by rcases hx with k|k;exact .inl k;exact .inr (.inl k)
 obtain ⟨u,r,l⟩:=S i x v hi o d;refine wpAny_AugAssign_Name ?_;have g:wpAny (model X.prog X.w) X.A (eval e X.env) (λw U=>wpAny (model X.prog X.w) X.A (inplaceOp op u w) (λr p=>wpAny (model X.prog X.w) X.A (storeName X.env x r) (λ_=>SP X ak D .next) X.xe p) X.xe U) X.xe s:=by refine bA (he ak s σ H _ I h) λw t ⟨y,H1,L,R,M⟩=>?_;refine bA (ho ak t σ H1 v y u w _ L r R M) λz Y ⟨W,H2,j,C,n⟩=>?_;exact Ji j hN hi hx C (λV B=>⟨_,H2,B,n⟩) hf
 rcases l with ⟨a,O⟩|⟨a,c,J,b⟩
 ·exact wpAny_loadName_local I.ok.kind a q O g
 ·rcases a with a|a
  ·exact wpAny_loadName_cell I.ok.kind a J b g
  ·rcases hx with k|k
   ·have:X.env.scope.names.lookup x=some .free:=a;rw [k] at this;cases this
   ·have:X.env.scope.names.lookup x=some .free:=a;rw [k] at this;cases this
def ap6 (to ti te:TE) (Lx:V->V->Hp->VK->Prop) (Mw:Ac) (Ly:GC):TS:=λD σ H=>to σ H λo H1=>ti σ H1 λi H2=>Lx o i H2 λx d=>te σ d λy a=>Mw x y a λz c=>Ly o i z c λb=>D.nx σ b
def aek (X:Cx) (t:V->V->Hp->VK->Prop):Prop :=
 ∀ (ak:List (Addr×Obj)) (s:Shared) (σ:St) (H:Hp) (o i:V) (b a:Value) (Q:VK),aD X ak σ H s->cA o b->cA i a->t o i H Q ->
  wpAny (model X.prog X.w) X.A (getItem b a) (EP X ak σ Q) X.xe s
theorem amT {o i:Expr} {to ti te:TE} {Lx:V->V->Hp->VK->Prop} {Mw:Ac} {Ly:GC} {op:Operator} {tpos:Pos} (ho:PE X o to) (hi:PE X i ti) (hg:aek X Lx) (he:PE X e te) (hp:G3 X op Mw) (hs:Uu X Ly) (ha:∀ ov iv new,augStore i ov iv new=(do holding [new,ov,iv] (setItem ov iv new);release [new,ov,iv] [];pure .next):=by intros;rfl):PS X (.AugAssign (.Subscript o i tpos) op e pos) (ap6 to ti te Lx Mw Ly):=by intro ak s σ H D I h;refine wpAny_AugAssign_SubscriptAny (bA (ho ak s σ H _ I h) λov q ⟨a,H1,z,d,L⟩=>?_) ha;refine bA (hi ak q σ H1 _ z L) λiv C ⟨c,H2,j,b,k⟩=>?_;refine bA (hg ak C σ H2 a c ov iv _ j d b k) λold u ⟨O,H3,x,m,M⟩=>?_;refine bA (he ak u σ H3 _ x M) λv y ⟨B,R,t,W,g⟩=>?_;refine bA (hp ak y σ R O B old v _ t m W g) λnew n ⟨p,Y,J,l,N⟩=>?_;exact bA (hs ak n σ Y a c p ov iv new _ J d b l N) λ_ s6 ⟨S,U,r⟩=>⟨σ,S,U,r⟩
def ipI (f:Int->Int->Int):Ac:=λx y H Q=>∃ i j,x=.int i/\y=.int j/\Q (.int (f i j)) H
theorem ao0:G3 X .Add (ipI λi j=>i+j):=by rintro ak s σ H x y v u Q I d b ⟨i,j,a,c,q⟩;subst a;subst c;obtain ⟨t,rfl⟩:=d;obtain ⟨t',rfl⟩:=b;exact iadd_int ⟨.int _,H,I.tok _,⟨_,rfl⟩,q⟩
end
section
variable {X:Cx}
def ado (c:TT) (tb:TS):TS:=λD σ H=>∃ W:Nat->St->Hp->Prop,(∃ m,W m σ H)/\∀ m σ H,W m σ H ->
 c σ H λb H1=>if b=true then ∃ N:St->Hp->Prop,(∀ σ' H',N σ' H'->∃ a,a<m/\W a σ' H')/\tb { D with nx:=N,ct:=N,bk:=D.nx } σ H1 else D.nx σ H1
theorem QB {c:Expr} {tc:TT} {tb:TS} (hp:PassesOwn (model X.prog X.w) X.A X.env X.xe) (hc:PT X c tc) (hb:oF X body tb):PS X (.While c body [] pos) (ado tc tb):=by
 rintro ak s σ H D I ⟨W,⟨u,w0⟩,a⟩;refine wpAny_While (codeAny_whileLoop (λn s'=>∃ σ' H',aD X ak σ' H' s'/\W n σ' H') ?_ u ⟨σ,H,I,w0⟩);rintro n q ⟨σ1,H1,r,x⟩;refine zM hp (bA (hc ak q σ1 H1 _ r (a n σ1 H1 x)) λb t ⟨H2,o,e⟩=>?_);cases b with
 |true =>
  obtain ⟨N,p,e⟩:=e;rw [aQ rfl];refine zM hp (bA (hb ak t σ1 H2 _ o e) λf y g=>?_);cases f with
  |next =>obtain ⟨σ3,d,k,i⟩:=g;obtain ⟨j,l,m⟩:=p σ3 d i;exact ⟨j,l,σ3,d,k,m⟩
  |cont =>obtain ⟨σ3,d,k,i⟩:=g;obtain ⟨j,l,m⟩:=p σ3 d i;exact ⟨j,l,σ3,d,k,m⟩
  |brk=>exact g
  |ret v=>exact g
 |false =>rw [aK iQ];exact CK ⟨σ1,H2,o,e⟩
end
structure It where
 go:Nat->Hp->Prop
 oG:Nat->Hp->V->Hp->Prop
 stop:Nat->Hp->Prop
def n_ (X:Cx) (ak:List (Addr×Obj)) (H:Hp) (b:Addr):Prop :=
 H b=none/\b≠X.env.locals/\b∉X.fs/\(b∈X.ex\/X.s₀.heap.objs.size<=b)/\(∀ x c,X.env.cells.lookup x=some c->c≠b)/\∀ p∈X.pn++ak,p.1≠b
theorem aD.sW {X:Cx} {σ:St} {H H':Hp} (I:aD X ak σ H s) (hb:s.heap.objs.size<=b) (hn:H' b=none):n_ X ak H' b:=by
 refine ⟨hn,vB (mL I.lt hb),I.aq6 hb,.inr (gR I.sz hb),λx c e z=>?_,λp a z=>?_⟩
 ·obtain ⟨v,q⟩:=I.cell x c e;exact absurd (mL q.lt (by rw [z];exact hb)) (uf _)
 ·exact absurd (mL (cF (I.pin p a).1) (by rw [z];exact hb)) (uf _)
structure uq (P:Program) (w:World) (K:bG) (tg:Expr) (J:It) (fp:jk) (it:Addr) (tn:Nat->Heap->Prop):Prop where
 mem:it∈fp
 obj:∀ i h,tn i h->∀ b∈fp,∃ o,h.get? b=some o/\∀ v,o.data≠.cell v
 keep:∀ i h h',tn i h->(∀ b∈fp,∀ o,h.get? b=some o->h'.get? b=some o)->tn i h'
 item:∀ (X:Cx),X.prog=P->X.w=w->X.K=K->X.calm=true->∀ (i:Nat) (ak:List (Addr×Obj)) (s:Shared) (σ:St) (H:Hp) (E:lF),aD X ak σ H s->(∀ b∈fp,n_ X ak H b)->tn i s.heap->J.go i H ->
  wpAny (model P w) X.A (pyNext (.ref it)) (λr s1=>∃ u,r=some u /\
   wpAny (model P w) X.A (letOwnedTupleGo tg (.ref it) u) (λ_ s2=>∃ x H',aD X ak σ H' s2/\cA x u/\J.oG i H x H'/\tn (i+1) s2.heap/\∀ b∈fp,H' b=none) E s1) E s
 done:∀ (X:Cx),X.prog=P->X.w=w->X.K=K->X.calm=true->∀ (i:Nat) (ak:List (Addr×Obj)) (s:Shared) (σ:St) (H:Hp) (E:lF),aD X ak σ H s->(∀ b∈fp,n_ X ak H b)->tn i s.heap->J.stop i H ->
  wpAny (model P w) X.A (pyNext (.ref it)) (λr s1=>r=none/\aD X ak σ H s1) E s
 self:∀ (A:Around) (i:Nat) (s:Shared) (Q:lF) (E:lF),tn i s.heap->Q (.ref it) s->wpAny (model P w) A (pyIter (.ref it)) Q E s
abbrev TI:=St->Hp->(It->Hp->Prop)->Prop
def PIE (X:Cx) (ak:List (Addr×Obj)) (σ:St) (tg:Expr) (R:It->Hp->Prop) (itv:Value) (s2:Shared):Prop :=
 ∃ (it:Addr) (fp:jk) (a:Nat->Heap->Prop) (J:It) (H':Hp),itv=.ref it/\aD X ak σ H' s2/\uq X.prog X.w X.K tg J fp it a/\a 0 s2.heap/\(∀ b∈fp,n_ X ak H' b)/\R J H'
def PI (X:Cx) (tg jo:Expr) (wi:TI):Prop :=
 ∀ (ak:List (Addr×Obj)) (s:Shared) (σ:St) (H:Hp) (R:It->Hp->Prop),aD X ak σ H s->wi σ H R ->
  wpAny (model X.prog X.w) X.A (eval jo X.env) (λv a=>wpAny (model X.prog X.w) X.A (pyIter v) (PIE X ak σ tg R) X.xe a) X.xe s
theorem Gn {M:Model} {o:Obj} {n:String} {vs:g_} {Q:CQ} (ho:s.heap.get? it=some o) (hc:o.cls=.type n) (hd:o.data=.fields vs) (hn:["enumerate","zip","dict_itemiterator","dict_reverseitemiterator","odict_iterator","itertools.zip_longest","itertools.pairwise"].contains n=false) (hQ:Q () s):wpAny M A (letOwnedTupleGo tg (.ref it) u) Q E s:=by
 unfold letOwnedTupleGo;cases tg<;>first
  |exact cY hQ
  |(cases u<;>first
    |exact cY hQ
    |(refine bf (wpAny_load ho ?_)
      rw [hc,hd];show wpAny M A (if (["enumerate","zip","dict_itemiterator","dict_reverseitemiterator","odict_iterator","itertools.zip_longest","itertools.pairwise"].contains n && vs[0]? == some (rawInt _))=true then _ else _) Q E s;rw [aK (by intro h;rw [hn,Bool.false_and] at h;cases h)];exact cY hQ))
def yC (K:bG) (a:Addr):It :=
 ⟨λi H=>∃ xs x,dH K H a xs/\xs[i]?=some x,λi H x H'=>H'=H/\∀ xs,dH K H a xs->xs[i]?=some x,λi H=>∃ xs,dH K H a xs/\xs.length<=i⟩
def yD (K:bG) (a:Addr):It :=
 ⟨λi H=>∃ xs x,gF K H a xs/\xs[i]?=some x,λi H x H'=>H'=H/\∀ xs,gF K H a xs->xs[i]?=some x,λi H=>∃ xs,gF K H a xs/\xs.length<=i⟩
def uN (lo:Int) (n:Nat):It:=⟨λi _=>i<n,λi H x H'=>H'=H/\x=.int (lo+i),λi _=>n<=i⟩
theorem aiz (a it:Addr):uq P w K tg (yC K a) [it] it (λi h=>h.IsListIter it a i) where
 mem:=by simp
 obj:=λi h st b g=>by
  have e:b=it:=by simpa using g
  subst e;obtain ⟨o,e,c,d⟩:=st;exact ⟨o,e,λv z=>by rw [d] at z;cases z⟩
 keep:=λi h h' st k=>st.at λo e=>k it (by simp) o e
 item:=by intro X r D hK J i ak s σ H E I l st n;subst r D hK;obtain ⟨xs,x,j,q⟩:=n;obtain ⟨aJ,C,p,O⟩:=I.list j;obtain ⟨u,V,W⟩:=C.get q;obtain ⟨f0,y,M,t,B,m⟩:=l it (by simp);refine S6 st p.isList (x:=u) (by simpa using V) λh' L S=>?_;have R:aD X ak σ H { s with heap:=h' }:=I.turned (t':=s.toks) (λb o g e=>(S.2 b g).trans e) f0 y t B m;obtain ⟨o,e,c,d⟩:=id L;exact ⟨u,rfl,Gn (s:={ s with heap:=h' }) e c d (by decide) ⟨x,H,R,W,⟨rfl,λys N=>by rw [I.Es N j];exact q⟩,L,λb g=>(l b g).1⟩⟩
 done:=by intro X r D hK J i ak s σ H E I l st n;subst r D hK;obtain ⟨xs,j,q⟩:=n;obtain ⟨aJ,C,p,O⟩:=I.list j;obtain ⟨f0,y,M,t,B,m⟩:=l it (by simp);have Y:=C.length;exact S7 (I.ok.hd J) st p.isList (by simp;lk) λh' U=>⟨rfl,I.turned (t':=s.toks) (λb o g e=>U b o g e) f0 y t B m⟩
 self:=λ_ _ _ _ _ st h=>wpAny_pyIter_listiter st h
theorem ahf (a it:Addr):uq P w K tg (yD K a) [it] it (λi h=>h.IsTupleIter it a i) where
 mem:=by simp
 obj:=λi h st b g=>by
  have e:b=it:=by simpa using g
  subst e;obtain ⟨o,e,c,d⟩:=st;exact ⟨o,e,λv z=>by rw [d] at z;cases z⟩
 keep:=λi h h' st k=>st.at λo e=>k it (by simp) o e
 item:=by intro X r D hK J i ak s σ H E I l st n;subst r D hK;obtain ⟨xs,x,j,q⟩:=n;obtain ⟨aJ,C,p,O⟩:=I.tuple j;obtain ⟨u,V,W⟩:=C.get q;obtain ⟨f0,y,M,t,B,m⟩:=l it (by simp);refine wpAny_pyNext_tuple_item st (show s.heap.IsTuple a aJ.toArray from p) (x:=u) (by simpa using V) λh' L S=>?_;have R:aD X ak σ H { s with heap:=h' }:=I.turned (t':=s.toks) (λb o g e=>(S.2 b g).trans e) f0 y t B m;obtain ⟨o,e,c,d⟩:=id L;exact ⟨u,rfl,Gn (s:={ s with heap:=h' }) e c d (by decide) ⟨x,H,R,W,⟨rfl,λys N=>by rw [I.PN N j];exact q⟩,L,λb g=>(l b g).1⟩⟩
 done:=by intro X r D hK J i ak s σ H E I l st n;subst r D hK;obtain ⟨xs,j,q⟩:=n;obtain ⟨aJ,C,p,O⟩:=I.tuple j;obtain ⟨f0,y,M,t,B,m⟩:=l it (by simp);have Y:=C.length;exact wpAny_pyNext_tuple_end (I.ok.hd J) st (show s.heap.IsTuple a aJ.toArray from p) (by simp;lk) λh' U=>⟨rfl,I.turned (t':=s.toks) (λb o g e=>U b o g e) f0 y t B m⟩
 self:=λ_ _ _ _ _ st h=>wpAny_pyIter_tupleiter st h
theorem ahg (it:Addr) (lo:Int) (n:Nat):uq P w K tg (uN lo n) [it] it (λi h=>IsRangeIter h it (lo+(i:Nat)*1) ((n:Int)-(i:Nat)) 1) where
 mem:=by simp
 obj:=λi h st b a=>by
  have e:b=it:=by simpa using a
  subst e;exact ⟨_,st,λv z=>by have J:Data.fields _=Data.cell v:=z;cases J⟩
 keep:=λi h h' st k=>k it (by simp) _ st
 item:=by intro X j r hK m i ak s σ H E I c st g;subst j r hK;obtain ⟨f0,p,y,l,q,d⟩:=c it (by simp);have W:=Walks.range (prog:=X.prog) (w:=X.w) (I.ok.hd m) it lo 1 n;refine W.item i s _ _ g st λv h' x D u kk=>?_;obtain ⟨t,rfl⟩:=D;have B:aD X ak σ H { s with heap:=h',toks:=x }:=I.turned (λb o a e=>kk b o (by simpa using a) e) f0 p l q d;refine ⟨_,rfl,Gn (s:={ s with heap:=h',toks:=x }) (n:="range_iterator") u rfl rfl (by decide) ⟨.int (lo+i),H,B,⟨t,?_⟩,⟨rfl,rfl⟩,u,λb a=>(c b a).1⟩⟩;rw [S8]
 done:=by intro X j r hK m i ak s σ H E I c st g;subst j r hK;obtain ⟨f0,p,y,l,q,d⟩:=c it (by simp);exact wpAny_pyNext_range_end (I.ok.hd m) st (by have:n<=i:=g;lk) λh' C=>⟨rfl,I.turned (t':=s.toks) (λb o a e=>C b o a e) f0 p l q d⟩
 self:=λ_ _ _ _ _ st h=>wpAny_pyIter_rangeiter st h
section
variable {X:Cx}
def ap7 (K:bG) (tl:TE):TI:=λσ H R=>tl σ H λx H1=>∃ a,x=.ref a/\(∃ xs,dH K H1 a xs)/\R (yC K a) H1
def ard (K:bG) (tl:TE):TI:=λσ H R=>tl σ H λx H1=>∃ a,x=.ref a/\(∃ xs,gF K H1 a xs)/\R (yD K a) H1
theorem jZ {l:Expr} {tl:TE} (hl:PE X l tl):PI X tg l (ap7 X.K tl):=by
 intro ak s σ H R I h;refine bA (hl ak s σ H _ I h) λv c ⟨x,H1,d,j,i⟩=>?_;obtain ⟨a,e,⟨xs,g⟩,q⟩:=i;subst e;cases j;obtain ⟨aJ,n,p,m⟩:=d.list g;refine FW p.isList ⟨c.heap.objs.size,[c.heap.objs.size],_,_,H1,rfl,d.kept (t':=c.toks) λb o e=>dF _ e,aiz a _,⟨_,fQ _ rfl,rfl,rfl⟩,λb k=>?_,q⟩;have e:b=c.heap.objs.size:=by simpa using k
 subst e;exact d.sW (bI _) (d.hok.fresh (bI _))
theorem vJ {l:Expr} {tl:TE} (hl:PE X l tl):PI X tg l (ard X.K tl):=by
 intro ak s σ H R I h;refine bA (hl ak s σ H _ I h) λv c ⟨x,H1,d,j,i⟩=>?_;obtain ⟨a,e,⟨xs,g⟩,q⟩:=i;subst e;cases j;obtain ⟨aJ,n,p,m⟩:=d.tuple g;refine KZ (show c.heap.IsTuple a aJ.toArray from p) ⟨c.heap.objs.size,[c.heap.objs.size],_,_,H1,rfl,d.kept (t':=c.toks) λb o e=>dF _ e,ahf a _,⟨_,fQ _ rfl,rfl,rfl⟩,λb k=>?_,q⟩;have e:b=c.heap.objs.size:=by simpa using k
 subst e;exact d.sW (bI _) (d.hok.fresh (bI _))
theorem aa' {σ:St} {H:Hp} {R:It->Hp->Prop} {hi:Int} {t u v:Tok} {tk:Nat} (I:aD X ak σ H s) (h1:-(2 ^ 62)<=lo) (h2:lo<2 ^ 62) (h3:-(2 ^ 62)<=hi) (h4:hi<2 ^ 62) (q:R (uN lo (hi-lo).toNat) H):wpAny (model X.prog X.w) X.A (pyIter (.ref s.heap.objs.size)) (PIE X ak σ tg R) E { s with heap:=s.heap.push { cls:=.type "range",data:=.fields #[.int lo t,.int hi u,.int 1 v] },toks:=tk }:=by
 refine wpAny_pyIter_range (IsRange.new ..) (small_one h1 h2 h3 h4) ?_;have a:aD X ak σ H { s with heap:=s.heap.push { cls:=.type "range",data:=.fields #[.int lo t,.int hi u,.int 1 v] },toks:=tk }:=I.kept λb o e=>dF _ e;refine ⟨(s.heap.push { cls:=.type "range",data:=.fields #[.int lo t,.int hi u,.int 1 v] }).objs.size,[(s.heap.push { cls:=.type "range",data:=.fields #[.int lo t,.int hi u,.int 1 v] }).objs.size],_,_,H,rfl,a.kept (t':=tk) λb o e=>dF _ e,ahg _ lo (hi-lo).toNat,?_,λb c=>?_,q⟩
 ·have g:lo+((0:Nat):Int)*1=lo:=by simp
  have d:(((hi-lo).toNat:Nat):Int)-((0:Nat):Int)=rangeSize lo hi 1:=by rw [rangeSize_one];split<;>lk
  show IsRangeIter _ _ (lo+((0:Nat):Int)*1) ((((hi-lo).toNat:Nat):Int)-((0:Nat):Int)) 1;rw [g,d];exact fQ _ rfl
 ·have e:b=(s.heap.push { cls:=.type "range",data:=.fields #[.int lo t,.int hi u,.int 1 v] }).objs.size:=by simpa using c
  subst e;exact a.sW (bI _) (a.hok.fresh (bI _))
def ap8 (ta:TA):TI:=λσ H R=>ta σ H λvs H1=>∃ j:Int,vs=[.int j]/\-(2 ^ 62)<=j/\j<2 ^ 62/\R (uN 0 j.toNat) H1
def ap9 (ta:TA):TI:=λσ H R=>ta σ H λvs H1=>∃ i j:Int,vs=[.int i,.int j]/\(-(2 ^ 62)<=i/\i<2 ^ 62/\-(2 ^ 62)<=j/\j<2 ^ 62)/\R (uN i (j-i).toNat) H1
theorem qu {a:Expr} {ta:TA} {p:Pos} (hg:Gl X "range") (hm:X.mg "range"=none) (ha:PA X [a] ta) (hs:starEach [a] X.env=[(false,eval a X.env)]:=by rfl):PI X tg (.Call (.Name "range" p) [a] [] pos) (ap8 ta):=by
 intro ak s σ H R I h;refine Call_ (qM I hg hm boot_range (xR (bA (ha pos ak s σ H _ I h) λus k ⟨vs,H1,g,i,b⟩=>?_) hs rfl));obtain ⟨j,e,b,d,q⟩:=b;subst e;cases i with
 |cons r c =>cases c;obtain ⟨t,rfl⟩:=r;exact call_range_1 (aa' g (by lk) (by lk) b d (by simpa using q))
theorem aav {a b:Expr} {ta:TA} {p:Pos} (hg:Gl X "range") (hm:X.mg "range"=none) (ha:PA X [a,b] ta) (hs:starEach [a,b] X.env=[(false,eval a X.env),(false,eval b X.env)]:=by rfl) (hs2:starEach [b] X.env=[(false,eval b X.env)]:=by rfl) : PI X tg (.Call (.Name "range" p) [a,b] [] pos) (ap9 ta):=by
 intro ak s σ H R I h;refine Call_ (qM I hg hm boot_range (xR (bA (ha pos ak s σ H _ I h) λus u ⟨vs,H1,l,o,d⟩=>?_) (by rw [hs,hs2]) (by rw [hs2];rfl)));obtain ⟨i,j,e,⟨d,k,m,g⟩,q⟩:=d;subst e;cases o with
 |cons r c =>
  cases c with
  |cons n c =>cases c;obtain ⟨t,rfl⟩:=r;obtain ⟨t',rfl⟩:=n;exact call_range_2 (aa' l d k m g q)
def arf (wi:TI) (g:TG) (tb:TS):TS:=λD σ H=>wi σ H λJ H1=>∃ W:Nat->Nat->St->Hp->Prop,(∃ m,W 0 m σ H1)/\∀ i m σ H,W i m σ H ->
 (J.stop i H/\D.nx σ H)\/(J.go i H/\∃ N:St->Hp->Prop,(∀ σ' H',N σ' H'->∃ a,a<m/\W (i+1) a σ' H')/\∀ x H',J.oG i H x H'->g x σ H' λσ2 H2=>tb { D with nx:=N,ct:=N,bk:=D.nx } σ2 H2)
def CT (fp:jk) (h:Heap):List (Addr×Obj):=fp.filterMap λb=>(h.get? b).map λo=>(b,o)
theorem Ir {o:Obj} (hb:b∈fp) (e:h.get? b=some o):(b,o)∈CT fp h:=S9.mpr ⟨b,hb,by rw [e];rfl⟩
theorem aiA {p:Addr×Obj} (hp:p∈CT fp h):p.1∈fp/\h.get? p.1=some p.2:=by
 obtain ⟨b,a,e⟩:=S9.mp hp;cases q:h.get? b with
 |none=>rw [q] at e;cases e
 |some o =>rw [q] at e;have c:(b,o)=p:=iz e;subst c;exact ⟨a,q⟩
theorem aD.pinned {σ:St} {H:Hp} (I:aD X ak σ H s) (hf:∀ b∈fp,n_ X ak H b) (ho:∀ b∈fp,∃ o,s.heap.get? b=some o/\∀ v,o.data≠.cell v):aD X (ak++CT fp s.heap) σ H s:=I.aci λp j=>(nM.mp j).elim (λz=>I.pin p (pN _ z)) λz=>by obtain ⟨a,e⟩:=aiA z;obtain ⟨f0,i,g,_⟩:=hf p.1 a;obtain ⟨o,c,d⟩:=ho p.1 a;rw [e] at c;cases c;exact ⟨e,f0,i,g,d⟩
theorem aD.Et {pl:List (Addr×Obj)} {σ:St} {H:Hp} (I:aD X (ak++pl) σ H s):aD X ak σ H s:=I.aci λp a=>I.pin p (pN _ (SX _ a))
theorem jx {jo:Expr} {wi:TI} {g:TG} {tb:TS} (hp:PassesOwn (model X.prog X.w) X.A X.env X.xe) (hc:X.calm=true) (hi:PI X tg jo wi) (hg:PG X tg g) (hb:oF X body tb) (hs:∀ x,foldedSetIterable jo X.env x=pure x:=by intro _;rfl):PS X (.For tg jo body [] pos) (arf wi g tb):=by
 intro ak s σ H D I h;refine wpAny_For (bA (hi ak s σ H _ I h) λv s1 h1=>bA h1 λitv s2 h2=>?_) hs;obtain ⟨it,fp,R,J,H2,e,I2,T,B,S,W,⟨m0,w0⟩,p⟩:=h2;subst e
 -- what stays true of the iterator's objects through the loop
 have j:∀ {H':Hp},(∀ b∈fp,H' b=none)->∀ b∈fp,n_ X ak H' b:=λhn b hb=>⟨hn b hb,(S b hb).2⟩;refine codeAny_forLoop_any (λn s'=>∃ i σ' H',aD X ak σ' H' s'/\R i s'.heap/\(∀ b∈fp,H' b=none)/\W i n σ' H') ?_ m0 ⟨0,σ,H2,I2,B,λb hb=>(S b hb).1,w0⟩;rintro n s3 ⟨i,σ3,z,V,y,Ad,w3⟩;rcases p i n σ3 z w3 with ⟨t,qn⟩|⟨go,N,hN,step⟩
 ·refine zM hp (bA (T.done X rfl rfl rfl hc i ak s3 σ3 z X.xe V (j Ad) y t) λr s4 ⟨hr,I4⟩=>?_);subst hr;exact CK ⟨σ3,z,I4,qn⟩
 ·refine zM hp (bA (T.item X rfl rfl rfl hc i ak s3 σ3 z X.xe V (j Ad) y go) λr s4 ⟨u,hr,h4⟩=>?_);subst hr;refine zM hp (bA h4 λ_ U ⟨x,Y,I5,r5,y5,L,C⟩=>?_);have M:=I5.pinned (j C) (T.obj _ _ L);refine zM hp (bA (hg _ U σ3 Y x u _ M r5 (step x Y y5)) λ_ s6 ⟨σ6,H6,I6,q6⟩=>zM hp (bA (hb _ s6 σ6 H6 _ I6 q6) λf O l=>?_));have a:∀ {σ7:St} {c:Hp},aD X (ak++CT fp U.heap) σ7 c O->N σ7 c->∃ m,m<n/\∃ i σ' H',aD X ak σ' H' O/\R i O.heap/\(∀ b∈fp,H' b=none)/\W i m σ' H':=λ{σ7 c} k q=>by obtain ⟨m',hm,w7⟩:=hN σ7 c q;refine ⟨m',hm,i+1,σ7,c,k.Et,T.keep _ _ _ L λb hb o e=>(k.pin (b,o) (pN _ (pN _ (Ir hb e)))).1,λb hb=>?_,w7⟩;obtain ⟨o,e,d⟩:=T.obj _ _ L b hb;exact (k.pin (b,o) (pN _ (pN _ (Ir hb e)))).2.1
  cases f with
  |next=>obtain ⟨σ7,c,k,q⟩:=l;exact a k q
  |cont=>obtain ⟨σ7,c,k,q⟩:=l;exact a k q
  |brk=>obtain ⟨σ7,c,k,l⟩:=l;exact ⟨σ7,c,k.Et,l⟩
  |ret v=>obtain ⟨x7,σ7,c,k,r7,l⟩:=l;exact ⟨x7,σ7,c,k.Et,r7,l⟩
end
theorem uY {xs:aA} {g:TG} {tb:TS} {D:qK} {σ:St} {H:Hp} (Pv:Nat->St->Hp->Prop) (h0:Pv 0 σ H) (hl:∀ i σ H,i<=xs.length->Pv i σ H->dH K H a xs) (hs:∀ i x σ H,xs[i]?=some x->Pv i σ H->g x σ H λσ2 H2=>tb { D with nx:=Pv (i+1),ct:=Pv (i+1),bk:=D.nx } σ2 H2) (hd:∀ σ H,Pv xs.length σ H->D.nx σ H) : ∃ W:Nat->Nat->St->Hp->Prop,(∃ m,W 0 m σ H)/\∀ i m σ H,W i m σ H ->((yC K a).stop i H/\D.nx σ H)\/((yC K a).go i H/\∃ N:St->Hp->Prop,(∀ σ' H',N σ' H'->∃ m',m'<m/\W (i+1) m' σ' H')/\∀ x H',(yC K a).oG i H x H'->g x σ H' λσ2 H2=>tb { D with nx:=N,ct:=N,bk:=D.nx } σ2 H2):=by
 refine ⟨λi m σ H=>m=xs.length-i/\i<=xs.length/\Pv i σ H,⟨xs.length,by simp,fP _,h0⟩,?_⟩;rintro i m σ H ⟨rfl,hi,p⟩;have q:=hl i σ H hi p;by_cases b:i<xs.length
 ·refine .inr ⟨⟨xs,xs[i],q,by simp [b]⟩,Pv (i+1),λσ' H' c=>⟨xs.length-(i+1),by lk, rfl,b,c⟩,λx H' y=>?_⟩;obtain ⟨e,y⟩:=y;subst e;exact hs i x σ _ (y xs q) p
 ·have e:i=xs.length:=by lk
  subst e;exact .inl ⟨⟨xs,q,bI _⟩,hd σ H p⟩
theorem acj {xs:aA} {g:TG} {tb:TS} {D:qK} {σ:St} {H:Hp} (Pv:Nat->St->Hp->Prop) (h0:Pv 0 σ H) (hl:∀ i σ H,i<=xs.length->Pv i σ H->gF K H a xs) (hs:∀ i x σ H,xs[i]?=some x->Pv i σ H->g x σ H λσ2 H2=>tb { D with nx:=Pv (i+1),ct:=Pv (i+1),bk:=D.nx } σ2 H2) (hd:∀ σ H,Pv xs.length σ H->D.nx σ H) : ∃ W:Nat->Nat->St->Hp->Prop,(∃ m,W 0 m σ H)/\∀ i m σ H,W i m σ H ->((yD K a).stop i H/\D.nx σ H)\/((yD K a).go i H/\∃ N:St->Hp->Prop,(∀ σ' H',N σ' H'->∃ m',m'<m/\W (i+1) m' σ' H')/\∀ x H',(yD K a).oG i H x H'->g x σ H' λσ2 H2=>tb { D with nx:=N,ct:=N,bk:=D.nx } σ2 H2):=by
 refine ⟨λi m σ H=>m=xs.length-i/\i<=xs.length/\Pv i σ H,⟨xs.length,by simp,fP _,h0⟩,?_⟩;rintro i m σ H ⟨rfl,hi,p⟩;have q:=hl i σ H hi p;by_cases b:i<xs.length
 ·refine .inr ⟨⟨xs,xs[i],q,by simp [b]⟩,Pv (i+1),λσ' H' c=>⟨xs.length-(i+1),by lk, rfl,b,c⟩,λx H' y=>?_⟩;obtain ⟨e,y⟩:=y;subst e;exact hs i x σ _ (y xs q) p
 ·have e:i=xs.length:=by lk
  subst e;exact .inl ⟨⟨xs,q,bI _⟩,hd σ H p⟩
theorem Iz {g:TG} {tb:TS} {D:qK} {σ:St} {H:Hp} (Pv:Nat->St->Hp->Prop) (h0:Pv 0 σ H) (hs:∀ i σ H,i<n->Pv i σ H->g (.int (lo+i)) σ H λσ2 H2=>tb { D with nx:=Pv (i+1),ct:=Pv (i+1),bk:=D.nx } σ2 H2) (hd:∀ σ H,Pv n σ H->D.nx σ H) : ∃ W:Nat->Nat->St->Hp->Prop,(∃ m,W 0 m σ H)/\∀ i m σ H,W i m σ H ->((uN lo n).stop i H/\D.nx σ H)\/((uN lo n).go i H/\∃ N:St->Hp->Prop,(∀ σ' H',N σ' H'->∃ m',m'<m/\W (i+1) m' σ' H')/\∀ x H',(uN lo n).oG i H x H'->g x σ H' λσ2 H2=>tb { D with nx:=N,ct:=N,bk:=D.nx } σ2 H2):=by
 refine ⟨λi m σ H=>m=n-i/\i<=n/\Pv i σ H,⟨n,by simp,fP _,h0⟩,?_⟩;rintro i m σ H ⟨rfl,hi,p⟩;by_cases a:i<n
 ·refine .inr ⟨a,Pv (i+1),λσ' H' b=>⟨n-(i+1),by lk, rfl,a,b⟩,λx H' y=>?_⟩;obtain ⟨e,y⟩:=y;subst e y;exact hs i σ _ a p
 ·have e:i=n:=by lk
  subst e;exact .inl ⟨bI _,hd σ H p⟩
abbrev R2:=V->V->Hp->VK->Prop
def dO (X:Cx) (f:Value->Value->Sem Value) (r:R2):Prop :=
 ∀ (ak:List (Addr×Obj)) (s:Shared) (σ:St) (H:Hp) (x y:V) (v u:Value) (Q:VK),aD X ak σ H s->cA x v->cA y u->r x y H Q ->
  wpAny (model X.prog X.w) X.A (f v u) (EP X ak σ Q) X.xe s
def Vb (X:Cx) (f:Value->Sem Value) (r:V->Hp->VK->Prop):Prop :=
 ∀ (ak:List (Addr×Obj)) (s:Shared) (σ:St) (H:Hp) (x:V) (v:Value) (Q:VK),aD X ak σ H s->cA x v->r x H Q ->
  wpAny (model X.prog X.w) X.A (f v) (EP X ak σ Q) X.xe s
def jz (X:Cx) (f:Value) (r:aA->Hp->VK->Prop):Prop :=
 ∀ (ak:List (Addr×Obj)) (s:Shared) (σ:St) (H:Hp) (xs:aA) (us:bV) (Q:VK),aD X ak σ H s->bO xs us->r xs H Q ->
  wpAny (model X.prog X.w) X.A (call f us) (EP X ak σ Q) X.xe s
def arh (X:Cx) (r:V->Hp->(Bool->Hp->Prop)->Prop):Prop :=
 ∀ (ak:List (Addr×Obj)) (s:Shared) (σ:St) (H:Hp) (x:V) (v:Value) (Q:Bool->Hp->Prop),aD X ak σ H s->cA x v->r x H Q ->
  wpAny (model X.prog X.w) X.A (truthy v) (TP X ak σ Q) X.xe s
def lO (r:R2) (ta tb:TE):TE:=λσ H Q=>ta σ H λx H1=>tb σ H1 λy H2=>r x y H2 Q
def tUn (r:V->Hp->VK->Prop) (ta:TE):TE:=λσ H Q=>ta σ H λx H1=>r x H1 Q
inductive RIP (C:Int->Int->Prop) (g:Int->Int->V) (x:V) (y:V) (H:Hp) (Q:VK):Prop
 |mk (i:_) (j:_) (h1:x=.int i) (h2:y=.int j) (h3:C i j) (h4:Q (g i j) H)
def rI (C:Int->Int->Prop) (g:Int->Int->V):R2:=λx y H Q=>RIP C g x y H Q
inductive ari (g:Int->Int->V) (x:V) (y:V) (H:Hp) (Q:VK):Prop
 |mk (i:_) (j:_) (h1:x=.int i) (h2:y=.int j) (h3:Q (g i j) H)
def uO (g:Int->Int->V):R2:=λx y H Q=>ari g x y H Q
inductive RUP (g:Int->V) (x:V) (H:Hp) (Q:VK):Prop
 |mk (i:_) (h1:x=.int i) (h2:Q (g i) H)
def rU (g:Int->V):V->Hp->VK->Prop:=λx H Q=>RUP g x H Q
section
variable {X:Cx} {a b c:Expr} {ta tb tc:TE}
theorem Uv (ha:PE X a ta) (hb:PE X b tb) {σ:St} {H:Hp} {R:V->V->Hp->Prop} (I:aD X ak σ H s) (h:ta σ H λx H1=>tb σ H1 λy H2=>R x y H2) {f:Value->Value->Sem Value} (hf:∀ v u s2 x y H2,aD X ak σ H2 s2->cA x v->cA y u->R x y H2->wpAny (model X.prog X.w) X.A (f v u) Q X.xe s2) : wpAny (model X.prog X.w) X.A (eval a X.env) (λv s₁=>wpAny (model X.prog X.w) X.A (eval b X.env) (λu s₂=>wpAny (model X.prog X.w) X.A (f v u) Q X.xe s₂) X.xe s₁) X.xe s:=by exact bA (ha ak s σ H _ I h) λv i ⟨x,H1,k,c,d⟩=>bA (hb ak i σ H1 _ k d) λu s2 ⟨y,H2,e,j,g⟩=>hf v u s2 x y H2 e c j g
theorem bD {op:Operator} {r:R2} (ho:dO X (binaryOp op) r) (ha:PE X a ta) (hb:PE X b tb):PE X (.BinOp a op b pos) (lO r ta tb):=by intro ak s σ H Q I h;exact wpAny_BinOp (Uv ha hb I h λv u d x y H2 e c g q=>ho ak d σ H2 x y v u Q e c g q)
theorem adY {op:UnaryOp} {r:V->Hp->VK->Prop} (ho:Vb X (unaryOp op) r) (ha:PE X a ta):PE X (.UnaryOp op a pos) (tUn r ta):=by intro ak s σ H Q I h;exact UnaryOp_ (bA (ha ak s σ H _ I h) λv d ⟨x,H1,e,b,c⟩=>ho ak d σ H1 x v Q e b c)
theorem DP {f:Value->Value->Sem Value} {C:Int->Int->Prop} {g:Int->Int->Int} (rule:∀ (i j:Int) (t u:Tok) (s:Shared) (Q:lF) (E:lF),C i j->Q (.int (g i j) s.toks) { s with toks:=s.toks+1 }->wpAny (model X.prog X.w) X.A (f (.int i t) (.int j u)) Q E s) : dO X f (rI C λi j=>.int (g i j)):=by rintro ak s σ H x y v u Q I b c ⟨i,j,rfl,rfl,a,q⟩;obtain ⟨t,rfl⟩:=b;obtain ⟨t',rfl⟩:=c;exact rule i j t t' s _ _ a ⟨.int (g i j),H,I.tok _,⟨_,rfl⟩,q⟩
theorem ael {f:Value->Value->Sem Value} {g:Int->Int->Int} (rule:∀ (i j:Int) (t u:Tok) (s:Shared) (Q:lF) (E:lF),Q (.int (g i j) s.toks) { s with toks:=s.toks+1 }->wpAny (model X.prog X.w) X.A (f (.int i t) (.int j u)) Q E s) : dO X f (uO λi j=>.int (g i j)):=by rintro ak s σ H x y v u Q I a b ⟨i,j,rfl,rfl,q⟩;obtain ⟨t,rfl⟩:=a;obtain ⟨t',rfl⟩:=b;exact rule i j t t' s _ _ ⟨.int (g i j),H,I.tok _,⟨_,rfl⟩,q⟩
theorem Lz {f:Value->Value->Sem Value} {g:Int->Int->Bool} (rule:∀ (i j:Int) (t u:Tok) (s:Shared) (Q:lF) (E:lF),Q (.bool (g i j)) s->wpAny (model X.prog X.w) X.A (f (.int i t) (.int j u)) Q E s) : dO X f (uO λi j=>.bl (g i j)):=by rintro ak s σ H x y v u Q I a b ⟨i,j,rfl,rfl,q⟩;obtain ⟨t,rfl⟩:=a;obtain ⟨t',rfl⟩:=b;exact rule i j t t' s _ _ ⟨.bl (g i j),H,I,rfl,q⟩
def Uw (i j:Int):Prop:=0<j/\j<1073741824
def aem (i j:Int):Prop:=0<=j/\j<=1000000/\i.natAbs<2 ^ 64
def Dp (i j:Int):Prop:=(-(2 ^ 64)<i/\i<2 ^ 64)\/(-(2 ^ 64)<j/\j<2 ^ 64)
theorem Dp.ok {i j:Int} (h:Dp i j):IntMulOk i j:=by
 rcases h with ⟨h1,h2⟩|⟨h1,h2⟩
 ·exact .of_left (intBits_le_64 h1 h2)
 ·exact .of_right (intBits_le_64 h1 h2)
theorem jQ:dO X (binaryOp .Add) (uO λi j=>.int (i+j)):=ael λ_ _ _ _ _ _ _ q=>add_int q
theorem qR:dO X (binaryOp .Sub) (uO λi j=>.int (i-j)):=ael λ_ _ _ _ _ _ _ q=>sub_int q
theorem pP:dO X (binaryOp .Mult) (rI Dp λi j=>.int (i*j)):=DP λ_ _ _ _ _ _ _ a q=>mul_int q a.ok
theorem xK:dO X (binaryOp .FloorDiv) (rI Uw λi j=>.int (i / j)):=DP λi j _ _ _ _ _ a q=>by have h1:(0:Int)<j:=a.1;have h2:j<1073741824:=a.2;exact floordiv_int (by lk) (by rw [S_ i (by lk)];exact q) (.inl (adi (by lk)))
theorem nU:dO X (binaryOp .Mod) (rI (λ_ j=>0<j) λi j=>.int (i % j)):=DP λi j _ _ _ _ _ a q=>by have h1:(0:Int)<j:=a;exact mod_int' (by lk) (by rw [Int.fmod_eq_emod_of_nonneg i (by lk)];exact q)
theorem adp:dO X (binaryOp .Pow) (rI aem λi j=>.int (i ^ j.toNat)):=DP λ_ _ _ _ _ _ _ a q=>pow_int_small a.1 a.2.1 a.2.2 q
theorem akG:dO X (inplaceOp .FloorDiv) (rI Uw λi j=>.int (i / j)):=DP λi j _ _ _ _ _ a q=>by have h1:(0:Int)<j:=a.1;have h2:j<1073741824:=a.2;exact ifloordiv_int (by lk) (by rw [S_ i (by lk)];exact q) (.inl (adi (by lk)))
theorem unI {f:Value->Sem Value} {g:Int->Int} (rule:∀ (i:Int) (t:Tok) (s:Shared) (Q:lF) (E:lF),Q (.int (g i) s.toks) { s with toks:=s.toks+1 }->wpAny (model X.prog X.w) X.A (f (.int i t)) Q E s) : Vb X f (rU λi=>.int (g i)):=by rintro ak s σ H x v Q I a ⟨i,rfl,q⟩;obtain ⟨t,rfl⟩:=a;exact rule i t s _ _ ⟨.int (g i),H,I.tok _,⟨_,rfl⟩,q⟩
theorem adq:Vb X (unaryOp .USub) (rU λi=>.int (-i)):=unI λ_ _ _ _ _ q=>neg_int q
end
def aen:V->V->Bool
 |.non,.non=>true|.non,.int _=>true|.int _,.non=>true|.non,.bl _=>true|.bl _,.non=>true|.non,.str _=>true|.str _,.non=>true
 |.int _,.int _=>true|.bl _,.bl _=>true|.str _,.str _=>true|.pG _,.pG _=>true
 |.int _,.str _=>true|.str _,.int _=>true|.bl _,.str _=>true|.str _,.bl _=>true
 |_,_=>false
inductive aeo (x:V) (y:V) (H:Hp) (Q:VK):Prop
 |mk  (h1:aen x y=true) (h2:Q (.bl (decide (x=y))) H)
def rEq:R2:=λx y H Q=>aeo  x y H Q
inductive aep (x:V) (y:V) (H:Hp) (Q:VK):Prop
 |mk  (h1:aen x y=true) (h2:Q (.bl (!decide (x=y))) H)
def rNe:R2:=λx y H Q=>aep  x y H Q
theorem acn {i j:Int}:decide (V.int i=V.int j)=(i == j):=by rw [ug];simp
theorem adt {i j:Bool}:decide (V.bl i=V.bl j)=(i == j):=by rw [ug];simp
theorem aco {i j:Str}:decide (V.str i=V.str j)=(i == j):=by rw [ug];simp
theorem acp {i j:Array UInt8}:decide (V.pG i=V.pG j)=(i.toList == j.toList):=by rw [ug];cases i;cases j;simp
section
variable {X:Cx} {a b c:Expr} {ta tb tc:TE}
theorem gB {σ:St} {H:Hp} {Q:VK} {k k':Bool} (I:aD X ak σ H s) (q:Q (.bl k) H) (e:k=k'):EP X ak σ Q (.bool k') s:=by subst e;exact ⟨.bl k,H,I,rfl,q⟩
theorem iU:dO X (compareOp .Eq) rEq:=by
 rintro ak s σ H x y v u Q I c a ⟨b,q⟩;cases x with
 |non =>
  cases c;cases y with
  |non=>cases a;exact PySem.EqNone.eq_none_none (gB I q (by simp))
  |bl j=>cases a;exact PySem.EqNone.eq_none_bool (gB I q (by simp))
  |int j=>obtain ⟨t',rfl⟩:=a;exact PySem.EqNone.eq_none_int (gB I q (by simp))
  |str j=>obtain ⟨t',rfl⟩:=a;exact PySem.EqNone.eq_none_str (gB I q (by simp))
  |_=>exact absurd (show false=true from b) iQ
 |bl i =>
  cases c;cases y with
  |non=>cases a;exact PySem.EqNone.eq_bool_none (gB I q (by simp))
  |bl j=>cases a;exact eq_bool (gB I q adt)
  |str j=>obtain ⟨t',rfl⟩:=a;exact PySem.EqMixed.eq_bool_str (gB I q (by simp))
  |_=>exact absurd (show false=true from b) iQ
 |int i =>
  obtain ⟨t,rfl⟩:=c;cases y with
  |non=>cases a;exact PySem.EqNone.eq_int_none (gB I q (by simp))
  |int j=>obtain ⟨t',rfl⟩:=a;exact eq_int (gB I q acn)
  |str j=>obtain ⟨t',rfl⟩:=a;exact PySem.EqMixed.eq_int_str (gB I q (by simp))
  |_=>exact absurd (show false=true from b) iQ
 |str i =>
  obtain ⟨t,rfl⟩:=c;cases y with
  |non=>cases a;exact PySem.EqNone.eq_str_none (gB I q (by simp))
  |bl j=>cases a;exact PySem.EqMixed.eq_str_bool (gB I q (by simp))
  |int j=>obtain ⟨t',rfl⟩:=a;exact PySem.EqMixed.eq_str_int (gB I q (by simp))
  |str j=>obtain ⟨t',rfl⟩:=a;exact eq_str (gB I q aco)
  |_=>exact absurd (show false=true from b) iQ
 |pG i =>
  obtain ⟨t,rfl⟩:=c;cases y with
  |pG j=>obtain ⟨t',rfl⟩:=a;exact PySem.W.eq_bytes (gB I q acp)
  |_=>exact absurd (show false=true from b) iQ
 |_=>cases y<;>exact absurd (show false=true from b) iQ
theorem mj:dO X (compareOp .NotEq) rNe:=by
 rintro ak s σ H x y v u Q I c a ⟨b,q⟩;cases x with
 |non =>
  cases c;cases y with
  |non=>cases a;exact PySem.EqNone.ne_none_none (gB I q (by simp))
  |bl j=>cases a;exact PySem.EqNone.ne_none_bool (gB I q (by simp))
  |int j=>obtain ⟨t',rfl⟩:=a;exact PySem.EqNone.ne_none_int (gB I q (by simp))
  |str j=>obtain ⟨t',rfl⟩:=a;exact PySem.EqNone.ne_none_str (gB I q (by simp))
  |_=>exact absurd (show false=true from b) iQ
 |bl i =>
  cases c;cases y with
  |non=>cases a;exact PySem.EqNone.ne_bool_none (gB I q (by simp))
  |bl j=>cases a;exact ne_bool (gB I q (je not adt))
  |str j=>obtain ⟨t',rfl⟩:=a;exact PySem.EqMixed.ne_bool_str (gB I q (by simp))
  |_=>exact absurd (show false=true from b) iQ
 |int i =>
  obtain ⟨t,rfl⟩:=c;cases y with
  |non=>cases a;exact PySem.EqNone.ne_int_none (gB I q (by simp))
  |int j=>obtain ⟨t',rfl⟩:=a;exact ne_int (gB I q (je not acn))
  |str j=>obtain ⟨t',rfl⟩:=a;exact PySem.EqMixed.ne_int_str (gB I q (by simp))
  |_=>exact absurd (show false=true from b) iQ
 |str i =>
  obtain ⟨t,rfl⟩:=c;cases y with
  |non=>cases a;exact PySem.EqNone.ne_str_none (gB I q (by simp))
  |bl j=>cases a;exact PySem.EqMixed.ne_str_bool (gB I q (by simp))
  |int j=>obtain ⟨t',rfl⟩:=a;exact PySem.EqMixed.ne_str_int (gB I q (by simp))
  |str j=>obtain ⟨t',rfl⟩:=a;exact ne_str (gB I q (je not aco))
  |_=>exact absurd (show false=true from b) iQ
 |pG i =>
  obtain ⟨t,rfl⟩:=c;cases y with
  |pG j=>obtain ⟨t',rfl⟩:=a;exact PySem.W.ne_bytes (gB I q (je not acp))
  |_=>exact absurd (show false=true from b) iQ
 |_=>cases y<;>exact absurd (show false=true from b) iQ
theorem adZ:dO X (compareOp .Lt) (uO λi j=>.bl (decide (i<j))):=Lz λ_ _ _ _ _ _ _ q=>lt_int q
theorem uz:dO X (compareOp .LtE) (uO λi j=>.bl (decide (i<=j))):=Lz λ_ _ _ _ _ _ _ q=>le_int q
theorem vQ:dO X (compareOp .Gt) (uO λi j=>.bl (decide (j<i))):=Lz λ_ _ _ _ _ _ _ q=>gt_int q
theorem T8:dO X (compareOp .GtE) (uO λi j=>.bl (decide (j<=i))):=Lz λ_ _ _ _ _ _ _ q=>ge_int q
theorem aaw:dO X (compareOp .In) (λx y H Q=>∃ i j,x=.str i/\y=.str j/\Q (.bl (!(occurrences j i 0 j.length 1).isEmpty)) H):=by rintro ak s σ H x y v u Q I a b ⟨i,j,rfl,rfl,q⟩;obtain ⟨t,rfl⟩:=a;obtain ⟨t',rfl⟩:=b;exact in_str (gB I q rfl)
theorem adu:dO X (compareOp .Is) (λx y H Q=>y=.non/\Q (.bl (decide (x=.non))) H):=by
 rintro ak s σ H x y v u Q I a b ⟨rfl,q⟩;cases b;refine is_none_gen (gB I q ?_);cases x<;>first
  |(cases a;rfl)
  |(obtain ⟨t,rfl⟩:=a;rfl)
theorem acq:dO X (compareOp .IsNot) (λx y H Q=>y=.non/\Q (.bl (!decide (x=.non))) H):=by
 rintro ak s σ H x y v u Q I a b ⟨rfl,q⟩;cases b;refine isnot_none_gen (gB I q ?_);cases x<;>first
  |(cases a;rfl)
  |(obtain ⟨t,rfl⟩:=a;rfl)
theorem adv (b:Expr) (h:op≠.In:=by decide) (h2:op≠.NotIn:=by decide):behindInMarks op b=false:=by
 have a:(op == CmpOp.In)=false:=by cases op<;>first|rfl|exact absurd rfl h
 have c:(op == CmpOp.NotIn)=false:=by cases op<;>first|rfl|exact absurd rfl h2
 cases b<;>simp [behindInMarks,a,c]
theorem Ko {r:R2} (ho:dO X (compareOp op) r) (ha:PE X a ta) (hb:PE X b tb) (hm:behindInMarks op b=false):PE X (.Compare a [op] [b] pos) (lO r ta tb):=by intro ak s σ H Q I h;exact wpAny_Compare1 (Uv ha hb I h λv u d x y H2 e c g q=>ho ak d σ H2 x y v u Q e c g q) hm
def Gp (t:TE):TT:=λσ H Q=>t σ H λx H'=>Gz x H' Q
theorem zy {r:R2} (ho:dO X (compareOp op) r) (ha:PE X a ta) (hb:PE X b tb) (hm:behindInMarks op b=false):PT X (.Compare a [op] [b] pos) (Gp (lO r ta tb)):=by
 intro ak s σ H Q I h;refine wpAny_isTrue_Compare1 (bA (ha ak s σ H _ I h) λv j ⟨x,H1,n,t,p⟩=>bA (hb ak j σ H1 _ n p) λu o ⟨y,H2,d,m,g⟩ =>
  bA (ho ak o σ H2 x y v u _ d t m g) λc C ⟨z,B,l,i,k,e,q⟩=>?_) hm
 subst e;cases i;exact qI ⟨B,l,q⟩
def adw (r r':R2) (ta tb tc:TE):TE:=λσ H Q=>ta σ H λx H1=>tb σ H1 λy H2=>r x y H2 λz a=>∃ k,z=.bl k /\
 (if k=true then tc σ a λb c=>r' y b c Q else Q (.bl false) a)
theorem abb {op':CmpOp} {r r':R2} (ho:dO X (compareOp op) r) (ho':dO X (compareOp op') r') (ha:PE X a ta) (hb:PE X b tb) (hc:PE X c tc) (hm:lastMarks [op,op'] [b,c]=false:=by with_unfolding_all rfl):PE X (.Compare a [op,op'] [b,c] pos) (adw r r' ta tb tc):=by
 intro ak s σ H Q I h;refine Compare_chain (bA (ha ak s σ H _ I h) λv q ⟨x,H1,J,N,M⟩=>chain_link (bA (hb ak q σ H1 _ J M) λu L ⟨y,H2,n,i,o⟩ =>
  bA (ho ak L σ H2 x y v u _ n N i o) λd C ⟨z,l,g,p,k,e,j⟩=>?_)) hm
 subst e;cases p;refine qI ?_;cases k with
 |false=>exact ite_ff ⟨.bl false,l,g,rfl,j⟩
 |true=>exact ite_tt (chain_last (bA (hc ak C σ l _ g j) λt D ⟨S,O,B,R,m⟩=>ho' ak D σ O y S u t Q B i R m))
theorem QC {op':CmpOp} {r r':R2} (ho:dO X (compareOp op) r) (ho':dO X (compareOp op') r') (ha:PE X a ta) (hb:PE X b tb) (hc:PE X c tc) (hm:lastMarks [op,op'] [b,c]=false:=by with_unfolding_all rfl):PT X (.Compare a [op,op'] [b,c] pos) (Gp (adw r r' ta tb tc)):=by
 intro ak s σ H Q I h;refine isTrue_chain (bA (ha ak s σ H _ I h) λv t ⟨x,H1,M,Y,R⟩=>test_link (bA (hb ak t σ H1 _ M R) λu N ⟨y,H2,n,i,o⟩ =>
  bA (ho ak N σ H2 x y v u _ n Y i o) λd D ⟨z,l,g,q,k,e,j⟩=>?_)) hm
 subst e;cases q;refine qI ?_;cases k with
 |false =>obtain ⟨k',L,V⟩:=j;cases L;exact ite_ff ⟨l,g,V⟩
 |true =>refine ite_tt (test_last (bA (hc ak D σ l _ g j) λB J ⟨z',H4,C,r4,m⟩=>bA (ho' ak J σ H4 y z' u B _ C i r4 m) λd' s5 ⟨z2,W,O,p,k2,S,U⟩=>?_));subst S;cases p;exact qI ⟨W,O,U⟩
def Ux (K:bG) (x:V) (H:Hp) (k:Bool):Prop :=
 match x with
 |.non=>k=false
 |.bl b=>k=b
 |.int i=>k=(i != 0)
 |.str y=>y.length<=sizeLine/\k=((y.length:Int) != 0)
 |.pG y=>y.size<=sizeLine/\k=((y.size:Int) != 0)
 |.ref p=>(∃ xs,dH K H p xs/\k=!xs.isEmpty)\/(∃ xs,gF K H p xs/\k=!xs.isEmpty)\/∃ aY,H p=some (.dK aY)/\k=!aY.isEmpty
 |_=>False
theorem ahh {κ:Type} {aY:List (κ×V)} {vs:List (κ×Value)} (r:KV aY vs):(!vs.isEmpty)=!aY.isEmpty:=by cases r<;>rfl
theorem Z8 {xs:aA} (r:bO xs aJ):(!aJ.toArray.isEmpty)=!xs.isEmpty:=by cases r<;>simp
theorem xX:(sizeLine:Nat)<2 ^ 63:=by rw [vC];decide
theorem adx:arh X (λx H Q=>∃ k,Ux X.K x H k/\Q k H):=by
 rintro ak s σ H x v Q I c ⟨k,e,q⟩;have u:=xX;have o:sizeLine=16777216:=vC;cases x with
 |non =>cases c;have a:k=false:=e;subst a;exact truthy_none ⟨H,I,q⟩
 |bl b =>cases c;have a:k=b:=e;subst a;exact qI ⟨H,I,q⟩
 |int i =>obtain ⟨t,rfl⟩:=c;have a:k=(i != 0):=e;subst a;exact PySem.P.truthy_int ⟨H,I,q⟩
 |str y =>obtain ⟨t,rfl⟩:=c;obtain ⟨n,a⟩:y.length<=sizeLine/\k=((y.length:Int) != 0):=e;subst a;exact PySem.P.truthy_str (by lk) ⟨H,I.tok _,q⟩
 |pG y =>obtain ⟨t,rfl⟩:=c;obtain ⟨n,a⟩:y.size<=sizeLine/\k=((y.size:Int) != 0):=e;subst a;exact PySem.W.truthy_bytes (by lk) ⟨H,I.tok _,q⟩
 |ref p =>
  cases c;have a:(∃ xs,dH X.K H p xs/\k=!xs.isEmpty)\/(∃ xs,gF X.K H p xs/\k=!xs.isEmpty)\/∃ aY,H p=some (.dK aY)/\k=!aY.isEmpty:=e;rcases a with ⟨xs,d,a⟩|⟨xs,d,a⟩|⟨aY,d,a⟩
  ·subst a;obtain ⟨aJ,r,pl,g⟩:=I.list d;have j:=r.length;exact wpAny_truthy_list pl.isList (by simp only [gU];lk) ⟨H,I.tok _,by rw [Z8 r];exact q⟩
  ·subst a;obtain ⟨aJ,r,pl,g⟩:=I.tuple d;have j:=r.length;exact truthy_tuple pl (by simp only [gU];lk) ⟨H,I.tok _,by rw [Z8 r];exact q⟩
  ·subst a;obtain ⟨g,l,vs,r,m⟩:aY.length<=sizeLine/\(p == sysModules)=false/\∃ vs,KV aY vs/\s.heap.DictOf (kE X.prog X.w) p vs:=I.hok p _ d;have j:aY.length=vs.length:=o7 r;exact wpAny_truthy_dict l m (by lk) ⟨H,I.tok _,by rw [ahh r];exact q⟩
 |_=>exact (show False from e).elim
theorem akH (ha:PE X a ta) (he:∀ whole,isTrue a X.env whole=(do let v <-whole;standAt a.pos;holding [v] (truthy v))) : PT X a (λσ H Q=>ta σ H λx H'=>∃ k,Ux X.K x H' k/\Q k H'):=by intro ak s σ H Q I h;exact isTrue_plain (bA (ha ak s σ H _ I h) λv d ⟨x,H1,e,b,c⟩=>adx ak d σ H1 x v Q e b c) (he _)
theorem jW:dO X (binaryOp .Add) (λx y H Q=>∃ i j,x=.str i/\y=.str j/\i.length+j.length<=sizeLine/\Q (.str (i++j)) H):=by rintro ak s σ H x y v u Q I b c ⟨i,j,rfl,rfl,a,q⟩;obtain ⟨t,rfl⟩:=b;obtain ⟨t',rfl⟩:=c;exact add_str (λt' d=>⟨.str (i++j),H,I.tok _,⟨_,rfl⟩,q⟩) a
theorem qH {x:V} (r:bO [x] us):∃ u,us=[u]/\cA x u:=by
 cases r with
 |cons a b=>cases b;exact ⟨_,rfl,a⟩
theorem Kq {x y:V} (r:bO [x,y] us):∃ u w',us=[u,w']/\cA x u/\cA y w':=by
 cases r with
 |cons a b =>
  cases b with
  |cons c d=>cases d;exact ⟨_,_,rfl,a,c⟩
inductive agy (K:bG) (xs:aA) (H:Hp) (Q:VK):Prop
 |mk (i:_) (j:_) (h1:xs=[.int i,.int j]) (h2:Q (.int (if j>i then j else i)) H)
theorem P0 (hc:X.calm=true):jz X (.builtin "max") (agy X.K):=by
 rintro ak s σ H xs us Q I r ⟨i,j,rfl,q⟩;obtain ⟨u,b,rfl,⟨t,rfl⟩,⟨t',rfl⟩⟩:=Kq r;refine max_two_ints (I.ok.hd hc) λh' c k=>⟨_,H,I.kept k,?_,q⟩;by_cases a:j>i
 ·rw [aQ a,aQ a];exact ⟨_,rfl⟩
 ·rw [aK a,aK a];exact ⟨_,rfl⟩
inductive agz (K:bG) (xs:aA) (H:Hp) (Q:VK):Prop
 |mk (i:_) (j:_) (h1:xs=[.int i,.int j]) (h2:Q (.int (if j<i then j else i)) H)
theorem aiB (hc:X.calm=true):jz X (.builtin "min") (agz X.K):=by
 rintro ak s σ H xs us Q I r ⟨i,j,rfl,q⟩;obtain ⟨u,b,rfl,⟨t,rfl⟩,⟨t',rfl⟩⟩:=Kq r;refine min_two_ints (I.ok.hd hc) λh' c k=>⟨_,H,I.kept k,?_,q⟩;by_cases a:j<i
 ·rw [aQ a,aQ a];exact ⟨_,rfl⟩
 ·rw [aK a,aK a];exact ⟨_,rfl⟩
theorem aiC:jz X (.type "int") (λxs H Q=>(∃ i,xs=[.int i]/\Q (.int i) H)\/∃ k,xs=[.bl k]/\Q (.int (if k then 1 else 0)) H):=by
 intro ak s σ H xs us Q I r h;rcases h with ⟨i,rfl,q⟩|⟨k,rfl,q⟩
 ·obtain ⟨u,rfl,t,rfl⟩:=qH r;exact call_int_int ⟨.int i,H,I,⟨_,rfl⟩,q⟩
 ·obtain ⟨u,rfl,a⟩:=qH r;cases a;exact call_int_bool ⟨.int (if k then 1 else 0),H,I.tok _,⟨_,rfl⟩,q⟩
inductive Y7 (K:bG) (xs:aA) (H:Hp) (Q:VK):Prop
 |mk (i:_) (h1:xs=[.int i]) (h2:i.natAbs.log2<1920) (h3:Q (.str (toString i)) H)
theorem wQ:jz X (.type "str") (Y7 X.K):=by rintro ak s σ H xs us Q I r ⟨i,rfl,a,q⟩;obtain ⟨u,rfl,t,rfl⟩:=qH r;exact PySem.P.str_of_int a ⟨.str _,H,I.tok _,⟨_,rfl⟩,q⟩
end
structure z6 (h:Heap) (x dx C:Addr) (mA:dR):Prop where
 obj:h.get? x=some (instObj C dx)
 ns:h.Ns1 dx mA
 ne:dx≠x
theorem aiD {dx:Addr} (n:h.Ns1 dx mA):∃ od,h.get? dx=some od/\∀ name,lookIn name od=some (mA name):=by
 obtain ⟨o,es,l,c,k,j,_,g⟩:=n;refine ⟨o,c,λname=>?_⟩;have e:=g name;unfold nsFind findBy at e;rw [<-Array.find?_toList] at e;unfold lookIn;rw [k];dsimp only;split
 ·rename_i y q;rw [q] at e;exact je some e
 ·rename_i q;rw [q] at e;have a:es.toList.any (·.refKey)=false:=by rw [List.any_eq_false];intro y d;obtain ⟨z,t,b⟩:=j y (K1.mp d);simp [DictEntry.refKey,b]
  have i:¬ es.toList.any (·.refKey)=true:=by rw [a];exact iQ
  rw [aK i];exact je some e
theorem z6.look {x dx:Addr} (I:z6 h x dx C mA):∃ od,PySem.W.InstAt h x (instObj C dx) C (some od)/\∀ name,lookIn name od=some (mA name) :=
 let ⟨od,a,b⟩:=aiD I.ns
 ⟨od,⟨I.obj,rfl,rfl,a⟩,b⟩
section
variable {x dx:Addr} {name:Str} {v:Value}
theorem get_map {expr:Bool} (X:K.In s.heap) (I:z6 s.heap x dx C mA) (hg:plainGet K C name=true) (hh:hasDictIn K C=true) (ha:findIn K (.ref C) name=some none) (hv:mA name=some v) (hv':handedIn v=true) (h:Q v { s with toks:=s.toks+1 }) : wpAny (model prog w) A (getAttr (.ref x) name expr) Q E s:=by obtain ⟨od,J,a⟩:=I.look;exact PySem.W.get_value X J (Tc hg).1 (PySem.W.findObj_own hh ha rfl (by rw [a,hv])) hv' h
theorem akI {pl:Sem Bool} {Q:Value×bV->Shared->Prop} (X:K.In s.heap) (I:z6 s.heap x dx C mA) (hg:plainGet K C name=true) (hf:findIn K (.ref C) name=some (some (.ref f))) (ht:isFn K (.ref f)=true) (hv:mA name=none) (h:Q (.ref f,[.ref x]) s) : wpAny (model prog w) A (getMethod (.ref x) name pl) Q E s:=by obtain ⟨od,J,a⟩:=I.look;exact PySem.W.method_fn X J (Tc hg).1 (Tc hg).2 hf (zN.mp ht) (by show (lookIn name od).map (·.isSome)=some false;rw [a,hv];rfl) h
theorem aiE {ns:bK} {Q:CQ} (X:K.In s.heap) (I:z6 s.heap x dx C mA) (hs:findIn K (.ref C) "__setattr__"=some (some (.builtin "object.__setattr__"))) (hp:plainOver K C=true) (ht:takerIn K C name=some none) (hh:hasDictIn K C=true) (hw:PySem.Within mA ns) (hsz:ns.length<=sizeLine) (h:∀ h',z6 h' x dx C (λy=>if y=name then some v else mA y)->SameBut dx s.heap h'->Q () { s with heap:=h',toks:=s.toks+2 }) : wpAny (model prog w) A (setAttr (.ref x) name v) Q E s:=by obtain ⟨od,J,o⟩:=I.look;refine PySem.W.set_plain X J hs (PySem.W.osa_open (s:={ s with toks:=s.toks+1 }) (r:=none) X J hp ht λb=>?_);obtain ⟨cd,k,g⟩:=PySem.W.any_some hh;have l:s.heap.get? x=some ⟨.ref C,some dx,.plain,#[]⟩:=I.obj;refine bf (cY (bf (bf (wpAny_loadPart l (bf (Looks.here (s:={ s with toks:=s.toks+1 }) (PySem.W.looks_clsIn X k) ?_))))));rw [g];refine cY (a:=some dx) (bf (cY (bf (wpAny_nsSet1 (s:={ s with toks:=s.toks+1 }) I.ns λh' d c=>?_))));obtain ⟨p,m,n,i,j,e⟩:=d.count (PySem.Within.cons name v hw);exact bf (wpAny_lookBehind i (by rw [j];exact pastItsLine_dict (gR e (by rw [gw];lk))) (cY (h _ ⟨(c.2 _ (bF I.ne)).trans I.obj,d,I.ne⟩ c)))
theorem akJ (X:K.In s.heap) (hm:makesIn K C=true) (hi:findIn K (.ref C) "__init__"=some (some (.ref f))) (hf:PySem.W.typeIn K (.ref f)=some (.type "function")) (h:codeAny (model prog w) (A.under (.builtin "type.__call__" ⟨.ref C::vs,kw⟩)) (.call (.ref f) ⟨.ref (s.heap.objs.size+1)::vs,kw⟩) (PySem.W.InitBack (s.heap.objs.size+1) R) { s with heap:=(s.heap.push emptyDict).push (instObj C s.heap.objs.size) }) : codeAny (model prog w) A (.call (.ref C) ⟨vs,kw⟩) R s:=by obtain ⟨c,g,d,t,b⟩:=s;exact PySem.W.make_core (PySem.W.makes_of X hm) (PySem.W.looks_findIn X hi) (λa=>PySem.W.bind_fn X a hf) (.inl rfl) h
end
def cZ (f:Str) (v:V):List (Str×V)->List (Str×V)
 |[]=>[(f,v)]
 |(g,x)::r=>if g=f then (g,v)::r else (g,x)::cZ f v r
theorem iJ (f g:Str) (v:V):∀ fs:List (Str×V),(cZ f v fs).lookup g=if g=f then some v else fs.lookup g
 |[]=>by
  show List.lookup g [(f,v)]=_;by_cases h:g=f
  ·have a:(g == f)=true:=zN.mpr h;simp only [List.lookup,a,aQ h]
  ·have a:(g == f)=false:=Dd.mpr h;simp only [List.lookup,a,aK h]
 |(k,x)::r=>by
  have c:=iJ f g v r;rw [show cZ f v ((k,x)::r)=(if k=f then (k,v)::r else (k,x)::cZ f v r) from rfl];by_cases b:k=f
  ·rw [aQ b];by_cases h:g=k
   ·have a:(g == k)=true:=zN.mpr h;simp only [List.lookup,a,aQ (h.trans b)]
   ·have a:(g == k)=false:=Dd.mpr h;simp only [List.lookup,a,aK (λe:g=f=>h (e.trans b.symm))]
  ·rw [aK b];by_cases h:g=k
   ·have a:(g == k)=true:=zN.mpr h;simp only [List.lookup,a,aK (λe:g=f=>b (h.symm.trans e))]
   ·have a:(g == k)=false:=Dd.mpr h;simp only [List.lookup,a];exact c
theorem P_ (f:Str) (v:V):∀ fs:List (Str×V),f∈(cZ f v fs).map (·.1)/\∀ g,g∈fs.map (·.1)->g∈(cZ f v fs).map (·.1)
 |[]=>⟨by simp [cZ],λg h=>by simp at h⟩
 |(k,x)::r=>by
  obtain ⟨i1,i2⟩:=P_ f v r;rw [show cZ f v ((k,x)::r)=(if k=f then (k,v)::r else (k,x)::cZ f v r) from rfl];by_cases a:k=f
  ·rw [aQ a];subst a;exact ⟨by simp,λg h=>by simpa using h⟩
  ·rw [aK a];refine ⟨?_,λg h=>?_⟩
   ·rw [gb];exact fG _ i1
   ·rw [gb] at h ⊢;rcases fW.mp h with e|e
    ·exact fW.mpr (.inl e)
    ·exact fG _ (i2 g e)
theorem Zv (f:Str) (v:V):∀ fs:List (Str×V),(cZ f v fs).length<=fs.length+1
 |[]=>by simp [cZ]
 |(k,x)::r=>by
  have b:=Zv f v r;rw [show cZ f v ((k,x)::r)=(if k=f then (k,v)::r else (k,x)::cZ f v r) from rfl];by_cases a:k=f
  ·rw [aQ a,gw,gw];lk
  ·rw [aK a,gw,gw];lk
theorem mW.some_of {v:V} {o:sH} (r:mW (some v) o):∃ u,o=some u/\cA v u:=by
 cases o with
 |none=>exact (show False from r).elim
 |some u=>exact ⟨u,rfl,r⟩
theorem mW.none_of {o:sH} (r:mW none o):o=none:=by
 cases o with
 |none=>rfl
 |some u=>exact (show False from r).elim
theorem aiF {v:V} (r:cA v u):handedIn u=true:=by
 cases v with
 |non=>cases (show u=Value.none from r);rfl
 |bl b=>cases (show u=Value.bool b from r);rfl
 |int i=>obtain ⟨t,e⟩:=(show ∃ t,u=Value.int i t from r);cases e;rfl
 |str x=>obtain ⟨t,e⟩:=(show ∃ t,u=Value.str x t from r);cases e;rfl
 |pG b=>obtain ⟨t,e⟩:=(show ∃ t,u=bytes b t from r);cases e;rfl
 |flt b=>obtain ⟨t,e⟩:=(show ∃ t,u=float b t from r);cases e;rfl
 |ref a=>cases (show u=Value.ref a from r);rfl
 |ty n=>cases (show u=type n from r);rfl
section
variable {H H':Hp} {h':Heap} {dx:Addr} {fs fs':List (Str×V)}
theorem Kr (hok:gM P w H h) (e:H a=some (.ins C dx fs)):∃ mA,z6 h a dx C mA/\(∀ f,mW (fs.lookup f) (mA f))/\PySem.Within mA (fs.map (·.1))/\fs.length<=1000/\H dx=some (.own a):=by obtain ⟨d,z,b,c,mA,n,r,q⟩:=(show dZ P w H h a (.ins C dx fs) from hok a _ e);exact ⟨mA,⟨c,n,b⟩,r,q,z,d⟩
end
structure nW (K:bG) (C:Addr):Prop where
 pg:plainGet K C empty=true
 hd:hasDictIn K C=true
 po:plainOver K C=true
 sa:findIn K (.ref C) "__setattr__"=some (some (.builtin "object.__setattr__"))
theorem nW.get (c:nW K C) (f:Str):plainGet K C f=true:=c.pg
def pQ (K:bG) (C:Addr) (f:Str):Prop:=findIn K (.ref C) f=some none
theorem pQ.taker {f:Str} (n:pQ K C f):takerIn K C f=some none:=by unfold takerIn;rw [show findIn K (.ref C) f=some none from n];rfl
structure CV (K:bG) (C:Addr) (m:Str) (f:Addr):Prop where
 at_:findIn K (.ref C) m=some (some (.ref f))
 fn:isFn K (.ref f)=true
 kp:keepIn K (.ref f)=true
section
variable {X:Cx} {σ:St} {H:Hp} {dx:Addr} {fs:List (Str×V)} {f:Str} {v:V}
theorem ahi {b:Bool} (I:aD X ak σ H s) (e:H a=some (.ins C dx fs)) (c:nW X.K C) (n:pQ X.K C f) (l:fs.lookup f=some v) (h:∀ u s',aD X ak σ H s'->cA v u->Q u s'):wpAny (model X.prog X.w) A (getAttr (.ref a) f b) Q E s:=by obtain ⟨mA,O,r,_,_,_⟩:=Kr I.hok e;obtain ⟨u,g,d⟩:=mW.some_of (v:=v) (o:=mA f) (by rw [<-l];exact r f);exact get_map I.gn O (c.get f) c.hd n g (aiF d) (h u _ (I.tok _) d)
theorem Pn {m:Str} {g:Addr} {pl:Sem Bool} {Q:Value×bV->Shared->Prop} (I:aD X ak σ H s) (e:H a=some (.ins C dx fs)) (c:nW X.K C) (k:CV X.K C m g) (l:fs.lookup m=none) (h:Q (.ref g,[.ref a]) s):wpAny (model X.prog X.w) A (getMethod (.ref a) m pl) Q E s:=by obtain ⟨mA,O,r,_,_,_⟩:=Kr I.hok e;have b:mA m=none:=mW.none_of (by rw [<-l];exact r m);exact akI I.gn O (c.get m) k.at_ k.fn b h
theorem ahj {y:V} {Q:CQ} (I:aD X ak σ H s) (e:H a=some (.ins C dx fs)) (c:nW X.K C) (n:pQ X.K C f) (hl:fs.length<1000) (ry:cA y u) (h:∀ s',aD X ak σ (upd H a (.ins C dx (cZ f y fs))) s'->Q () s'):wpAny (model X.prog X.w) A (setAttr (.ref a) f u) Q E s:=by
 obtain ⟨mA,O,r,wi,_,i⟩:=Kr I.hok e;have k:(fs.map (·.1)).length<=sizeLine:=by rw [bh,vC];lk
 refine aiE I.gn O c.sa c.po n.taker c.hd wi k λh' d m=>h _ ?_;have t:∃ o,h'.get? dx=some o:=let ⟨o,_,_,l,_⟩:=d.ns;⟨o,l⟩;refine I.write (x:=a) (e:=dx) (by rw [e];exact rZ) (.inr i) (λb q p z=>(m.2 b p).trans z) t ⟨by rw [aV O.ne];exact i,?_,O.ne,d.obj,_,d.ns,λg=>?_,λg j=>?_⟩
 ·have:=Zv f y fs;lk
 ·show mW ((cZ f y fs).lookup g) (if g=f then some u else mA g);rw [iJ];by_cases q:g=f
  ·rw [aQ q,aQ q];exact ry
  ·rw [aK q,aK q];exact r g
 ·by_cases q:g=f
  ·rw [q];exact (P_ f y fs).1
  ·refine (P_ f y fs).2 g (wi g λz=>j ?_);show (if g=f then some u else mA g)=none;rw [aK q];exact z
theorem aD.made (I:aD X ak σ H s):aD X ak σ (upd (upd H s.heap.objs.size (.own (s.heap.objs.size+1))) (s.heap.objs.size+1) (.ins C s.heap.objs.size [])) { s with heap:=(s.heap.push emptyDict).push (instObj C s.heap.objs.size) }:=by
 have c:(s.heap.push emptyDict).get? s.heap.objs.size=some emptyDict:=fQ s.heap rfl;have g:((s.heap.push emptyDict).push (instObj C s.heap.objs.size)).get? (s.heap.objs.size+1)=some (instObj C s.heap.objs.size):=by have:=fQ (s.heap.push emptyDict) (o:=instObj C s.heap.objs.size) rfl;rwa [pO] at this
 have i:(s.heap.push emptyDict).Ns s.heap.objs.size (λ_=>none):=⟨emptyDict,#[],_,c,rfl,(λe k=>absurd k (by simp)),λ_=>rfl⟩;have l:=I.laid (a:=s.heap.objs.size) (o:=.own (s.heap.objs.size+1)) (h':=s.heap.push emptyDict) (t':=s.toks) (λb u q=>dF _ q) (bI _) ⟨_,c⟩;refine l.laid (a:=s.heap.objs.size+1) (o:=.ins C s.heap.objs.size []) (t':=s.toks) (λb u q=>dF _ q) (Td (pO _ _)) ?_;have d:s.heap.objs.size≠s.heap.objs.size+1:=fO (CN _);refine ⟨by rw [aV d,aM],fP _,d,g,λ_=>none,(Heap.Ns1.of_empty i).at λo q=>dF _ q,λ_=>rZ,λy j=>absurd rfl j⟩
theorem amU {f:Str} (hb:attributeBase e f env (eval e env)=eval e env) (h:wpAny (model prog w) A (eval e env) (λo s₁=>wpAny (model prog w) A (getAttr o f true) Q E s₁) E s):wpAny (model prog w) A (eval (.Attribute e f pos) env) Q E s:=Attribute_any_ h (by rw [arm_eval_Attribute,hb])
end
inductive ap_ (K:bG) (f:Str) (x:V) (H:Hp) (Q:VK):Prop
 |mk (a C dx:Addr) (fs:List (Str×V)) (v:V) (e:x=.ref a) (h:H a=some (.ins C dx fs)) (c:nW K C) (n:pQ K C f) (l:fs.lookup f=some v) (q:Q v H)
def z7 (K:bG) (ta:TE) (f:Str):TE:=λσ H Q=>ta σ H λx H1=>ap_ K f x H1 Q
def arj (K:bG) (ta tv:TE) (f:Str):TS:=λD σ H=>tv σ H λy H1=>ta σ H1 λx H2=>∃ a C dx fs,x=.ref a/\H2 a=some (.ins C dx fs)/\nW K C/\pQ K C f/\fs.length<1000 /\
 D.nx σ (upd H2 a (.ins C dx (cZ f y fs)))
section
variable {X:Cx} {o value:Expr} {f:Str} {tpos:Pos} {ta tv:TE}
theorem fX (he:PE X e ta) (hb:attributeBase e f X.env (eval e X.env)=eval e X.env):PE X (.Attribute e f pos) (z7 X.K ta f):=by intro ak s σ H Q I h;refine amU hb (bA (he ak s σ H _ I h) λu j ⟨x,H1,d,g,a,C,dx,fs,v,ex,ea,c,n,l,q⟩=>?_);subst ex;obtain rfl:u=Value.ref a:=g;exact ahi d ea c n l λm k b i=>⟨v,H1,b,i,q⟩
theorem zQ (ha:PE X o ta) (hv:PE X value tv) (hs:swapsWith value (some (.Attribute o f pos')) pos.line X.env=pure false):PS X (.Assign [.Attribute o f pos'] value pos) (arj X.K ta tv f):=by intro ak s σ H D I h;refine plainObj_wpAny_Assign_Attribute (bA (hv ak s σ H _ I h) λu g ⟨y,H1,j,m,q⟩=>bA (ha ak g σ H1 _ j q) λe r ⟨x,H2,b,k,a,C,dx,fs,ex,ea,c,n,l,d⟩=>?_) hs;subst ex;obtain rfl:e=Value.ref a:=k;exact ahj b ea c n l m λp i=>⟨σ,_,i,d⟩
end
section
variable {X:Cx} {σ:St} {H:Hp} {c:Value} {b:Bool}
inductive jg (K:bG) (H:Hp):V->Value->Prop where
 |non:jg K H .non (.type "NoneType")
 |bl (x:Bool):jg K H (.bl x) (.type "bool")
 |int (i:Int):jg K H (.int i) (.type "int")
 |str (x:Str):jg K H (.str x) (.type "str")
 |flt (x:UInt64):jg K H (.flt x) (.type "float")
 |lst {a:Addr} {xs:aA} (e:H a=some (.lst xs)):jg K H (.ref a) (.type "list")
 |oE {a:Addr} {o:Obj} {xs:aA} (e:H a=some (.oE o (.lst xs))):jg K H (.ref a) (.type "list")
 |tup {a:Addr} {xs:aA} (e:H a=some (.tup xs)):jg K H (.ref a) (.type "tuple")
 |dK {a:Addr} {aY:dU} (e:H a=some (.dK aY)):jg K H (.ref a) (.type "dict")
 |dT {a:Addr} {aY:List (List eE×V)} (e:H a=some (.dT aY)):jg K H (.ref a) (.type "dict")
 |ins {a C dx:Addr} {fs:List (Str×V)} (e:H a=some (.ins C dx fs)) (cl:nW K C) (ha:findIn K (.ref C) "__class__"=some (some (.builtin "object.__class__")))
   (hn:PySem.W.specialIn K (.builtin "object.__class__") "__get__"=some (some (.builtin "getset_descriptor.__get__"))) (htk:PySem.W.takesIn K (.builtin "object.__class__")=some true)
   (hm:PySem.W.mroIn K C (.type "object")=some true):jg K H (.ref a) (.ref C)
theorem aiG {x:V} {t:Value} (I:aD X ak σ H s) (rx:cA x u) (ty:jg X.K H x t) (e:kitOne X.K t c=some b) (h:∀ tk,Q (.bool b) { s with toks:=tk }) : wpAny (model X.prog X.w) A (call (.builtin "isinstance") [u,c]) Q E s:=by
 cases ty with
 |non=>cases (show u=Value.none from rx);exact su PySem.W.kitx_none I.gn rZ e (λz=>nomatch z) h
 |bl y=>cases (show u=Value.bool y from rx);exact su PySem.W.kitx_bool I.gn rZ e (λz=>nomatch z) h
 |int i=>obtain ⟨t,q⟩:=(show ∃ t,u=Value.int i t from rx);cases q;exact su PySem.W.kitx_int I.gn rZ e (λz=>nomatch z) h
 |str y=>obtain ⟨t,q⟩:=(show ∃ t,u=Value.str y t from rx);cases q;exact su PySem.W.kitx_str I.gn rZ e (λz=>nomatch z) h
 |flt y=>obtain ⟨t,q⟩:=(show ∃ t,u=float y t from rx);cases q;exact su PySem.W.kitx_float I.gn rZ e (λz=>nomatch z) h
 |@lst a xs ea =>cases (show u=Value.ref a from rx);obtain ⟨_,_,n,_,h1⟩:=(show dZ X.prog X.w H s.heap a (.lst xs) from I.hok a _ ea);exact su Te I.gn ⟨_,h1,rfl⟩ e (λz=>nomatch z) h
 |@oE a l xs ea =>cases (show u=Value.ref a from rx);obtain ⟨_,_,_,n,_,h1⟩:=(show dZ X.prog X.w H s.heap a (.oE l (.lst xs)) from I.hok a _ ea);exact su Te I.gn ⟨_,h1,rfl⟩ e (λz=>nomatch z) h
 |@tup a xs ea =>cases (show u=Value.ref a from rx);obtain ⟨_,_,_,p⟩:=(show dZ X.prog X.w H s.heap a (.tup xs) from I.hok a _ ea);obtain ⟨o,h1,h2,_⟩:=p;exact su PySem.W.kitx_tuple I.gn ⟨o,h1,h2⟩ e (λz=>nomatch z) h
 |@dK a aY ea =>cases (show u=Value.ref a from rx);obtain ⟨_,_,vs,_,p⟩:=(show dZ X.prog X.w H s.heap a (.dK aY) from I.hok a _ ea);obtain ⟨o,es,m,h1,h2,_⟩:=p;exact su PySem.W.kitx_dict I.gn ⟨o,h1,h2.1⟩ e (λz=>nomatch z) h
 |@dT a aY ea =>cases (show u=Value.ref a from rx);obtain ⟨_,_,xs,_,o,es,m,h1,h2,_⟩:=(show dZ X.prog X.w H s.heap a (.dT aY) from I.hok a _ ea);exact su PySem.W.kitx_dict I.gn ⟨o,h1,h2.1⟩ e (λz=>nomatch z) h
 |@ins a C dx fs ea g k j d r =>cases (show u=Value.ref a from rx);obtain ⟨mA,O,_⟩:=Kr I.hok ea;obtain ⟨od,J,_⟩:=O.look;exact su (PySem.W.kitx_own (g.get _) g.hd k j d r) I.gn J e (λz=>nomatch z) h
end
structure eG (k:Nat) (A:Around):Prop where
 hd:A.handled=none
 dp:A.depth+3*k+5<recursionLimit
 un:A.units+16*k+200<cLine
 gd:A.guards=some []
theorem eG.mono {k:Nat} (r:eG k A) (h:j<=k):eG j A:=⟨r.hd,by have:=r.dp;lk, by have:=r.un;lk, r.gd⟩
theorem eG.deeper {k:Nat} (r:eG (k+1) A) (env:Env):eG k (A.deeper env):=⟨r.hd,by have:=r.dp;show A.depth+1+3*k+5<_;lk, by have:=r.un;show A.units+3+16*k+200<_;lk, r.gd⟩
theorem ahk:(A.under (.builtin "type.__call__" ⟨.ref C::us,kw⟩)).depth=A.depth+1:=by
 first|rfl|simp [Around.under,Code.weight,Code.isCreation,Code.isGuard,Code.isCaller,Code.frames,Code.isFrame,guardIds]
theorem ahl:(A.under (.builtin "type.__call__" ⟨.ref C::us,kw⟩)).units=A.units+1:=by
 first|rfl|simp [Around.under,Code.cUnits,Code.frames,Code.isFrame]
theorem agA:(A.under (.builtin "type.__call__" ⟨.ref C::us,kw⟩)).guards=A.guards:=by
 first|rfl|(simp [Around.under,Code.guards,Code.isGuard,guardIds,pushGuards])
theorem eG.make {k:Nat} (r:eG (k+1) A) (C:Addr) (us:bV) (kw:List (Str×Value)):eG k (A.under (.builtin "type.__call__" ⟨.ref C::us,kw⟩)):=⟨r.hd,by have:=r.dp;rw [ahk];lk, by have:=r.un;rw [ahl];lk, by rw [agA];exact r.gd⟩
theorem eG.depth {k:Nat} (r:eG k A):A.depth<recursionLimit:=by have:=r.dp;lk
theorem eG.units {k:Nat} (r:eG k A):A.units+64<cLine:=by have:=r.un;lk
def wB:TA:=λ_ H Q=>Q [] H
def vU (ta:TE) (tr:TA):TA:=λσ H Q=>ta σ H λx H1=>tr σ H1 λxs H2=>Q (x::xs) H2
section
variable {X:Cx} {te:TE} {t:TA}
theorem aq:PA X [] wB:=λ_ _ _ _ H Q I h=>Tf ⟨[],H,I,.nil,h⟩
theorem ao (ha:PE X e te) (hr:PA X es t) (hs:starEach (e::es) X.env=(false,eval e X.env)::starEach es X.env:=by rfl):PA X (e::es) (vU te t):=by intro pos ak s σ H Q I h;rw [hs];show wpAny _ _ (spliced ((false,eval e X.env)::backTo pos (starEach es X.env))) _ _ s;refine Tg (bA (ha ak s σ H _ I h) λu c ⟨x,H1,g,j,i⟩=>?_);exact bA (hr pos ak c σ H1 _ g i) λus k ⟨xs,H2,a,d,b⟩=>⟨x::xs,H2,a,.cons j d,b⟩
def aer (t:TA):TE:=λσ H Q=>t σ H λxs H1=>T7 xs.length (.tup xs) H1 Q
def ark (t:TA):TE:=λσ H Q=>t σ H λxs H1=>T7 xs.length (.lst xs) H1 Q
theorem gZ {x1} (h:PA X es t):PE X (.Tuple es x1 pos) (aer t):=by intro ak s σ H Q I d;refine wpAny_Tuple_spliced (bA (h pos ak s σ H _ I d) λus a ⟨xs,H1,c,r,z,q⟩=>⟨by rw [<-r.length];exact z,?_⟩);have g:H1 a.heap.objs.size=none:=c.hok.fresh (bI _);refine ⟨.ref a.heap.objs.size,upd H1 a.heap.objs.size (.tup xs),c.laid (t':=a.toks) (λb u e=>dF _ e) (bI _) ?_,rfl,q _ g⟩;exact ⟨z,us,r,⟨_,fQ _ rfl,rfl,_,rfl,rfl⟩⟩
theorem fj (h:PA X es t):PE X (.List es pos) (ark t):=by intro ak s σ H Q I d;refine wpAny_List_spliced (bA (h pos ak s σ H _ I d) λus a ⟨xs,H1,c,r,z,q⟩=>⟨by rw [<-r.length];exact z,?_⟩);have g:H1 a.heap.objs.size=none:=c.hok.fresh (bI _);refine ⟨.ref a.heap.objs.size,upd H1 a.heap.objs.size (.lst xs),c.laid (t':=a.toks) (λb u e=>dF _ e) (bI _) ?_,rfl,q _ g⟩;exact ⟨z,us,0,r,fQ _ rfl⟩
end
abbrev Sp:=aA->Hp->VK->XK->Prop
abbrev nE (f:aA->Hp->VK->Prop):Sp:=λv H Q _=>f v H Q
abbrev qj:=nQ->Hp->Shared->XK->Value->Shared->Prop
structure z8 (P:Program) (w:World) (K:bG) (mg:dR) (au:Heap) (A:Around) (outer:nQ) (s:Shared) (H:Hp):Prop where
 frames:A.frames=some outer
 mod:Mod K mg au
 bs:∀ b o,au.get? b=some o->s.heap.get? b=some o/\H b=none
 uK:au.objs.size<=s.heap.objs.size
 qb:s.heap.FunFrames au outer
 uL:∀ b∈d7 outer,H b=none
 hok:gM P w H s.heap
 bare:AllBare s.gens
def CE (outer:nQ) (P:Program) (w:World) (H:Hp) (s:Shared) (Q:VK) (u:Value) (s':Shared):Prop :=
 ∃ v H',s'.os=s.os/\AllBare s'.gens/\Un (d7 outer) [] H H' s.heap s'.heap/\gM P w H' s'.heap/\cA v u/\Q v H'
def CR (CX:qj) (outer:nQ) (P:Program) (w:World) (H:Hp) (s:Shared) (Q:VK) (E:XK) (r:Result) (s':Shared):Prop :=
 match r with
 |.ok (.ret u)=>CE outer P w H s Q u s'
 |.ok _=>False
 |.error e=>CX outer H s E e s'
structure dw (P:Program) (w:World) (K:bG) (mg:dR) (au:Heap) (CX:qj) (k:Nat) (f:Addr) (fd:FuncData) (ps:bK) (sp:Sp):Prop where
 len:∀ vs H Q E,sp vs H Q E->vs.length=ps.length
 run:∀ (A:Around) (outer:nQ) (s:Shared) (H:Hp) (args:Args) (us:bV) (vs:aA) (Q:VK) (E:XK),eG k A->z8 P w K mg au A outer s H->BindsTo s fd args (ps.zip us)->bO vs us->sp vs H Q E ->
  codeAny (model P w) A (.call (.ref f) args) (CR CX outer P w H s Q E) s
theorem dw.mono {CX:qj} {k:Nat} {sp:Sp} (F:dw P w K mg au CX j f fd ps sp) (h:j<=k) : dw P w K mg au CX k f fd ps sp:=⟨F.len,λA outer s H a us vs Q E hr=>F.run A outer s H a us vs Q E (hr.mono h)⟩
theorem dw.imp {CX:qj} {k:Nat} {sp uP:Sp} (F:dw P w K mg au CX k f fd ps sp) (h:∀ vs H Q E,uP vs H Q E->sp vs H Q E):dw P w K mg au CX k f fd ps uP:=⟨λvs H Q E q=>F.len vs H Q E (h _ _ _ _ q),λA outer s H a us vs Q E hr d b e c=>F.run A outer s H a us vs Q E hr d b e (h _ _ _ _ c)⟩
theorem z8.make {H:Hp} (e:z8 P w K mg au A outer s H) (C:Addr) (us:bV) (kw:List (Str×Value)) : z8 P w K mg au (A.under (.builtin "type.__call__" ⟨.ref C::us,kw⟩)) outer s H:=⟨by first|exact e.frames|(simpa [Around.under,Code.envs,Code.isFrame,pushEnvs] using e.frames),e.mod,e.bs,e.uK,e.qb,e.uL,e.hok,e.bare⟩
section
variable {X:Cx} {σ:St} {H:Hp} {s':Shared}
theorem aD.env0 (I:aD X ak σ H s):z8 X.prog X.w X.K X.mg X.au X.A X.stack s H:=⟨I.ok.frames,I.ok.mod,I.bs,gR I.ok.uK I.sz,I.stack,I.Fx,I.hok,I.bare⟩
theorem aD.after {Q:VK} (I:aD X ak σ H s) (h:CE X.stack X.prog X.w H s Q u s'):EP X ak σ Q u s':=by obtain ⟨v,H',j,a,un,c,r,q⟩:=h;obtain ⟨i,g,d,t,e⟩:=s';obtain rfl:e=s.os:=j;exact ⟨v,H',I.call (h':=i) (g':=g) (d':=d) (t':=t) (ch:=[]) un c a (λb z=>absurd z (by simp)),r,q⟩
end
def La (sp:Sp) (jC:aA) (E:XK) (t:TA):TE:=λσ H Q=>t σ H λvs H1=>sp (vs++jC) H1 Q E
inductive ad0 (C:Addr) (m:Str) (x:V) (H:Hp) (Q:Prop):Prop
 |mk (a dx:Addr) (fs:List (Str×V)) (e:x=.ref a) (h:H a=some (.ins C dx fs)) (n:fs.lookup m=none) (q:Q)
def Lb (C:Addr) (m:Str) (sp:Sp) (jC:aA) (E:XK) (ta:TE) (t:TA):TE:=λσ H Q=>ta σ H λx H1=>ad0 C m x H1 (t σ H1 λvs H2=>sp (x::(vs++jC)) H2 Q E)
def Ld (C:Addr) (sp:Sp) (jC:aA) (E:XK) (t:TA):TE:=λσ H Q=>t σ H λvs H1=>∀ x dx,H1 x=none->H1 dx=none->dx≠x ->
 sp (.ref x::(vs++jC)) (upd (upd H1 dx (.own x)) x (.ins C dx [])) (λv H2=>v=.non/\Q (.ref x) H2) E
def mK (K:bG) (fd:FuncData) (ps:bK) (ds:bV):Prop :=
 ∀ (s:Shared) (us:bV),K.In s.heap->(us++ds).length=ps.length->BindsTo s fd ⟨us,[]⟩ (ps.zip (us++ds))
theorem mK.all (h:∀ us:bV,us.length=ps.length->bindArgs fd ⟨us,[]⟩=pure (ps.zip us)):mK K fd ps []:=λs us _ a=>by rw [nO] at a ⊢;exact .of_eq (h us a)
def uZ (CX:qj) (X:Cx) (E:XK):Prop:=∀ (ak:List (Addr×Obj)) (σ:St) (H:Hp) (s:Shared) (e:Value) (s':Shared),aD X ak σ H s->CX X.stack H s E e s'->X.xe e s'
section
variable {X:Cx} {CX:qj} {k:Nat} {sp:Sp} {jC:aA} {ds:bV} {E:XK} {m:Str} {p apos:Pos} {o:Expr} {ta:TE} {t:TA}
theorem K5 {σ:St} {H:Hp} {Q:VK} {vs:aA} (F:dw X.prog X.w X.K X.mg X.au CX k f fd ps sp) (hr:eG k X.A) (hb:mK X.K fd ps ds) (hd:bO jC ds) (hx:uZ CX X E) (I:aD X ak σ H s) (r:bO vs us) (h:sp (vs++jC) H Q E):wpAny (model X.prog X.w) X.A (call (.ref f) us) (EP X ak σ Q) X.xe s:=by
 have b:bO (vs++jC) (us++ds):=r.append hd;have c:(us++ds).length=ps.length:=by rw [<-b.length];exact F.len _ _ _ _ h
 refine K3 (sE (F.run X.A X.stack s H ⟨us,[]⟩ (us++ds) (vs++jC) Q E hr I.env0 (hb s us I.gn c) b h) λr s' a=>?_);cases r with
 |error e=>exact hx ak σ H s e s' I a
 |ok d =>
  cases d with
  |ret u=>exact I.after a
  |next=>exact elim a
  |brk=>exact elim a
  |cont=>exact elim a
theorem acr (F:dw X.prog X.w X.K X.mg X.au CX k f fd ps sp) (hr:eG k X.A) (hg:Gl X x) (hm:X.mg x=some (.ref f)) (hk:keepIn X.K (.ref f)=true) (hb:mK X.K fd ps ds) (hd:bO jC ds) (hx:uZ CX X E) (ha:PA X (e::es) t) (hdb:(x == ("__debug__":Str))=false:=by decide) (he:starEach (e::es) X.env=(false,eval e X.env)::starEach es X.env:=by rfl) (hpl:(backTo pos (starEach es X.env)).any (·.1)=false:=by rfl) : PE X (.Call (.Name x p) (e::es) [] pos) (La sp jC E t):=by intro ak s σ H Q I h;refine xU (Ca I hg hm ?_ hdb);refine FZ (h₀:=X.au) I.ok.mod.yu hk (bA (ha pos ak s σ H _ I h) λus b ⟨vs,H1,a,r,q⟩=>⟨a.gn,?_⟩) he hpl;exact K5 F hr hb hd hx a r q
theorem amV {pl:Sem Bool} (he:PE X o ta) (c:nW X.K C) (hm:CV X.K C m f) (F:dw X.prog X.w X.K X.mg X.au CX k f fd ps sp) (hr:eG k X.A) (hb:mK X.K fd ps ds) (hd:bO jC ds) (hx:uZ CX X E) (ha:PA X (e::es) t) (hst:starEach (e::es) X.env=(false,eval e X.env)::starEach es X.env:=by rfl) (hpl:(backTo pos (starEach es X.env)).any (·.1)=false:=by rfl) (ht:eval (.Call (.Attribute o m apos) (e::es) [] pos) X.env=(do
   let ov <-eval o X.env
   standAt apos.atName
   let (f,first) <-holding [ov] (getMethod ov m pl)
   callWith pos f first (backTo pos (starEach (e::es) X.env)) (backToKw pos (keywordEach [] X.env))):=by rfl) :
  PE X (.Call (.Attribute o m apos) (e::es) [] pos) (Lb C m sp jC E ta t):=by
 intro ak s σ H Q I h;refine Tj (pl:=pl) (bA (he ak s σ H _ I h) λu i ⟨x,H1,d,j,a,dx,fs,ex,ea,l,q⟩=>?_) ht;subst ex;obtain rfl:u=Value.ref a:=j;refine Pn d ea c hm l (FZ (first:=[.ref a]) (h₀:=X.au) I.ok.mod.yu hm.kp (bA (ha pos ak i σ H1 _ d q) λus n ⟨vs,H2,b,r,g⟩=>⟨b.gn,?_⟩) hst hpl);exact K5 (us:=.ref a::us) (vs:=.ref a::vs) F hr hb hd hx b (.cons rfl r) g
theorem akK {pl:Sem Bool} (he:PE X o ta) (c:nW X.K C) (hm:CV X.K C m f) (F:dw X.prog X.w X.K X.mg X.au CX k f fd ps sp) (hr:eG k X.A) (hb:mK X.K fd ps ds) (hd:bO jC ds) (hx:uZ CX X E) (ht:eval (.Call (.Attribute o m apos) [] [] pos) X.env=(do
   let ov <-eval o X.env
   standAt apos.atName
   let (f,first) <-holding [ov] (getMethod ov m pl)
   callWith pos f first (backTo pos (starEach [] X.env)) (backToKw pos (keywordEach [] X.env))):=by rfl) :
  PE X (.Call (.Attribute o m apos) [] [] pos) (Lb C m sp jC E ta wB):=by
 intro ak s σ H Q I h;refine Tj (pl:=pl) (bA (he ak s σ H _ I h) λu e ⟨x,H1,b,d,a,dx,fs,ex,ea,l,q⟩=>?_) ht;subst ex;obtain rfl:u=Value.ref a:=d;exact Pn b ea c hm l (PySem.W.callWith_K0 (first:=[.ref a]) b.gn hm.kp (K5 (us:=[.ref a]) (vs:=[.ref a]) F hr hb hd hx b (.cons rfl .nil) q))
structure LC (K:bG) (C f:Addr):Prop where
 makes:makesIn K C=true
 init:findIn K (.ref C) "__init__"=some (some (.ref f))
 fn:isFn K (.ref f)=true
 kp:keepIn K (.ref C)=true
theorem abd {σ:St} {H:Hp} {Q:VK} {vs:aA} (M:LC X.K C f) (F:dw X.prog X.w X.K X.mg X.au CX k f fd ps sp) (hr:eG (k+1) X.A) (hb:mK X.K fd ps ds) (hd:bO jC ds) (hx:uZ CX X E) (I:aD X ak σ H s) (r:bO vs us) (h:∀ x dx,H x=none->H dx=none->dx≠x->sp (.ref x::(vs++jC)) (upd (upd H dx (.own x)) x (.ins C dx [])) (λv H2=>v=.non/\Q (.ref x) H2) E) : wpAny (model X.prog X.w) X.A (call (.ref C) us) (EP X ak σ Q) X.xe s:=by
 have d:=h (s.heap.objs.size+1) s.heap.objs.size (I.hok.fresh (vD _)) (I.hok.fresh (bI _)) (fO (CN _));have b:=aD.made (C:=C) I;have c:bO (V.ref (s.heap.objs.size+1)::(vs++jC)) (Value.ref (s.heap.objs.size+1)::(us++ds)):=.cons rfl (r.append hd);have j:(Value.ref (s.heap.objs.size+1)::us++ds).length=ps.length:=by have e:=c.length;rw [F.len _ _ _ _ d] at e;exact e.symm
 refine K3 (akJ (f:=f) I.gn M.makes M.init (zN.mp M.fn) (sE (F.run _ X.stack _ _ ⟨Value.ref (s.heap.objs.size+1)::us,[]⟩ (Value.ref (s.heap.objs.size+1)::(us++ds)) _ _ E (hr.make C us []) (b.env0.make C us []) (hb _ (Value.ref (s.heap.objs.size+1)::us) b.gn j) c d) λr s' a=>?_));cases r with
 |error e=>exact hx ak σ _ _ e s' b a
 |ok l =>
  cases l with
  |ret u =>obtain ⟨v,H',m,g,n,i⟩:=b.after a;subst n;exact ⟨g,⟨V.ref (s.heap.objs.size+1),H',m,rfl,i⟩⟩
  |next=>exact elim a
  |brk=>exact elim a
  |cont=>exact elim a
theorem amW (M:LC X.K C f) (F:dw X.prog X.w X.K X.mg X.au CX k f fd ps sp) (hr:eG (k+1) X.A) (hg:Gl X x) (hm:X.mg x=some (.ref C)) (hb:mK X.K fd ps ds) (hd:bO jC ds) (hx:uZ CX X E) (ha:PA X (e::es) t) (hdb:(x == ("__debug__":Str))=false:=by decide) (he:starEach (e::es) X.env=(false,eval e X.env)::starEach es X.env:=by rfl) (hpl:(backTo pos (starEach es X.env)).any (·.1)=false:=by rfl) : PE X (.Call (.Name x p) (e::es) [] pos) (Ld C sp jC E t):=by intro ak s σ H Q I h;refine xU (Ca I hg hm ?_ hdb);refine FZ (h₀:=X.au) I.ok.mod.yu M.kp (bA (ha pos ak s σ H _ I h) λus b ⟨vs,H1,a,r,q⟩=>⟨a.gn,?_⟩) he hpl;exact abd M F hr hb hd hx a r q
theorem akL (M:LC X.K C f) (F:dw X.prog X.w X.K X.mg X.au CX k f fd ps sp) (hr:eG (k+1) X.A) (hg:Gl X x) (hm:X.mg x=some (.ref C)) (hb:mK X.K fd ps ds) (hd:bO jC ds) (hx:uZ CX X E) (hdb:(x == ("__debug__":Str))=false:=by decide):PE X (.Call (.Name x p) [] [] pos) (Ld C sp jC E wB):=by intro ak s σ H Q I h;refine xU (Ca I hg hm ?_ hdb);exact PySem.W.callWith_K0 I.gn M.kp (abd (us:=[]) M F hr hb hd hx I .nil h)
end
structure rW (N P:bK) (sc:Scope):Prop where
 kind:sc.kind=.function
 co:sc.isCoroutine=false
 gen:sc.isGenerator=false
 nd:N.Nodup
 pre:N.take P.length=P
 par:∀ x∈P,sc.names.lookup x=some .local\/sc.names.lookup x=some .cell
 ao1:∀ y∈sc.names,y.2≠.free
theorem aax:∀ {binds:List (Str×Value)} {m:dR},(∀ v,(x,v)∉binds)->bindL kindOf binds m x=m x
 |[],_,_=>rfl
 |(n,v)::r,m,h=>by
  unfold bindL;rw [aax λw a=>h w (fG _ a)];split
  ·have:x≠n:=by rintro rfl;exact h v iy
   simp [this]
  ·rfl
theorem aay:∀ {binds:List (Str×Value)} {m:dR},(∀ v,(x,v)∉binds)->bindC kindOf binds m x=m x
 |[],_,_=>rfl
 |(n,v)::r,m,h=>by
  unfold bindC;rw [aay λw a=>h w (fG _ a)];split
  ·rfl
  ·have:x≠n:=by rintro rfl;exact h v iy
   simp [this]
theorem aaz {v:Value}:∀ {P:bK} {vs:bV} {i:Nat} {m:dR},P.Nodup->P[i]?=some x->vs[i]?=some v->kindOf x=some .local ->bindL kindOf (P.zip vs) m x=some v
 |[],_,_,_,_,h,_,_=>by simp at h
 |_::_,[],_,_,_,_,h,_=>by simp at h
 |p::P,w::vs,0,m,nd,h1,h2,hk=>by simp at h1 h2;subst h1;subst h2;show bindL kindOf ((p,w)::P.zip vs) m p=_;unfold bindL;rw [aax λv a=>(sG.mp nd).1 (Tn a).1,aQ hk];simp
 |p::P,w::vs,i+1,m,nd,h1,h2,hk=>by show bindL kindOf ((p,w)::P.zip vs) m x=_;unfold bindL;exact aaz (i:=i) (sG.mp nd).2 (by simpa using h1) (by simpa using h2) hk
theorem aaA {v:Value}:∀ {P:bK} {vs:bV} {i:Nat} {m:dR},P.Nodup->P[i]?=some x->vs[i]?=some v->kindOf x≠some .local ->bindC kindOf (P.zip vs) m x=some v
 |[],_,_,_,_,h,_,_=>by simp at h
 |_::_,[],_,_,_,_,h,_=>by simp at h
 |p::P,w::vs,0,m,nd,h1,h2,hk=>by simp at h1 h2;subst h1;subst h2;show bindC kindOf ((p,w)::P.zip vs) m p=_;unfold bindC;rw [aay λv a=>(sG.mp nd).1 (Tn a).1,aK hk];simp
 |p::P,w::vs,i+1,m,nd,h1,h2,hk=>by show bindC kindOf ((p,w)::P.zip vs) m x=_;unfold bindC;exact aaA (i:=i) (sG.mp nd).2 (by simpa using h1) (by simpa using h2) hk
def start (N:bK) (vs:aA):St:=vs.map some++replicate (N.length-vs.length) none
def z9 (CX:qj) (P:Program) (w:World) (K:bG) (mg:dR) (au:Heap) (N:bK) (bZ:Str) (scope:Scope) (f:Addr) (cd:Value) (A:Around) (outer:nQ) (s:Shared) (H:Hp) (E:XK):Cx where
 prog:=P
 w:=w
 K:=K
 mg:=mg
 au:=au
 A:=A.deeper (envOfC bZ scope s.heap.objs.size f cd)
 N:=N
 s₀:=s
 H₀:=H
 env:=envOfC bZ scope s.heap.objs.size f cd
 outer:=outer
 stack:=envOfC bZ scope s.heap.objs.size f cd::outer
 ex:=[]
 calm:=true
 fn:=λ_=>true
 pn:=[]
 xe:=λe s'=>wpAny (model P w) (A.deeper (envOfC bZ scope s.heap.objs.size f cd)) (leaving (envOfC bZ scope s.heap.objs.size f cd) e) (λ_ a=>CX outer H s E e a) (λb a=>CX outer H s E b a) s'
theorem abe {sc:Scope} (h:sc.names.lookup x=some .cell):∃ c,(cellsFrom n sc.names []).lookup x=some c:=by have q:=adk sc.names n [] (.inl h);exact adl.mp q
theorem aiH {CX:qj} {s1:Shared} {H:Hp} {E:XK} {vs:aA} (S:rW N ps scope) (hd:A.handled=none) (e0:z8 P w K mg au A outer s H) (hl:vs.length=ps.length) (r:bO vs us) (x:InCallC s s.heap.objs.size (bindL (envOfC bZ scope s.heap.objs.size f cd).kindOf (ps.zip us) λ_=>none) (cellsFrom (s.heap.objs.size+1) scope.names []) (bindC (envOfC bZ scope s.heap.objs.size f cd).kindOf (ps.zip us) λ_=>none) s1) : aD (z9 CX P w K mg au N bZ scope f cd A outer s H E) [] (start N vs) H s1:=by
 have t:ps.length<=N.length:=by have:=je List.length S.pre;rw [gV] at this;lk
 obtain ⟨h1,I,rfl,m⟩:=x.done;have l:∀ b:Addr,b∉(z9 CX P w K mg au N bZ scope f cd A outer s H E).ex:=λb z=>absurd (show b∈([]:jk) from z) (by simp);refine ⟨⟨e0.mod,S.kind,rfl,rfl,bI _,λy z c h1 h2=>?_,λy d=>?_,λy c _ h=>?_,λ_=>hd,Around.frames_deeper e0.frames,.inr ⟨rfl,rfl⟩,λb z=>absurd z (l b),e0.bs,e0.uK,λb _ _=>l b,λb z=>absurd z (l b),e0.qb,e0.uL⟩,
  rfl,e0.bare,Un.kept m,⟨_,x.toInCall.ns,λi y v h1 h2 D=>?_⟩,λy c h=>⟨_,x.cell y c h⟩,e0.hok.fresh (bI _),λy c h=>?_,λp g=>absurd (show p∈([]:List (Addr×Obj)) from g) (by simp),e0.hok.kept m,?_⟩
 ·exact name_of_addr x.apart (Ga h1) (Ga h2)
 ·have d:scope.names.lookup y=some .cell\/scope.names.lookup y=some .free:=d;rcases d with d|d
  ·exact abe d
  ·exact absurd rfl (S.ao1 _ (Ga d))
 ·exact CJ (x.above y c (Ga h))
 ·have hi:i<vs.length:=by
   unfold start at h2;by_cases hi:i<vs.length
   ·exact hi
   ·rw [xV (by simpa using hi)] at h2;rw [uh] at h2;split at h2<;>cases h2
  have B:vs[i]?=some v:=by
   unfold start at h2;rw [qJ (by simpa using hi),jP] at h2;cases e:vs[i]? with
   |none=>rw [e] at h2;cases h2
   |some a=>rw [e] at h2;cases h2;rfl
  obtain ⟨u,o,C⟩:=r.get B;have g:ps[i]?=some y:=by rw [<-S.pre,List.getElem?_take_of_lt (by lk)];exact h1
  have j:ps.Nodup:=by rw [<-S.pre];exact S.nd.sublist (List.take_sublist _ _)
  refine ⟨u,C,?_⟩;rcases S.par y (eZ g) with k|k
  ·exact .inl ⟨k,aaz j g o k⟩
  ·obtain ⟨c,e⟩:=abe (n:=s.heap.objs.size+1) k;refine .inr ⟨.inl k,c,e,?_⟩;have q:=x.cell y c e;rw [aaA j g o (by show scope.names.lookup y≠_;rw [k];decide)] at q;exact q
 ·exact e0.hok.fresh (CJ (x.above y c (Ga h)))
 ·unfold start;show _=N.length;rw [dJ,bh,vG];lk
theorem ad1 {CX:qj} {k:Nat} {name:Str} {params:Arguments} {dV kV doc cdv:Value} {sp:Sp} (mD:K.lookup f=some ⟨oc,od,.func (fnOf name bZ params body scope dV kV doc pm an cdv ct),osl⟩) (hcd:codeIn K cdv bZ=true) (S:rW N ps scope) (len:∀ vs H Q E,sp vs H Q E->vs.length=ps.length) (hbody:∀ (A:Around) (outer:nQ) (s:Shared) (H:Hp) (vs:aA) (Q:VK) (E:XK),eG k (A.deeper (envOfC bZ scope s.heap.objs.size f cdv))->sp vs H Q E ->∃ t,oF (z9 CX P w K mg au N bZ scope f cdv A outer s H E) body t/\t { nx:=λ_ H'=>Q .non H',rt:=Q } (start N vs) H) : dw P w K mg au CX (k+1) f (fnOf name bZ params body scope dV kV doc pm an cdv ct) ps sp:=by
 refine ⟨len,λA outer s H m us vs Q E hr d L r g=>?_⟩;have M:=len _ _ _ _ g;have KX:K.In s.heap:=d.mod.yu.keeps λb o e=>(d.bs b o e).1;have j:s.heap.NoLimit:=d.mod.nolimit.keeps λb o e=>(d.bs b o e).1;have a:∀ y∈ps.zip us,scope.names.lookup y.1=some .local\/(scope.names.lookup y.1=some .cell/\((cellsFrom (s.heap.objs.size+1) scope.names []).lookup y.1).isSome=true):=λ⟨n,v⟩ C=>by
  rcases S.par n (Tn C).1 with q|q
  ·exact .inl q
  ·exact .inr ⟨q,adk _ _ _ (.inl q)⟩
 refine codeAny_call_function hr.depth (KX _ _ mD) rfl S.co S.gen rfl (PySem.W.codeRec_of KX hcd) (L _ _ _ _ (wpAny_newFunctionEnv_cells S.kind a λenv D p x=>?_));subst D;refine ⟨j.keeps x.toInCall.keep,codeAny_func ?_⟩;obtain ⟨t,O,z⟩:=hbody A outer s H vs Q E (hr.deeper _) g;have I:aD (z9 CX P w K mg au N bZ scope f cdv A outer s H E) [] (start N vs) H p:=aiH S hr.hd d M r x;refine lE (O [] p (start N vs) H _ I z) (λB s' c=>?_) λe s' c=>c;have l:∀ {σ':St} {H':Hp} {v:V} {u:Value},aD (z9 CX P w K mg au N bZ scope f cdv A outer s H E) [] σ' H' s'->cA v u->Q v H'->CE outer P w H s Q u s':=λ{σ' H' v u} J i q=>⟨v,H',J.os,J.bare,J.au,J.hok,i,q⟩;cases B with
 |ret u =>obtain ⟨v,σ',H',J,i,q⟩:=c;exact l J i q
 |next =>obtain ⟨σ',H',J,q⟩:=c;exact l (v:=V.non) (u:=Value.none) J rfl q
 |brk =>obtain ⟨_,_,_,q⟩:=c;exact elim q
 |cont =>obtain ⟨_,_,_,q⟩:=c;exact elim q
section
variable {X:Cx} {p:Pos} {t:TA} {id T:String} {r:aA->Hp->VK->Prop}
def Vc (r:aA->Hp->VK->Prop) (t:TA):TE:=λσ H Q=>t σ H λvs H1=>r vs H1 Q
theorem jM (hc:jz X (.builtin id) r) (hg:Gl X x) (hm:X.mg x=none) (hv:bootBuiltins x=some (.builtin id)) (ha:PA X (e::es) t) (hn:x≠"__name__":=by decide) (hdb:(x == ("__debug__":Str))=false:=by decide) (he:starEach (e::es) X.env=(false,eval e X.env)::starEach es X.env:=by rfl) (hpl:(backTo pos (starEach es X.env)).any (·.1)=false:=by rfl):PE X (.Call (.Name x p) (e::es) [] pos) (Vc r t):=by intro ak s σ H Q I h;refine xU (qM I hg hm hv ?_ hn hdb);exact adn (bA (ha pos ak s σ H _ I h) λus c ⟨vs,H1,d,a,b⟩=>hc ak c σ H1 vs us Q d a b) he hpl
theorem iu (hc:jz X (.type T) r) (hg:Gl X x) (hm:X.mg x=none) (hv:bootBuiltins x=some (.type T)) (ha:PA X (e::es) t) (hn:x≠"__name__":=by decide) (hdb:(x == ("__debug__":Str))=false:=by decide) (he:starEach (e::es) X.env=(false,eval e X.env)::starEach es X.env:=by rfl) (hpl:(backTo pos (starEach es X.env)).any (·.1)=false:=by rfl):PE X (.Call (.Name x p) (e::es) [] pos) (Vc r t):=by intro ak s σ H Q I h;refine xU (qM I hg hm hv ?_ hn hdb);exact xR (bA (ha pos ak s σ H _ I h) λus c ⟨vs,H1,d,a,b⟩=>hc ak c σ H1 vs us Q d a b) he hpl
end
end
namespace HT
open PyProof.Rows
section
section
open PySem.SeqAt
open PySem.AutoSeq1 (wpAny_loadPart')
open PySem.MeetsSeq PySem.MeetsSeq2 PySem.MeetsSeq3
end
section
theorem amX {t:Addr} {ws:bV} (ht:IsTup s.heap t vs.toArray) (hb:IsTup s.heap b ws.toArray) (hv:vs≠[]) (h1:ws=[]->Q (.ref t) s) (h2:ws≠[]->Q (.ref s.heap.objs.size) { s with heap:=s.heap.push { cls:=.type "tuple",data:=.seq (vs++ws).toArray } }) (hsz:vs.length+ws.length<=sizeLine):wpAny (model prog w) A (binaryOp .Add (.ref t) (.ref b)) Q E s:=by
 obtain ⟨⟨cls,o,data,sl⟩,j,p,n,q⟩:=id ht;obtain ⟨⟨r,c,l,d⟩,a,i,m,g⟩:=id hb;simp only at p q i g;subst p q i g;have e:vs.toArray++ws.toArray=(vs++ws).toArray:=by simp
 by_cases k:ws=[]
 ·exact concat_meets ⟨_,j,rfl⟩ ⟨_,a,rfl⟩ Tp seq_tuple_add Tq Tr (Tt _ _) (tuple_addW1 t b vs.toArray ws.toArray n m o c sl d (by simpa using hv) (by simp [k])) ⟨j,a,h1 k⟩
 ·refine concat_meets ⟨_,j,rfl⟩ ⟨_,a,rfl⟩ Tp seq_tuple_add Tq Tr (Tt _ _) (tuple_addW2 t b vs.toArray ws.toArray n m o c sl d (by simpa using hv) (by simpa using k) (by rw [gU,gU];exact hsz)) ⟨j,a,?_⟩;rw [e];exact h2 k
def iZ (n d:Nat):Option Int->Nat
 |none=>d
 |some v=>if v<0 then (v+(n:Int)).toNat else min v.toNat n
theorem akM (n d:Nat):iZ n d none=d:=rfl
theorem amY (n d k:Nat):iZ n d (some (k:Int))=min k n:=by show (if (k:Int)<0 then ((k:Int)+(n:Int)).toNat else min (k:Int).toNat n)=min k n;rw [aK (by lk),kO]
end
end
end HT
variable {ns:aF} {xs:aA} {σ:St} {H:Hp} {p:Addr} {its':bV} {y:V} {T:String}
section
open PySem.Spec PyProof.Rows
abbrev TO:=St->Hp->(Option Int->Hp->Prop)->Prop
def PO (X:Cx) (e:Option Expr) (t:TO):Prop :=
 ∀ (ak:List (Addr×Obj)) (s:Shared) (σ:St) (H:Hp) (Q:Option Int->Hp->Prop),aD X ak σ H s->t σ H Q ->
  wpAny (model X.prog X.w) X.A (evalPart e X.env) (λu s'=>∃ o H',aD X ak σ H' s'/\IsPart u o/\Q o H') X.xe s
def amZ:TO:=λ_ H Q=>Q none H
def aqa (t:TE):TO:=λσ H Q=>t σ H λx H1=>OfI x H1 λi H1=>Q (some i) H1
theorem intsAre_of:∀ {us:bV},bO (ns.map V.int) us->IntsAre us ns:=by
 induction ns with
 |nil=>intro us r;rw [zO] at r;cases r;exact .nil
 |cons n ns c =>
  intro us r;rw [gb] at r;cases r with
  |cons a b =>obtain ⟨t,e⟩:=a;subst e;exact .cons n t (c b)
section
variable {X:Cx} {te:TE} {lo hi:Option Expr} {tl th:TO} {p2:Pos}
theorem xM:PO X none amZ:=by intro ak s σ H Q I h;rw [evalPart_none];exact cY ⟨none,H,I,.none,h⟩
theorem xO (h:PE X e te):PO X (some e) (aqa te):=by intro ak s σ H Q I c;rw [evalPart_some];refine bA (h ak s σ H _ I c) λu g ⟨x,H1,d,a,b⟩=>?_;obtain ⟨i,rfl,q⟩:=b;obtain ⟨t,rfl⟩:=a;exact ⟨some i,H1,d,.int i t,q⟩
def Vd (X:Cx) (r:V->Option Int->Option Int->Hp->VK->Prop):Prop :=
 ∀ (ak:List (Addr×Obj)) (s:Shared) (σ:St) (H:Hp) (x:V) (v a b:Value) (lo hi:Option Int) (sl:Addr) (Q:VK),aD X ak σ H s->cA x v->s.heap.IsSliceOf sl a b .none->IsPart a lo->IsPart b hi->r x lo hi H Q ->
  ∃ T id,typeLookup (.type T) "__getitem__"=pure (some (.builtin id))/\s.TypeIs v T/\wpAny (model X.prog X.w) X.A (getItem v (.ref sl)) (EP X ak σ Q) X.xe s
def tSl (r:V->Option Int->Option Int->Hp->VK->Prop) (te:TE) (tl th:TO):TE:=λσ H Q=>te σ H λx H1=>tl σ H1 λl H2=>th σ H2 λu a=>r x l u a Q
theorem wV {r:V->Option Int->Option Int->Hp->VK->Prop} (hr:Vd X r) (he:PE X e te) (hl:PO X lo tl) (hu:PO X hi th):PE X (.Subscript e (.Slice lo hi none p2) pos) (tSl r te tl th):=by intro ak s σ H Q I h;refine Subscript_ (bA (he ak s σ H _ I h) λv m ⟨x,H1,t,D,B⟩=>wpAny_Slice (bA (hl ak m σ H1 _ t B) λd z ⟨l,H2,i,pl,j⟩=>bA (hu ak z σ H2 _ i j) λc a ⟨u,g,p,k,C⟩=>?_));rw [evalPart_none];refine cY ?_;have o:aD X ak σ g { a with heap:=a.heap.push { cls:=.type "slice",data:=.fields #[d,c,.none] } }:=p.kept (t':=a.toks) λb L q=>dF _ q;obtain ⟨T,id,y,J,n⟩:=hr ak { a with heap:=a.heap.push { cls:=.type "slice",data:=.fields #[d,c,.none] } } σ g x v d c l u a.heap.objs.size Q o D (Heap.IsSliceOf.new ..) pl k C;show wpAny (model X.prog X.w) X.A (subscriptTail e (.Slice lo hi none p2) v (.ref a.heap.objs.size)) (EP X ak σ Q) X.xe { a with heap:=a.heap.push { cls:=.type "slice",data:=.fields #[d,c,.none] } };exact tail_any (ops:=[.ref a.heap.objs.size,v]) J y n (by with_unfolding_all rfl)
def ou (xs:aA) (lo hi:Option Int):aA:=(xs.drop (HT.iZ xs.length 0 lo)).take (HT.iZ xs.length xs.length hi-HT.iZ xs.length 0 lo)
theorem agB (xs:aA) (lo hi:Option Int):(ou xs lo hi).length<=xs.length:=by unfold ou;rw [gV,xW];lk
def aqb (K:bG):R2:=λx y H Q=>∃ a b xs ys,x=.ref a/\y=.ref b/\gF K H a xs/\gF K H b ys/\xs≠[]/\xs.length+ys.length<=sizeLine /\
 (ys=[]->Q (.ref a) H)/\(ys≠[]->∀ p,H p=none->Q (.ref p) (upd H p (.tup (xs++ys))))
theorem bO.R3 (r:bO xs us):us=[]↔xs=[]:=by
 cases r with
 |nil=>simp
 |cons _ _=>simp
theorem acs:dO X (binaryOp .Add) (aqb X.K):=by rintro ak s σ H x y v u Q I n r ⟨a,b,xs,ys,rfl,rfl,j,p,l,g,m,i⟩;cases n;cases r;obtain ⟨aJ,d,k,_⟩:=I.tuple j;obtain ⟨e,c,p2,_⟩:=I.tuple p;refine HT.amX k p2 (λz=>l (d.R3.mp z)) (λz=>⟨.ref a,H,I,rfl,m (c.R3.mp z)⟩) (λz=>?_) (by rw [<-d.length,<-c.length];exact g);refine ⟨.ref s.heap.objs.size,_,I.laid (t':=s.toks) (o:=.tup (xs++ys)) (λb t q=>dF _ q) (bI _) ?_,rfl,i (λw=>z (c.R3.mpr w)) _ (I.hok.fresh (bI _))⟩;exact ⟨by rw [dJ];exact g,_,d.append c,oU.new _ _⟩
end
def q_ (n:Nat) (i:Int):Option Nat:=if 0<=i then (if i<n then some i.toNat else none) else if -(n:Int)<=i then some (i+n).toNat else none
def jK (xs:List α) (i:Int):Option α:=(q_ xs.length i).bind λj=>xs[j]?
theorem acu {i:Int} (h:q_ n i=some j):seqIndex? i n=some j/\j<n/\-(n:Int)<=i/\i<n:=by
 unfold q_ at h;by_cases a:0<=i
 ·rw [aQ a] at h;by_cases h1:i<n
  ·rw [aQ h1] at h;have e:i.toNat=j:=iz h;exact ⟨by rw [seqIndex_of a h1,e],by lk, by lk, h1⟩
  ·rw [aK h1] at h;cases h
 ·rw [aK a] at h;by_cases h1:-(n:Int)<=i
  ·rw [aQ h1] at h;have e:(i+n).toNat=j:=iz h;exact ⟨by rw [seqIndex_neg (by lk) h1,e],by lk, h1,by lk⟩
  ·rw [aK h1] at h;cases h
theorem R4 {xs:List α} {i:Int} {v:α} (h:jK xs i=some v):∃ j,seqIndex? i xs.length=some j/\xs[j]?=some v/\j<xs.length/\-(xs.length:Int)<=i/\i<xs.length:=by
 unfold jK at h;cases e:q_ xs.length i with
 |none=>rw [e] at h;cases h
 |some j =>rw [e] at h;obtain ⟨h1,h2,a,b⟩:=acu e;exact ⟨j,h1,h,h2,a,b⟩
theorem oO {xs:List α} {v:α} (h:xs[j]?=some v):jK xs (j:Int)=some v:=by
 have a:j<xs.length:=(dY.mp h).1;have e:q_ xs.length (j:Int)=some j:=by unfold q_;rw [aQ (by lk),aQ (by lk)];simp
 unfold jK;rw [e];exact h
def R5 (b:Expr):Prop:=∀ o i,subscripted b false o i=operate [o,i] (getItem o i)
def DQ (X:Cx) (r:R2):Prop :=
 ∀ (value a:Expr) (ak:List (Addr×Obj)) (s:Shared) (σ:St) (H:Hp) (x y:V) (v u:Value) (Q:VK),aD X ak σ H s->cA x v->cA y u->r x y H Q ->
  subscripted a false v u=operate [v,u] (getItem v u)->wpAny (model X.prog X.w) X.A (subscriptTail value a v u) (EP X ak σ Q) X.xe s
def Ae (X:Cx) (id:String) (r:V->aA->Hp->VK->Prop):Prop :=
 ∀ (ak:List (Addr×Obj)) (s:Shared) (σ:St) (H:Hp) (x:V) (xs:aA) (v:Value) (us:bV) (Q:VK),aD X ak σ H s->cA x v->bO xs us->r x xs H Q ->
  wpAny (model X.prog X.w) X.A (call (.builtin id) (v::us)) (EP X ak σ Q) X.xe s
section
variable {X:Cx} {a b:Expr} {ta tb:TE}
theorem uD {r:R2} (hr:DQ X r) (ha:PE X a ta) (hb:PE X b tb) (hs:R5 b):PE X (.Subscript a b pos) (lO r ta tb):=by intro ak s σ H Q I h;exact Subscript_ (Uv ha hb I h λv u d x y H2 e c g q=>hr a b ak d σ H2 x y v u Q e c g q (hs _ _))
inductive aqc (K:bG) (x:V) (y:V) (H:Hp) (Q:VK):Prop
 |mk (p:_) (xs:_) (i:_) (v:_) (h1:x=.ref p) (h2:y=.int i) (h3:dH K H p xs) (h4:jK xs i=some v) (h5:Q v H)
def GD (K:bG):R2:=λx y H Q=>aqc K x y H Q
inductive aqd (K:bG) (x:V) (y:V) (H:Hp) (Q:VK):Prop
 |mk (p:_) (xs:_) (i:_) (v:_) (h1:x=.ref p) (h2:y=.int i) (h3:gF K H p xs) (h4:jK xs i=some v) (h5:Q v H)
def Dq (K:bG):R2:=λx y H Q=>aqd K x y H Q
inductive aqe (x:V) (y:V) (H:Hp) (Q:VK):Prop
 |mk (z:_) (i:_) (c:_) (h1:x=.str z) (h2:y=.int i) (h3:z.length<=sizeLine) (h4:jK z.cps.toList i=some c) (h5:Q (.str ⟨#[c]⟩) H)
def arl:R2:=λx y H Q=>aqe  x y H Q
theorem acv:DQ X (GD X.K):=by
 intro value b ak s σ H x y v u Q I o C h g;obtain ⟨p,xs,i,z,rfl,rfl,k,n,q⟩:=h;cases o;obtain ⟨t,rfl⟩:=C;obtain ⟨aJ,r,pl,J⟩:=I.list k;obtain ⟨j,h1,h2,L,m,h5⟩:=R4 n;obtain ⟨w,d,l⟩:=r.get h2;have B:=r.length;have D:=xX;have c:EP X ak σ Q w s:=⟨z,H,I,l,q⟩;by_cases e:0<=i
 ·have a:i.toNat=j:=by rw [seqIndex_of e h5] at h1;exact iz h1
  exact item_listR pl.isList e (by lk) (by rw [a];simpa using d) c g
 ·have a:(i+(aJ.toArray.size:Int)).toNat=j:=by rw [seqIndex_neg (by lk) m] at h1;rw [gU,<-B];exact iz h1
  exact subscriptTail_builtinR (x:=w) pl.isList.typeIs Rb.lookup (wpAny_getItem_list_neg (Q:=λr s'=>r=w/\EP X ak σ Q r s') pl.isList (by lk) (by rw [gU]<;>lk) (by lk) (by rw [a];simpa using d) ⟨rfl,c⟩) g
theorem ady:DQ X (Dq X.K):=by intro value a ak s σ H x y v u Q I k n h l;obtain ⟨p,xs,i,z,rfl,rfl,c,g,q⟩:=h;cases k;obtain ⟨t,rfl⟩:=n;obtain ⟨aJ,r,pl,B⟩:=I.tuple c;obtain ⟨j,h1,h2,C,D,h5⟩:=R4 g;obtain ⟨w,d,e⟩:=r.get h2;have m:=r.length;have o:=xX;have b:EP X ak σ Q w s:=⟨z,H,I,e,q⟩;exact subscriptTail_builtinR (x:=w) pl.typeIs slot_tuple_getitem.lookup (getItem_tuple (j:=j) (Q:=λr s'=>r=w/\EP X ak σ Q r s') pl (by lk) (by lk) (by rw [gU,<-m];exact h1) (by simpa using d) ⟨rfl,b⟩) l
theorem ao2:DQ X arl:=by
 intro value a ak s σ H x y v u Q I k n h l;obtain ⟨z,i,c,rfl,rfl,p,g,q⟩:=h;obtain ⟨t,rfl⟩:=k;obtain ⟨t',rfl⟩:=n;obtain ⟨j,h1,h2,r,d,h5⟩:=R4 g;have m:z.cps.toList.length=z.length:=by simp [Str.length]
 rw [m] at h1 d h5;have o:=xX;exact tail_any (tW s z t) slot_str_getitem.lookup (getItem_str (c:=c) (by have b:decide (i < -(2 ^ 63:Int))=false:=lJ (by lk);have e:decide (i>=2 ^ 63)=false:=lJ (by lk);rw [b,e,Rc]) (by rw [h1];simpa using h2) ⟨.str ⟨#[c]⟩,H,I.tok _,⟨_,rfl⟩,q⟩) l
theorem ahm (aJ:bV) (n j:Nat) (u:Value):Obj.mapSeq (·.setIfInBounds j u) { cls:=.type "list",data:=.seq aJ.toArray n }={ cls:=.type "list",data:=.seq (aJ.set j u).toArray n }:=by simp [Obj.mapSeq]
theorem aD.lst {ak:List (Addr×Obj)} {σ:St} {H:Hp} {s:Shared} {p:Addr} {xs:aA} (I:aD X ak σ H s) (h:H p=some (.lst xs)) : ∃ (aJ:bV) (n:Nat),bO xs aJ/\s.heap.get? p=some { cls:=.type "list",data:=.seq aJ.toArray n }/\xs.length<=sizeLine:=by obtain ⟨z,aJ,n,r,e⟩:=I.hok p _ h;exact ⟨aJ,n,r,e,z⟩
theorem aD.ao3 {ys:aA} {n':Nat} {f:Obj->Obj} (I:aD X ak σ H s) (h:H p=some (.lst xs)) (ho:s.heap.get? p=some { cls:=.type "list",data:=.seq aJ.toArray n }) (hf:f { cls:=.type "list",data:=.seq aJ.toArray n }={ cls:=.type "list",data:=.seq its'.toArray n' }) (r:bO ys its') (hz:ys.length<=sizeLine) (t:Nat) : aD X ak σ (upd H p (.lst ys)) { s with heap:=s.heap.update p f,toks:=t }:=by
 have e:(s.heap.update p f).get? p=some { cls:=.type "list",data:=.seq its'.toArray n' }:=by rw [Js f ho (by rw [hf]<;>rfl),hf]
 exact I.write (x:=p) (e:=p) (by rw [h];trivial) (.inl rfl) (λb u a q=>(u_ _ _ (bF a)).trans q) ⟨_,e⟩ ⟨hz,its',n',r,e⟩
inductive ao4 (o:V) (i:V) (v:V) (H:Hp) (Q:Hp->Prop):Prop
 |mk (p:_) (xs:_) (k:_) (j:_) (h1:o=.ref p) (h2:i=.int k) (h3:H p=some (.lst xs)) (h4:q_ xs.length k=some j) (h5:Q (upd H p (.lst (xs.set j v))))
def ad2:V->V->V->Hp->(Hp->Prop)->Prop:=λo i v H Q=>ao4  o i v H Q
theorem pI:Uu X ad2:=by
 intro ak s σ H o i v D L u Q I C z B h;obtain ⟨p,xs,k,j,rfl,rfl,g,y,q⟩:=h;cases C;obtain ⟨t,rfl⟩:=z;obtain ⟨aJ,n,r,b,x⟩:=I.lst g;obtain ⟨h1,h2,e,l⟩:=acu y;have c:=r.length;have J:=xX;have d:aD X ak σ (upd H p (.lst (xs.set j v))) { s with heap:=s.heap.update p (Obj.mapSeq (·.setIfInBounds j u)) }:=I.ao3 g b (ahm aJ n j u) (r.set B j) (by rw [fU];exact x) s.toks;by_cases m:0<=k
 ·have a:k.toNat=j:=by rw [seqIndex_of m l] at h1;exact iz h1
  exact PySem.W.ki_setAt b m (by lk) (by rw [gU,<-c];exact l) (by rw [a];exact ⟨_,d,q⟩)
 ·have a:(k+(aJ.toArray.size:Int)).toNat=j:=by rw [seqIndex_neg (by lk) e] at h1;rw [gU,<-c];exact iz h1
  exact PySem.W.ki_setBack b (by lk) (by rw [gU,<-c];exact e) (by lk) (by rw [a];exact ⟨_,d,q⟩)
theorem af5 (lo hi:Option Int) (n:Nat):(sliceBounds lo hi none n).1=((HT.iZ n 0 lo:Nat):Int)/\(sliceBounds lo hi none n).2.1=((HT.iZ n n hi:Nat):Int)/\(sliceBounds lo hi none n).2.2=1:=by
 refine ⟨?_,?_,rfl⟩
 ·cases lo with
  |none=>simp [sliceBounds,HT.iZ]
  |some i =>
   simp only [sliceBounds,HT.iZ,Option.getD_none,show (1:Int)>0 by decide,tX];by_cases h:i<0
   ·simp only [h,tX]<;>lk
   ·simp only [h,rM]<;>lk
 ·cases hi with
  |none=>simp [sliceBounds,HT.iZ]
  |some i =>
   simp only [sliceBounds,HT.iZ,Option.getD_none,show (1:Int)>0 by decide,tX];by_cases h:i<0
   ·simp only [h,tX]<;>lk
   ·simp only [h,rM]<;>lk
theorem afG (aJ:bV) (lo hi:Option Int):slicePick aJ.toArray lo hi none=((aJ.drop (HT.iZ aJ.length 0 lo)).take (HT.iZ aJ.length aJ.length hi-HT.iZ aJ.length 0 lo)).toArray:=by obtain ⟨h1,h2,a⟩:=af5 lo hi aJ.toArray.size;unfold slicePick;rw [h1,h2,a];simp only [sliceRange_one,pick_run,gU]<;>rfl
inductive aqf (K:bG) (x:V) (lo:Option Int) (hi:Option Int) (H:Hp) (Q:VK):Prop
 |mk (a:_) (xs:_) (h1:x=.ref a) (h2:dH K H a xs) (h3:∀ p,H p=none->Q (.ref p) (upd H p (.lst (ou xs lo hi))))
def arn (K:bG):V->Option Int->Option Int->Hp->VK->Prop:=λx lo hi H Q=>aqf K x lo hi H Q
theorem Cg:Vd X (arn X.K):=by intro ak s σ H x v n l lo hi sl Q I j k pl d h;obtain ⟨a,xs,rfl,e,q⟩:=h;cases j;obtain ⟨aJ,r,c,g⟩:=I.list e;have i:=r.length;refine ⟨"list",_,Rb.lookup,c.isList.typeIs,?_⟩;refine wpAny_getItem_list_slice c.isList k pl d .none (by simp) ?_ (by rw [gU]<;>lk);rw [afG,<-i];refine ⟨.ref s.heap.objs.size,_,I.laid (t':=s.toks) (o:=.lst (ou xs lo hi)) (λb m q=>dF _ q) (bI _) ?_,rfl,q _ (I.hok.fresh (bI _))⟩;exact ⟨gR (agB xs lo hi) g,_,0,(r.drop (HT.iZ xs.length 0 lo)).take (HT.iZ xs.length xs.length hi-HT.iZ xs.length 0 lo),fQ _ rfl⟩
def uE:V->Bool
 |.non=>true
 |.bl _=>true
 |.int _=>true
 |.str _=>true
 |_=>false
def lA:V->V->Bool
 |.non,.non=>true
 |.bl a,.bl b=>a == b
 |.bl a,.int b=>(if a then 1 else 0) == b
 |.int a,.bl b=>a == (if b then 1 else 0)
 |.int a,.int b=>a == b
 |.str a,.str b=>a == b
 |_,_=>false
theorem ao5 {x:V} {v:Value} (ry:cA y u) (rx:cA x v) (fy:uE y=true) (fx:uE x=true):SeqAt.EqAt A s u v (lA y x):=by
 cases y with
 |non =>
  cases ry;cases x with
  |non=>cases rx;exact SeqAt.EqAt.same _
  |bl b=>cases rx;exact SeqAt.EqAt.none_bool b
  |int b=>obtain ⟨t,rfl⟩:=rx;exact SeqAt.EqAt.none_int b t
  |str b=>obtain ⟨t,rfl⟩:=rx;exact SeqAt.EqAt.none_str b t
  |_=>exact absurd (show false=true from fx) iQ
 |bl a =>
  cases ry;cases x with
  |non=>cases rx;exact SeqAt.EqAt.bool_none a
  |bl b=>cases rx;exact SeqAt.EqAt.bool_bool a b
  |int b=>obtain ⟨t,rfl⟩:=rx;exact SeqAt.EqAt.bool_int a b t
  |str b=>obtain ⟨t,rfl⟩:=rx;exact SeqAt.EqAt.bool_str a b t
  |_=>exact absurd (show false=true from fx) iQ
 |int a =>
  obtain ⟨t',rfl⟩:=ry;cases x with
  |non=>cases rx;exact SeqAt.EqAt.int_none a t'
  |bl b=>cases rx;exact SeqAt.EqAt.int_bool a t' b
  |int b=>obtain ⟨t,rfl⟩:=rx;exact SeqAt.EqAt.int_int a t' b t
  |str b=>obtain ⟨t,rfl⟩:=rx;exact SeqAt.EqAt.int_str a t' b t
  |_=>exact absurd (show false=true from fx) iQ
 |str a =>
  obtain ⟨t',rfl⟩:=ry;cases x with
  |non=>cases rx;exact SeqAt.EqAt.str_none a t'
  |bl b=>cases rx;exact SeqAt.EqAt.str_bool a t' b
  |int b=>obtain ⟨t,rfl⟩:=rx;exact SeqAt.EqAt.str_int a t' b t
  |str b=>obtain ⟨t,rfl⟩:=rx;exact SeqAt.EqAt.str_str a t' b t
  |_=>exact absurd (show false=true from fx) iQ
 |_=>exact absurd (show false=true from fy) iQ
def oH (x:V) (u:Value):Bool:=match u with
 |.none=>lA .non x
 |.bool b=>lA (.bl b) x
 |.int i _=>lA (.int i) x
 |.str z _=>lA (.str z) x
 |_=>false
theorem adz {x:V} (r:cA y u) (f:uE y=true):oH x u=lA y x:=by
 cases y with
 |non=>cases r;rfl
 |bl b=>cases r;rfl
 |int i=>obtain ⟨t,rfl⟩:=r;rfl
 |str z=>obtain ⟨t,rfl⟩:=r;rfl
 |_=>exact absurd (show false=true from f) iQ
theorem Fy {x:V}:∀ {xs:aA} {us:bV},bO xs us->xs.all uE=true->us.any (oH x)=xs.any λy=>lA y x
 |_,_,.nil,_=>rfl
 |y::xs,u::us,.cons r t,f=>by rw [Rf,Bt] at f;rw [yN,yN,adz r f.1,Fy t f.2]
theorem Eu {x:V} {v:Value} (rx:cA x v) (fx:uE x=true):∀ {xs:aA} {us:bV},bO xs us->xs.all uE=true->∀ u∈us,SeqAt.EqAt A s u v (oH x u)
 |_,_,.nil,_=>λu a=>by cases a
 |y::xs,u::us,.cons r t,f=>λb a=>by
  rw [Rf,Bt] at f;rcases fW.mp a with rfl|a
  ·rw [adz r f.1];exact ao5 r rx f.1 fx
  ·exact Eu rx fx t f.2 b a
def lM (x:V) (xs:aA):Bool:=xs.any λy=>lA y x
inductive aro (K:bG) (neg:Bool) (x:V) (y:V) (H:Hp) (Q:VK):Prop
 |mk (p:_) (xs:_) (h1:y=.ref p) (h2:(dH K H p xs\/gF K H p xs)) (h3:uE x=true) (h4:xs.all uE=true) (h5:Q (.bl (if neg then !lM x xs else lM x xs)) H)
def Mz (K:bG) (neg:Bool):R2:=λx y H Q=>aro K neg x y H Q
theorem Qa:dO X (compareOp .In) (Mz X.K false):=by
 rintro ak s σ H x y v u Q I d g ⟨p,xs,rfl,a,c,fs,q⟩;cases g;rcases a with a|a
 ·obtain ⟨aJ,r,pl,e⟩:=I.list a;refine SeqAt.in_listAt (oH x) pl.isList (λw b=>Eu d c r fs w (by simpa using b)) ⟨.bl _,H,I,rfl,?_⟩;rw [show aJ.toArray.any (oH x)=aJ.any (oH x) by simp,Fy r fs];exact q
 ·obtain ⟨aJ,r,pl,e⟩:=I.tuple a;refine SeqAt.in_tupleAt (oH x) pl (λw b=>Eu d c r fs w (by simpa using b)) ⟨.bl _,H,I,rfl,?_⟩;rw [show aJ.toArray.any (oH x)=aJ.any (oH x) by simp,Fy r fs];exact q
theorem OJ:dO X (compareOp .NotIn) (Mz X.K true):=by
 rintro ak s σ H x y v u Q I d g ⟨p,xs,rfl,a,c,fs,q⟩;cases g;rcases a with a|a
 ·obtain ⟨aJ,r,pl,e⟩:=I.list a;refine SeqAt.notIn_listAt (oH x) pl.isList (λw b=>Eu d c r fs w (by simpa using b)) ⟨.bl _,H,I,rfl,?_⟩;rw [show aJ.toArray.any (oH x)=aJ.any (oH x) by simp,Fy r fs];exact q
 ·obtain ⟨aJ,r,pl,e⟩:=I.tuple a;refine SeqAt.notIn_tupleAt (oH x) pl (λw b=>Eu d c r fs w (by simpa using b)) ⟨.bl _,H,I,rfl,?_⟩;rw [show aJ.toArray.any (oH x)=aJ.any (oH x) by simp,Fy r fs];exact q
inductive Oo (K:bG) (xs:aA) (H:Hp) (Q:VK):Prop
 |mk (p:_) (ys:_) (h1:xs=[.ref p]) (h2:(dH K H p ys\/gF K H p ys)) (h3:Q (.int ys.length) H)
theorem Zg:jz X (.builtin "len") (Oo X.K):=by
 rintro ak s σ H xs us Q I r ⟨p,ys,rfl,a,q⟩;obtain ⟨u,rfl,e⟩:=qH r;cases e;have g:=xX;rcases a with a|a
 ·obtain ⟨aJ,c,pl,d⟩:=I.list a;have b:=c.length;exact Calls.call_len_list pl.isList (by simp only [gU]<;>lk) ⟨.int ys.length,H,I.tok _,⟨s.toks+1,by rw [gU,b]⟩,q⟩
 ·obtain ⟨aJ,c,pl,d⟩:=I.tuple a;have b:=c.length;exact len_tuple pl (by simp only [gU]<;>lk) ⟨.int ys.length,H,I.tok _,⟨s.toks+1,by rw [gU,b]⟩,q⟩
inductive afp (K:bG) (xs:aA) (H:Hp) (Q:VK):Prop
 |mk (z:_) (h1:xs=[.str z]) (h2:z.length<=sizeLine) (h3:Q (.int z.length) H)
theorem Ii:jz X (.builtin "len") (afp X.K):=by rintro ak s σ H xs us Q I r ⟨z,rfl,a,q⟩;obtain ⟨u,rfl,t,rfl⟩:=qH r;have b:=xX;exact len_str (by lk) ⟨.int z.length,H,I.tok _,⟨_,rfl⟩,q⟩
inductive afq (K:bG) (xs:aA) (H:Hp) (Q:VK):Prop
 |mk (p:_) (ys:_) (h1:xs=[.ref p]) (h2:(dH K H p ys\/gF K H p ys)) (h3:∀ l,H l=none->Q (.ref l) (upd H l (.lst ys)))
theorem Ij:jz X (.type "list") (afq X.K):=by
 rintro ak s σ H xs us Q I r ⟨p,ys,rfl,d,q⟩;obtain ⟨u,rfl,t⟩:=qH r;cases t;have l:∀ (aJ:bV),bO ys aJ->ys.length<=sizeLine->∀ (h':Heap) (a:Nat),(∀ b o',s.heap.get? b=some o'->h'.get? b=some o') ->h'.get? s.heap.objs.size=some { cls:=.type "list",dict:=none,data:=.seq aJ.toArray a,slots:=#[] }->EP X ak σ Q (.ref s.heap.objs.size) { s with heap:=h' }:=λaJ c g h' a kp e =>
  ⟨.ref s.heap.objs.size,_,I.laid (t':=s.toks) kp (bI _) (show dZ X.prog X.w _ h' _ (.lst ys) from ⟨g,aJ,a,c,e⟩),rfl,q _ (I.hok.fresh (bI _))⟩
 rcases d with d|d
 ·obtain ⟨aJ,c,pl,g⟩:=I.list d;have m:=c.length;obtain ⟨o,j,i,n,k⟩:=pl.isList;exact call_list_seq p (.inl rfl) j i k (λh' a kp e=>l aJ c g h' a kp e) (by simp only [gU]<;>lk)
 ·obtain ⟨aJ,c,pl,g⟩:=I.tuple d;have m:=c.length;obtain ⟨o,j,i,n,k⟩:=pl;exact call_list_seq p (.inr rfl) j i k (λh' a kp e=>l aJ c g h' a kp e) (by simp only [gU]<;>lk)
inductive afd (K:bG) (xs:aA) (H:Hp) (Q:VK):Prop
 |mk (p:_) (ys:_) (h1:xs=[.ref p]) (h2:((dH K H p ys/\∀ l,H l=none->Q (.ref l) (upd H l (.tup ys)))\/(gF K H p ys/\Q (.ref p) H)))
theorem Zb:jz X (.type "tuple") (afd X.K):=by
 rintro ak s σ H xs us Q I r ⟨p,ys,rfl,h⟩;obtain ⟨u,rfl,j⟩:=qH r;cases j;rcases h with ⟨a,q⟩|⟨a,q⟩
 ·obtain ⟨aJ,c,pl,d⟩:=I.list a;have k:=c.length;refine call_tuple_list pl.isList (λh' kp=>?_) (by simp only [gU]<;>lk);have g:aD X ak σ H { s with heap:=h' }:=I.kept (t':=s.toks) kp;have i:aD X ak σ (upd H h'.objs.size (.tup ys)) { s with heap:=h'.push { cls:=.type "tuple",data:=.seq aJ.toArray } }:=g.laid (t':=s.toks) (λb o e=>dF _ e) (bI _) (show dZ X.prog X.w _ _ _ (.tup ys) from ⟨d,aJ,c,oU.new _ _⟩);exact ⟨.ref h'.objs.size,_,i,rfl,q _ (g.hok.fresh (bI _))⟩
 ·obtain ⟨aJ,c,pl,d⟩:=I.tuple a;exact call_tuple_same pl ⟨.ref p,H,I,rfl,q⟩
def Ve (K:bG) (T:String) (x:V) (H:Hp):Prop:=match x with
 |.str _=>T="str"
 |.int _=>T="int"
 |.ref p=>(T="list"/\∃ xs,dH K H p xs)\/(T="tuple"/\((∃ o,K.lookup p=some o/\o.cls=.type "tuple"/\o.dict=none)\/∃ xs,H p=some (.tup xs))) \/
   (T="dict"/\((∃ aY,H p=some (.dK aY))\/∃ aY,H p=some (.dT aY)))\/(T="set"/\∃ S n,H p=some (.set S n))
 |_=>False
theorem ao6 {x:V} {v:Value} (I:aD X ak σ H s) (r:cA x v) (ty:Ve X.K T x H) : s.TypeIs v T/\∀ a,v=.ref a->∃ ob,s.heap.get? a=some ob/\ob.dict=none:=by
 cases x with
 |str z =>obtain ⟨t,rfl⟩:=r;cases (show T="str" from ty);exact ⟨tW s z t,λ_ e=>nomatch e⟩
 |int i =>obtain ⟨t,rfl⟩:=r;cases (show T="int" from ty);exact ⟨vf s i t,λ_ e=>nomatch e⟩
 |ref p =>
  cases r;rcases ty with ⟨rfl,xs,l⟩|⟨rfl,⟨o,b,q,g⟩|⟨xs,b⟩⟩|⟨rfl,b⟩|⟨rfl,S,n,b⟩
  ·obtain ⟨aJ,_,pl,_⟩:=I.list l;refine ⟨pl.isList.typeIs,λa e=>?_⟩;cases e;obtain ⟨o,n,e,c,g,_⟩:=pl;exact ⟨o,e,g⟩
  ·refine ⟨⟨o,I.gn p o b,q⟩,λa e=>?_⟩;cases e;exact ⟨o,I.gn _ o b,g⟩
  ·obtain ⟨_,_,_,o,j,k,n,u,m⟩:=(show dZ X.prog X.w H s.heap p (.tup xs) from I.hok p _ b);refine ⟨⟨o,j,k⟩,λa e=>?_⟩;cases e;exact ⟨o,j,m⟩
  ·have z:∃ o,s.heap.get? p=some o/\o.ExactDict:=by
    rcases b with ⟨aY,b⟩|⟨aY,b⟩
    ·obtain ⟨_,_,_,_,o,_,_,e,ex,_⟩:=I.hok p _ b;exact ⟨o,e,ex⟩
    ·obtain ⟨_,_,_,_,o,_,_,e,ex,_⟩:=I.hok p _ b;exact ⟨o,e,ex⟩
   obtain ⟨o,e,ex⟩:=z;refine ⟨⟨o,e,ex.1⟩,λa d=>?_⟩;cases d;exact ⟨o,e,ex.2.1⟩
  ·obtain ⟨o,_,_,_,e,ex,_⟩:=I.hok p _ b;refine ⟨⟨o,e,ex.1⟩,λa d=>?_⟩;cases d;exact ⟨o,e,ex.2.1⟩
 |_=>exact elim ty
def Vg (K:bG) (T:String) (r:V->aA->Hp->VK->Prop) (to:TE) (t:TA):TE:=λσ H Q=>to σ H λx H1=>Ve K T x H1/\t σ H1 λxs H2=>r x xs H2 Q
variable {o:Expr} {to:TE} {t:TA} {name:Str} {apos cpos:Pos} {id:String} {r:V->aA->Hp->VK->Prop}
theorem iV (pa:PlainAttrs T) (slot:Slot T name id) (hty:typeOf (.builtin id)=pure (.type "method_descriptor")) (hm:Ae X id r) (ho:PE X o to) (ha:PA X (e::es) t) (hbase:attributeBase o name X.env (eval o X.env)=eval o X.env:=by rfl) (hfew:((backTo cpos (starEach (e::es) X.env)).all (λx=>!x.1) && (backToKw cpos (keywordEach [] X.env)).all (λx=>x.1.isSome) && decide ((e::es).length+([]:List Keyword).length+(if ([]:List Keyword).isEmpty then 0 else 1)<30))=true:=by rfl) (hline:(apos.endLine == cpos.line)=true:=by rfl) (hs:starEach (e::es) X.env=(false,eval e X.env)::starEach es X.env:=by rfl) (hplain:(backTo cpos (starEach es X.env)).any (·.1)=false:=by rfl) : PE X (.Call (.Attribute o name apos) (e::es) [] cpos) (Vg X.K T r to t):=by intro ak s σ H Q I h;refine wpAny_Call_method_late hbase hfew hline rfl (bA (ho ak s σ H _ I h) λv i ⟨x,H1,b,c,ty,l⟩=>?_);obtain ⟨h1,h2⟩:=ao6 b c ty;refine ⟨T,id,pa,slot,hty,h1,h2,?_⟩;have a:=ha cpos ak i σ H1 _ b l;rw [hs] at a ⊢;refine Calls.callWith_builtin (by show (false || (backTo cpos (starEach es X.env)).any (·.1))=false;rw [hplain]<;>rfl) (Calls.evalArgs_plain ?_);exact bA a λus k ⟨vs,H2,d,j,g⟩=>hm ak k σ H2 x vs v us Q d c j g
/- xs.append(e),list.index on a module's tuple .. are Ae facts of 06m -/
end
def Vh (X:Cx) (id:String) (r:V->aA->Hp->VK->Prop):Prop :=
 ∀ (ak:List (Addr×Obj)) (s:Shared) (σ:St) (H:Hp) (x:V) (xs:aA) (v:Value) (us:bV) (Q:VK),aD X ak σ H s->cA x v->bO xs us->r x xs H Q ->
  wpAny (model X.prog X.w) X.A (call (.builtin id) (v::us)) (EP X ak σ Q) X.xe s
theorem bO.one:∀ {x:V} {us:bV},bO [x] us->∃ u,us=[u]/\cA x u
 |_,_,.cons r .nil=>⟨_,rfl,r⟩
theorem bO.two:∀ {x y:V} {us:bV},bO [x,y] us->∃ u v,us=[u,v]/\cA x u/\cA y v
 |_,_,_,.cons r (.cons q .nil)=>⟨_,_,rfl,r,q⟩
theorem bO.rep (h:bO xs us):∀ k:Nat,bO (replicate k xs).flatten (replicate k us).flatten
 |0=>.nil
 |k+1=>by rw [ju,ju,vg,vg];exact bO.append h (bO.rep h k)
theorem foldl_rep (aJ:bV):∀ (k:Nat) (bU:bV),foldl (λx1 x2=>x1++x2) bU.toArray (replicate k aJ.toArray)=(bU++(replicate k aJ).flatten).toArray
 |0,bU=>by simp
 |k+1,bU=>by
  have e:bU.toArray++aJ.toArray=(bU++aJ).toArray:=by simp
  have a:(bU++aJ)++(replicate k aJ).flatten=bU++(replicate (k+1) aJ).flatten:=by rw [ju,vg,vh]
  rw [<-a,<-foldl_rep aJ k (bU++aJ),<-e,ju,jG]
section
variable {X:Cx} {l:Addr} {ys zs:aA}
theorem aD.aes {f:g_->g_} (I:aD X ak σ H s) (hH:H l=some (.lst xs)) (e:s.heap.get? l=some { cls:=.type "list",data:=.seq aJ.toArray n }) (hf:f aJ.toArray=its'.toArray) (hv:bO ys its') (hz:ys.length<=sizeLine) : aD X ak σ (upd H l (.lst ys)) { s with heap:=s.heap.update l (Obj.mapSeq f),toks:=t' }:=by have q:=PySem.IsL.update e f;rw [hf] at q;exact I.write (x:=l) (e:=l) (by rw [hH];exact trivial) (.inl rfl) (λc u a b=>(u_ s.heap (Obj.mapSeq f) (bF a)).trans b) ⟨_,q⟩ ⟨hz,its',_,hv,q⟩
theorem aD.aeu (I:aD X ak σ H s) (hv:bO ys aJ) (hz:ys.length<=sizeLine) : aD X ak σ (upd H s.heap.objs.size (.lst ys)) { s with heap:=s.heap.push { cls:=.type "list",data:=.seq aJ.toArray },toks:=t' }:=I.laid (λ_ _ q=>dF _ q) (bI _) ⟨hz,aJ,0,hv,fQ _ rfl⟩
theorem aD.fresh (I:aD X ak σ H s):H s.heap.objs.size=none:=I.hok.fresh (bI _)
theorem aD.Dr (I:aD X ak σ H s) (hH:H l=some (.lst xs)):xs.length<=sizeLine/\∃ (aJ:bV) (n:Nat),bO xs aJ/\xs.length=aJ.length/\s.heap.get? l=some { cls:=.type "list",data:=.seq aJ.toArray n }:=by obtain ⟨z,aJ,n,r,e⟩:=I.hok l _ hH;exact ⟨z,aJ,n,r,r.length,e⟩
theorem abf (h:n<=sizeLine):listTooLong n=false:=by unfold listTooLong;exact lJ (by lk)
end
section
variable {X:Cx}
inductive akN (x:V) (vs:aA) (H:Hp) (Q:VK):Prop
 |mk (l:_) (xs:_) (y:_) (h1:x=.ref l) (h2:vs=[y]) (h3:H l=some (.lst xs)) (h4:xs.length<sizeLine) (h5:Q .non (upd H l (.lst (xs++[y]))))
def am0:V->aA->Hp->VK->Prop:=λx vs H Q=>akN  x vs H Q
theorem tV:Vh X "list.append" am0:=by rintro ak s σ H x vs v us Q I c b ⟨l,xs,y,rfl,rfl,a,g,q⟩;cases c;obtain ⟨u,rfl,d⟩:=b.one;obtain ⟨z,aJ,n,r,i,e⟩:=I.Dr a;refine lX F.slot_list_append ⟨_,e,rfl⟩ F.entry_list_append (F.args_list_append_2 _ _) (PySem.list_append l aJ.toArray n u (by rw [gU];lk)) ⟨e,.non,_,I.aes (its':=aJ++[u]) a e (by simp) (r.append (.cons d .nil)) ?_,rfl,q⟩;rw [dJ,yO];lk
inductive akO (x:V) (vs:aA) (H:Hp) (Q:VK):Prop
 |mk (l:_) (b:_) (xs:_) (zs:_) (h1:x=.ref l) (h2:vs=[.ref b]) (h3:H l=some (.lst xs)) (h4:H b=some (.lst zs)) (h5:xs.length+zs.length<=sizeLine) (h6:Q .non (upd H l (.lst (xs++zs))))
def am1:V->aA->Hp->VK->Prop:=λx vs H Q=>akO  x vs H Q
theorem IK:Vh X "list.extend" am1:=by
 rintro ak s σ H x vs v us Q I p m ⟨l,b,xs,zs,rfl,rfl,d,t,B,q⟩;cases p;obtain ⟨u,rfl,y⟩:=m.one;cases y;obtain ⟨z,aJ,n,r,D,e⟩:=I.Dr d;obtain ⟨C,a,g,i,k,o⟩:=I.Dr t;have c:aJ.toArray.size+a.toArray.size<=sizeLine:=by rw [gU,gU];lk
 have j:¬ (!aJ.toArray.isEmpty && listTooLong (aJ.toArray.size+a.toArray.size))=true:=by rw [abf c,Bool.and_false];exact iQ
 refine lX F.slot_list_extend ⟨_,e,rfl⟩ F.entry_list_extend (F.args_list_extend_2 _ _) (AutoSeq1.list_extend_list_list_0 l aJ.toArray n b a.toArray g j (by rw [gU];lk) (by lk)) ⟨e,o,.non,_,I.aes (its':=aJ++a) d e (by simp) (r.append i) ?_,rfl,q⟩;rw [dJ];lk
inductive aqg (x:V) (y:V) (H:Hp) (Q:VK):Prop
 |mk (l:_) (b:_) (xs:_) (zs:_) (h1:x=.ref l) (h2:y=.ref b) (h3:H l=some (.lst xs)) (h4:H b=some (.lst zs)) (h5:xs.length+zs.length<=sizeLine) (h6:∀ p,H p=none->Q (.ref p) (upd H p (.lst (xs++zs))))
def arp:R2:=λx y H Q=>aqg  x y H Q
theorem vK:dO X (binaryOp .Add) arp:=by
 rintro ak s σ H x y v u Q I j m ⟨l,b,xs,zs,rfl,rfl,c,k,o,q⟩;cases j;cases m;obtain ⟨z,aJ,n,r,B,e⟩:=I.Dr c;obtain ⟨t,a,p,d,g,i⟩:=I.Dr k;refine PySem.P.add_list e i ?_ (by rw [gU,gU];lk);have ea:aJ.toArray++a.toArray=(aJ++a).toArray:=by simp
 rw [ea];exact ⟨.ref _,_,I.aeu (t':=s.toks) (r.append d) (by rw [dJ];lk),rfl,q _ I.fresh⟩
inductive aqh (x:V) (y:V) (H:Hp) (Q:VK):Prop
 |mk (l:_) (k:_) (xs:_) (h1:x=.ref l) (h2:y=.int k) (h3:H l=some (.lst xs)) (h4:-(2 ^ 63)<=k) (h5:k<2 ^ 63) (h6:xs.length*k.toNat<=sizeLine) (h7:∀ p,H p=none->Q (.ref p) (upd H p (.lst (replicate k.toNat xs).flatten)))
def arq:R2:=λx y H Q=>aqh  x y H Q
theorem Qc (xs:List α) (k:Nat):(replicate k xs).flatten.length=k*xs.length:=by
 induction k with
 |zero=>simp
 |succ k a=>rw [ju,vg,dJ,a,Nat.succ_mul,Rg]
theorem Gb:dO X (binaryOp .Mult) arq:=by
 rintro ak s σ H x y v u Q I C J ⟨l,k,xs,rfl,rfl,o,h1,h2,j,q⟩;cases C;obtain ⟨t,rfl⟩:=J;obtain ⟨z,aJ,n,r,D,e⟩:=I.Dr o;have B:aJ.toArray.size*k.toNat<=sizeLine:=by rw [gU,<-D];exact j
 have b:¬ aJ.toArray.size*k.toNat>(2 ^ 63-1) / 8:=by
  have:(sizeLine:Nat)<=(2 ^ 63-1) / 8:=by decide
  lk
 have d:¬ (!Builtin.List.listFitsIndex k)=true:=by rw [fitsIndex_both h1 h2];exact iQ
 have p:¬ listTooLong (aJ.toArray.size*k.toNat)=true:=by rw [abf B];exact iQ
 have c:foldl (λg i=>g++i) #[] (replicate (if aJ.toArray.isEmpty=true then 0 else k.toNat) aJ.toArray)=(replicate k.toNat aJ).flatten.toArray:=by
  have f0:∀ m:Nat,foldl (λg i=>g++i) #[] (replicate m aJ.toArray)=(replicate m aJ).flatten.toArray:=λm=>by have:=foldl_rep aJ m [];rw [List.nil_append] at this;exact this
  rw [f0];cases aJ with
  |nil=>simp
  |cons a L=>rw [aK (by simp)]
 refine Jt (T:="list") (U:="int") (by decide) ⟨_,e,rfl⟩ (λs'=>vf s' k t) noFill_list_mul Ju wY repeat_list Jv.lookup (lX wY (vf s k t) Jw (Jx _ _) (int___rmul___int_list k t l aJ.toArray n) ⟨e,rfl,⟨_,e,rfl⟩,lX F.slot_list_mul ⟨_,e,rfl⟩ F.entry_list_mul (F.args_list_mul_2 _ _) (AutoListH.list___mul___list_int_3 l aJ.toArray n k t d b p) ⟨e,?_⟩⟩);rw [c];exact ⟨.ref _,_,I.aeu (t':=s.toks) (r.rep k.toNat) (by rw [Qc,Jy];exact j),rfl,q _ I.fresh⟩
end
end
variable {loose:bK} {XP:dR->Heap->Prop} {YP:World->Heap->Prop}
namespace Att
open PySem.W PySem.Calls PyProof.Rows
section
theorem afe {P:Params}:∀ (ns:aF) (vs:bV),WellAll P h vs (ns.map WData.int)->IntsAre vs ns:=by
 intro ns;induction ns with
 |nil =>intro vs w;rw [zO] at w;cases w;exact .nil
 |cons n ns c =>
  intro vs w;rw [gb] at w;cases w with
  |cons a b =>cases a;exact .cons _ _ (c _ b)
theorem aiI {l:OpenLaw} (hn:l.most=some n) {P:Params} {args:List WData} {vals:bV} (hpre:l.row.toRowW.claim.pre args=true) (hwl:WellAll P h vals args) : ∃ a vs ns,vals=[Value.ref a]/\args=[WData.list (ns.map WData.int)]/\h.get? a=some { cls:=.type "list",data:=.seq vs.toArray }/\IntsAre vs ns/\ns.length<=n:=by
 have e:WShape.hasAll [] args [.list .int]=true:=(pre_splitW hpre).1;have g:l.pre.holds [] { args:=args }=true:=(pre_splitW hpre).2;obtain ⟨d,r,rfl,h1,h2⟩:=hasAllW_cons e;obtain rfl:=hasAllW_nil h2;obtain ⟨xs,rfl,j⟩:=hasW_list h1;obtain ⟨ns,rfl⟩:=items_int j;have k:ns.length<=n:=by
  unfold OpenLaw.pre at g;have c:(WTm.not (.lt (.lit (.int (n:Int))) (.len (.arg 0)))).holds [] { args:=[.list (ns.map .int)] }=true:=by have c:=(holds_andW g).1;rw [hn] at c;exact c
  have h5:=condW_of c (w_not (w_lt w_lit (w_len_list (w_arg rfl))));rw [bh] at h5;refine Nat.le_of_not_lt λq=>?_;have m:(n:Int)<((ns.length:Nat):Int):=by lk
  first
   |(rw [fM m] at h5;exact absurd h5 (by decide))
   |(simp at h5;lk)
 cases hwl with
 |cons p i =>
  cases i;cases p with
  |list o b=>exact ⟨_,_,ns,rfl,rfl,o,afe ns _ b,k⟩
theorem aiJ (l:OpenLaw) (args:List WData):l.row.toRowW.claim.post args (.bool true) args=true:=postW_of (r:=l.row.toRowW) (X:=(true == true)) (show WShape.has [] (.bool true) .bool=true by first|rfl|decide|simp [WShape.has,WShape.arms,WShape.armsAll]) (show (WTm.eq .res (.lit (.bool true))).value [] { args:=args,res:=some (.bool true),after:=args }=some (.bool (true == true)) from w_eq_bool (w_res rfl) w_lit) rfl
theorem agC {l:OpenLaw} {q:Program} {d:DefRec} (hn:l.most=some n) (hdf:d.params.defaults=[]) (call:∀ (w:World) (s₀ s₁:Shared) (mg mb:dR) (fa:Addr) (o:Obj) (pm cd doc:Value) (a:Addr) (vs:bV) (ns:aF),Ground q loose [] XP w s₀ mg mb s₁.heap->YP w s₁.heap ->s₁.heap.get? fa=some o->o.data=.func (docDef d.name d.params d.body d.scope pm cd doc)->s₁.heap.CodeRec cd d.name->mg d.name=some (.ref fa) ->s₁.heap.get? a=some { cls:=.type "list",data:=.seq vs.toArray }->IntsAre vs ns->ns.length<=n->s₁.gens=#[] ->codeAny (model l.prog w) callerA (.call (.ref fa) ⟨[.ref a],[]⟩) (λr s'=>r=.ok (.ret (.bool true))/\OldK s₁.heap s'.heap/\s'.os=s₁.os/\AllBare s'.gens) s₁) : WalkO q loose XP YP l.row.toRowW d [] (λf vs=>PySem.call f vs):=by intro w s₀ s₁ mg mb G Y fa o pm cd doc y kV I J g m j u k vals L c p v i D;obtain rfl:y=.none:=Dflts.none m hdf;obtain rfl:kV=.none:=Dflts.noKw m;obtain ⟨a,vs,ns,rfl,rfl,e,b,B⟩:=aiI hn c i;refine enter_call (sE (call w s₀ s₁ mg mb fa o pm cd doc a vs ns G Y I (fd_plain J) g j e b B u) λr s' t=>?_);obtain ⟨rfl,h2,x,z⟩:=t;exact ⟨.inl ⟨.bool true,.bool true,[],rfl,λ_=>rfl,.bool true,aiJ l _,λ_=>⟨Pairwise.nil,λ_ C=>(nomatch C)⟩⟩,h2,x,z⟩
section
variable {K:Frag}
end
end
end Att
variable {CX:qj} {sp:Sp} {X:Cx} {B:Prop} {H1 H2 H':Hp} {l:Addr} {g:TG} {tt:TT} {te:TE} {o:HO} {rs:aA} {ws:aP} {aj:Int} {v:V}
section
open PySem.Spec PyProof.Rows
theorem IV:∀ {vs:bV} {ns:aF},IntsAre vs ns->bO (ns.map V.int) vs
 |_,_,.nil=>.nil
 |_,_,.cons n t h=>.cons ⟨t,rfl⟩ (IV h)
def Tz (H:Hp):Prop:=∀ b,H b=none\/∃ o xs,H b=some (.oE o (.lst xs))
theorem akP {mb:dR} {k:Nat} {fa:Addr} {s₁:Shared} (KX:K.In s₁.heap) (hns:s₁.heap.Ns mainGlobals mg) (hb:s₁.heap.Ns builtinsNs mb) (hbb:∀ x:Str,x≠"__name__"->mb x=bootBuiltins x) (hlim:s₁.heap.NoLimit) (hg:s₁.gens=#[]) (ha:s₁.heap.get? a=some { cls:=.type "list",data:=.seq vs.toArray }) (hi:IntsAre vs ns) (hl:ns.length<=sizeLine) (hr:eG k callerA) (F:∀ au:Heap,K.In au->au.Ns mainGlobals mg->dw P w K mg au CX k fa fd [x] sp) (hbind:∀ (s:Shared) (u:Value),BindsTo s fd ⟨[u],[]⟩ [(x,u)]) (hsp:∀ H:Hp,Tz H->dH K H a (ns.map V.int)->sp [.ref a] H (λv _=>v=.bl true) λ_ _ _=>False) (Vi:∀ H e s',CX [] H s₁ (λ_ _ _=>False) e s'->False) : codeAny (model P w) callerA (.call (.ref fa) ⟨[.ref a],[]⟩) (λr s'=>r=.ok (.ret (.bool true))/\OldK s₁.heap s'.heap/\s'.os=s₁.os/\AllBare s'.gens) s₁:=by
 have N:=IV hi;have j:=hi.length
 -- from an abstract heap in which nothing but the script may be tracked
 have c:∀ H:Hp,Tz H->dH K H a (ns.map V.int)->gM P w H s₁.heap->(∀ b,H b≠none->b=a)->(H a≠none->K.lookup a=none) ->codeAny (model P w) callerA (.call (.ref fa) ⟨[.ref a],[]⟩) (λr s'=>r=.ok (.ret (.bool true))/\OldK s₁.heap s'.heap/\s'.os=s₁.os/\AllBare s'.gens) s₁:=by
  intro H L O i M hK;have y:∀ {b:Addr} {o:Obj},s₁.heap.get? b=some o->H b=none->(wA s₁.heap H).get? b=some o:=λe n=>akF e n;have W:∀ {b:Addr} {o:Obj} {es:Array DictEntry} {p:Nat},s₁.heap.get? b=some o->o.data=.dict es p->H b=none:=λ{b o es p} e d=>by
   cases q:H b with
   |none=>rfl
   |some u =>have I:b=a:=M b (by rw [q];simp);subst I;rw [ha] at e;cases e;have d':Data.seq vs.toArray _=Data.dict es p:=d;cases d'
  have C:∀ {b:Addr} {m:dR},s₁.heap.Ns b m->(wA s₁.heap H).Ns b m:=λ{b m} ⟨o,es,p,e,d,r⟩=>⟨o,es,p,y e (W e d),d,r⟩;have g:K.In (wA s₁.heap H):=λb o e=>y (KX b o e) (by
   cases q:H b with
   |none=>rfl
   |some u =>have I:b=a:=M b (by rw [q];simp);subst I;rw [hK (by rw [q];simp)] at e;cases e)
  have hM:Mod K mg (wA s₁.heap H):=⟨g,C hns,⟨mb,C hb,hbb⟩,let ⟨mc,h1,h2⟩:=hlim;⟨mc,C h1,h2⟩⟩;have e0:z8 P w K mg (wA s₁.heap H) callerA [] s₁ H:=⟨rfl,hM,λb o e=>amR e,Td (aiy _ _),trivial,λb hb=>absurd (show b∈([]:jk) from hb) (by simp),i,.of_eq hg⟩;refine sE ((F _ g (C hns)).run callerA [] s₁ H ⟨[.ref a],[]⟩ [.ref a] [.ref a] _ _ hr e0 (hbind s₁ (.ref a)) (.cons rfl .nil) (hsp H L O)) λr s' h=>?_;cases r with
  |error e=>exact (Vi H e s' h).elim
  |ok R =>
   cases R with
   |next=>exact elim h
   |brk=>exact elim h
   |cont=>exact elim h
   |ret u =>
    obtain ⟨v,H',os,l,un,t,Y,q⟩:=h;have q':v=.bl true:=q;subst q';obtain rfl:u=Value.bool true:=Y;refine ⟨rfl,OldK.of_keep λb o e=>?_,os,l⟩;cases q:H b with
    |none=>exact un.keep b o e q (by intro z;exact absurd (show b∈([]:jk) from z) (by simp)) (by simp)
    |some u =>
     rcases L b with z|⟨S,xs,z⟩
     ·rw [q] at z;cases z
     ·have z2:=un.mq b S _ z;obtain ⟨J,_⟩:=i b _ z;obtain ⟨U,_⟩:=t b _ z2;rw [e] at J;cases J;exact U
 cases D:K.lookup a with
 |some o =>
  -- the script is one of the module's own objects
  have e:=KX a o D;rw [ha] at e;cases e;refine c (λ_=>none) (λ_=>.inl rfl) (.inr ⟨_,vs.toArray,_,D,rfl,rfl,rfl,by rw [gU,j];exact hl,by simpa using N⟩) (λb u z=>by have B:(none:Option HO)=some u:=z;cases B) (λb z=>absurd rfl z) λz=>absurd rfl z
 |none =>
  refine c (λb=>if b=a then some (.oE { cls:=.type "list",data:=.seq vs.toArray } (.lst (ns.map V.int))) else none) (λb=>?_) (.inl (.inr ⟨{ cls:=.type "list",data:=.seq vs.toArray },aQ rfl⟩)) (λb u z=>?_) (λb z=>?_) λ_=>D
  ·by_cases hb:b=a
   ·exact .inr ⟨_,_,aQ hb⟩
   ·exact .inl (aK hb)
  ·by_cases hb:b=a
   ·have B:=(aQ hb).symm.trans z;cases B;subst hb;exact ⟨ha,by rw [bh];exact hl,vs,_,N,ha⟩
   ·have B:=(aK hb).symm.trans z;cases B
  ·by_cases hb:b=a
   ·exact hb
   ·exact absurd (aK hb) z
theorem am2 {l:PySem.W.OpenLaw} {k:Nat} {q:Program} {d:DefRec} {K:Params->bG} {CX:World->qj} {sp:World->Sp} (hn:l.most=some n) (hn2:n<=sizeLine) (hdf:d.params.defaults=[]) (hr:eG k callerA) (hY:∀ (w:World) (h:Heap),YP w h->(K w.params).In h) (F:∀ (w:World) (mg:dR) (fa:Addr) (h:Heap),(K w.params).In h->h.Ns mainGlobals mg->mg d.name=some (.ref fa) ->∃ fd:FuncData,(∀ (s:Shared) (u:Value),BindsTo s fd ⟨[u],[]⟩ [(x,u)]) /\∀ au:Heap,(K w.params).In au->au.Ns mainGlobals mg->dw l.prog w (K w.params) mg au (CX w) k fa fd [x] (sp w)) (hsp:∀ (w:World) (H:Hp) (a:Addr) (ns:aF),ns.length<=n->Tz H->dH (K w.params) H a (ns.map V.int)->sp w [.ref a] H (λv _=>v=.bl true) λ_ _ _=>False) (Vi:∀ (w:World) (H:Hp) (s:Shared) (e:Value) (s':Shared),CX w [] H s (λ_ _ _=>False) e s'->False) : PySem.W.WalkO q loose XP YP l.row.toRowW d [] (λf vs=>PySem.call f vs):=by refine Att.agC hn hdf λw s₀ t mg L fa o pm cd D a vs ns G Y I J r j i c m z=>?_;have KX:=hY w _ Y;obtain ⟨fd,C,B⟩:=F w mg fa _ KX G.T.g j;exact akP KX G.T.g G.T.b G.T.builtins G.T.nolimit z i c (gR m hn2) hr B C (λH y p=>hsp w H a ns m y p) λH e s'=>Vi w H t e s'
def jX (s:Stmt) (j:Nat):Stmt:=match s with
 |.ClassDef _ _ _ body _ _ _ _ _ _ _=>body.getD j (.Pass ⟨0,0,0,0⟩)
 |_=>.Pass ⟨0,0,0,0⟩
def kJ (s:Stmt):Arguments:=match s with
 |.FunctionDef _ a _ _ _ _ _ _ _ _=>a
 |_=>{ posonlyargs:=[],args:=[],vararg:=none,kwonlyargs:=[],kw_defaults:=[],kwarg:=none,defaults:=[] }
def jO (s:Stmt):List Stmt:=match s with
 |.FunctionDef _ _ b _ _ _ _ _ _ _=>b
 |_=>[]
def gG (s:Stmt):Scope:=match s with
 |.FunctionDef _ _ _ _ _ _ sc _ _ _=>sc
 |_=>{ kind:=.function,names:=[],isGenerator:=false,isCoroutine:=false }
abbrev jL:qj:=λ_ _ _ _ _ _=>False
abbrev E0:XK:=λ_ _ _=>False
theorem Gq:uZ jL X E0:=λ_ _ _ _ _ _ _ h=>h.elim
structure wF (K:bG) (x bZ:Str) (st:Stmt) (f:Addr) (fd:FuncData):Prop where
 ex:∃ (oc:Value) (od:jy) (kV doc pm:Value) (an:jy) (cdv ct:Value) (osl:ux),
  fd=fnOf x bZ (kJ st) (jO st) (gG st) .none kV doc pm an cdv ct/\K.lookup f=some ⟨oc,od,.func fd,osl⟩/\codeIn K cdv bZ=true
 kp:keepIn K (.ref f)=true
section
theorem wF.ok {st:Stmt} {k:Nat} (F:wF K x bZ st f fd) (S:rW N ps (gG st)) (len:∀ vs H Q E,sp vs H Q E->vs.length=ps.length) (hbody:∀ (cdv:Value) (A:Around) (outer:nQ) (s:Shared) (H:Hp) (vs:aA) (Q:VK) (E:XK),eG k (A.deeper (envOfC bZ (gG st) s.heap.objs.size f cdv))->sp vs H Q E ->∃ t,oF (z9 jL P w K mg au N bZ (gG st) f cdv A outer s H E).yw (jO st) t/\t { nx:=λ_ H'=>Q .non H',rt:=Q } (start N vs) H):dw P w K mg au jL (k+1) f fd ps sp:=by obtain ⟨oc,od,kV,d,pm,an,cdv,ct,osl,rfl,c,a⟩:=F.ex;refine ad1 c a S len λA outer s H vs Q E hr b=>?_;obtain ⟨t,h,q⟩:=hbody cdv A outer s H vs Q E hr b;exact ⟨t,h.yw,q⟩
theorem wF.binds {st:Stmt} (F:wF K x bZ st f fd) (h:∀ (kV doc pm:Value) (an:jy) (cdv ct:Value) (us:bV),us.length=ps.length->bindArgs (fnOf x bZ (kJ st) (jO st) (gG st) .none kV doc pm an cdv ct) ⟨us,[]⟩=pure (ps.zip us)):mK K fd ps []:=by obtain ⟨oc,od,kV,doc,pm,an,cdv,ct,osl,rfl,b,a⟩:=F.ex;exact .all (h kV doc pm an cdv ct)
theorem K6 {st:Stmt} {kV doc cdv:Value} (l:K.lookup f=some ⟨oc,od,.func (fnOf x bZ (kJ st) (jO st) (gG st) .none kV doc pm an cdv ct),osl⟩) (c:codeIn K cdv bZ=true) (k:keepIn K (.ref f)=true):wF K x bZ st f (fnOf x bZ (kJ st) (jO st) (gG st) .none kV doc pm an cdv ct):=⟨⟨oc,od,kV,doc,pm,an,cdv,ct,osl,rfl,l,c⟩,k⟩
end
theorem yc {k:Nat} (hr:eG k A):A.units+1<cLine:=Rh (Nat.add_le_add_left (by decide:1<=64) _) hr.units
theorem aaB (h:n<=1000):n<sizeLine:=Rh h (by decide)
section
theorem pv (i:Nat) (hN:X.N[i]?=some x:=by rfl) (hv:Mt X.env.scope x:=by first|exact Or.inl rfl|exact Bu (Or.inl rfl)|exact Bu (Bu rfl)) (hd:(x == ("__debug__":Str))=false:=by decide) (hcd:(x == ("__classdict__":Str))=false:=by decide):PE X (.Name x pos) (mX i):=aoW hN hv hd hcd
end
theorem pB {c A:Prop} [Decidable c] (h1:c->A) (h2:¬ c->B):if c then A else B:=by
 by_cases h:c
 ·rw [aQ h];exact h1 h
 ·rw [aK h];exact h2 h
def aB (H H':Hp):Prop:=∀ b o,H b=some o->H' b=some o
theorem aB.refl (H:Hp):aB H H:=λ_ _ h=>h
def cW:=@aB.refl
theorem aB.trans (a:aB H H1) (b:aB H1 H2):aB H H2:=λc o h=>b c o (a c o h)
def aG:=@aB.trans
theorem aB.free (e:aB H H') (h:H' l=Option.none):H l=Option.none:=by
 cases q:H l with
 |none=>rfl
 |some o =>rw [e l o q] at h;cases h
theorem aB.seq (e:aB H H') (h:dH K H a xs):dH K H' a xs:=by
 rcases h with (h|⟨o,h⟩)|h
 ·exact .inl (.inl (e _ _ h))
 ·exact .inl (.inr ⟨o,e _ _ h⟩)
 ·exact .inr h
def mU (env:Env):List (Str×NameKind)->um->um
 |[],bU=>bU
 |(n,k)::r,bU=>if k == .free then mU env r ((n,(env.cells.lookup n).getD 0)::bU) else mU env r bU
theorem R6 {f:Str×NameKind->um->Sem (ForInStep um)} (hf:∀ n k bU,f (n,k) bU=if k == .free then (do let a <-cellOf env n;pure (yield ((n,a)::bU))) else pure (yield bU)) : ∀ (names:List (Str×NameKind)) (bU:um),(∀ p∈names,p.2=.free->∃ a,env.cells.lookup p.1=some a) ->(forIn names bU f:Sem um)=pure (mU env names bU)
 |[],bU,_=>rfl
 |(n,k)::r,bU,h=>by
  rw [Bv,hf];unfold mU;by_cases b:(k == NameKind.free)=true
  ·rw [aQ b,aQ b];obtain ⟨a,d⟩:=h (n,k) iy (by simpa using b);have e:cellOf env n=pure a:=by unfold cellOf;rw [show env.cells.lookup n=some a from d]
   rw [e,show env.cells.lookup n=some a from d];simp only [pure_bind];exact R6 hf r _ λp c=>h p (fG _ c)
  ·rw [aK b,aK b,pure_bind];exact R6 hf r _ λp c=>h p (fG _ c)
theorem afr (h:∀ p∈scope.names,p.2=.free->∃ a,env.cells.lookup p.1=some a):closureFor scope env=pure (mU env scope.names []):=by
 simp only [closureFor];rw [R6 (env:=env) (λn k c=>?_) scope.names [] h]
 ·rfl
 ·by_cases b:(k == NameKind.free)=true
  ·simp only [b,tX]
  ·simp only [b,rM]
theorem R7:∀ {names:List (Str×NameKind)} {bU:um},(∀ p∈names,p.2=.free->∃ a,env.cells.lookup p.1=some a)->∀ p∈mU env names bU,p∈bU\/(env.cells.lookup p.1=some p.2)
 |[],bU,_,p,hp=>.inl hp
 |(n,k)::r,bU,h,p,hp=>by
  unfold mU at hp;have hr:∀ p∈r,p.2=.free->∃ a,env.cells.lookup p.1=some a:=λp hp=>h p (fG _ hp);by_cases b:(k == NameKind.free)=true
  ·rw [aQ b] at hp;obtain ⟨a,c⟩:=h (n,k) iy (by simpa using b);rcases R7 hr p hp with q|q
   ·rcases fW.mp q with q|q
    ·subst q;right;show env.cells.lookup n=some ((env.cells.lookup n).getD 0);rw [show env.cells.lookup n=some a from c];rfl
    ·exact .inl q
   ·exact .inr q
  ·rw [aK b] at hp;exact R7 hr p hp
theorem R8:∀ {names:List (Str×NameKind)} {bU:um},∀ p∈bU,p∈mU env names bU
 |[],bU,p,hp=>hp
 |(n,k)::r,bU,p,hp=>by
  unfold mU;by_cases a:(k == NameKind.free)=true
  ·rw [aQ a];exact R8 p (fG _ hp)
  ·rw [aK a];exact R8 p hp
theorem Ks:∀ {names:List (Str×NameKind)} {bU:um} {x:Str},(x,NameKind.free)∈names->∃ a,(x,a)∈mU env names bU
 |[],_,_,h=>by cases h
 |(n,k)::r,bU,x,h=>by
  unfold mU;rcases fW.mp h with q|q
  ·cases q;rw [aQ (show (NameKind.free == NameKind.free)=true from rfl)];exact ⟨_,R8 _ iy⟩
  ·by_cases b:(k == NameKind.free)=true
   ·rw [aQ b];exact Ks q
   ·rw [aK b];exact Ks q
theorem O6:∀ {l:List (Str×β)} {x:Str} {b:β},(x,b)∈l->∃ b',l.lookup x=some b'
 |[],_,_,h=>by cases h
 |(n,k)::r,x,b,h=>by
  rw [Bw];cases a:x == n with
  |true=>exact ⟨k,rfl⟩
  |false =>
   rcases fW.mp h with q|q
   ·cases q;simp at a
   ·exact O6 q
theorem Ej:∀ {l:List (Str×β)} {x:Str} {b:β},l.lookup x=some b->(x,b)∈l
 |[],_,_,h=>by simp at h
 |(n,k)::r,x,b,h=>by
  rw [Bw] at h;cases a:x == n with
  |true =>
   rw [a] at h;have:x=n:=by simpa using a
   subst this;cases h;exact iy
  |false =>rw [a] at h;exact fG _ (Ej h)
theorem Y8 {env:Env} {x:Str}:∀ (names:List (Str×NameKind)),(names.map λ(p:Str×NameKind)=>match p with|(n,k)=>if (k == .free && env.scope.kind == .function && env.kindOf n == some .cell) then (n,NameKind.cell) else (n,k)).lookup x = (names.lookup x).map λk=>if (k == .free && env.scope.kind == .function && env.kindOf x == some .cell) then NameKind.cell else k
 |[]=>rfl
 |(n,k)::r=>by
  have c:=@Y8 env x r;rw [gb];show List.lookup x ((if (k == NameKind.free && env.scope.kind == .function && env.kindOf n == some .cell)=true then (n,NameKind.cell) else (n,k))::_)=_;cases b:x == n with
  |true =>
   have e:x=n:=by simpa using b
   subst e;by_cases a:(k == NameKind.free && env.scope.kind == .function && env.kindOf x == some .cell)=true
   ·rw [aQ a];simp only [Bw,b,Bx,aQ a]
   ·rw [aK a];simp only [Bw,b,Bx,aK a]
  |false =>
   by_cases a:(k == NameKind.free && env.scope.kind == .function && env.kindOf n == some .cell)=true
   ·rw [aQ a];simp only [Bw,b];exact c
   ·rw [aK a];simp only [Bw,b];exact c
theorem Zc:(relabel scope env).names.lookup x=(scope.names.lookup x).map λk=>if (k == .free && env.scope.kind == .function && env.kindOf x == some .cell) then NameKind.cell else k :=
 Y8 scope.names
def oV (X:Cx) (N':bK) (scope:Scope) (cl:um) (C:Addr) (s:Shared) (H:Hp) (fp:jk) (pn:List (Addr×Obj)):Cx :=
 { X with N:=N',s₀:=s,H₀:=H,env:=compEnvC scope cl C X.env,outer:=X.stack,stack:=X.stack,ex:=fp,fn:=λ_=>false,pn:=pn,xe:=λ_ _=>False }
def Wk:St->St->Prop
 |[],[]=>True
 |a::r,b::q=>(a=none\/a=b)/\Wk r q
 |_,_=>False
theorem Wk.len:∀ {a b:St},Wk a b->a.length=b.length
 |[],[],_=>rfl
 |_::_,_::_,h=>by simp [Wk.len h.2]
 |[],_::_,h=>elim h
 |_::_,[],h=>elim h
theorem Wk.get:∀ {a b:St},Wk a b->∀ (i:Nat) v,a[i]?=some (some v)->b[i]?=some (some v)
 |[],[],_,i,v,h=>by simp at h
 |x::r,y::q,h,0,v,e=>by
  simp at e;rcases h.1 with z|z
  ·rw [z] at e;cases e
  ·simp [<-z,e]
 |x::r,y::q,h,i+1,v,e=>by simp at e ⊢;exact Wk.get h.2 i v e
 |[],_::_,h,_,_,_=>elim h
 |_::_,[],h,_,_,_=>elim h
def gK (own:Nat) (cI:gA) (σ:St):St:=replicate own none++cI.map λj=>(σ[j]?).join
def G5 (X:Cx) (ifs:List Expr) (t:TT):Prop :=
 ∀ (ak:List (Addr×Obj)) (s:Shared) (σ:St) (H:Hp) (Q:Bool->Hp->Prop),aD X ak σ H s->t σ H Q ->
  wpAny (model X.prog X.w) X.A (forIn ifs true λc r=>if r=true then do let ok <-isTrue c X.env (eval c X.env);pure (yield ok) else pure (yield r)) (TP X ak σ Q) X.xe s
def aev:TT:=λ_ H Q=>Q true H
theorem iG {A B:Hp->Prop} (h:A H):aev σ H (λb H3=>if b=true then A H3 else B H3):=by
 show if true=true then A H else B H
 rw [aQ rfl];exact h
theorem am3:G5 X [] aev:=λ_ _ _ H _ I h=>wpAny_tests_nil ⟨H,I,h⟩
theorem Ci {c:Expr} {t:TT} (h:PT X c t):G5 X [c] t:=λak s σ H Q I q=>wpAny_tests_one (h ak s σ H Q I q)
theorem agD {elt target jo:Expr} {ifs:List Expr} {it bU:Value} (I:Nat->Shared->Prop) (turn:∀ n s,I n s->wpAny (model prog w) A (pyNext it) (λr s₁=>match r with
   |none=>R (.ok .next) s₁
   |some v=>wpAny (model prog w) A (letOwnedTupleGo target it v) (λ_ s₁'=>wpAny (model prog w) A (assign target env v) (λ_ s₂ =>
     wpAny (model prog w) A (forIn ifs true λc r=>if r=true then do let ok <-isTrue c env (eval c env);pure (yield ok) else pure (yield r)) (λok s₃ =>
      if ok=true then wpAny (model prog w) A (eval elt env) (λx s₄ =>
       wpAny (model prog w) A (call (.builtin "list.append") [bU,x]) (λ_ s₅=>∃ m,m<n/\I m s₅) (λ_ _=>False) s₄) (λ_ _=>False) s₃
      else ∃ m,m<n/\I m s₃) (λ_ _=>False) s₂) (λ_ _=>False) s₁') (λ_ _=>False) s₁) (λ_ _=>False) s)
  (n:Nat) (h:I n s) :
  codeAny (model prog w) A (.compLoop (.ListComp elt [⟨target,jo,ifs,0⟩] scope pos) 0 it bU env) R s:=by
 refine codeAny_loop rfl I (λn s j=>?_) n h;show wpAny _ A ((compTurn (.ListComp elt [⟨target,jo,ifs,0⟩] scope pos) 0 it bU env).onRaise (λx=>do noteFrame x env;theTreesLotGoes x)) _ _ s;refine wpAny_noted ?_;rw [compTurn_list];refine bf (wpAny_standAt (bf (lE (turn n s j) (λr s₁ b=>?_) λ_ _ h'=>elim h')));cases r with
 |none=>exact cY b
 |some v =>
  refine bf (lE b (λ_ s₁' a=>?_) λ_ _ h'=>elim h');refine bf (lE a (λ_ s₂ e=>bf (lE e (λok s₃ d=>?_) λ_ _ h'=>elim h')) λ_ _ h'=>elim h');cases ok with
  |false=>exact cY ⟨rfl,d⟩
  |true =>exact bf (bf (lE d (λx s₄ i=>bf (lE i (λ_ s₅ g=>cY (cY ⟨rfl,g⟩)) λ_ _ h'=>elim h')) λ_ _ h'=>elim h'))
def T_ (wi:TI) (own:Nat) (cI:gA) (g:TG) (tt:TT) (te:TE):TE:=λσ H Q=>wi σ H λJ H1=>∀ l,H1 l=none->∃ W:Nat->Nat->aA->Hp->Prop,(∃ m,W 0 m [] (upd H1 l (.lst []))) /\
 ∀ i m ys H,W i m ys H->H l=some (.lst ys)/\((J.stop i H/\Q (.ref l) H)\/(J.go i H/\ys.length<sizeLine/\∃ N:aA->Hp->Prop,(∀ a H',N a H'->∃ c,c<m/\W (i+1) c a H') /\
  ∀ x H',J.oG i H x H'->g x (gK own cI σ) H' λσ2 H2=>Wk (gK own cI σ) σ2 /\
  tt σ2 H2 λb e=>if b=true then te σ2 e λy d=>d l=some (.lst ys)/\N (ys++[y]) (upd d l (.lst (ys++[y]))) else N ys e))
section
variable {elt jo:Expr} {ifs:List Expr} {wi:TI} {ig:bK} {cI:List (Str×Nat)}
theorem akQ {h₁:Heap} (I:aD X ak σ H s) (hf:∀ b∈fp,n_ X ak H b) (hfl:∀ b∈fp,b<s.heap.objs.size) (hkind:scope.kind=.function) (hcell:∀ y∈scope.names,y.2≠.cell) (hfree:∀ p∈scope.names,p.2=.free->X.env.scope.names.lookup p.1=some .cell) (Ua:∀ c∈cI,X.N[c.2]?=some c.1/\X.env.scope.names.lookup c.1=some .cell/\scope.names.lookup c.1=some .free) (hn:h₁.Ns s.heap.objs.size (λ_=>none)) (hk:∀ b o,s.heap.get? b=some o->h₁.get? b=some o) {tk:Nat} : aD (oV X (ig++cI.map (·.1)) scope (mU X.env scope.names []) s.heap.objs.size s H fp (X.pn++ak)) [] (gK ig.length (cI.map (·.2)) σ) H { s with heap:=h₁,toks:=tk }:=by
 have t:∀ p∈scope.names,p.2=.free->∃ a,X.env.cells.lookup p.1=some a:=λp U W=>I.ok.has p.1 (.inl (hfree p U W));have l:∀ {x:Str} {c:Addr},(mU X.env scope.names []).lookup x=some c->X.env.cells.lookup x=some c:=λ{x c} e=>by
  rcases R7 t _ (Ej e) with q|q
  ·cases q
  ·exact q
 have clt:∀ {x:Str} {c:Addr},X.env.cells.lookup x=some c->c<s.heap.objs.size:=λ{x c} e=>by obtain ⟨v,q⟩:=I.cell x c e;exact q.lt
 refine ⟨⟨I.ok.mod,?_,I.ok.glob,I.ok.blt,bI _,λx y c h1 h2=>I.ok.inj x y c (l h1) (l h2),λx hx=>?_,λx c h=>(by cases h),I.ok.hd,I.ok.frames,.inl rfl,λb D=>⟨fO (hfl b D),λx c e=>(hf b D).2.2.2.2.1 x c (l e)⟩,λb o e=>I.bs b o e,gR I.ok.uK I.sz,λb o e z=>?_,λb D z=>?_,I.stack,I.Fx⟩,rfl,I.bare,Un.kept hk,⟨_,hn,λi x v h1 h2 h3=>?_⟩,λx c e=>?_,I.hok.fresh (bI _),λx c e=>I.o8 x c (l e),λp U=>?_,I.hok.kept hk,?_⟩
 ·show (relabel scope X.env).kind=.function;exact hkind
 ·-- a cell for each free name
  have C:(relabel scope X.env).names.lookup x=some .cell\/(relabel scope X.env).names.lookup x=some .free:=hx;rw [Zc] at C;have r:scope.names.lookup x=some .free:=by
   cases q:scope.names.lookup x with
   |none=>rw [q] at C;simp at C
   |some k =>
    have hk':=hcell _ (Ej q);rw [q] at C;cases k with
    |free=>rfl
    |cell=>exact absurd rfl hk'
    |_=>simp at C
  obtain ⟨a,O⟩:=Ks (env:=X.env) (bU:=[]) (Ej r);exact O6 O
 ·-- the au t no iterator of ours
  rcases (hf b z).2.2.2.1 with q|q
  ·exact I.ok.Dm b o e q
  ·exact absurd (mL (cF e) (gR I.ok.uK q)) (uf _)
 ·rcases fW.mp (I.K4 b z) with q|q
  ·exact (hf b D).2.1 q
  ·exact (hf b D).2.2.1 q
 ·-- captured names
  have hi:ig.length<=i:=by
   unfold gK at h2;by_cases hi:ig.length<=i
   ·exact hi
   ·rw [qJ (by simp;lk),uh] at h2;split at h2<;>cases h2
  have g:(ig++cI.map (·.1))[i]?=some x:=h1;unfold gK at h2;rw [xV (by simp;lk),vG,jP,jP] at h2;rw [xV hi,jP] at g;cases S:cI[i-ig.length]? with
  |none=>rw [S] at g;cases g
  |some c =>
   rw [S] at g h2;have ex:c.1=x:=iz g;have B:(σ[c.2]?).join=some v:=iz h2;have L:σ[c.2]?=some (some v):=by
    cases q:σ[c.2]? with
    |none=>rw [q] at B;cases B
    |some z=>rw [q] at B;simp at B;rw [B]
   obtain ⟨k1,J,R⟩:=Ua c (eZ S);rw [ex] at k1 J R;obtain ⟨m,hm,hl⟩:=I.loc;obtain ⟨u,ru,mD⟩:=hl c.2 x v k1 L (.inr (.inl J));refine ⟨u,ru,.inr ⟨.inl ?_,?_⟩⟩
   ·show (relabel scope X.env).names.lookup x=some .cell;rw [Zc,R];have r:X.env.scope.kind=.function:=I.ok.kind;have V:X.env.kindOf x=some .cell:=J;simp [r,V]
   ·rcases mD with ⟨z,_⟩|⟨_,cc,r,V⟩
    ·have z':X.env.scope.names.lookup x=some .local:=z;rw [J] at z';cases z'
    ·obtain ⟨a,O⟩:=Ks (env:=X.env) (bU:=[]) (Ej R);obtain ⟨a',j⟩:=O6 O;have e3:a'=cc:=iz ((l j).symm.trans r);rw [e3] at j;obtain ⟨o,Y,hd⟩:=V;exact ⟨cc,j,o,hk _ _ Y,hd⟩
 ·obtain ⟨v,o,Y,hd⟩:=I.cell x c (l e);exact ⟨v,o,hk _ _ Y,hd⟩
 ·have M:p∈X.pn++ak:=by have:p∈(X.pn++ak)++[]:=U;simpa using this
  obtain ⟨e,n,ne,nf,d⟩:=I.pin p M;refine ⟨hk _ _ e,n,fO (cF e),λz=>?_,d⟩;rcases fW.mp (I.K4 p.1 z) with q|q
  ·exact ne q
  ·exact nf q
 ·show (gK ig.length (cI.map (·.2)) σ).length=(ig++cI.map (·.1)).length;unfold gK;simp
theorem abg (ig:bK) (cI:List (Str×Nat)) (hc:X.calm=true) (hi:PI X tg jo wi) (hg:∀ cl C s H fp pn,PG (oV X (ig++cI.map (·.1)) scope cl C s H fp pn) tg g) (ht:∀ cl C s H fp pn,G5 (oV X (ig++cI.map (·.1)) scope cl C s H fp pn) ifs tt) (he:∀ cl C s H fp pn,PE (oV X (ig++cI.map (·.1)) scope cl C s H fp pn) elt te) (hkind:scope.kind=.function) (hcell:∀ y∈scope.names,y.2≠.cell) (hfr:(scope.names.all λp=>p.2 != .free || X.env.scope.names.lookup p.1 == some .cell)=true) (hcp:(cI.all λc=>X.N[c.2]? == some c.1 && (X.env.scope.names.lookup c.1 == some .cell && scope.names.lookup c.1 == some .free))=true) (hnames:∀ x∈scope.names,x.2=.local->scope.names.lookup x.1=some .local) (hs:∀ x,foldedSetIterable jo X.env x=pure x) {cp:Pos} {use:Option (Value->Sem Unit)} {QQ:lF} {Q:VK} (I:aD X ak σ H s) (h:T_ wi ig.length (cI.map (·.2)) g tt te σ H Q) (after:∀ (s3 s5:Shared) (σ5:St) (H3 H5:Hp) (ac:Addr) (fp:jk),aD X ak σ H3 s3->(∀ b∈fp,n_ X ak H3 b)->aD (oV X (ig++cI.map (·.1)) scope (mU X.env scope.names []) s3.heap.objs.size s3 H3 fp (X.pn++ak)) [] σ5 H5 s5->Q (.ref ac) H5->compPost (model X.prog X.w) X.A X.xe use QQ (.ref ac) s3.heap.objs.size (.ok .next) s5) : wpAny (model X.prog X.w) X.A (comprehension (.ListComp elt [⟨tg,jo,ifs,0⟩] scope pos) scope X.env cp (newList []) false (eval jo X.env) use) QQ X.xe s:=by
 have j:∀ p∈scope.names,p.2=.free->X.env.scope.names.lookup p.1=some .cell:=λp B e=>by have z:=wZ.mp hfr p B;rw [e] at z;simpa using z
 have Ua:∀ c∈cI,X.N[c.2]?=some c.1/\X.env.scope.names.lookup c.1=some .cell/\scope.names.lookup c.1=some .free:=λc hc=>by have z:=wZ.mp hcp c hc;simpa using z
 have has:∀ p∈scope.names,p.2=.free->∃ a,X.env.cells.lookup p.1=some a:=λp B hfr=>I.ok.has p.1 (.inl (j p B hfr));refine wpAny_comprehension_free (use:=use) rfl hs (afr has) hkind hnames (bA (hi ak s σ H _ I h) λv s1 h1=>bA h1 λitv k h2=>?_);obtain ⟨it,fp,tn,J,H2,rfl,I2,T,D,f2,red⟩:=h2;have O:H2 k.heap.objs.size=none:=I2.hok.fresh (bI _);obtain ⟨W,⟨m0,w0⟩,l⟩:=red k.heap.objs.size O;refine yP ?_;generalize t:k.heap.objs.size=ac at O l w0 ⊢;have I3:aD X ak σ (upd H2 ac (.lst [])) { k with heap:=k.heap.push { cls:=.type "list",dict:=none,data:=.seq ([]:bV).toArray } }:=by subst t;exact I2.laid (t':=k.toks) (o:=.lst []) (λb u e=>dF _ e) (bI _) ⟨fP _,[],0,.nil,fQ _ rfl⟩
 generalize hs3:({ k with heap:=k.heap.push { cls:=.type "list",dict:=none,data:=.seq ([]:bV).toArray } }:Shared)=s3 at I3 ⊢;have ars:=T.obj 0 k.heap D;have fne:∀ b∈fp,b≠ac:=λb d z=>by obtain ⟨o,e,_⟩:=ars b d;exact absurd (cF e) (by rw [z,t];exact uf _)
 have f3:∀ b∈fp,n_ X ak (upd H2 ac (.lst [])) b:=λb d=>⟨by rw [aV (fne b d)];exact (f2 b d).1,(f2 b d).2⟩;have R:tn 0 s3.heap:=T.keep 0 _ _ D λb d o e=>by subst hs3;exact dF _ e
 have Vj:∀ b∈fp,b<s3.heap.objs.size:=λb d=>by obtain ⟨o,e,_⟩:=T.obj 0 s3.heap R b d;exact cF e
 have acl:ac<s3.heap.objs.size:=by subst hs3;subst t;simp [pO]
 refine wpAny_newFunctionEnv hcell (by intro y hy;simp at hy) (λh₁ S hsb₁=>?_) hkind;have old:∀ b o,s3.heap.get? b=some o->h₁.get? b=some o:=λb o e=>hsb₁.extBut b o (fO (cF e)) (dF _ e);have I4:=akQ (ig:=ig) (cI:=cI) (tk:=s3.toks+([]:List (Str×Value)).length) I3 f3 Vj hkind hcell j Ua S old;have V:tn 0 h₁:=T.keep 0 _ _ R λb d o e=>old b o e;let Y:=oV X (ig++cI.map (·.1)) scope (mU X.env scope.names []) s3.heap.objs.size s3 (upd H2 ac (.lst [])) fp (X.pn++ak);have m:∀ s4:Shared,s4={ s3 with heap:=h₁,toks:=s3.toks+([]:List (Str×Value)).length }->codeAny (model X.prog X.w) X.A (.compLoop (.ListComp elt [⟨tg,jo,ifs,0⟩] scope pos) 0 (.ref it) (.ref ac) (compEnvC scope (mU X.env scope.names []) s3.heap.objs.size X.env)) (compPost (model X.prog X.w) X.A X.xe use QQ (.ref ac) s3.heap.objs.size) s4:=by
  rintro s4 rfl;refine agD (λn s'=>∃ i ys H',aD Y [] (gK ig.length (cI.map (·.2)) σ) H' s'/\tn i s'.heap/\(∀ b∈fp,H' b=none)/\W i n ys H') ?_ m0 ⟨0,[],_,I4,V,λb d=>(f3 b d).1,w0⟩;rintro n s6 ⟨i,ys,H6,I6,st6,L,w6⟩;obtain ⟨hl6,alt⟩:=l i n ys H6 w6;have Uy:∀ {H':Hp},(∀ b∈fp,H' b=none)->∀ b∈fp,n_ Y [] H' b:=λ{H'} hn b d =>
   ⟨hn b d,fO (Vj b d),I6.ok.Dn b d,.inl d,(I6.ok.Mu b d).2,λp B z=>(f3 b d).2.2.2.2.2 p (by have hp':p∈(X.pn++ak)++[]:=B;simpa using hp') z⟩
  rcases alt with ⟨M,qn⟩|⟨go,hsz,N,hN,step⟩
  ·refine bA (T.done Y rfl rfl rfl hc i [] s6 _ H6 _ I6 (Uy L) st6 M) λr s7 ⟨hr,I7⟩=>?_;subst hr;exact after _ s7 _ _ H6 _ _ I3 f3 I7 qn
  ·refine bA (T.item Y rfl rfl rfl hc i [] s6 _ H6 _ I6 (Uy L) st6 go) λr s7 ⟨u,hr,h7⟩=>?_;subst hr;refine bA h7 λ_ s8 ⟨x,H8,I8,r8,y8,Vk,fr8⟩=>?_;have I8':=I8.pinned (Uy fr8) (T.obj _ _ Vk);have cU:∀ {σ':St} {H':Hp} {s':Shared},aD Y ([]++CT fp s8.heap) σ' H' s'->tn (i+1) s'.heap/\∀ b∈fp,H' b=none:=λ{σ' H' s'} J =>
    ⟨T.keep _ _ _ Vk λb d o e=>(J.pin (b,o) (pN _ (pN _ (Ir d e)))).1,λb d=>by obtain ⟨o,e,_⟩:=T.obj _ _ Vk b d;exact (J.pin (b,o) (pN _ (pN _ (Ir d e)))).2.1⟩
   refine bA (hg _ _ _ _ _ _ _ s8 _ H8 x u _ I8' r8 (step x H8 y8)) λ_ s9 ⟨σ9,H9,I9,wk,q9⟩=>bA (ht _ _ _ _ _ _ _ s9 σ9 H9 _ I9 q9) λb uQ ⟨Af,Vl,MJ⟩=>?_;cases b with
   |false =>rw [aK iQ] at MJ ⊢;obtain ⟨m',q,w'⟩:=hN _ _ MJ;obtain ⟨e1,e2⟩:=cU Vl;exact ⟨m',q,i+1,ys,Af,(Vl.weak wk.len wk.get).Et,e1,e2,w'⟩
   |true =>rw [aQ rfl] at MJ ⊢;refine bA (he _ _ _ _ _ _ _ uQ σ9 Af _ Vl MJ) λy DR ⟨yv,uR,I11,r11,aru,q11⟩=>?_;obtain ⟨m',q,w'⟩:=hN _ _ q11;refine bA (tV (X:=Y) (CT fp s8.heap) DR σ9 uR (.ref ac) [yv] (.ref ac) [y] (λv H'=>H'=upd uR ac (.lst (ys++[yv]))) I11 rfl (.cons r11 .nil) ⟨ac,ys,yv,rfl,rfl,aru,hsz,rfl⟩) λ_ s12 ⟨v12,H12,U,_,Vm⟩=>?_;subst Vm;obtain ⟨e1,e2⟩:=cU U;exact ⟨m',q,i+1,_,_,(U.weak wk.len wk.get).Et,e1,e2,w'⟩
 exact codeAny_compStart_list (m _ rfl) (T.self _ 0 _ _ _ V (m _ rfl))
theorem iC (ig:bK) (cI:List (Str×Nat)) (hc:X.calm=true) (hi:PI X tg jo wi) (hg:∀ cl C s H fp pn,PG (oV X (ig++cI.map (·.1)) scope cl C s H fp pn) tg g) (ht:∀ cl C s H fp pn,G5 (oV X (ig++cI.map (·.1)) scope cl C s H fp pn) ifs tt) (he:∀ cl C s H fp pn,PE (oV X (ig++cI.map (·.1)) scope cl C s H fp pn) elt te) (hkind:scope.kind=.function:=by rfl) (hcell:∀ y∈scope.names,y.2≠.cell:=by decide) (hfr:(scope.names.all λp=>p.2 != .free || X.env.scope.names.lookup p.1 == some .cell)=true:=by rfl) (hcp:(cI.all λc=>X.N[c.2]? == some c.1 && (X.env.scope.names.lookup c.1 == some .cell && scope.names.lookup c.1 == some .free))=true:=by rfl) (hnames:∀ x∈scope.names,x.2=.local->scope.names.lookup x.1=some .local:=by decide) (hs:∀ x,foldedSetIterable jo X.env x=pure x:=by intro _;rfl) : PE X (.ListComp elt [⟨tg,jo,ifs,0⟩] scope pos) (T_ wi ig.length (cI.map (·.2)) g tt te):=by
 intro ak s σ H Q I h;rw [eval_ListComp];refine abg ig cI hc hi hg ht he hkind hcell hfr hcp hnames hs I h λD J σ5 S B O fp L r j q=>?_;obtain ⟨m,M,_⟩:=j.loc;refine ⟨m,M,λh' a=>?_⟩;have l:B D.heap.objs.size=none:=j.free;refine ⟨.ref O,B,?_,rfl,q⟩;have d:=j.au;have u:Un (d7 X.stack) fp S B D.heap h':=⟨λb o e n i k=>a.extBut b o (fO (cF e)) (d.keep b o e n i k),λb o e n i k=>by
   obtain ⟨sl,z⟩:=d.slot b o e n i k;exact ⟨sl,a.extBut b _ (fO (cF e)) z⟩,d.free,λb o e k=>by
   obtain ⟨o',z⟩:=d.there b o e k;exact ⟨o',a.extBut b _ (fO (cF e)) z⟩,d.tups,d.mq,λb ps q=>⟨(d.jf b ps q).1,λc o R x=>let z:=(d.jf b ps q).2 c o R x;⟨z.1,a.extBut c o (cV z.1 l) z.2⟩⟩⟩
 refine L.call' (s':={ J with heap:=h' }) (ch:=fp) j.os u (λb u e=>?_) j.bare (λb i=>⟨(r b i).2.2.2.1,(r b i).2.1,(r b i).2.2.2.2.1,(r b i).2.2.2.2.2⟩);refine (j.hok b u e).stay (λc v hc z=>a.extBut c v ?_ z) (λ_ z=>z) λ_ _ z=>z;rintro rfl;rcases hc with t|t
 ·rw [t,e] at l;cases l
 ·rw [l] at t;cases t
theorem ahn {spos:Pos} (hN:X.N.Nodup) (hix:X.N[i]?=some x) (hxl:vP X.env.scope x) (ig:bK) (cI:List (Str×Nat)) (hc:X.calm=true) (hi:PI X tg jo wi) (hg:∀ cl C s H fp pn,PG (oV X (ig++cI.map (·.1)) scope cl C s H fp pn) tg g) (ht:∀ cl C s H fp pn,G5 (oV X (ig++cI.map (·.1)) scope cl C s H fp pn) ifs tt) (he:∀ cl C s H fp pn,PE (oV X (ig++cI.map (·.1)) scope cl C s H fp pn) elt te) (hkind:scope.kind=.function:=by rfl) (hcell:∀ y∈scope.names,y.2≠.cell:=by decide) (hfr:(scope.names.all λp=>p.2 != .free || X.env.scope.names.lookup p.1 == some .cell)=true:=by rfl) (hcp:(cI.all λc=>X.N[c.2]? == some c.1 && (X.env.scope.names.lookup c.1 == some .cell && scope.names.lookup c.1 == some .free))=true:=by rfl) (hnames:∀ x∈scope.names,x.2=.local->scope.names.lookup x.1=some .local:=by decide) (hs:∀ x,foldedSetIterable jo X.env x=pure x:=by intro _;rfl) (hsw:swapsWith (.ListComp elt [⟨tg,jo,ifs,0⟩] scope pos) (some (.Name x pos')) spos.line X.env=pure true:=by rfl) (hf:X.fn x=true\/X.env.scope.names.lookup x=some .local:=by first|exact .inl rfl|exact .inr rfl|assumption) : PS X (.Assign [.Name x pos'] (.ListComp elt [⟨tg,jo,ifs,0⟩] scope pos) spos) (qX (T_ wi ig.length (cI.map (·.2)) g tt te) (lK i)):=by
 intro ak s σ H D I h;rw [exec_Assign_Name_used _ _ _ _ hsw];refine bf (wpAny_standAt (bf ?_));show wpAny _ X.A (do let _ <-comprehension (.ListComp elt [⟨tg,jo,ifs,0⟩] scope pos) scope X.env _ (newList []) false (eval jo X.env) (some (assign (.Name x pos') X.env))) _ _ s;refine bf (bA (Q:=λ_ s'=>∃ σ' H',aD X ak σ' H' s'/\D.nx σ' H') (abg (Q:=λv H'=>D.nx (σ.set i (some v)) H') ig cI hc hi hg ht he hkind hcell hfr hcp hnames hs I h λr n σ5 H3 u L fp J l j q=>?_) λ_ s' M=>cY (cY M));obtain ⟨m,V,_⟩:=j.loc;have B:u r.heap.objs.size=none:=j.free;have U:aD X ak σ u n:=J.call' (s':=n) (ch:=fp) j.os j.au j.hok j.bare (λb k=>⟨(l b k).2.2.2.1,(l b k).2.1,(l b k).2.2.2.2.1,(l b k).2.2.2.2.2⟩);have d:=J.sW (bI _) B;show wpAny _ X.A (assign (.Name x pos') X.env (.ref L)) _ _ n;refine wpAny_assign_Name (aau U hN hix hxl (v:=.ref L) rfl (λS Y ⟨a,W,O⟩=>?_) hf);have R:r.heap.objs.size≠a:=by
  rcases O with z|z
  ·rw [z];exact d.2.1
  ·exact bF (d.2.2.2.2.1 x a z)
 exact ⟨m,V.sameBut W R,λh' t=>⟨_,u,Y.turned (it:=r.heap.objs.size) (t':=S.toks) (λb o k e=>t.extBut b o k e) B d.2.1 d.2.2.2.1 d.2.2.2.2.1 d.2.2.2.2.2,q⟩⟩
theorem tQ {own:Nat} {cI:gA} {R:Hp->Prop} (Pv:Nat->aA->Hp->Prop) (h0:Pv 0 [] (upd H1 l (.lst []))) (hz:n<=sizeLine) (hl:∀ i ys H,Pv i ys H->H l=some (.lst ys)/\ys.length<=i) (hs:∀ i ys H,i<n->Pv i ys H->g (.int (lo+i)) (gK own cI σ) H λσ2 H2=>Wk (gK own cI σ) σ2 /\tt σ2 H2 λb H3=>if b=true then te σ2 H3 λy H4=>H4 l=some (.lst ys)/\Pv (i+1) (ys++[y]) (upd H4 l (.lst (ys++[y]))) else Pv (i+1) ys H3) (hd:∀ ys H,Pv n ys H->R H) : ∃ W:Nat->Nat->aA->Hp->Prop,(∃ m,W 0 m [] (upd H1 l (.lst []))) /\∀ i m ys H,W i m ys H->H l=some (.lst ys)/\(((uN lo n).stop i H/\R H)\/((uN lo n).go i H/\ys.length<sizeLine/\∃ N:aA->Hp->Prop,(∀ ys' H',N ys' H'->∃ m',m'<m/\W (i+1) m' ys' H') /\∀ x H',(uN lo n).oG i H x H'->g x (gK own cI σ) H' λσ2 H2=>Wk (gK own cI σ) σ2 /\tt σ2 H2 λb H3=>if b=true then te σ2 H3 λy H4=>H4 l=some (.lst ys)/\N (ys++[y]) (upd H4 l (.lst (ys++[y]))) else N ys H3)):=by
 refine ⟨λi m ys H=>m=n-i/\i<=n/\Pv i ys H,⟨n,by simp,fP _,h0⟩,?_⟩;rintro i m ys H ⟨rfl,hi,p⟩;obtain ⟨c,j⟩:=hl i ys H p;refine ⟨c,?_⟩;by_cases a:i<n
 ·refine .inr ⟨a,by lk, Pv (i+1),λys' H' d=>⟨n-(i+1),by lk, rfl,a,d⟩,λx H' y=>?_⟩;obtain ⟨e,y⟩:=y;subst e y;exact hs i ys _ a p
 ·have e:i=n:=by lk
  subst e;exact .inl ⟨bI _,hd ys H p⟩
theorem rE {own:Nat} {cI:gA} {R:Hp->Prop} (Pv:Nat->aA->Hp->Prop) (h0:Pv 0 [] (upd H1 l (.lst []))) (hz:xs.length<=sizeLine) (hl:∀ i ys H,i<=xs.length->Pv i ys H->dH K H a xs/\H l=some (.lst ys)/\ys.length<=i) (hs:∀ i x ys H,xs[i]?=some x->Pv i ys H->g x (gK own cI σ) H λσ2 H2=>Wk (gK own cI σ) σ2 /\tt σ2 H2 λb H3=>if b=true then te σ2 H3 λy H4=>H4 l=some (.lst ys)/\Pv (i+1) (ys++[y]) (upd H4 l (.lst (ys++[y]))) else Pv (i+1) ys H3) (hd:∀ ys H,Pv xs.length ys H->R H) : ∃ W:Nat->Nat->aA->Hp->Prop,(∃ m,W 0 m [] (upd H1 l (.lst []))) /\∀ i m ys H,W i m ys H->H l=some (.lst ys)/\(((yC K a).stop i H/\R H)\/((yC K a).go i H/\ys.length<sizeLine/\∃ N:aA->Hp->Prop,(∀ ys' H',N ys' H'->∃ m',m'<m/\W (i+1) m' ys' H') /\∀ x H',(yC K a).oG i H x H'->g x (gK own cI σ) H' λσ2 H2=>Wk (gK own cI σ) σ2 /\tt σ2 H2 λb H3=>if b=true then te σ2 H3 λy H4=>H4 l=some (.lst ys)/\N (ys++[y]) (upd H4 l (.lst (ys++[y]))) else N ys H3)):=by
 refine ⟨λi m ys H=>m=xs.length-i/\i<=xs.length/\Pv i ys H,⟨xs.length,by simp,fP _,h0⟩,?_⟩;rintro i m ys H ⟨rfl,hi,p⟩;obtain ⟨q,d,k⟩:=hl i ys H hi p;refine ⟨d,?_⟩;by_cases c:i<xs.length
 ·refine .inr ⟨⟨xs,xs[i],q,by simp [c]⟩,by lk, Pv (i+1),λys' H' j=>⟨xs.length-(i+1),by lk, rfl,c,j⟩,λx H' y=>?_⟩;obtain ⟨e,y⟩:=y;subst e;exact hs i x ys _ (y xs q) p
 ·have e:i=xs.length:=by lk
  subst e;exact .inl ⟨⟨xs,q,bI _⟩,hd ys H p⟩
theorem yM {own:Nat} {cI:gA} {R:Hp->Prop} (Pv:Nat->aA->Hp->Prop) (h0:Pv 0 [] (upd H1 l (.lst []))) (hz:xs.length<=sizeLine) (hl:∀ i ys H,i<=xs.length->Pv i ys H->gF K H a xs/\H l=some (.lst ys)/\ys.length<=i) (hs:∀ i x ys H,xs[i]?=some x->Pv i ys H->g x (gK own cI σ) H λσ2 H2=>Wk (gK own cI σ) σ2 /\tt σ2 H2 λb H3=>if b=true then te σ2 H3 λy H4=>H4 l=some (.lst ys)/\Pv (i+1) (ys++[y]) (upd H4 l (.lst (ys++[y]))) else Pv (i+1) ys H3) (hd:∀ ys H,Pv xs.length ys H->R H) : ∃ W:Nat->Nat->aA->Hp->Prop,(∃ m,W 0 m [] (upd H1 l (.lst []))) /\∀ i m ys H,W i m ys H->H l=some (.lst ys)/\(((yD K a).stop i H/\R H)\/((yD K a).go i H/\ys.length<sizeLine/\∃ N:aA->Hp->Prop,(∀ ys' H',N ys' H'->∃ m',m'<m/\W (i+1) m' ys' H') /\∀ x H',(yD K a).oG i H x H'->g x (gK own cI σ) H' λσ2 H2=>Wk (gK own cI σ) σ2 /\tt σ2 H2 λb H3=>if b=true then te σ2 H3 λy H4=>H4 l=some (.lst ys)/\N (ys++[y]) (upd H4 l (.lst (ys++[y]))) else N ys H3)):=by
 refine ⟨λi m ys H=>m=xs.length-i/\i<=xs.length/\Pv i ys H,⟨xs.length,by simp,fP _,h0⟩,?_⟩;rintro i m ys H ⟨rfl,hi,p⟩;obtain ⟨q,d,k⟩:=hl i ys H hi p;refine ⟨d,?_⟩;by_cases c:i<xs.length
 ·refine .inr ⟨⟨xs,xs[i],q,by simp [c]⟩,by lk, Pv (i+1),λys' H' j=>⟨xs.length-(i+1),by lk, rfl,c,j⟩,λx H' y=>?_⟩;obtain ⟨e,y⟩:=y;subst e;exact hs i x ys _ (y xs q) p
 ·have e:i=xs.length:=by lk
  subst e;exact .inl ⟨⟨xs,q,bI _⟩,hd ys H p⟩
end
section
def aew (K:bG) (neg:Bool):R2:=λx y H Q=>∃ (a b:Addr) (ns c:aF),x=.ref a/\y=.ref b/\dH K H a (ns.map V.int)/\dH K H b (c.map V.int)/\Q (.bl (if neg then !decide (ns=c) else decide (ns=c))) H
theorem ao7 (hu:X.A.units+64<cLine):dO X (compareOp .Eq) (aew X.K false):=by rintro ak s σ H x y v u Q I j l ⟨a,b,ns,m,rfl,rfl,d,k,q⟩;cases j;cases l;obtain ⟨aJ,i,e,_⟩:=I.list d;obtain ⟨c,g,p2,_⟩:=I.list k;exact PySem.W.eq_intsK e.isList (intsAre_of i) p2.isList (intsAre_of g) hu ⟨.bl _,H,I,rfl,q⟩
theorem ao8 (hu:X.A.units+64<cLine):dO X (compareOp .NotEq) (aew X.K true):=by rintro ak s σ H x y v u Q I j l ⟨a,b,ns,m,rfl,rfl,d,k,q⟩;cases j;cases l;obtain ⟨aJ,i,e,_⟩:=I.list d;obtain ⟨c,g,p2,_⟩:=I.list k;exact PySem.W.ne_intsK e.isList (intsAre_of i) p2.isList (intsAre_of g) hu ⟨.bl _,H,I,rfl,q⟩
inductive afH (K:bG) (xs:aA) (H:Hp) (Q:VK):Prop
 |mk (x:_) (T:_) (t:_) (b:_) (h1:xs=[x,.ty T]) (h2:jg K H x t) (h3:kitOne K t (.type T)=some b) (h4:Q (.bl b) H)
theorem Ek:jz X (.builtin "isinstance") (afH X.K):=by rintro ak s σ H xs us Q I r ⟨x,T,t,b,rfl,ty,e,q⟩;obtain ⟨u,v,rfl,d,a⟩:=r.two;cases a;exact aiG I d ty e λc=>⟨.bl b,H,I.tok c,rfl,q⟩
inductive agE (K:bG) (xs:aA) (H:Hp) (Q:VK):Prop
 |mk (p:Addr) (bs:List Bool) (h1:xs=[.ref p]) (h2:dH K H p (bs.map V.bl)) (h3:Q (.bl (bs.all id)) H)
theorem Qd (hc:X.calm=true):jz X (.builtin "all") (agE X.K):=by
 rintro ak s σ H xs us Q I r ⟨p,bs,rfl,t,q⟩;obtain ⟨u,rfl,l⟩:=r.one;cases l;obtain ⟨aJ,j,pl,O⟩:=I.list t;have J:p<s.heap.objs.size:=by obtain ⟨o,n,e,_⟩:=pl;exact cF e
 refine call_all_walk (FW pl.isList ⟨_,_,_,_,_,_,λi=>bs.getD i true,rfl,Walks.list (A:=X.A.in1) (I.ok.hd hc) s.heap.objs.size p (fO J) aJ.toArray,⟨⟨_,fQ _ rfl,rfl,rfl⟩,?_⟩,?_,λh' N m=>?_⟩)
 ·obtain ⟨o,n,e,c,d,D⟩:=pl;exact ⟨o,dF _ e,c,n,D⟩
 ·intro i v s' Q' R B L;have hi:aJ[i]?=some v:=by simpa using B
  have k:=j.length;cases e:bs[i]? with
  |none =>
   have h1:aJ.length<=i:=by have:=BJ.mp e;rw [<-k,bh];exact this
   rw [BJ.mpr h1] at hi;cases hi
  |some b =>
   have C:(bs.map V.bl)[i]?=some (.bl b):=by rw [jP,e];rfl
   obtain ⟨u,x,l⟩:=j.get C;rw [hi] at x;cases x;cases l;have y:bs.getD i true=b:=by simp [getD,e]
   have a:Q' (bs.getD i true) s':=L;rw [y] at a;exact qI a
 ·have k:aJ.toArray.size=bs.length:=by have:=j.length;rw [bh] at this;simp [this]
  have e:(range aJ.toArray.size).all (λi=>bs.getD i true)=bs.all id:=by
   rw [k];clear q k j t m;rw [ug,wZ,wZ];constructor
   ·intro h b M;obtain ⟨i,hi,rfl⟩:=Jz.mp M;have:=h i (by simpa using hi);simpa [getD,hi] using this
   ·intro h i hi;have g:i<bs.length:=by simpa using hi
    have:=h bs[i] (Ri g);simpa [getD,g] using this
  refine ⟨.bl (bs.all id),H,?_,je Value.bool e,q⟩
  ·exact I.kept (t':=N) λb o e=>m b o (by
    intro z;have:b=s.heap.objs.size:=by simpa using z
    exact absurd (cF e) (by rw [this];exact uf _)) (dF _ e)
def vV (ns:aF) (m:Int):Prop:=m∈ns/\∀ a∈ns,a<=m
theorem akR {B:Addr} {vals:bV} (hh:A.handled=none) (hi:IntsAre vals ns) (h1:l≠it) (h2:B≠it) (h3:B≠l) : ∀ (k j:Nat) (s:Shared) (m:Int) (t:Tok) (c:Nat),ns.length-j=k->j<=ns.length->s.heap.IsListIter it l j->s.heap.IsList l vals.toArray->vV (ns.take j) m ->s.heap.get? B=some { cls:=.type "list",dict:=none,data:=.seq #[.int m t,.int m t] c,slots:=#[] } ->(∀ (m':Int) (t':Tok) h' tk,vV ns m'->(∀ b o,b≠it->b≠B->s.heap.get? b=some o->h'.get? b=some o)->R (.ok (.ret (.int m' t'))) { s with heap:=h',toks:=tk }) ->codeAny (model P w) A (.builtin "max.loop" ⟨[.ref it,.none,.ref B],kw⟩) R s:=by
 have nm:(toString "max"++toString ".loop":String)="max.loop":=by decide
 have gC:=hi.length;intro k;induction k with
 |zero =>
  intro j s m t c U W st sl v D d;have ej:j=ns.length:=by lk
  subst ej;refine w5 Rj ?_;rw [yQ yR _];show wpAny (model P w) A.in1 (seqItems? (.ref B) >>= _) _ _ s;refine bf (rN D rfl ?_);show wpAny (model P w) A.in1 (tryCatch (pyNext (.ref it)) _ >>= _) _ _ s;refine bf (Fe (S7 hh st sl (by simp;lk) λh' M=>?_));have g:=M B _ h2 D;show wpAny (model P w) A.in1 (updateSeq B (λ_=>#[]) >>= _) _ _ _;refine bf (Rk g rfl (bf (yS (cY ?_))));rw [gq] at v;exact d m t _ s.toks v λb o p y e=>(u_ _ _ (bF y)).trans (M b o p e)
 |succ k L =>
  intro j s m t c U W st sl v D d;have lt:j<ns.length:=by lk
  obtain ⟨i,Y⟩:∃ i,vals[j]?=some (.int ns[j] i):=by
   have S:(ns.map V.int)[j]?=some (.int ns[j]):=by rw [jP];simp [lt]
   obtain ⟨u,hu,i,rfl⟩:=(IV hi).get S;exact ⟨i,hu⟩
  refine w5 Rj ?_;rw [yQ yR _];show wpAny (model P w) A.in1 (seqItems? (.ref B) >>= _) _ _ s;refine bf (rN D rfl ?_);show wpAny (model P w) A.in1 (tryCatch (pyNext (.ref it)) _ >>= _) _ _ s;refine bf (Fe (S6 st sl (x:=.int ns[j] i) (by simpa using Y) λh' O sb=>?_));have keep:∀ b o,b≠it->s.heap.get? b=some o->h'.get? b=some o:=λb o n e=>(sb.2 b n).trans e;have g:=keep B _ h2 D;have C:h'.IsList l vals.toArray:=sl.at λo e=>keep l o h1 e;show wpAny (model P w) A.in1 (tryCatch (holding [Value.int ns[j] i,Value.int ns[j] i] (richCompare .Gt (Value.int ns[j] i) (Value.int m t) >>= _)) _ >>= _) _ _ _;refine bf (Fe (zL (bf (gt_int (show _ from (bf (zL (qI (bf (yS (cY ?_)))))))))));have z:ns.take (j+1)=ns.take j++[ns[j]]:=by rw [JB];simp [lt]
  by_cases N:m<ns[j]
  ·rw [fM N];simp only [tX];refine bf (Rk g rfl (bf (yS ?_)));rw [nm];refine cY ⟨BK yR _,L (j+1) _ ns[j] i _ (by lk) lt ?_ ?_ ?_ (Js _ g rfl) λm' t' r tk J kk=>?_⟩
   ·exact O.at λo e=>(u_ _ _ h2).trans e
   ·exact C.at λo e=>(u_ _ _ h3).trans e
   ·rw [z];exact ⟨pN _ (yU.mpr rfl),λa I=>by
     rcases nM.mp I with q|q
     ·have:=v.2 a q;lk
     ·have:a=ns[j]:=by simpa using q
      lk⟩
   ·exact d m' t' r tk J λb o p y e=>kk b o p y ((u_ _ _ (bF y)).trans (keep b o p e))
  ·rw [lJ N];simp only [yV,rM];refine bf (yS ?_);rw [nm];refine cY ⟨BK yR _,L (j+1) _ m t c (by lk) lt O C ?_ g λm' t' r tk J kk=>?_⟩
   ·rw [z];exact ⟨SX _ v.1,λa I=>by
     rcases nM.mp I with q|q
     ·exact v.2 a q
     ·have:a=ns[j]:=by simpa using q
      lk⟩
   ·exact d m' t' r tk J λb o p y e=>kk b o p y (keep b o p e)
theorem akS {B:Addr} {vals:bV} {d:Value} {c:Nat} (hh:A.handled=none) (hi:IntsAre vals ns) (h1:l≠it) (h2:B≠it) (h3:B≠l) (st:s.heap.IsListIter it l 0) (sl:s.heap.IsList l vals.toArray) (hB:s.heap.get? B=some { cls:=.type "list",dict:=none,data:=.seq #[] c,slots:=#[] }) (nil:ns=[]->∀ h',(∀ b o,b≠it->b≠B->s.heap.get? b=some o->h'.get? b=some o)->R (.ok (.ret d)) { s with heap:=h' }) (done:ns≠[]->∀ (m':Int) (t':Tok) h' tk,vV ns m'->(∀ b o,b≠it->b≠B->s.heap.get? b=some o->h'.get? b=some o)->R (.ok (.ret (.int m' t'))) { s with heap:=h',toks:=tk }) : codeAny (model P w) A (.builtin "max.loop" ⟨[.ref it,.none,.ref B],[("default",d)]⟩) R s:=by
 have nm:(toString "max"++toString ".loop":String)="max.loop":=by decide
 have t:=hi.length;refine w5 Rj ?_;rw [yQ yR _];show wpAny (model P w) A.in1 (seqItems? (.ref B) >>= _) _ _ s;refine bf (rN hB rfl ?_);show wpAny (model P w) A.in1 (tryCatch (pyNext (.ref it)) _ >>= _) _ _ s;cases ns with
 |nil =>refine bf (Fe (S7 hh st sl (by simpa using t) λh' C=>?_));refine bf (JC (cY ?_));exact nil rfl h' λb o k m e=>C b o k e
 |cons i rest =>
  obtain ⟨g,v⟩:∃ g,vals[0]?=some (.int i g):=by have q:((i::rest).map V.int)[0]?=some (.int i):=rfl;obtain ⟨u,D,g,rfl⟩:=(IV hi).get q;exact ⟨g,D⟩
  refine bf (Fe (S6 st sl (x:=.int i g) (by simpa using v) λh' I z=>?_));have keep:∀ b o,b≠it->s.heap.get? b=some o->h'.get? b=some o:=λb o n e=>(z.2 b n).trans e;have j:=keep B _ h2 hB;show wpAny (model P w) A.in1 (updateSeq B (λ_=>#[Value.int i g,Value.int i g]) >>= _) _ _ _;refine bf (Rk j rfl ?_);rw [nm];refine cY ⟨BK yR _,akR hh hi h1 h2 h3 _ 1 _ i g _ rfl (by simp) ?_ ?_ ?_ (Js _ j rfl) λm' t' p tk y kk=>?_⟩
  ·exact I.at λo e=>(u_ _ _ h2).trans e
  ·exact (sl.at λo e=>keep l o h1 e).at λo e=>(u_ _ _ h3).trans e
  ·exact ⟨by simp,λa r=>by
    have:a=i:=by simpa using r
    lk⟩
  ·exact done (by simp) m' t' p tk y λb o k m e=>kk b o k m ((u_ _ _ (bF m)).trans (keep b o k e))
theorem aiK (a v:Value):argsOk "max" ⟨[a],[(ofString "default",v)]⟩:=by unfold argsOk;kernel_rfl
theorem aiL {vals:bV} {d:Value} (hh:A.handled=none) (hi:IntsAre vals ns) (sl:s.heap.IsList l vals.toArray) (nil:ns=[]->∀ h',(∀ b o,s.heap.get? b=some o->h'.get? b=some o)->Q d { s with heap:=h' }) (done:ns≠[]->∀ (m':Int) (t':Tok) h' tk,vV ns m'->(∀ b o,s.heap.get? b=some o->h'.get? b=some o)->Q (.int m' t') { s with heap:=h',toks:=tk }) : wpAny (model P w) A (call (.builtin "max") [.ref l] [(ofString "default",d)]) Q E s:=by
 have nm:(toString "max"++toString ".loop":String)="max.loop":=by decide
 have c:l<s.heap.objs.size:=by obtain ⟨o,e,_⟩:=sl;exact cF e
 refine kmk_tree F.kind_max F.plain_max F.entry_max (aiK _ _) ?_;show wpAny (model P w) A.in1 (Builtin.Builtins.bindParams "max" ["key","default"] 0 ⟨[],[(ofString "default",d)]⟩ >>= _) _ _ s;refine bf (wpAny_of_eq (show Builtin.Builtins.bindParams "max" ["key","default"] 0 ⟨[],[(ofString "default",d)]⟩=pure [none,some d] from rfl) (bf (cY (bf (FW sl (bf (yP ?_)))))));rw [nm];have a:∀ b o,s.heap.get? b=some o->((s.heap.push { cls:=.type "list_iterator",data:=.fields #[.ref l,.int 0 0] }).push { cls:=.type "list",dict:=none,data:=.seq ([]:bV).toArray }).get? b=some o:=λb o e =>
  dF _ (dF _ e)
 have z:(s.heap.push { cls:=.type "list_iterator",data:=.fields #[.ref l,.int 0 0] }).objs.size=s.heap.objs.size+1:=pO ..;refine cY ⟨BK yR _,akS (l:=l) (B:=(s.heap.push { cls:=.type "list_iterator",data:=.fields #[.ref l,.int 0 0] }).objs.size) hh hi (fO c) (by rw [z];exact Rm _) (by rw [z];exact vB (Fg c)) ?_ (sl.at λo e=>a l o e) (fQ _ rfl) (λe h' kk=>?_) λe m' t' h' tk g kk=>?_⟩
 ·exact ⟨_,dF _ (fQ _ rfl),rfl,rfl⟩
 ·exact nil e h' λb o q=>kk b o (fO (cF q)) (by rw [z];exact fO (Fg (cF q))) (a b o q)
 ·exact done e m' t' h' tk g λb o q=>kk b o (fO (cF q)) (by rw [z];exact fO (Fg (cF q))) (a b o q)
def aqi (K:bG) (te td:TE):TE:=λσ H Q=>te σ H λx H1=>td σ H1 λd H2=>∃ (l:Addr) (ns:aF),x=.ref l/\dH K H2 l (ns.map V.int)/\(ns=[]->Q d H2)/\∀ m,vV ns m->Q (.int m) H2
theorem acy {d:Expr} {td:TE} {p kp:Pos} (hc:X.calm=true) (hg:Gl X "max") (hm:X.mg "max"=none) (he:PE X e te) (hd:PE X d td) (hst:starEach [e] X.env=[(false,eval e X.env)]:=by rfl):PE X (.Call (.Name "max" p) [e] [⟨some "default",d,kp⟩] pos) (aqi X.K te td):=by intro ak s σ H Q I h;refine xU (qM I hg hm JD ?_);rw [hst];refine PyProof.Rows.callWith_builtin_kwB rfl rfl (PyProof.Rows.evalArgs_kwB rfl ?_);refine Tg (bA (he ak s σ H _ I h) λu i ⟨x,H1,m,t,q⟩=>Tf ?_);refine PyProof.Rows.kws_cons (bA (hd ak i σ H1 _ m q) λB n ⟨dx,H2,a,k,g⟩=>PyProof.Rows.kws_nil ?_);obtain ⟨l,ns,rfl,y,j,r⟩:=g;cases t;obtain ⟨aJ,o,pl,z⟩:=a.list y;exact aiL (a.ok.hd hc) (intsAre_of o) pl.isList (λe h' kk=>⟨dx,H2,a.kept (t':=n.toks) kk,k,j e⟩) λe b t' h' v c kk=>⟨.int b,H2,a.kept (t':=v) kk,⟨_,rfl⟩,r b c⟩
end
structure pJ (P:Program) (w:World) (K:bG) (mg:dR) (au:Heap) (x:Str) (k:Nat) (ps:bK) (sp:Sp):Prop where
 ex:∃ (f:Addr) (fd:FuncData),dw P w K mg au jL k f fd ps sp/\mK K fd ps []/\keepIn K (.ref f)=true/\mg x=some (.ref f)
theorem pJ.mono {k:Nat} (C:pJ P w K mg au x k ps sp) (h:k<=j):pJ P w K mg au x j ps sp :=
 let ⟨f,fd,a,b,c,d⟩:=C.ex
 ⟨f,fd,a.mono h,b,c,d⟩
theorem pJ.imp {k:Nat} {uP:Sp} (C:pJ P w K mg au x k ps sp) (h:∀ vs H Q E,uP vs H Q E->sp vs H Q E):pJ P w K mg au x k ps uP :=
 let ⟨f,fd,a,b,c,d⟩:=C.ex
 ⟨f,fd,a.imp h,b,c,d⟩
theorem bH {k:Nat} {t:TA} {p:Pos} (C:pJ X.prog X.w X.K X.mg X.au x k ps sp) (hr:eG k X.A) (hg:Gl X x) (ha:PA X (e::es) t) (hdb:(x == ("__debug__":Str))=false:=by decide) (he:starEach (e::es) X.env=(false,eval e X.env)::starEach es X.env:=by rfl) (hpl:(backTo pos (starEach es X.env)).any (·.1)=false:=by rfl) : PE X (.Call (.Name x p) (e::es) [] pos) (La sp [] E0 t):=by obtain ⟨f,fd,F,a,c,b⟩:=C.ex;exact acr F hr hg b c a .nil Gq ha hdb he hpl
structure oW (K:bG) (mg:dR) (x:Str) (st:Stmt) (f:Addr) (fd:FuncData):Prop where
 fn:wF K x x st f fd
 at_:mg x=some (.ref f)
theorem oW.callee {st:Stmt} {k:Nat} (h:oW K mg x st f fd) (F:dw P w K mg au jL k f fd ps sp) (hb:∀ (kV doc pm:Value) (an:jy) (cdv ct:Value) (us:bV),us.length=ps.length->bindArgs (fnOf x x (kJ st) (jO st) (gG st) .none kV doc pm an cdv ct) ⟨us,[]⟩=pure (ps.zip us)):pJ P w K mg au x k ps sp:=⟨f,fd,F,h.fn.binds hb,h.fn.kp,h.at_⟩
theorem Qe:bootBuiltins "int"=some (.type "int"):=by k_go
theorem Bd:bootBuiltins "list"=some (.type "list"):=by k_go
theorem Il:bootBuiltins "tuple"=some (.type "tuple"):=by k_go
theorem boot_isinstance:bootBuiltins "isinstance"=some (.builtin "isinstance"):=by k_go
theorem boot_all:bootBuiltins "all"=some (.builtin "all"):=by k_go
section
variable (K:bG) (hK:X.K=K)
include hK
theorem akT:DQ X (GD K):=by subst hK;exact acv
theorem Cj:DQ X (Dq K):=by subst hK;exact ady
theorem aho:dO X (compareOp .In) (Mz K false):=by subst hK;exact Qa
theorem afI:dO X (compareOp .NotIn) (Mz K true):=by subst hK;exact OJ
theorem afJ:jz X (.builtin "len") (Oo K):=by subst hK;exact Zg
theorem am4 {k:Nat} {t:yx} (hc:X.calm=true) (h:GZ X es t) (hn:(assignEach es X.env).length=n:=by rfl) (hst:(assignEach es X.env).findIdx? (·.1)=none:=by rfl):PG X (.Tuple es k pos) (aei K n t):=by subst hK;exact qN hc h hn hst
end
theorem cu (h:H p=none) (o:HO):aB H (upd H p o):=λb u q=>by rw [aV (cV q h)];exact q
def Kp (m:Addr) (H H':Hp):Prop:=∀ b o,H b=some o->b≠m->H' b=some o
theorem Kp.refl (m:Addr) (H:Hp):Kp m H H:=λ_ _ h _=>h
theorem Kp.trans {m:Addr} (a:Kp m H H1) (b:Kp m H1 H2):Kp m H H2:=λc o h n=>b c o (a c o h n) n
def yd:=@Kp.trans
theorem Kp.same {m:Addr} (h:aB H H'):Kp m H H':=λb o e _=>h b o e
theorem Kp.upd {m:Addr}:Kp m H (upd H m o):=λb u e n=>by rw [aV n];exact e
theorem Kp.tup {m:Addr} {H H':Hp} {xs ys:aA} (k:Kp m H H') (hm:H m=some (.lst xs)) {b:Addr} (h:H b=some (.tup ys)):H' b=some (.tup ys):=k b _ h (kY h hm (by intro z;cases z))
def wG (H:Hp) (p:Addr):Prop:=∃ a b c:Int,H p=some (.lst [.int a,.int b,.int c])
def dM (H:Hp):aA->aP->Prop:=Paired λr w=>∃ t,r=.ref t/\H t=some (.tup [.int w.1,.int w.2])
theorem dM.mono (k:∀ b xs,H b=some (.tup xs)->H' b=some (.tup xs)):∀ {rs:aA} {ws:aP},dM H rs ws->dM H' rs ws
 |_,_,.nil=>.nil
 |_,_,.cons ⟨t,e,h⟩ r=>.cons ⟨t,e,k t _ h⟩ (dM.mono k r)
theorem dM.same (k:aB H H') (h:dM H rs ws):dM H' rs ws:=h.mono λb xs e=>k b _ e
theorem dM.kp {m:Addr} (k:Kp m H H') (hm:H m=some (.lst xs)) (h:dM H rs ws):dM H' rs ws:=h.mono λb xs e=>k.tup hm e
theorem dM.len (h:dM H rs ws):rs.length=ws.length:=o7 h
theorem dM.app:∀ {rs qs:aA} {ws us:aP},dM H rs ws->dM H qs us->dM H (rs++qs) (ws++us)
 |_,_,_,_,.nil,s=>s
 |_,_,_,_,.cons r t,s=>.cons r (dM.app t s)
theorem dM.get:∀ {rs:aA} {ws:aP} {i:Nat} {r:V},dM H rs ws->rs[i]?=some r->∃ w t,ws[i]?=some w/\r=.ref t/\H t=some (.tup [.int w.1,.int w.2])
 |_,_,_,_,.nil,e=>by simp at e
 |_,_,0,_,.cons ⟨t,e1,h⟩ _,e=>by simp at e;subst e;exact ⟨_,t,rfl,e1,h⟩
 |_,_,i+1,r,.cons _ q,e=>by obtain ⟨w,t,a,b⟩:=dM.get (i:=i) (r:=r) q (by simpa using e);exact ⟨w,t,by simpa using a,b⟩
def m5 (H:Hp) (l:Addr) (ws:aP):Prop:=∃ rs,H l=some (.lst rs)/\dM H rs ws
theorem m5.same (k:aB H H') (h:m5 H l ws):m5 H' l ws:=let ⟨rs,a,b⟩:=h;⟨rs,k l _ a,b.same k⟩
def bJ (aj:Int) (ws:aP):Prop:=∀ w∈ws,0<=w.1/\w.1<aj/\0<=w.2/\w.2<aj/\w.1≠w.2
theorem bJ.nil:bJ aj []:=λ_ h=>nomatch h
theorem bJ.app {a b:aP} (x:bJ aj a) (y:bJ aj b):bJ aj (a++b):=λw h=>(nM.mp h).elim (x w) (y w)
theorem bJ.one {a b:Int} (h:0<=a/\a<aj/\0<=b/\b<aj/\a≠b):bJ aj [(a,b)]:=λw c=>by
 have:w=(a,b):=by simpa using c
 subst this;exact h
def eV (H:Hp) (v:V) (aj:Int) (ws:aP):Prop:=∃ n t rs,v=.ref n/\H n=some (.tup [.int aj,.ref t])/\H t=some (.tup rs)/\dM H rs ws
theorem eV.mono (k:∀ b xs,H b=some (.tup xs)->H' b=some (.tup xs)) (h:eV H v aj ws):eV H' v aj ws :=
 let ⟨n,t,rs,a,b,c,d⟩:=h
 ⟨n,t,rs,a,k _ _ b,k _ _ c,d.mono k⟩
theorem aW (h:n<=100000):n<=sizeLine:=gR h (by rw [vC];decide)
theorem nY (h:n<100000):n<sizeLine:=mL h (by rw [vC];decide)
theorem acz {c:Prop} [Decidable c] (h:¬ decide c=true):¬ c:=λz=>h (fM z)
end
variable {G:Hp} {d:aF} {z:Int}
section
structure Bn (mg:dR):Prop where
 zV:mg "len"=none
 Gs:mg "max"=none
 aqj:mg "min"=none
 Le:mg "int"=none
 ao9:mg "bool"=none
 zR:mg "list"=none
 Ck:mg "tuple"=none
 o9:mg "str"=none
 asI:mg "dict"=none
 lD:mg "range"=none
 Bb:mg "isinstance"=none
 Ub:mg "all"=none
 asS:mg "any"=none
 yI:mg "enumerate"=none
 asT:mg "sum"=none
 asU:mg "abs"=none
 abh:mg "sorted"=none
 asn:mg "reversed"=none
 Lf:mg "zip"=none
 asV:mg "ord"=none
 asJ:mg "repr"=none
 aqk:mg "set"=none
 asv:mg "divmod"=none
 ash:mg "ValueError"=none
 aso:mg "KeyError"=none
def aql (i j:Int):Prop:=0<j/\j<2 ^ 250
theorem abj:dO X (binaryOp .FloorDiv) (rI aql λi j=>.int (i / j)):=DP λi j _ _ _ _ _ a q=>by
 have h1:(0:Int)<j:=a.1;have h2:j.natAbs<2 ^ 250:=by have:=a.2;lk
 refine PyProof.Rows.floordiv_int (by lk) (by rw [S_ i (by lk)];exact q) (.inl (PyProof.noPylong_of_log2 ?_));have b:j.natAbs.log2<250:=(Nat.log2_lt (by lk)).mpr h2;lk
theorem Kp.put {m:Addr} (hl:H l=none) (k:Kp m H H1):Kp m H (L2.upd H1 l o):=λb u e n=>by rw [aV (cV e hl)];exact k b u e n
theorem aB.put (hl:H l=none) (k:aB H H1):aB H (upd H1 l o):=λb u e=>by rw [aV (cV e hl)];exact k b u e
def bR:=@aB.put
theorem lY {i:Int} (h0:0<=i) (h1:i<ns.length):jK (ns.map V.int) i=some (.int (ns.getD i.toNat 0)):=by
 obtain ⟨j,rfl⟩:∃ j:Nat,i=(j:Int):=⟨i.toNat,by lk⟩;have h2:j<ns.length:=by lk
 refine oO ?_;rw [jP,kO];simp [getD,h2]
theorem bQ {c A:Prop} [Decidable c] (h:¬ c) (b:B):if c then A else B:=by rw [aK h];exact b
theorem cL {c A:Prop} [Decidable c] (h:c) (a:A):if c then A else B:=by rw [aQ h];exact a
theorem LK {x y:α} [inst:Decidable (x=y)] (h:x=y):¬ (!decide (x=y))=true:=by simp [h]
theorem Lg {a b:Int} (g:decide (V.int a=V.int b)=true):a=b:=V.int.inj (jH g)
theorem MN {a b:Int} (g:¬ decide (V.int a=V.int b)=true):a≠b:=λz=>g (fM (by rw [z]))
theorem Z9 {u:Addr} (hp:H p=some (.lst xs)) (fu:H u=none) (o:HO):Kp p H (upd H u o)/\(upd H u o) p=some (.lst xs)/\(upd H u o) u=some o/\u≠p:=⟨Kp.same (cu fu o),(cu fu o) _ _ hp,aM,bF (cV hp fu)⟩
theorem acA (h:dM H rs ws) {i:Int} (h0:0<=i) (h1:i<rs.length):∃ t w,jK rs i=some (.ref t)/\w∈ws/\ws[i.toNat]?=some w/\H t=some (.tup [.int w.1,.int w.2]):=by
 obtain ⟨j,rfl⟩:∃ j:Nat,i=(j:Int):=⟨i.toNat,by lk⟩;have d:j<rs.length:=by lk
 have e:rs[j]?=some rs[j]:=by simp [d]
 obtain ⟨w,t,a,b,c⟩:=h.get e;rw [b] at e;exact ⟨t,w,oO e,eZ a,by simpa using a,c⟩
inductive ao_ (K:bG) (vs:aA) (H:Hp) (Q:VK):Prop
 |mk (a:Addr) (ns:aF) (k:Int) (h1:vs=[.ref a,.int k]) (h2:dH K H a (ns.map V.int)) (h3:ns.length<=63) (h4:0<=k) (h5:k<100) (h6:∀ (p:Addr) (a' b' c':Int),H p=none->Q (.ref p) (upd H p (.lst [.int a',.int b',.int c'])))
def aqm (K:bG):=nE (ao_ K)
inductive am5 (vs:aA) (H:Hp) (Q:VK):Prop
 |mk (p:Addr) (a b c n:Int) (h1:vs=[.ref p,.int n]) (h2:H p=some (.lst [.int a,.int b,.int c])) (h3:0<n) (h4:n<2 ^ 250) (h5:∀ (v a' b' c':Int),0<=v->v<n->Q (.int v) (upd H p (.lst [.int a',.int b',.int c'])))
def ao':=nE am5
inductive ahp (vs:aA) (H:Hp) (Q:VK):Prop
 |mk (p:Addr) (aj many:Int) (h1:vs=[.ref p,.int aj,.int many]) (h2:wG H p) (h3:1<=aj) (h4:aj<=8) (h5:0<=many) (h6:many<=41) (h7:∀ (l:Addr) (ws:aP) (H':Hp),H l=none->Kp p H H'->wG H' p->m5 H' l ws->bJ aj ws->(ws.length:Int)<=many->Q (.ref l) H')
def aiM:=nE ahp
def kW (by_:Int) (w:Int×Int):Int×Int:=(w.1+by_,w.2+by_)
theorem ne1 (n:H b=none) (h:H a=some o):a≠b:=cV h n
theorem zW {ys:aA} (h1:H a=some (.tup xs)) (h2:H b=some (.lst ys)):a≠b:=kY h1 h2 (by intro z;cases z)
theorem aqn (n:H' l=none) (s:aB H H'):H l=none:=s.free n
def KT (H H':Hp):Prop:=∀ b xs,H b=some (.tup xs)->H' b=some (.tup xs)
theorem KT.refl (H:Hp):KT H H:=λ_ _ h=>h
def bY:=@KT.refl
theorem KT.trans (a:KT H H1) (b:KT H1 H2):KT H H2:=λc xs h=>b c xs (a c xs h)
def pR:=@KT.trans
theorem KT.same (s:aB H H') (k:KT G H):KT G H':=λb xs h=>s b _ (k b xs h)
def cG:=@KT.same
theorem KT.new (n:H l=none) (k:KT G H):KT G (upd H l o):=λb xs h=>by rw [aV (cV (k b xs h) n)];exact k b xs h
theorem KT.lst {G H:Hp} {l:Addr} {o:HO} {ys:aA} (n:H l=some (.lst ys)) (k:KT G H):KT G (upd H l o):=λb xs h=>by rw [aV (zW (k b xs h) n)];exact k b xs h
def lN:=@KT.lst
theorem eV.kt (n:eV H v aj ws) (k:KT H H'):eV H' v aj ws:=n.mono k
theorem dM.kt (n:dM H rs ws) (k:KT H H'):dM H' rs ws:=n.mono k
def Gu (x y:Int×Int):Bool:=(decide (x.1=y.1) || decide (x.1=y.2)) || (decide (x.2=y.1) || decide (x.2=y.2))
theorem am6 (a b c:Int):lM (.int a) [.int b,.int c]=(decide (a=b) || decide (a=c)):=by
 show (lA (.int b) (.int a) || (lA (.int c) (.int a) || false))=_;have e:∀ u v:Int,lA (.int u) (.int v)=decide (v=u):=λu v=>by
  show _=_;simp [lA];by_cases h:u=v
  ·subst h;simp
  ·have h':¬ v=u:=λz=>h z.symm;simp [h,h']
 rw [e,e,Rc]
def gj (a b:Int):Int:=if b<=a then a else b
theorem Qf (a b:Int):(if b>a then b else a)=gj a b:=by
 unfold gj;by_cases h:b<=a
 ·rw [aK (by lk),aQ h]
 ·rw [aQ (by lk),aK h]
def lq (st:aF×aF) (w:Int×Int):aF×aF :=
 let a:=1+gj (st.1.getD w.1.toNat 0) (st.1.getD w.2.toNat 0)
 ((st.1.set w.1.toNat a).set w.2.toNat a,st.2++[a])
def cj (aj:Int) (ws:aP):aF×aF:=ws.foldl lq (replicate aj.toNat 0,[])
theorem Qg (aj:Int) (ws:aP) (w:Int×Int):cj aj (ws++[w])=lq (cj aj ws) w:=by unfold cj;rw [yW];rfl
theorem am7 (st:aF×aF) (w:Int×Int):((st.1.map V.int).set w.1.toNat (V.int (1+(if st.1.getD w.2.toNat 0>st.1.getD w.1.toNat 0 then st.1.getD w.2.toNat 0 else st.1.getD w.1.toNat 0)))).set w.2.toNat (V.int (1+(if st.1.getD w.2.toNat 0>st.1.getD w.1.toNat 0 then st.1.getD w.2.toNat 0 else st.1.getD w.1.toNat 0)))=(lq st w).1.map V.int:=by rw [Qf];show _=map V.int ((st.1.set w.1.toNat (1+gj (st.1.getD w.1.toNat 0) (st.1.getD w.2.toNat 0))).set w.2.toNat (1+gj (st.1.getD w.1.toNat 0) (st.1.getD w.2.toNat 0)));rw [Fi,Fi]
theorem am8 (st:aF×aF) (w:Int×Int):st.2.map V.int++[V.int (1+(if st.1.getD w.2.toNat 0>st.1.getD w.1.toNat 0 then st.1.getD w.2.toNat 0 else st.1.getD w.1.toNat 0))]=(lq st w).2.map V.int:=by rw [Qf];show _=map V.int (st.2++[1+gj (st.1.getD w.1.toNat 0) (st.1.getD w.2.toNat 0)]);rw [cX];rfl
theorem Jj (aj:Int) (ws:aP):(cj aj ws).1.length=aj.toNat/\(cj aj ws).2.length=ws.length:=by
 have a:∀ (ws:aP) (st:aF×aF),(ws.foldl lq st).1.length=st.1.length/\(ws.foldl lq st).2.length=st.2.length+ws.length:=by
  intro ws;induction ws with
  |nil=>intro st;exact ⟨rfl,rfl⟩
  |cons w r b =>
   intro st;obtain ⟨h1,h2⟩:=b (lq st w);rw [jG];refine ⟨h1.trans ?_,h2.trans ?_⟩
   ·show ((st.1.set _ _).set _ _).length=_;rw [fU,fU]
   ·show (st.2++[_]).length+r.length=_;rw [dJ,yO,gw];lk
 obtain ⟨h1,h2⟩:=a ws (replicate aj.toNat 0,[]);exact ⟨by unfold cj;rw [h1];simp,by unfold cj;rw [h2];simp⟩
theorem sJ {i:Int} (h0:0<=i) (h1:i<n):q_ n i=some i.toNat:=by unfold q_;rw [aQ h0,aQ h1]
inductive aiN (vs:aA) (H:Hp) (Q:VK):Prop
 |mk (v:V) (aj:Int) (ws:aP) (h1:vs=[v]) (h2:eV H v aj ws) (h3:1<=aj) (h4:aj<=8) (h5:bJ aj ws) (h6:ws.length<=41) (h7:∀ (l:Addr) (H':Hp),H l=none->aB H H'->H' l=some (.lst ((cj aj ws).2.map V.int))->Q (.ref l) H')
def akU:=nE aiN
inductive akV (vs:aA) (H:Hp) (Q:VK):Prop
 |mk (v:V) (aj:Int) (ws:aP) (h1:vs=[v]) (h2:eV H v aj ws) (h3:1<=aj) (h4:aj<=8) (h5:bJ aj ws) (h6:ws.length<=41) (h7:∀ (m:Int) (H':Hp),aB H H'->((cj aj ws).2=[]->m=0)->((cj aj ws).2≠[]->vV (cj aj ws).2 m)->Q (.int m) H')
def am9:=nE akV
def Mx (v:Int) (S:Int->Prop):Prop:=0<=v/\(∀ a,S a->a<=v)/\(v=0\/S v)
theorem Mx.le {v u:Int} {S:Int->Prop} (a:Mx v S) (b:Mx u S):v<=u:=by
 rcases a.2.2 with h|h
 ·rw [h];exact b.1
 ·exact b.2.1 v h
theorem Mx.uniq {v u:Int} {S:Int->Prop} (a:Mx v S) (b:Mx u S):v=u:=Int.le_antisymm (a.le b) (b.le a)
theorem Mx.congr {v:Int} {S S':Int->Prop} (h:∀ a,S a↔S' a) (m:Mx v S):Mx v S':=⟨m.1,λa z=>m.2.1 a ((h a).mpr z),m.2.2.imp id (h v).mp⟩
theorem Mx.or {v u:Int} {S U:Int->Prop} (a:Mx v S) (b:Mx u U):Mx (gj v u) (λz=>S z\/U z):=by
 unfold gj;by_cases h:u<=v
 ·rw [aQ h];exact ⟨a.1,λz c=>c.elim (a.2.1 z) λq=>Rn (b.2.1 z q) h,a.2.2.imp id .inl⟩
 ·rw [aK h];exact ⟨b.1,λz c=>c.elim (λq=>Rn (a.2.1 z q) (by lk)) (b.2.1 z),b.2.2.imp id .inr⟩
def bT (ws:aP) (j:Nat):Int×Int:=ws.getD j (0,0)
def wH (ws:aP) (d:aF) (k:Nat) (a:Int):Prop:=∃ j,j<k/\Gu (bT ws j) (bT ws k)=true/\d.getD j 0=a
def vW (ws:aP) (d:aF) (n:Nat):Prop:=d.length=n/\∀ k,k<n->∃ v,d.getD k 0=1+v/\Mx v (wH ws d k)
theorem Bj (h:j<d.length):(d++[z]).getD j 0=d.getD j 0:=by simp [getD,qJ h]
theorem getD_last:(d++[z]).getD d.length 0=z:=by simp [getD]
theorem wH.app {k:Nat} (h:k<=d.length) (a:Int):wH ws d k a↔wH ws (d++[z]) k a:=by
 constructor
 ·rintro ⟨j,h1,h2,b⟩;exact ⟨j,h1,h2,by rw [Bj (by lk)];exact b⟩
 ·rintro ⟨j,h1,h2,b⟩;exact ⟨j,h1,h2,by rw [Bj (by lk)] at b;exact b⟩
theorem vW.nil:vW ws [] 0:=⟨rfl,λk h=>absurd h (by lk)⟩
theorem vW.snoc {v:Int} (h:vW ws d n) (m:Mx v (wH ws d n)):vW ws (d++[1+v]) (n+1):=by
 obtain ⟨l,g⟩:=h;subst l;refine ⟨by simp,λk b=>?_⟩;by_cases e:k<d.length
 ·obtain ⟨u,h1,h2⟩:=g k e;exact ⟨u,by rw [Bj e];exact h1,h2.congr (wH.app (by lk))⟩
 ·have a:k=d.length:=by lk
  subst a;exact ⟨v,getD_last,m.congr (wH.app (bI _))⟩
def uT (ws:aP) (d:aF) (n:Nat) (x a:Int):Prop:=∃ j,j<n/\((bT ws j).1=x\/(bT ws j).2=x)/\d.getD j 0=a
theorem akW {k:Nat} (a:Int):(uT ws d k (bT ws k).1 a\/uT ws d k (bT ws k).2 a)↔wH ws d k a:=by
 have e:∀ x y:Int×Int,Gu x y=true↔((x.1=y.1\/x.2=y.1)\/(x.1=y.2\/x.2=y.2)):=λx y=>by
  simp only [Gu,JF,Fj];constructor
  ·rintro ((h|h)|(h|h))<;>simp [h]
  ·rintro ((h|h)|(h|h))<;>simp [h]
 constructor
 ·rintro (⟨j,h1,h2,b⟩|⟨j,h1,h2,b⟩)
  ·exact ⟨j,h1,(e _ _).mpr (.inl h2),b⟩
  ·exact ⟨j,h1,(e _ _).mpr (.inr h2),b⟩
 ·rintro ⟨j,h1,h2,b⟩;rcases (e _ _).mp h2 with z|z
  ·exact .inl ⟨j,h1,z,b⟩
  ·exact .inr ⟨j,h1,z,b⟩
theorem jY {l:aF} (hi:i<l.length):(l.set i z).getD j 0=if j=i then z else l.getD j 0:=by
 by_cases h:j=i
 ·subst h;simp [getD,hi]
 ·have h':¬ i=j:=λq=>h q.symm;simp [getD,h,h']
theorem akX (ok:bJ aj ws):∀ i,i<=ws.length->vW ws (cj aj (ws.take i)).2 i/\∀ x,0<=x->x<aj->Mx ((cj aj (ws.take i)).1.getD x.toNat 0) (uT ws (cj aj (ws.take i)).2 i x):=by
 intro i;induction i with
 |zero =>
  intro _;refine ⟨vW.nil,λx D h1=>?_⟩;have e:(cj aj (ws.take 0)).1.getD x.toNat 0=0:=by show (replicate aj.toNat (0:Int)).getD x.toNat 0=0;simp only [getD,uh];split<;>rfl
  rw [e];exact ⟨yX _,λa ⟨j,h,_⟩=>absurd h (by lk),.inl rfl⟩
 |succ i V =>
  intro hi;obtain ⟨I,k⟩:=V (by lk);have N:ws[i]?=some ws[i]:=by simp [show i<ws.length by lk]
  have S:bT ws i=ws[i]:=by simp [bT,getD,N]
  have W:ws.take (i+1)=ws.take i++[ws[i]]:=by rw [JB,N];rfl
  obtain ⟨u,t,v,m,C⟩:=ok ws[i] (Ri _);obtain ⟨o,l⟩:=Jj aj (ws.take i);rw [gV] at l;have n:(cj aj (ws.take i)).2.length=i:=by lk
  rw [W,Qg];generalize cj aj (ws.take i)=st at I k o n;rw [<-S] at u t v m C ⊢;generalize p:bT ws i=w at u t v m C ⊢;have r:Mx (gj (st.1.getD w.1.toNat 0) (st.1.getD w.2.toNat 0)) (wH ws st.2 i):=by refine ((k w.1 u t).or (k w.2 v m)).congr λa=>?_;rw [<-p];exact akW a
  refine ⟨I.snoc r,λx D h1=>?_⟩;show Mx (((st.1.set w.1.toNat (1+gj (st.1.getD w.1.toNat 0) (st.1.getD w.2.toNat 0))).set w.2.toNat (1+gj (st.1.getD w.1.toNat 0) (st.1.getD w.2.toNat 0))).getD x.toNat 0) (uT ws (st.2++[1+gj (st.1.getD w.1.toNat 0) (st.1.getD w.2.toNat 0)]) (i+1) x);generalize M:gj (st.1.getD w.1.toNat 0) (st.1.getD w.2.toNat 0)=L at r;have b1:st.1.getD w.1.toNat 0<=L:=by rw [<-M];unfold gj;split<;>lk
  have Y:st.1.getD w.2.toNat 0<=L:=by rw [<-M];unfold gj;split<;>lk
  rw [jY (by rw [fU];lk),jY (by lk)];have old:∀ a,uT ws st.2 i x a->uT ws (st.2++[1+L]) (i+1) x a:=λa ⟨j,O,c,g⟩=>⟨j,by lk, c,by rw [Bj (by lk)];exact g⟩;have new:∀ a,uT ws (st.2++[1+L]) (i+1) x a->uT ws st.2 i x a\/((w.1=x\/w.2=x)/\a=1+L):=λa ⟨j,O,c,g⟩=>by
   by_cases e:j<i
   ·exact .inl ⟨j,e,c,by rw [Bj (by lk)] at g;exact g⟩
   ·have U:j=i:=by lk
    subst U;rw [p] at c;have:(st.2++[1+L]).getD j 0=1+L:=by have q:=getD_last (d:=st.2) (z:=1+L);rw [n] at q;exact q
    exact .inr ⟨c,by lk⟩
  have b:(w.1=x\/w.2=x)->uT ws (st.2++[1+L]) (i+1) x (1+L):=λz=>⟨i,by lk, by rw [p];exact z,by have q:=getD_last (d:=st.2) (z:=1+L);rw [n] at q;exact q⟩;have B:=k x D h1;have up:(w.1=x\/w.2=x)->Mx (1+L) (uT ws (st.2++[1+L]) (i+1) x):=λz=>by
   have bx:st.1.getD x.toNat 0<=L:=by
    rcases z with z|z
    ·rw [<-z];exact b1
    ·rw [<-z];exact Y
   have m1:=r.1;refine ⟨by lk, λa R=>?_,.inr (b z)⟩;rcases new a R with q|⟨_,q⟩
   ·have:=B.2.1 a q;lk
   ·lk
  by_cases J:x.toNat=w.2.toNat
  ·rw [aQ J];exact up (.inr (by lk))
  ·rw [aK J];by_cases y:x.toNat=w.1.toNat
   ·rw [aQ y];exact up (.inl (by lk))
   ·rw [aK y];refine B.congr λa=>⟨old a,λq=>?_⟩;rcases new a q with q|⟨q,_⟩
    ·exact q
    ·lk
theorem acB (ok:bJ aj ws):vW ws (cj aj ws).2 ws.length:=by have h:=(akX ok ws.length (bI _)).1;rw [gq] at h;exact h
inductive apa (K:bG) (vs:aA) (H:Hp) (Q:VK):Prop
 |mk (a:Addr) (ns:aF) (h1:vs=[.ref a]) (h2:dH K H a (ns.map V.int)) (h3:ns.length<=63) (h4:∀ H',Q (.bl true) H')
def Lh (K:bG):=nE (apa K)
end
variable {ys:g_} {h':Heap} {ta:TA} {tb:TS} {D:qK}
section
open PySem.Spec PyProof.Rows
section
theorem QD {t:Addr} {x:Value} (gi:s.heap.IsTupleIter it t i) (gt:s.heap.IsTuple t ys) (gx:ys[i]?=some x) (q:∀ h',h'.IsTupleIter it t (i+1)->SameBut it s.heap h'->Q x { s with heap:=h' }):wpAny (model P w) A (nextOf (.ref it)) Q E s:=by obtain ⟨j,b,c,a⟩:=id gi;obtain ⟨l,d,_,k,e⟩:=gt;have g:¬ ((Value.ref t == Value.none)=true):=iQ;unfold nextOf;refine bf (JG (name:=ofString "__next__") gi.typeIs JH (JK JH gi.typeIs abO ?_ (abP _)));show wpAny _ A.in1 (field (.ref it) 0 >>= _) _ _ s;refine bf (qC b a (x:=.ref t) rfl ?_);show wpAny _ _ (if (Value.ref t == Value.none)=true then _ else (field (.ref it) 1 >>= _)) _ _ s;rw [aK g];refine bf (qC b a (x:=.int i 0) rfl (show wpAny _ _ (seqItems? (.ref t) >>= _) _ _ s from bf (rN d e ?_)));simp only [gx,kO];refine bf (wpAny_setField b a (by simp) (cY ⟨x,rfl,cY (q _ ⟨_,Js _ b (Obj.isFreed_of_fields (Obj.data_mapFields a _)),(Obj.cls_mapFields ..).trans c,?_⟩ (SameBut.update ..))⟩));rw [Obj.data_mapFields a];simp [rawInt]
theorem Zh {t:Addr} (hh:A.handled=none) (gi:s.heap.IsTupleIter it t i) (gt:s.heap.IsTuple t ys) (gx:ys[i]?=none) (q:∀ h' e,ExtBut it s.heap h'->(∃ o,h'.get? e=some o/\o.cls=.type "StopIteration")->E (.ref e) { s with heap:=h' }):wpAny (model P w) A (nextOf (.ref it)) Q E s:=by
 obtain ⟨l,c,k,b⟩:=id gi;obtain ⟨p,d,_,n,g⟩:=gt;have j:¬ ((Value.ref t == Value.none)=true):=iQ;unfold nextOf;refine bf (JG (name:=ofString "__next__") gi.typeIs JH (JK JH gi.typeIs abO ?_ (abP _)));show wpAny _ A.in1 (field (.ref it) 0 >>= _) _ _ s;refine bf (qC c b (x:=.ref t) rfl ?_);show wpAny _ _ (if (Value.ref t == Value.none)=true then _ else (field (.ref it) 1 >>= _)) _ _ s;rw [aK j];refine bf (qC c b (x:=.int i 0) rfl (show wpAny _ _ (seqItems? (.ref t) >>= _) _ _ s from bf (rN d g ?_)));simp only [gx,kO];refine bf (JC (bf (wpAny_setField c b (by simp) (show wpAny _ _ (newExc (.type "StopIteration") [] >>= _) _ _ _ from bf ?_))));simp only [newTuple,newExc];refine bf (yP (bf (m:=firstArgMember _ _) (wpAny_of_eq (a:=Value.none) (by first|rfl|(simp only [firstArgMember];rfl)) (yP ?_ (by size_fits)))) (by size_fits));simp only [raiseNew];refine bf (wpAny_handled ?_)
 first|rw [show A.in1.handled=none from hh]|rw [hh]
 exact bf (cY (wpAny_throw (q _ _ (((SameBut.update ..).extBut.push _).push _) ⟨_,fQ _ rfl,rfl⟩)))
theorem aaC (hh:A.handled=none) (it t:Addr) (hne:t≠it) (ys:g_):Draws P w A it [it,t] ys.size (λi v=>ys[i]?=some v) (λi h=>h.IsTupleIter it t i/\h.IsTuple t ys) where
 live:=λ_ _ g=>let ⟨o,c,_⟩:=g.1;⟨o,c⟩
 frame:=λ_ _ _ g k=>⟨g.1.at λo e=>k it (by simp) o e,let ⟨o,e,r⟩:=g.2;⟨o,k t (by simp) o e,r⟩⟩
 item:=λi s Q E hi g q=>QD g.1 g.2 (x:=ys[i]) (by simp [hi]) λh' b a=>q _ h' s.toks (by simp [hi]) ⟨b,let ⟨o,e,r⟩:=g.2;⟨o,a.extBut t o hne e,r⟩⟩ a
 done:=λs Q E g q=>Zh hh g.1 g.2 (by simp) q
theorem af6 (t:Addr) (ys:g_) (n:Nat) (dc:jy) (sl:ux) : Meets (Builtin.«enumerate.__new__» ⟨[.type "enumerate",.ref t],[]⟩) (λ_ R s=>s.heap.get? t=some { cls:=.type "tuple",dict:=dc,data:=.seq ys n,slots:=sl } /\R (.ok (.ret (.ref (s.heap.push { cls:=.type "tuple_iterator",data:=.fields #[.ref t,.int 0 0] }).objs.size))) { s with heap:=(s.heap.push { cls:=.type "tuple_iterator",data:=.fields #[.ref t,.int 0 0] }).push { cls:=.type "enumerate",data:=.fields #[.none,.bool false,.ref s.heap.objs.size,rawInt 0,.none,.none] } }):=.of_wp λprog w A R s h=>by
  obtain ⟨k,g,d,i,j⟩:=s;obtain ⟨a,q⟩:=h;have e:=sub_enumerate;have b:IsTuple (Shared.heap ⟨k,g,d,i,j⟩) t ys:=⟨_,a,rfl,n,rfl⟩
  wp_walk using Ro a
  refine wpAny_stack_any λst=>cY ?_;split
  ·rename_i c _ _ _ _ _;cases (c == type "enumerate")<;>(wp_walk using Ro a,KZ b)<;>exact ⟨_,rfl,q⟩
  ·wp_walk using Ro a,KZ b
   exact ⟨_,rfl,q⟩
theorem afK {t:Addr} (gT:s.heap.IsTuple t ys) (q:∀ h',IsEnum h' (s.heap.objs.size+1) s.heap.objs.size 0 .none->h'.IsTupleIter s.heap.objs.size t 0->h'.objs.size=s.heap.objs.size+2->(∀ b o,s.heap.get? b=some o->h'.get? b=some o)->Q (.ref (s.heap.objs.size+1)) { s with heap:=h' }) : wpAny (model P w) A (call (.type "enumerate") [.ref t]) Q E s:=by
 obtain ⟨⟨c,dc,d,sl⟩,j,i,n,g⟩:=gT;obtain rfl:c=.type "tuple":=i;obtain rfl:d=.seq ys n:=g;refine callType_new F.called_enumerate (by decide) (F.typeCall_enumerate_1 _) (F.newCall_enumerate_1 _) (λo=>F.args_object_init_2 o _) F.entry_enumerate_new (af6 t ys n dc sl) ⟨j,?_⟩;have z:(s.heap.push { cls:=.type "tuple_iterator",data:=.fields #[.ref t,.int 0 0] }).objs.size=s.heap.objs.size+1:=pO ..;have a:IsEnum ((s.heap.push { cls:=.type "tuple_iterator",data:=.fields #[.ref t,.int 0 0] }).push { cls:=.type "enumerate",data:=.fields #[.none,.bool false,.ref s.heap.objs.size,rawInt 0,.none,.none] }) (s.heap.objs.size+1) s.heap.objs.size 0 .none:=by have u:=fQ (s.heap.push { cls:=.type "tuple_iterator",data:=.fields #[.ref t,.int 0 0] }) (o:={ cls:=.type "enumerate",data:=.fields #[.none,.bool false,.ref s.heap.objs.size,rawInt 0,.none,.none] }) rfl;rw [z] at u;exact u
 show _/\_;rw [z];exact ⟨⟨_,a,rfl⟩,q _ a ⟨_,dF _ (fQ _ rfl),rfl,rfl⟩ (by rw [pO,z]) λb o e=>dF _ (dF _ e)⟩
end
def uF (sq:Hp->aA->Prop):It :=
 ⟨λi H=>∃ xs x,sq H xs/\xs[i]?=some x,λi H x H'=>∃ T v,H T=none/\x=.ref T/\H'=upd H T (.tup [.int i,v])/\∀ xs,sq H xs->xs[i]?=some v,λi H=>∃ xs,sq H xs/\xs.length=i⟩
theorem aD.acC {e:Addr} {ys:aA} (I:aD X ak σ H s) (k:∀ b o,b≠e->b≠it->s.heap.get? b=some o->h'.get? b=some o) (fe:n_ X ak H e) (fi:n_ X ak H it) (new:dZ X.prog X.w (upd H s.heap.objs.size (.tup ys)) h' s.heap.objs.size (.tup ys)):aD X ak σ (upd H s.heap.objs.size (.tup ys)) { s with heap:=h',toks:=t' }:=by
 have t:H s.heap.objs.size=none:=I.hok.fresh (bI _);have p:∀ b o,s.heap.get? b=some o->b≠s.heap.objs.size:=λb o q=>fO (cF q);have g:∀ b,b∉[e,it]->b≠e/\b≠it:=λb d=>⟨λz=>d (by simp [z]),λz=>d (by simp [z])⟩;have j:∀ b u,H b=some u->b≠e/\b≠it:=λb u q=>⟨(λz=>by rw [z,fe.1] at q;cases q),(λz=>by rw [z,fi.1] at q;cases q)⟩;have up:∀ b u,H b=some u->upd H s.heap.objs.size (.tup ys) b=some u:=λb u q=>by rw [aV (cV q t)];exact q
 refine I.step (g':=s.gens) (d':=s.drawn) (ch:=[e,it]) (λb d=>?_) (λb o _ _ a q _=>k b o (g b a).1 (g b a).2 q) (λb o _ _ a q _=>⟨o.slots,k b o (g b a).1 (g b a).2 q⟩) (λb o _ q n=>by rw [aV (p b o q)];exact n) (λb o a q=>⟨o,k b o (g b a).1 (g b a).2 q⟩) (λb xs q=>up b _ q) (λb o u q=>up b _ q) (λb ps q=>⟨up b _ q,λc o l x=>⟨up c _ l,k c o (j c _ l).1 (j c _ l).2 x⟩⟩) (λm B=>?_) (λb u q=>?_) I.bare
 ·have z:b=e\/b=it:=by simpa using d
  rcases z with rfl|rfl
  ·exact ⟨fe.2.2.2.1,fe.2.1,fe.2.2.2.2.1,fe.2.2.2.2.2⟩
  ·exact ⟨fi.2.2.2.1,fi.2.1,fi.2.2.2.2.1,fi.2.2.2.2.2⟩
 ·obtain ⟨o,es,y,C,r⟩:=B;exact ⟨o,es,y,k _ o (bF fe.2.1) (bF fi.2.1) C,r⟩
 ·by_cases d:b=s.heap.objs.size
  ·subst d;rw [aM] at q;cases q;exact new
  ·rw [aV d] at q;refine (I.hok b u q).stay (λc v a z=>?_) (λc z=>up c _ z) λc xs z=>up c _ z;have i:c≠e/\c≠it:=by
    rcases a with z|z
    ·rw [z];exact j b u q
    ·exact j c _ z
   exact k c v i.1 i.2 z
section
variable {elts:List Expr} {kk:Nat} {ps:Pos}
theorem ahq (a e it:Addr) (hei:e≠it):uq P w K (.Tuple elts kk ps) (uF (λH xs=>gF K H a xs)) [e,it] e (λi h=>(∃ old,IsEnum h e it i old)/\h.IsTupleIter it a i) where
 mem:=by simp
 obj:=λi h st b y=>by
  obtain ⟨⟨old,g⟩,o,V,c,d⟩:=st;have z:b=e\/b=it:=by simpa using y
  rcases z with rfl|rfl
  ·exact ⟨_,g,λv z=>by have z':Data.fields _=Data.cell v:=z;cases z'⟩
  ·exact ⟨o,V,λv z=>by rw [d] at z;cases z⟩
 keep:=λi h h' st k=>by obtain ⟨⟨old,g⟩,o,V,r⟩:=st;exact ⟨⟨old,k e (by simp) _ g⟩,o,k it (by simp) o V,r⟩
 item:=by
  intro X B hw hK N i ak s σ H E I C st M;subst B hw hK;obtain ⟨⟨old,g⟩,n⟩:=st;obtain ⟨xs,x,J,R⟩:=M;obtain ⟨aJ,O,p,hz⟩:=I.tuple J;obtain ⟨u,hu,ru⟩:=O.get R;have t:s.heap.IsTuple a aJ.toArray:=p;have W:a≠it:=λz=>by obtain ⟨o1,j,m,_⟩:=t;obtain ⟨D,l,S,_⟩:=n;rw [z,l] at j;cases j;rw [S] at m;exact absurd (BL m) (by decide)
  have Vo:e≠a:=λz=>by obtain ⟨o1,j,m,_⟩:=t;rw [<-z,g] at j;cases j;exact absurd (BL m) (by decide)
  have il:i<aJ.toArray.size:=by have:=(dY.mp hu).1;simpa using this
  refine wpAny_pyNext_enum_itemD (aaC (A:=X.A.in1) (I.ok.hd N) it a W aJ.toArray) g ⟨n,t⟩ il hei (by simp [hei,Vo]) λL h1 U B ho hs hT hsz hk=>?_;have ex:L=u:=by
   have:aJ[i]?=some L:=by simpa using B
   rw [hu] at this;cases this;rfl
  subst ex;refine ⟨_,rfl,abQ ho λh2 he2 Y=>?_⟩;have eT:e<s.heap.objs.size:=cF g;have k2:∀ b o,b≠e->b≠it->s.heap.get? b=some o->h2.get? b=some o:=λb o n1 n2 q=>Y.extBut b o n1 (hk b o n1 n2 q);have new:dZ X.prog X.w (upd H s.heap.objs.size (.tup [.int i,x])) h2 s.heap.objs.size (.tup [.int i,x]):=⟨by show 2<=sizeLine;rw [vC];decide,[.int i U,L],.cons ⟨U,rfl⟩ (.cons ru .nil),_,Y.extBut _ _ (vB eT) hT,rfl,_,rfl,rfl⟩;have I2:aD X ak σ (upd H s.heap.objs.size (.tup [.int i,x])) { s with heap:=h2,toks:=U+1 }:=aD.acC I k2 (C e (by simp)) (C it (by simp)) new;refine ⟨.ref s.heap.objs.size,_,I2,rfl,⟨s.heap.objs.size,x,I.hok.fresh (bI _),rfl,rfl,λzs hzs=>by rw [I.PN hzs J];exact R⟩,⟨⟨L,by simpa using he2⟩,?_⟩,λb y=>?_⟩
  ·obtain ⟨⟨D,l,r2⟩,_⟩:=hs;exact ⟨D,Y.extBut it D (bF hei) l,r2⟩
  ·have bl:b<s.heap.objs.size:=by
    have z:b=e\/b=it:=by simpa using y
    rcases z with rfl|rfl
    ·exact eT
    ·obtain ⟨D,l,_⟩:=n;exact cF l
   rw [aV (fO bl)];exact (C b y).1
 done:=by
  intro X B hw hK N i ak s σ H E I C st M;subst B hw hK;obtain ⟨⟨old,g⟩,n⟩:=st;obtain ⟨xs,J,R⟩:=M;obtain ⟨aJ,O,p,hz⟩:=I.tuple J;obtain ⟨f0,f1,f2,f3,f4,f5⟩:=C it (by simp);have t:s.heap.IsTuple a aJ.toArray:=p;have hl:=O.length;have W:a≠it:=λz=>by obtain ⟨o1,j,m,_⟩:=t;obtain ⟨D,l,S,_⟩:=n;rw [z,l] at j;cases j;rw [S] at m;exact absurd (BL m) (by decide)
  have ei:aJ.toArray.size=i:=by simp;lk
  exact wpAny_pyNext_enum_endD (aaC (A:=X.A.in1) (I.ok.hd N) it a W aJ.toArray) g (by rw [ei];exact ⟨n,t⟩) λh' eb=>⟨rfl,I.turned (t':=s.toks) (λb o y q=>eb b o y q) f0 f1 f3 f4 f5⟩
 self:=λ_ _ _ _ _ st h=>JL st.1.choose_spec h
theorem ahr (a e it:Addr) (hei:e≠it):uq P w K (.Tuple elts kk ps) (uF (λH xs=>dH K H a xs)) [e,it] e (λi h=>(∃ old,IsEnum h e it i old)/\h.IsListIter it a i) where
 mem:=by simp
 obj:=λi h st b y=>by
  obtain ⟨⟨old,g⟩,o,V,c,d⟩:=st;have z:b=e\/b=it:=by simpa using y
  rcases z with rfl|rfl
  ·exact ⟨_,g,λv z=>by have z':Data.fields _=Data.cell v:=z;cases z'⟩
  ·exact ⟨o,V,λv z=>by rw [d] at z;cases z⟩
 keep:=λi h h' st k=>by obtain ⟨⟨old,g⟩,o,V,r⟩:=st;exact ⟨⟨old,k e (by simp) _ g⟩,o,k it (by simp) o V,r⟩
 item:=by
  intro X B hw hK N i ak s σ H E I C st M;subst B hw hK;obtain ⟨⟨old,g⟩,n⟩:=st;obtain ⟨xs,x,J,R⟩:=M;obtain ⟨aJ,O,p,hz⟩:=I.list J;obtain ⟨u,hu,ru⟩:=O.get R;have t:=p.isList;have W:a≠it:=λz=>by obtain ⟨o1,j,m,_⟩:=t;obtain ⟨D,l,S,_⟩:=n;rw [z,l] at j;cases j;rw [S] at m;exact absurd (BL m) (by decide)
  have Vo:e≠a:=λz=>by obtain ⟨o1,j,m,_⟩:=t;rw [<-z,g] at j;cases j;exact absurd (BL m) (by decide)
  have il:i<aJ.toArray.size:=by have:=(dY.mp hu).1;simpa using this
  refine wpAny_pyNext_enum_itemD (Draws.list (A:=X.A.in1) (I.ok.hd N) it a W aJ.toArray) g ⟨n,t⟩ il hei (by simp [hei,Vo]) λL h1 U B ho hs hT hsz hk=>?_;have ex:L=u:=by
   have:aJ[i]?=some L:=by simpa using B
   rw [hu] at this;cases this;rfl
  subst ex;refine ⟨_,rfl,abQ ho λh2 he2 Y=>?_⟩;have eT:e<s.heap.objs.size:=cF g;have k2:∀ b o,b≠e->b≠it->s.heap.get? b=some o->h2.get? b=some o:=λb o n1 n2 q=>Y.extBut b o n1 (hk b o n1 n2 q);have new:dZ X.prog X.w (upd H s.heap.objs.size (.tup [.int i,x])) h2 s.heap.objs.size (.tup [.int i,x]):=⟨by show 2<=sizeLine;rw [vC];decide,[.int i U,L],.cons ⟨U,rfl⟩ (.cons ru .nil),_,Y.extBut _ _ (vB eT) hT,rfl,_,rfl,rfl⟩;have I2:aD X ak σ (upd H s.heap.objs.size (.tup [.int i,x])) { s with heap:=h2,toks:=U+1 }:=aD.acC I k2 (C e (by simp)) (C it (by simp)) new;refine ⟨.ref s.heap.objs.size,_,I2,rfl,⟨s.heap.objs.size,x,I.hok.fresh (bI _),rfl,rfl,λzs hzs=>by rw [I.Es hzs J];exact R⟩,⟨⟨L,by simpa using he2⟩,?_⟩,λb y=>?_⟩
  ·obtain ⟨⟨D,l,r2⟩,_⟩:=hs;exact ⟨D,Y.extBut it D (bF hei) l,r2⟩
  ·have bl:b<s.heap.objs.size:=by
    have z:b=e\/b=it:=by simpa using y
    rcases z with rfl|rfl
    ·exact eT
    ·obtain ⟨D,l,_⟩:=n;exact cF l
   rw [aV (fO bl)];exact (C b y).1
 done:=by
  intro X B hw hK N i ak s σ H E I C st M;subst B hw hK;obtain ⟨⟨old,g⟩,n⟩:=st;obtain ⟨xs,J,R⟩:=M;obtain ⟨aJ,O,p,hz⟩:=I.list J;obtain ⟨f0,f1,f2,f3,f4,f5⟩:=C it (by simp);have t:=p.isList;have hl:=O.length;have W:a≠it:=λz=>by obtain ⟨o1,j,m,_⟩:=t;obtain ⟨D,l,S,_⟩:=n;rw [z,l] at j;cases j;rw [S] at m;exact absurd (BL m) (by decide)
  have ei:aJ.toArray.size=i:=by simp;lk
  exact wpAny_pyNext_enum_endD (Draws.list (A:=X.A.in1) (I.ok.hd N) it a W aJ.toArray) g (by rw [ei];exact ⟨n,t⟩) λh' eb=>⟨rfl,I.turned (t':=s.toks) (λb o y q=>eb b o y q) f0 f1 f3 f4 f5⟩
 self:=λ_ _ _ _ _ st h=>JL st.1.choose_spec h
def apb (K:bG) (ta:TA):TI:=λσ H R=>ta σ H λvs H1=>∃ a,vs=[.ref a]/\(∃ xs,gF K H1 a xs)/\R (uF (λH xs=>gF K H a xs)) H1
def apc (K:bG) (ta:TA):TI:=λσ H R=>ta σ H λvs H1=>∃ a,vs=[.ref a]/\(∃ xs,dH K H1 a xs)/\R (uF (λH xs=>dH K H a xs)) H1
theorem akY {l:Expr} {p:Pos} (hg:Gl X "enumerate") (hm:X.mg "enumerate"=none) (ha:PA X [l] ta) (hs:starEach [l] X.env=[(false,eval l X.env)]:=by rfl):PI X (.Tuple elts kk ps) (.Call (.Name "enumerate" p) [l] [] pos) (apb X.K ta):=by
 intro ak s σ H R I h;refine Call_ (qM I hg hm boot_enumerate (xR (bA (ha pos ak s σ H _ I h) λus c ⟨vs,H1,d,n,k⟩=>?_) hs rfl));obtain ⟨a,e,⟨xs,j⟩,q⟩:=k;subst e;obtain ⟨u,rfl,r⟩:=bO.one n;cases r;obtain ⟨aJ,v,m,t⟩:=d.tuple j;refine afK (show c.heap.IsTuple a aJ.toArray from m) λh' g i sz kk=>JL (by simpa using g) ⟨c.heap.objs.size+1,[c.heap.objs.size+1,c.heap.objs.size],_,_,H1,rfl,d.kept (t':=c.toks) kk,ahq a _ _ (Rm _),⟨⟨_,by simpa using g⟩,i⟩,λb o=>?_,q⟩;have z:b=c.heap.objs.size+1\/b=c.heap.objs.size:=by simpa using o
 rcases z with rfl|rfl
 ·exact d.sW (vD _) (d.hok.fresh (vD _))
 ·exact d.sW (bI _) (d.hok.fresh (bI _))
theorem Bk {l:Expr} {p:Pos} (hg:Gl X "enumerate") (hm:X.mg "enumerate"=none) (ha:PA X [l] ta) (hs:starEach [l] X.env=[(false,eval l X.env)]:=by rfl):PI X (.Tuple elts kk ps) (.Call (.Name "enumerate" p) [l] [] pos) (apc X.K ta):=by
 intro ak s σ H R I h;refine Call_ (qM I hg hm boot_enumerate (xR (bA (ha pos ak s σ H _ I h) λus c ⟨vs,H1,d,n,k⟩=>?_) hs rfl));obtain ⟨a,e,⟨xs,j⟩,q⟩:=k;subst e;obtain ⟨u,rfl,r⟩:=bO.one n;cases r;obtain ⟨aJ,v,m,t⟩:=d.list j;refine call_enumerate_list m.isList λh' g i sz kk=>JL (by simpa using g) ⟨c.heap.objs.size+1,[c.heap.objs.size+1,c.heap.objs.size],_,_,H1,rfl,d.kept (t':=c.toks) kk,ahr a _ _ (Rm _),⟨⟨_,by simpa using g⟩,i⟩,λb o=>?_,q⟩;have z:b=c.heap.objs.size+1\/b=c.heap.objs.size:=by simpa using o
 rcases z with rfl|rfl
 ·exact d.sW (vD _) (d.hok.fresh (vD _))
 ·exact d.sW (bI _) (d.hok.fresh (bI _))
theorem Bl {sq:Hp->aA->Prop} (Pv:Nat->St->Hp->Prop) (h0:Pv 0 σ H) (hl:∀ i σ H,i<=xs.length->Pv i σ H->sq H xs) (hs:∀ i x T σ H,xs[i]?=some x->H T=none->Pv i σ H->g (.ref T) σ (upd H T (.tup [.int i,x])) λσ2 H2=>tb { D with nx:=Pv (i+1),ct:=Pv (i+1),bk:=D.nx } σ2 H2) (hd:∀ σ H,Pv xs.length σ H->D.nx σ H) : ∃ W:Nat->Nat->St->Hp->Prop,(∃ m,W 0 m σ H)/\∀ i m σ H,W i m σ H ->((uF sq).stop i H/\D.nx σ H)\/((uF sq).go i H/\∃ N:St->Hp->Prop,(∀ σ' H',N σ' H'->∃ m',m'<m/\W (i+1) m' σ' H')/\∀ x H',(uF sq).oG i H x H'->g x σ H' λσ2 H2=>tb { D with nx:=N,ct:=N,bk:=D.nx } σ2 H2):=by
 refine ⟨λi m σ H=>m=xs.length-i/\i<=xs.length/\Pv i σ H,⟨xs.length,by simp,fP _,h0⟩,?_⟩;rintro i m σ H ⟨rfl,hi,p⟩;have q:=hl i σ H hi p;by_cases a:i<xs.length
 ·refine .inr ⟨⟨xs,xs[i],q,by simp [a]⟩,Pv (i+1),λσ' H' c=>⟨xs.length-(i+1),by lk, rfl,a,c⟩,λx H' y=>?_⟩;obtain ⟨T,v,j,b,d,y⟩:=y;subst b d;exact hs i v T σ H (y xs q) j p
 ·have e:i=xs.length:=by lk
  subst e;exact .inl ⟨⟨xs,q,rfl⟩,hd σ H p⟩
end
end
section
open PySem.Spec PyProof.Rows HT
end
variable {cs:aF}
section
def fH (cs:aF) (w:Int×Int):Int:=cs.getD w.1.toNat 0+cs.getD w.2.toNat 0
def cM (cs:aF) (w:Int×Int):aF:=(cs.set w.1.toNat ((fH cs w+1) / 2)).set w.2.toNat (fH cs w / 2)
def bC (cs:aF) (ws:aP):aF:=ws.foldl cM cs
def qT:Nat->aF->aP->aF
 |_,_,[]=>[]
 |k,cs,w::r=>(if fH cs w % 2=1 then [(k:Int)] else [])++qT (k+1) (cM cs w) r
theorem wW (cs:aF) (w:Int×Int):(cM cs w).length=cs.length:=by unfold cM;rw [fU,fU]
theorem jE (ws:aP):∀ cs:aF,(bC cs ws).length=cs.length:=by
 unfold bC;induction ws with
 |nil=>intro cs;rfl
 |cons w r a=>intro cs;rw [jG,a,wW]
theorem aiO (cs:aF):bC cs []=cs:=rfl
theorem Pq (cs:aF) (ws:aP) (w:Int×Int):bC cs (ws++[w])=cM (bC cs ws) w:=by unfold bC;rw [yW];rfl
theorem ahs (ws:aP) (w:Int×Int):∀ (k:Nat) (cs:aF),qT k cs (ws++[w])=qT k cs ws++(if fH (bC cs ws) w % 2=1 then [((k+ws.length:Nat):Int)] else []):=by
 induction ws with
 |nil=>intro k cs;simp [qT,bC];rfl
 |cons v r a =>
  intro k cs;show _++qT (k+1) (cM cs v) (r++[w])=(_++qT (k+1) (cM cs v) r)++_;rw [a,vh];have e:k+1+r.length=k+(v::r).length:=by simp;lk
  rw [e];rfl
theorem aiP (ws:aP):∀ (k:Nat) (cs:aF),(qT k cs ws).length<=ws.length:=by
 induction ws with
 |nil=>intro k cs;simp [qT]
 |cons v r a =>intro k cs;show (_++qT (k+1) (cM cs v) r).length<=_;rw [dJ,gw];have:=a (k+1) (cM cs v);split<;>simp<;>lk
theorem fZ {ws:List α} {w:α} (h:ws[i]?=some w):ws.take (i+1)=ws.take i++[w]:=by rw [JB,h];rfl
theorem zA (cs:aF) (i:Nat) (z:Int):(cs.map V.int).set i (V.int z)=(cs.set i z).map V.int:=by rw [Fi]
inductive am_ (vs:aA) (H:Hp) (Q:VK):Prop
 |mk (v:V) (aj:Int) (ws:aP) (c:Addr) (cs:aF) (h1:vs=[v,.ref c]) (h2:eV H v aj ws) (h3:bJ aj ws) (h4:ws.length<=100) (h5:H c=some (.lst (cs.map V.int))) (h6:cs.length=aj.toNat) (h7:∀ (t a b:Addr) (H':Hp),H t=none->H a=none->H b=none->a≠b->aB H H'->H' t=some (.tup [.ref a,.ref b])->H' a=some (.lst ((bC cs ws).map V.int))->H' b=some (.lst ((qT 0 cs ws).map V.int))->Q (.ref t) H')
def apd:=nE am_
inductive akZ (vs:aA) (H:Hp) (Q:VK):Prop
 |mk (v:V) (aj:Int) (ws:aP) (c:Addr) (cs:aF) (h1:vs=[v,.ref c]) (h2:eV H v aj ws) (h3:bJ aj ws) (h4:ws.length<=100) (h5:H c=some (.lst (cs.map V.int))) (h6:cs.length=aj.toNat) (h7:∀ (a:Addr) (H':Hp),H a=none->aB H H'->H' a=some (.lst ((bC cs ws).map V.int))->Q (.ref a) H')
def am':=nE akZ
theorem bJ.mem (h:bJ aj ws) {x:Int×Int} (e:ws[i]?=some x):0<=x.1/\x.1<aj/\0<=x.2/\x.2<aj/\x.1≠x.2:=h x (eZ e)
theorem Fz (h:i<cs.length):cs[i]?=some (cs.getD i 0):=by simp [getD,h]
theorem Z_ {w:Int×Int} (hl:cs.length=aj.toNat) (h:0<=w.1/\w.1<aj/\0<=w.2/\w.2<aj/\w.1≠w.2):(cM cs w).getD w.1.toNat 0=(fH cs w+1) / 2:=by unfold cM;rw [jY (by rw [fU];lk),aK (by lk),jY (by lk),aQ rfl]
theorem Zw {w:Int×Int} (hl:cs.length=aj.toNat) (h:0<=w.1/\w.1<aj/\0<=w.2/\w.2<aj/\w.1≠w.2):(cM cs w).getD w.2.toNat 0=fH cs w / 2:=by unfold cM;rw [jY (by rw [fU];lk),aQ rfl]
theorem aac {w:Int×Int} (hl:cs.length=aj.toNat) (h:0<=w.1/\w.1<aj/\0<=w.2/\w.2<aj/\w.1≠w.2) (h1:j≠w.1.toNat) (h2:j≠w.2.toNat):(cM cs w).getD j 0=cs.getD j 0:=by unfold cM;rw [jY (by rw [fU];lk),aK h2,jY (by lk),aK h1]
theorem all_true (n:Nat):(replicate n true).all id=true:=by simp
theorem aiQ (h:vW ws d n):∀ k,k<n->1<=d.getD k 0/\d.getD k 0<=(k:Int)+1:=by
 have a:∀ m k,k<m->k<n->1<=d.getD k 0/\d.getD k 0<=(k:Int)+1:=by
  intro m;induction m with
  |zero=>intro k b;lk
  |succ m g =>
   intro k b c;obtain ⟨v,h1,h2,l,e⟩:=h.2 k c;rcases e with z|⟨j,p,i,o⟩
   ·lk
   ·have:=g j (by lk) (by lk);lk
 exact λk b=>a (k+1) k (CN _) b
theorem aaD (ok:bJ aj ws):∀ a∈(cj aj ws).2,1<=a/\a<=(ws.length:Int):=λa g=>by
 obtain ⟨k,i,d⟩:=Jz.mp g;have c:=acB ok;have l:=c.1;have b:=aiQ c k (by lk);have e:(cj aj ws).2.getD k 0=a:=by simp [getD,i,d]
 lk
theorem agF {m:Int} (ok:bJ aj ws) (h0:(cj aj ws).2=[]->m=0) (h1:(cj aj ws).2≠[]->vV (cj aj ws).2 m):0<=m/\m<=(ws.length:Int)/\∀ a∈(cj aj ws).2,a<=m:=by
 by_cases e:(cj aj ws).2=[]
 ·rw [h0 e];exact ⟨yX _,by lk, λa c=>by rw [e] at c;cases c⟩
 ·have d:=h1 e;have b:=aaD ok m d.1;exact ⟨by lk, b.2,d.2⟩
end
variable {m7 lB:Hp->aA->Prop} {cI:gA}
section
open PySem.Spec PyProof.Rows
def ql (m7 lB:Hp->aA->Prop):It :=
 ⟨λi H=>∃ xs x ys y,m7 H xs/\lB H ys/\xs[i]?=some x/\ys[i]?=some y,λi H x H'=>∃ T v u,H T=none/\x=.ref T/\H'=upd H T (.tup [v,u])/\(∀ xs,m7 H xs->xs[i]?=some v)/\∀ ys,lB H ys->ys[i]?=some u,
  λi H=>∃ xs ys,m7 H xs/\lB H ys/\(xs[i]?=none\/ys[i]?=none)⟩
theorem aD.acD (I:aD X ak σ H s) (k:∀ b o,b∉ch->s.heap.get? b=some o->h'.get? b=some o) (fe:∀ b∈ch,n_ X ak H b):aD X ak σ H { s with heap:=h',toks:=t' }:=by
 have e:∀ b u,H b=some u->b∉ch:=λb u q z=>by rw [(fe b z).1] at q;cases q
 refine I.step (g':=s.gens) (d':=s.drawn) (ch:=ch) (λb d=>?_) (λb o _ _ a q _=>k b o a q) (λb o _ _ a q _=>⟨o.slots,k b o a q⟩) (λ_ _ _ _ n=>n) (λb o a q=>⟨o,k b o a q⟩) (λb xs q=>q) (λb o u q=>q) (λb ps q=>⟨q,λc o g x=>⟨g,k c o (e c _ g) x⟩⟩) (λm j=>?_) (λb u q=>?_) I.bare
 ·exact ⟨(fe b d).2.2.2.1,(fe b d).2.1,(fe b d).2.2.2.2.1,(fe b d).2.2.2.2.2⟩
 ·obtain ⟨o,es,i,l,r⟩:=j;exact ⟨o,es,i,k _ o (λz=>(fe _ z).2.1 rfl) l,r⟩
 ·refine (I.hok b u q).stay (λc v a z=>k c v ?_ z) (λ_ z=>z) λ_ _ z=>z;rcases a with z|z
  ·rw [z];exact e b u q
  ·exact e c _ z
theorem aD.acE {ys:aA} (I:aD X ak σ H s) (k:∀ b o,b∉ch->s.heap.get? b=some o->h'.get? b=some o) (fe:∀ b∈ch,n_ X ak H b) (new:dZ X.prog X.w (upd H s.heap.objs.size (.tup ys)) h' s.heap.objs.size (.tup ys)):aD X ak σ (upd H s.heap.objs.size (.tup ys)) { s with heap:=h',toks:=t' }:=by
 have j:H s.heap.objs.size=none:=I.hok.fresh (bI _);have i:∀ b o,s.heap.get? b=some o->b≠s.heap.objs.size:=λb o q=>fO (cF q);have e:∀ b u,H b=some u->b∉ch:=λb u q z=>by rw [(fe b z).1] at q;cases q
 have up:∀ b u,H b=some u->upd H s.heap.objs.size (.tup ys) b=some u:=λb u q=>by rw [aV (cV q j)];exact q
 refine I.step (g':=s.gens) (d':=s.drawn) (ch:=ch) (λb d=>?_) (λb o _ _ a q _=>k b o a q) (λb o _ _ a q _=>⟨o.slots,k b o a q⟩) (λb o _ q n=>by rw [aV (i b o q)];exact n) (λb o a q=>⟨o,k b o a q⟩) (λb xs q=>up b _ q) (λb o u q=>up b _ q) (λb ps q=>⟨up b _ q,λc o g x=>⟨up c _ g,k c o (e c _ g) x⟩⟩) (λm p=>?_) (λb u q=>?_) I.bare
 ·exact ⟨(fe b d).2.2.2.1,(fe b d).2.1,(fe b d).2.2.2.2.1,(fe b d).2.2.2.2.2⟩
 ·obtain ⟨o,es,l,t,r⟩:=p;exact ⟨o,es,l,k _ o (λz=>(fe _ z).2.1 rfl) t,r⟩
 ·by_cases d:b=s.heap.objs.size
  ·subst d;rw [aM] at q;cases q;exact new
  ·rw [aV d] at q;refine (I.hok b u q).stay (λc v a z=>k c v ?_ z) (λc z=>up c _ z) λc xs z=>up c _ z;rcases a with z|z
   ·rw [z];exact e b u q
   ·exact e c _ z
section
variable {elts:List Expr} {kk:Nat} {ps:Pos}
theorem aiR (a1 a2 z TI TO i1 i2:Addr) (D:ZipApart z TI TO i1 i2 a1 a2):uq P w K (.Tuple elts kk ps) (ql (λH xs=>dH K H a1 xs) (λH xs=>dH K H a2 xs)) [z,TI,TO,i1,i2] z (λi h=>IsZip h z TI TO .none/\IsPair h TI (.ref i1) (.ref i2)/\(∃ a b,IsPair h TO a b)/\h.IsListIter i1 a1 i/\h.IsListIter i2 a2 i) where
 mem:=by simp
 obj:=λi h st b g=>by
  obtain ⟨l,c,⟨u,v,d⟩,⟨o1,e1,c1,d1⟩,⟨o2,e2,c2,d2⟩⟩:=st;have q:b=z\/b=TI\/b=TO\/b=i1\/b=i2:=by simpa using g
  rcases q with rfl|rfl|rfl|rfl|rfl
  ·exact ⟨_,l,λv q=>by have J:Data.fields _=Data.cell v:=q;cases J⟩
  ·exact ⟨_,c,λv q=>by have J:Data.seq _ _=Data.cell v:=q;cases J⟩
  ·exact ⟨_,d,λv q=>by have J:Data.seq _ _=Data.cell v:=q;cases J⟩
  ·exact ⟨o1,e1,λv q=>by rw [d1] at q;cases q⟩
  ·exact ⟨o2,e2,λv q=>by rw [d2] at q;cases q⟩
 keep:=λi h h' st k=>by obtain ⟨l,c,⟨u,v,d⟩,h1,h2⟩:=st;exact ⟨k z (by simp) _ l,k TI (by simp) _ c,⟨u,v,k TO (by simp) _ d⟩,h1.at λo e=>k i1 (by simp) o e,h2.at λo e=>k i2 (by simp) o e⟩
 item:=by
  intro X U hw hK hc i ak s σ H E I O st S;subst U hw hK;obtain ⟨l,c,⟨u0,v0,d⟩,h1,h2⟩:=st;obtain ⟨xs,x,ys,y,M,hr,N,hy⟩:=S;obtain ⟨aJ,V,p,_⟩:=I.list M;obtain ⟨C,jr,W,_⟩:=I.list hr;obtain ⟨u,hu,ru⟩:=V.get N;obtain ⟨v,hv,Vp⟩:=jr.get hy;refine wpAny_pyNext_zip_item D l c d h1 h2 p.isList W.isList (x:=u) (y:=v) (by simpa using hu) (by simpa using hv) λh' b1 b2 b3 b4 b5 b6 R=>⟨_,rfl,wpAny_letOwnedTupleGo_zip b1 λm Y B=>?_⟩;have eT:z<s.heap.objs.size:=cF l;have k2:∀ b o,b∉[z,TO,i1,i2]->s.heap.get? b=some o->m.get? b=some o:=λb o n q=>by
   have j:b≠z/\b≠TO/\b≠i1/\b≠i2:=by simpa using n
   exact B.extBut b o j.1 (R b o j.1 j.2.1 j.2.2.1 j.2.2.2 q)
  have new:dZ X.prog X.w (upd H s.heap.objs.size (.tup [x,y])) m s.heap.objs.size (.tup [x,y]):=⟨by show 2<=sizeLine;rw [vC];decide,[u,v],.cons ru (.cons Vp .nil),_,B.extBut _ _ (vB eT) b5,rfl,_,rfl,rfl⟩;have r:∀ b∈[z,TO,i1,i2],b∈[z,TI,TO,i1,i2]:=λb g=>by simp at g ⊢;rcases g with e|e|e|e<;>simp [e]
  have I2:aD X ak σ (upd H s.heap.objs.size (.tup [x,y])) { s with heap:=m,toks:=s.toks }:=aD.acE I k2 (λb g=>O b (r b g)) new;refine ⟨.ref s.heap.objs.size,_,I2,rfl,⟨s.heap.objs.size,x,y,I.hok.fresh (bI _),rfl,rfl,(λzs t=>by rw [I.Es t M];exact N),λzs t=>by rw [I.Es t hr];exact hy⟩,⟨Y,?_,⟨u,v,?_⟩,?_,?_⟩,λb g=>?_⟩
  ·exact B.extBut _ _ D.TIz (R _ _ D.TIz D.TITO D.TIi1 D.TIi2 c)
  ·exact B.extBut _ _ D.TOz b2
  ·exact b3.extBut B.extBut D.i1z
  ·exact b4.extBut B.extBut D.i2z
  ·have bl:b<s.heap.objs.size:=by
    have q:b=z\/b=TI\/b=TO\/b=i1\/b=i2:=by simpa using g
    rcases q with rfl|rfl|rfl|rfl|rfl
    ·exact eT
    ·exact cF c
    ·exact cF d
    ·obtain ⟨_,q,_⟩:=h1;exact cF q
    ·obtain ⟨_,q,_⟩:=h2;exact cF q
   rw [aV (fO bl)];exact (O b g).1
 done:=by
  intro X U hw hK hc i ak s σ H E I O st S;subst U hw hK;obtain ⟨l,c,⟨u0,v0,d⟩,h1,h2⟩:=st;obtain ⟨xs,ys,M,hr,N⟩:=S;obtain ⟨aJ,V,p,_⟩:=I.list M;obtain ⟨C,jr,W,_⟩:=I.list hr;have l1:=V.length;have l2:=jr.length;have L:aJ.toArray[i]?=none\/C.toArray[i]?=none:=by
   rcases N with q|q
   ·exact .inl (by rw [JM,BJ] at *;lk)
   ·exact .inr (by rw [JM,BJ] at *;lk)
  have r:∀ b∈[z,TO,i1,i2],b∈[z,TI,TO,i1,i2]:=λb g=>by simp at g ⊢;rcases g with e|e|e|e<;>simp [e]
  refine wpAny_pyNext_zip_end (I.ok.hd hc) D l c d h1 h2 p.isList W.isList L λh' R=>⟨rfl,?_⟩;exact aD.acD (t':=s.toks) (ch:=[z,TO,i1,i2]) I (λb o n q=>by
   have j:b≠z/\b≠TO/\b≠i1/\b≠i2:=by simpa using n
   exact R b o j.1 j.2.1 j.2.2.1 j.2.2.2 q) λb g=>O b (r b g)
 self:=λ_ _ _ _ _ st h=>JN st.1 h
def aqo (K:bG) (ta:TA):TI:=λσ H R=>ta σ H λvs H1=>∃ a b,vs=[.ref a,.ref b]/\(∃ xs,dH K H1 a xs)/\(∃ ys,dH K H1 b ys)/\R (ql (λH xs=>dH K H a xs) (λH xs=>dH K H b xs)) H1
theorem ana {l r:Expr} {p:Pos} (hg:Gl X "zip") (hm:X.mg "zip"=none) (ha:PA X [l,r] ta) (hs:starEach [l,r] X.env=(false,eval l X.env)::starEach [r] X.env:=by rfl) (hpl:(backTo pos (starEach [r] X.env)).any (·.1)=false:=by rfl) : PI X (.Tuple elts kk ps) (.Call (.Name "zip" p) [l,r] [] pos) (aqo X.K ta):=by
 intro ak s σ H R I h;refine Call_ (qM I hg hm boot_zip (xR (bA (ha pos ak s σ H _ I h) λus d ⟨vs,H1,g,D,B⟩=>?_) hs hpl));obtain ⟨a,b,e,⟨xs,x⟩,⟨ys,hr⟩,q⟩:=B;subst e;obtain ⟨u,v,rfl,O,z⟩:=bO.two D;cases O;cases z;obtain ⟨aJ,_,m,_⟩:=g.list x;obtain ⟨M,_,t,_⟩:=g.list hr;have la:a<d.heap.objs.size:=by obtain ⟨o,n,e,_⟩:=m;exact cF e
 have S:b<d.heap.objs.size:=by obtain ⟨o,n,e,_⟩:=t;exact cF e
 refine call_zip_2 m.isList t.isList λh' k i N y J sz kk=>JN (by simpa using k) ?_;have C:ZipApart (d.heap.objs.size+4) (d.heap.objs.size+2) (d.heap.objs.size+3) d.heap.objs.size (d.heap.objs.size+1) a b:=by generalize d.heap.objs.size=n at la S;constructor<;>exact λq=>by simp only [Addr] at *;lk
 refine ⟨d.heap.objs.size+4,[d.heap.objs.size+4,d.heap.objs.size+2,d.heap.objs.size+3,d.heap.objs.size,d.heap.objs.size+1],_,_,H1,rfl,g.kept (t':=d.toks) kk,aiR a b _ _ _ _ _ C,⟨k,i,⟨_,_,N⟩,y,J⟩,λc L=>?_,q⟩;have j:d.heap.objs.size<=c:=by
  have q:c=d.heap.objs.size+4\/c=d.heap.objs.size+2\/c=d.heap.objs.size+3\/c=d.heap.objs.size\/c=d.heap.objs.size+1:=by simpa using L
  rcases q with rfl|rfl|rfl|rfl|rfl
  ·exact vm _ _
  ·exact vm _ _
  ·exact vm _ _
  ·exact bI _
  ·exact vm _ _
 exact g.sW j (g.hok.fresh j)
theorem anb {ys:aA} (gC:xs.length=ys.length) (Pv:Nat->St->Hp->Prop) (h0:Pv 0 σ H) (hl:∀ i σ H,i<=xs.length->Pv i σ H->m7 H xs/\lB H ys) (hs:∀ i x y T σ H,xs[i]?=some x->ys[i]?=some y->H T=none->Pv i σ H->g (.ref T) σ (upd H T (.tup [x,y])) λσ2 H2=>tb { D with nx:=Pv (i+1),ct:=Pv (i+1),bk:=D.nx } σ2 H2) (hd:∀ σ H,Pv xs.length σ H->D.nx σ H) : ∃ W:Nat->Nat->St->Hp->Prop,(∃ m,W 0 m σ H)/\∀ i m σ H,W i m σ H ->((ql m7 lB).stop i H/\D.nx σ H)\/((ql m7 lB).go i H/\∃ N:St->Hp->Prop,(∀ σ' H',N σ' H'->∃ m',m'<m/\W (i+1) m' σ' H')/\∀ x H',(ql m7 lB).oG i H x H'->g x σ H' λσ2 H2=>tb { D with nx:=N,ct:=N,bk:=D.nx } σ2 H2):=by
 refine ⟨λi m σ H=>m=xs.length-i/\i<=xs.length/\Pv i σ H,⟨xs.length,by simp,fP _,h0⟩,?_⟩;rintro i m σ H ⟨rfl,hi,p⟩;obtain ⟨d,c⟩:=hl i σ H hi p;by_cases a:i<xs.length
 ·have b:i<ys.length:=by lk
  refine .inr ⟨⟨xs,xs[i],ys,ys[i],d,c,by simp [a],by simp [b]⟩,Pv (i+1),λσ' H' l=>⟨xs.length-(i+1),by lk, rfl,a,l⟩,λx H' y=>?_⟩;obtain ⟨T,v,u,q,k,o,n,j⟩:=y;subst k o;exact hs i v u T σ H (n xs d) (j ys c) q p
 ·have e:i=xs.length:=by lk
  subst e;exact .inl ⟨⟨xs,ys,d,c,.inl (by simp)⟩,hd σ H p⟩
theorem abk {ys':aA} {own:Nat} {R:Hp->Prop} (gC:xs.length=ys'.length) (Pv:Nat->aA->Hp->Prop) (h0:Pv 0 [] (upd H1 l (.lst []))) (hz:xs.length<=sizeLine) (hl:∀ i ys H,i<=xs.length->Pv i ys H->m7 H xs/\lB H ys'/\H l=some (.lst ys)/\ys.length<=i) (hs:∀ i x y T ys H,xs[i]?=some x->ys'[i]?=some y->H T=none->Pv i ys H->g (.ref T) (gK own cI σ) (upd H T (.tup [x,y])) λσ2 H2=>Wk (gK own cI σ) σ2 /\tt σ2 H2 λb H3=>if b=true then te σ2 H3 λy H4=>H4 l=some (.lst ys)/\Pv (i+1) (ys++[y]) (upd H4 l (.lst (ys++[y]))) else Pv (i+1) ys H3) (hd:∀ ys H,Pv xs.length ys H->R H) : ∃ W:Nat->Nat->aA->Hp->Prop,(∃ m,W 0 m [] (upd H1 l (.lst []))) /\∀ i m ys H,W i m ys H->H l=some (.lst ys)/\(((ql m7 lB).stop i H/\R H)\/((ql m7 lB).go i H/\ys.length<sizeLine/\∃ N:aA->Hp->Prop,(∀ ys' H',N ys' H'->∃ m',m'<m/\W (i+1) m' ys' H') /\∀ x H',(ql m7 lB).oG i H x H'->g x (gK own cI σ) H' λσ2 H2=>Wk (gK own cI σ) σ2 /\tt σ2 H2 λb H3=>if b=true then te σ2 H3 λy H4=>H4 l=some (.lst ys)/\N (ys++[y]) (upd H4 l (.lst (ys++[y]))) else N ys H3)):=by
 refine ⟨λi m ys H=>m=xs.length-i/\i<=xs.length/\Pv i ys H,⟨xs.length,by simp,fP _,h0⟩,?_⟩;rintro i m ys H ⟨rfl,hi,p⟩;obtain ⟨j,d,n,B⟩:=hl i ys H hi p;refine ⟨n,?_⟩;by_cases a:i<xs.length
 ·have c:i<ys'.length:=by lk
  refine .inr ⟨⟨xs,xs[i],ys',ys'[i],j,d,by simp [a],by simp [c]⟩,by lk, Pv (i+1),λzs H' q=>⟨xs.length-(i+1),by lk, rfl,a,q⟩,λx H' y=>?_⟩;obtain ⟨T,v,u,z,o,t,r,k⟩:=y;subst o t;exact hs i v u T ys H (r xs j) (k ys' d) z p
 ·have e:i=xs.length:=by lk
  subst e;exact .inl ⟨⟨xs,ys',j,d,.inl (by simp)⟩,hd ys H p⟩
end
section
def ipM:Ac:=λx y H Q=>∃ i j,x=.int i/\y=.int j/\Dp i j/\Q (.int (i*j)) H
theorem ape:G3 X .Mult ipM:=by rintro ak s σ H x y v u Q I e b ⟨i,j,a,d,c,q⟩;subst a;subst d;obtain ⟨t,rfl⟩:=e;obtain ⟨t',rfl⟩:=b;exact PyProof.Rows.imul_int ⟨.int _,H,I.tok _,⟨_,rfl⟩,q⟩ c.ok
end
end
variable {M:List aF}
section
theorem QF {a b:aF} (h:a.length=b.length) (g:∀ i,i<a.length->a.getD i 0=b.getD i 0):a=b:=by refine List.ext_getElem h λi h1 h2=>?_;have:=g i h1;simpa [getD,h1,h2] using this
def vX (aj:Nat) (i:Nat) (n:Int):aF:=(replicate aj 0).set i n
theorem IW (aj i:Nat) (n:Int):(vX aj i n).length=aj:=by unfold vX;rw [fU,vG]
abbrev zT (aj:Int) (w:Int×Int):Prop:=0<=w.1/\w.1<aj/\0<=w.2/\w.2<aj/\w.1≠w.2
theorem aaE {w:Int×Int} (hl:cs.length=aj.toNat) (h:zT aj w) (x:Nat) : (cM cs w).getD x 0=if x=w.2.toNat then fH cs w / 2 else if x=w.1.toNat then (fH cs w+1) / 2 else cs.getD x 0:=by obtain ⟨h1,h2,a,b,h5⟩:=h;unfold cM;rw [jY (by rw [fU];lk),jY (by lk)]
theorem sum_set {l:aF}:∀ {i:Nat} {z:Int},i<l.length->(l.set i z).sum=l.sum-l.getD i 0+z:=by
 induction l with
 |nil=>intro i z h;simp at h
 |cons a r b =>
  intro i z h;cases i with
  |zero=>simp [getD];lk
  |succ i =>have:=b (i:=i) (z:=z) (by simpa using h);simp [getD] at this ⊢;lk
theorem ak0 {w:Int×Int} (hl:cs.length=aj.toNat) (h:zT aj w):(cM cs w).sum=cs.sum:=by obtain ⟨h1,h2,a,b,h5⟩:=h;unfold cM;rw [sum_set (by rw [fU];lk),sum_set (by lk),jY (by lk),aK (by lk)];unfold fH;lk
theorem aiS (ws:aP):∀ cs:aF,bJ aj ws->cs.length=aj.toNat->(bC cs ws).sum=cs.sum:=by
 induction ws with
 |nil=>intro cs _ _;rfl
 |cons w r c =>intro cs ok a;show (bC (cM cs w) r).sum=_;rw [c _ (λx b=>ok x (fG _ b)) (by rw [wW];exact a),ak0 a (ok w iy)]
theorem aiT {aj:Nat} {n:Int} (hi:i<aj):(vX aj i n).sum=n:=by
 unfold vX;have z:∀ k:Nat,(replicate k (0:Int)).sum=0:=by
  intro k;induction k with
  |zero=>rfl
  |succ k a=>rw [ju,qD,a];rfl
 have e:(replicate aj (0:Int)).getD i 0=0:=by simp only [getD,uh];split<;>rfl
 rw [sum_set (by rw [vG];exact hi),e,z];lk
def oX (aj D:Nat) (ws:aP) (i:Nat):aF:=bC (vX aj i ((2 ^ D:Nat):Int)) ws
theorem aht (aj D:Nat) (ws:aP) (i:Nat):(oX aj D ws i).length=aj:=by unfold oX;rw [jE,IW]
def Vr (L:aF):Int:=L.foldl gj 0
theorem anc (L:aF):∀ x:Int,x<=L.foldl gj x/\(∀ a∈L,a<=L.foldl gj x)/\(L.foldl gj x=x\/L.foldl gj x∈L):=by
 induction L with
 |nil=>intro x;exact ⟨yX _,(λ_ h=>nomatch h),.inl rfl⟩
 |cons b r i =>
  intro x;obtain ⟨h1,h2,d⟩:=i (gj x b);rw [jG];generalize r.foldl gj (gj x b)=z at h1 h2 d;unfold gj at h1 d;by_cases c:b<=x
  ·rw [aQ c] at h1 d;refine ⟨h1,λa g=>?_,d.imp id (fG _)⟩;rcases fW.mp g with e|e
   ·lk
   ·exact h2 a e
  ·rw [aK c] at h1 d;refine ⟨by lk, λa g=>?_,?_⟩
   ·rcases fW.mp g with e|e
    ·lk
    ·exact h2 a e
   ·rcases d with e|e
    ·exact .inr (by rw [e];exact iy)
    ·exact .inr (fG _ e)
theorem Gd (L:aF):Mx (Vr L) (·∈L):=anc L 0
def dX (aj:Int) (ws:aP):Nat:=(Vr (cj aj ws).2).toNat
theorem I_ (aj:Int) (ws:aP):(dX aj ws:Int)=Vr (cj aj ws).2:=by have:=(Gd (cj aj ws).2).1;unfold dX;lk
theorem Ku {m:Int} (ok:bJ aj ws) (h0:(cj aj ws).2=[]->m=0) (h1:(cj aj ws).2≠[]->vV (cj aj ws).2 m):m=(dX aj ws:Int):=by
 rw [I_];refine Mx.uniq (S:=(·∈(cj aj ws).2)) ?_ (Gd _);obtain ⟨a,c,b⟩:=agF ok h0 h1;refine ⟨a,b,?_⟩;by_cases e:(cj aj ws).2=[]
 ·exact .inl (h0 e)
 ·exact .inr (h1 e).1
theorem acF (ok:bJ aj ws):dX aj ws<=ws.length:=by
 have h:=Gd (cj aj ws).2;have c:=I_ aj ws;rcases h.2.2 with e|e
 ·lk
 ·have:=(aaD ok _ e).2;lk
abbrev whole (aj:Int) (ws:aP):Int:=((2 ^ dX aj ws:Nat):Int)
def Rows (H:Hp):aA->List aF->Prop:=Paired λr w=>∃ t,r=.ref t/\H t=some (.lst (w.map V.int))
theorem Rows.len (h:Rows H rs M):rs.length=M.length:=o7 h
theorem Rows.get:∀ {rs:aA} {M:List aF} {i:Nat} {r:V},Rows H rs M->rs[i]?=some r->∃ w t,M[i]?=some w/\r=.ref t/\H t=some (.lst (w.map V.int))
 |_,_,_,_,.nil,e=>by simp at e
 |_,_,0,_,.cons ⟨t,e1,h⟩ _,e=>by simp at e;subst e;exact ⟨_,t,rfl,e1,h⟩
 |_,_,i+1,r,.cons _ q,e=>by obtain ⟨w,t,a,b⟩:=Rows.get (i:=i) (r:=r) q (by simpa using e);exact ⟨w,t,by simpa using a,b⟩
def fD (G H:Hp) (l:Addr):aA->List aF->Prop:=Paired λr w=>∃ t,r=.ref t/\t≠l/\G t=none/\H t=some (.lst (w.map V.int))
theorem fD.rows:∀ {rs:aA} {M:List aF},fD G H l rs M->Rows H rs M
 |_,_,.nil=>.nil
 |_,_,.cons ⟨t,e,_,_,h⟩ r=>.cons ⟨t,e,h⟩ (fD.rows r)
theorem fD.same (k:aB H H'):∀ {rs:aA} {M:List aF},fD G H l rs M->fD G H' l rs M
 |_,_,.nil=>.nil
 |_,_,.cons ⟨t,e,a,b,h⟩ r=>.cons ⟨t,e,a,b,k t _ h⟩ (fD.same k r)
theorem fD.put:∀ {rs:aA} {M:List aF},fD G H l rs M->fD G (upd H l o) l rs M
 |_,_,.nil=>.nil
 |_,_,.cons ⟨t,e,a,b,h⟩ r=>.cons ⟨t,e,a,b,by rw [aV a];exact h⟩ (fD.put r)
theorem fD.app:∀ {rs qs:aA} {M N:List aF},fD G H l rs M->fD G H l qs N->fD G H l (rs++qs) (M++N)
 |_,_,_,_,.nil,s=>s
 |_,_,_,_,.cons r t,s=>.cons r (fD.app t s)
theorem fD.more {t:Addr} {w:aF} (h:fD G H l rs M) (k:aB H H') (ht:H' t=some (.lst (w.map V.int))) (n:t≠l) (g:G t=none):fD G (upd H' l o) l (rs++[.ref t]) (M++[w]):=((h.same k).app (.cons ⟨t,rfl,n,g,ht⟩ .nil)).put
theorem fD.len (h:fD G H l rs M):rs.length=M.length:=o7 h
theorem fD.get:∀ {rs:aA} {M:List aF} {i:Nat} {r:V},fD G H l rs M->rs[i]?=some r->∃ w t,M[i]?=some w/\r=.ref t/\t≠l/\G t=none/\H t=some (.lst (w.map V.int))
 |_,_,_,_,.nil,e=>by simp at e
 |_,_,0,_,.cons ⟨t,e1,h⟩ _,e=>by simp at e;subst e;exact ⟨_,t,rfl,e1,h⟩
 |_,_,i+1,r,.cons _ q,e=>by obtain ⟨w,t,a,b⟩:=fD.get (i:=i) (r:=r) q (by simpa using e);exact ⟨w,t,by simpa using a,b⟩
theorem ahu (f:Nat->α) (j:Nat):(range (j+1)).map f=(range j).map f++[f j]:=by rw [rO,cX];rfl
theorem aiU {f:Nat->α} {x:α} (h:((range n).map f)[i]?=some x):i<n/\x=f i:=by
 rw [jP] at h;have hi:i<n:=by
  by_cases c:i<n
  ·exact c
  ·rw [yZ (by simp;lk)] at h;cases h
 rw [JQ hi] at h;exact ⟨hi,(iz h).symm⟩
theorem u5 {x:V} (h:(cs.map V.int)[j]?=some x):∃ z,cs[j]?=some z/\x=V.int z:=by
 rw [jP] at h;cases e:cs[j]? with
 |none=>rw [e] at h;cases h
 |some z=>rw [e] at h;exact ⟨z,rfl,(iz h).symm⟩
def pK (aj:Int) (ws:aP):List aF:=(range aj.toNat).map (oX aj.toNat (dX aj ws) ws)
inductive ak1 (vs:aA) (H:Hp) (Q:VK):Prop
 |mk (v:V) (aj:Int) (ws:aP) (h1:vs=[v]) (h2:eV H v aj ws) (h3:1<=aj) (h4:aj<=8) (h5:bJ aj ws) (h6:ws.length<=41) (h7:∀ H',aB H H'->Q (.int (whole aj ws)) H')
def ane:=nE ak1
inductive ak2 (vs:aA) (H:Hp) (Q:VK):Prop
 |mk (aj cC n:Int) (h1:vs=[.int aj,.int cC,.int n]) (h2:1<=aj) (h3:aj<=8) (h4:0<=cC) (h5:cC<aj) (h6:∀ (a:Addr) (H':Hp),H a=none->aB H H'->H' a=some (.lst ((vX aj.toNat cC.toNat n).map V.int))->Q (.ref a) H')
def anf:=nE ak2
inductive aiV (vs:aA) (H:Hp) (Q:VK):Prop
 |mk (v:V) (aj:Int) (ws:aP) (h1:vs=[v]) (h2:eV H v aj ws) (h3:1<=aj) (h4:aj<=8) (h5:bJ aj ws) (h6:ws.length<=41) (h7:∀ (l:Addr) (rs:aA) (H':Hp),H l=none->aB H H'->H' l=some (.lst rs)->fD H H' l rs (pK aj ws)->Q (.ref l) H')
def ak3:=nE aiV
theorem Zx (aj:Int) (ws:aP):(pK aj ws).length=aj.toNat:=by unfold pK;simp
theorem Zy {r:aF} (h:(pK aj ws)[i]?=some r):i<aj.toNat/\r=oX aj.toNat (dX aj ws) ws i:=aiU h
theorem Cm (h:cs[j]?=some z):cs.getD j 0=z:=by simp [getD,h]
theorem ak4 (h:n<=xs.length):ou xs (some (n:Int)) none=xs.drop n:=by unfold ou;rw [HT.amY,HT.akM,tY h,zc (by rw [xW];lk)]
theorem arv:ou xs (some 1) none=xs.drop 1:=by
 by_cases h:1<=xs.length
 ·exact ak4 (n:=1) h
 ·have e:xs=[]:=Rp.mp (by lk);subst e;rfl
theorem ak5 {x:V} (h:rs[rs.length-1]?=some x):jK rs (-1)=some x:=by have a:=(dY.mp h).1;unfold jK q_;rw [aK (by decide),aQ (by lk)];show rs[((-1:Int)+(rs.length:Int)).toNat]?=some x;rw [show ((-1:Int)+(rs.length:Int)).toNat=rs.length-1 by lk];exact h
end
section
open PySem.Spec PyProof.Rows PyProof.V PySem.SeqAt
mutual
inductive o_ (H:Hp):V->PyData->Prop
 |non:o_ H .non .none
 |bl (b:Bool):o_ H (.bl b) (.bool b)
 |int (i:Int):o_ H (.int i) (.int i)
 |str (x:Str):o_ H (.str x) (.str x)
 |lst {a:Addr} {xs:aA} {ds:List PyData}:H a=some (.lst xs)->Dt H xs ds->o_ H (.ref a) (.list ds)
 |tup {a:Addr} {xs:aA} {ds:List PyData}:H a=some (.tup xs)->Dt H xs ds->o_ H (.ref a) (.tuple ds)
inductive Dt (H:Hp):aA->List PyData->Prop
 |nil:Dt H [] []
 |cons {v:V} {vs:aA} {d:PyData} {ds:List PyData}:o_ H v d->Dt H vs ds->Dt H (v::vs) (d::ds)
end
theorem o_.reads (I:aD X ak σ H s) {d:PyData} (h:o_ H v d):∀ u,cA v u->∃ as,Reads s.heap u d as:=by
 refine o_.rec (H:=H) (motive_1:=λv d _=>∀ u,cA v u->∃ as,Reads s.heap u d as) (motive_2:=λvs ds _=>∀ us,bO vs us->∃ as,ReadsAll s.heap us ds as) ?_ ?_ ?_ ?_ ?_ ?_ ?_ ?_ h
 ·intro u r;cases r;exact ⟨_,.none⟩
 ·intro b u r;cases r;exact ⟨_,.bool b⟩
 ·rintro i u ⟨t,rfl⟩;exact ⟨_,.int i t⟩
 ·rintro x u ⟨t,rfl⟩;exact ⟨_,.str x t⟩
 ·intro a xs ds e _ k u r;cases r;obtain ⟨aJ,l,pl,_⟩:=I.list (aN (K:=X.K) e);obtain ⟨as,c⟩:=k aJ l;obtain ⟨o,m,j,n,q⟩:=pl.isList;exact ⟨_,.list m j q (by simpa using c)⟩
 ·intro a xs ds e _ k u r;cases r;obtain ⟨aJ,l,pl,_⟩:=I.tuple (aZ (K:=X.K) e);obtain ⟨as,c⟩:=k aJ l;obtain ⟨o,m,j,n,q⟩:=(show s.heap.IsTuple a aJ.toArray from pl);exact ⟨_,.tuple m j q (by simpa using c)⟩
 ·intro us r;cases r;exact ⟨_,.nil⟩
 ·intro v vs d ds _ _ p g us r;cases r with
  |cons B y =>obtain ⟨as,c⟩:=p _ B;obtain ⟨bs,z⟩:=g _ y;exact ⟨_,.cons c z⟩
section
def aex (neg:Bool):R2:=λx y H Q=>∃ dx a,o_ H x dx/\o_ H y a/\shaped dx=true/\shaped a=true/\noMix dx a=true/\Q (.bl (if neg then !same dx a else same dx a)) H
theorem adA (hu:X.A.units+64<cLine):dO X (compareOp .Eq) (aex false):=by rintro ak s σ H x y v u Q I i j ⟨dx,k,e,a,b,d,nm,q⟩;obtain ⟨l,g⟩:=e.reads I v i;obtain ⟨bs,c⟩:=a.reads I u j;exact eq_dataH_same g c b d hu nm ⟨.bl _,H,I,rfl,q⟩
theorem apf (hu:X.A.units+64<cLine):dO X (compareOp .NotEq) (aex true):=by rintro ak s σ H x y v u Q I i j ⟨dx,k,e,a,b,d,nm,q⟩;obtain ⟨l,g⟩:=e.reads I v i;obtain ⟨bs,c⟩:=a.reads I u j;exact ne_dataH_same g c b d hu nm ⟨.bl _,H,I,rfl,q⟩
end
end
section
open PySem.SeqAt
abbrev qY (M:List aF) (i:Nat):aF:=M.getD i []
def Uc (r:aF):Prop:=∀ x,x<r.length->r.getD x 0=r.getD 0 0
def aqp (M:List aF):Prop:=∀ i,i<M.length->Uc (qY M i)
def LQ (M:List aF) (i k:Nat):Prop:=i<M.length/\(∀ j,j<i->Uc (qY M j))/\k<(qY M i).length/\(qY M i).getD k 0≠(qY M i).getD 0 0/\∀ x,x<k->(qY M i).getD x 0=(qY M i).getD 0 0
theorem ang {r:aF} (h:M[i]?=some r):qY M i=r:=by simp [qY,getD,h]
inductive aiW (vs:aA) (H:Hp) (Q:VK):Prop
 |mk (v:V) (aj:Int) (ws:aP) (h1:vs=[v]) (h2:eV H v aj ws) (h3:1<=aj) (h4:aj<=8) (h5:bJ aj ws) (h6:ws.length<=41) (h7:(∀ H',aB H H'->aqp (pK aj ws)->Q .non H')) (h8:∀ (T:Addr) (i k:Nat) (H':Hp),H T=none->aB H H'->H' T=some (.tup [.int i,.int 0,.int k])->LQ (pK aj ws) i k->Q (.ref T) H')
def ak6:=nE aiW
end
section
open PySem.Spec PyProof.Rows PyProof.V PySem.SeqAt
section
variable {a:Expr} {ta:TE}
theorem anh (ha:PE X a ta):PE X (.UnaryOp .Not a pos) (λσ H Q=>ta σ H λx H'=>∃ k,Ux X.K x H' k/\Q (.bl (!k)) H'):=by intro ak s σ H Q I h;exact UnaryOp_ (bA (ha ak s σ H _ I h) λv e ⟨x,H1,g,j,i⟩=>not_of (bA (adx ak e σ H1 x v (λk H'=>Q (.bl (!k)) H') g j i) λc l ⟨H2,b,d⟩=>⟨.bl (!c),H2,b,rfl,d⟩))
end
theorem ak7 {ys:aA} (h1:n<=xs.length) (h2:n<=ys.length) (h3:xs.length=n\/ys.length=n) (Pv:Nat->St->Hp->Prop) (h0:Pv 0 σ H) (hl:∀ i σ H,i<=n->Pv i σ H->m7 H xs/\lB H ys) (hs:∀ i x y T σ H,i<n->xs[i]?=some x->ys[i]?=some y->H T=none->Pv i σ H->g (.ref T) σ (upd H T (.tup [x,y])) λσ2 H2=>tb { D with nx:=Pv (i+1),ct:=Pv (i+1),bk:=D.nx } σ2 H2) (hd:∀ σ H,Pv n σ H->D.nx σ H) : ∃ W:Nat->Nat->St->Hp->Prop,(∃ m,W 0 m σ H)/\∀ i m σ H,W i m σ H ->((ql m7 lB).stop i H/\D.nx σ H)\/((ql m7 lB).go i H/\∃ N:St->Hp->Prop,(∀ σ' H',N σ' H'->∃ m',m'<m/\W (i+1) m' σ' H')/\∀ x H',(ql m7 lB).oG i H x H'->g x σ H' λσ2 H2=>tb { D with nx:=N,ct:=N,bk:=D.nx } σ2 H2):=by
 refine ⟨λi m σ H=>m=n-i/\i<=n/\Pv i σ H,⟨n,by simp,fP _,h0⟩,?_⟩;rintro i m σ H ⟨rfl,hi,p⟩;obtain ⟨c,b⟩:=hl i σ H hi p;by_cases a:i<n
 ·have k:i<xs.length:=by lk
  have r:i<ys.length:=by lk
  refine .inr ⟨⟨xs,xs[i],ys,ys[i],c,b,by simp [k],by simp [r]⟩,Pv (i+1),λσ' H' l=>⟨n-(i+1),by lk, rfl,a,l⟩,λx H' y=>?_⟩;obtain ⟨T,v,u,t,j,q,o,d⟩:=y;subst j q;exact hs i v u T σ H a (o xs c) (d ys b) t p
 ·have e:i=n:=by lk
  subst e;refine .inl ⟨⟨xs,ys,c,b,?_⟩,hd σ H p⟩;rcases h3 with z|z
  ·exact .inl (by rw [<-z];simp)
  ·exact .inr (by rw [<-z];simp)
end
section
open PySem.Spec PyProof.Rows
structure j7 (P:Program) (w:World) (K:bG) (mg:dR) (au:Heap) (C:Addr) (m:Str) (k:Nat) (ps:bK) (sp:Sp):Prop where
 ex:∃ (f:Addr) (fd:FuncData),dw P w K mg au jL k f fd ps sp/\mK K fd ps []/\CV K C m f
structure Kv (P:Program) (w:World) (K:bG) (mg:dR) (au:Heap) (x:Str) (C:Addr) (k:Nat) (ps:bK) (sp:Sp):Prop where
 ex:∃ (f:Addr) (fd:FuncData),dw P w K mg au jL k f fd ps sp/\mK K fd ps []/\LC K C f
 at_:mg x=some (.ref C)
section
variable {m:Str} {k:Nat} {o:Expr} {ta:TE} {t:TA} {p apos:Pos}
theorem jN {pl:Sem Bool} (he:PE X o ta) (c:nW X.K C) (M:j7 X.prog X.w X.K X.mg X.au C m k ps sp) (hr:eG k X.A) (ha:PA X (e::es) t) (hst:starEach (e::es) X.env=(false,eval e X.env)::starEach es X.env:=by rfl) (hpl:(backTo pos (starEach es X.env)).any (·.1)=false:=by rfl) (ht:eval (.Call (.Attribute o m apos) (e::es) [] pos) X.env=(do
   let ov <-eval o X.env
   standAt apos.atName
   let (f,first) <-holding [ov] (getMethod ov m pl)
   callWith pos f first (backTo pos (starEach (e::es) X.env)) (backToKw pos (keywordEach [] X.env))):=by rfl) :
  PE X (.Call (.Attribute o m apos) (e::es) [] pos) (Lb C m sp [] E0 ta t):=by
 obtain ⟨f,fd,F,a,b⟩:=M.ex;exact amV he c b F hr a .nil Gq ha hst hpl ht
theorem yJ {pl:Sem Bool} (he:PE X o ta) (c:nW X.K C) (M:j7 X.prog X.w X.K X.mg X.au C m k ps sp) (hr:eG k X.A) (ht:eval (.Call (.Attribute o m apos) [] [] pos) X.env=(do
   let ov <-eval o X.env
   standAt apos.atName
   let (f,first) <-holding [ov] (getMethod ov m pl)
   callWith pos f first (backTo pos (starEach [] X.env)) (backToKw pos (keywordEach [] X.env))):=by rfl) :
  PE X (.Call (.Attribute o m apos) [] [] pos) (Lb C m sp [] E0 ta wB):=by
 obtain ⟨f,fd,F,a,b⟩:=M.ex;exact akK he c b F hr a .nil Gq ht
theorem ak8 (M:Kv X.prog X.w X.K X.mg X.au x C k ps sp) (hr:eG (k+1) X.A) (hg:Gl X x) (ha:PA X (e::es) t) (hdb:(x == ("__debug__":Str))=false:=by decide) (he:starEach (e::es) X.env=(false,eval e X.env)::starEach es X.env:=by rfl) (hpl:(backTo pos (starEach es X.env)).any (·.1)=false:=by rfl) : PE X (.Call (.Name x p) (e::es) [] pos) (Ld C sp [] E0 t):=by obtain ⟨f,fd,F,a,b⟩:=M.ex;exact amW b F hr hg M.at_ a .nil Gq ha hdb he hpl
def aqq (K:bG):V->V->Hp->VK->Prop:=λx y H Q=>∃ p xs i v,x=.ref p/\y=.int i/\dH K H p xs/\0<=i/\xs[i.toNat]?=some v/\Q v H
theorem ak9:aek X (aqq X.K):=by rintro ak s σ H o i k m Q I g d ⟨p,xs,i,z,rfl,rfl,b,j,a,q⟩;cases g;obtain ⟨t,rfl⟩:=d;obtain ⟨aJ,r,pl,n⟩:=I.list b;obtain ⟨w,c,e⟩:=r.get a;have v:=r.length;have l:=xX;have u:=(dY.mp a).1;exact wpAny_getItem_list pl.isList j (by lk) (by simpa using c) ⟨z,H,I,e,q⟩
end
structure vY (K:bG) (mg:dR) (C:Addr) (x q:Str) (st:Stmt) (f:Addr) (fd:FuncData):Prop where
 fn:wF K x q st f fd
 mt:CV K C x f
theorem vY.arw {q:Str} {st:Stmt} {k:Nat} (h:vY K mg C x q st f fd) (F:dw P w K mg au jL k f fd ps sp) (hb:∀ (kV doc pm:Value) (an:jy) (cdv ct:Value) (us:bV),us.length=ps.length->bindArgs (fnOf x q (kJ st) (jO st) (gG st) .none kV doc pm an cdv ct) ⟨us,[]⟩=pure (ps.zip us)):j7 P w K mg au C x k ps sp:=⟨f,fd,F,h.fn.binds hb,h.mt⟩
end
variable {l':Int}
section
open PySem.SeqAt
inductive Place where
 |before (k:Nat) (l:Int)
 |exit (l:Int)
 |out (l n:Int)
def rz:Place->aA
 |.before k l=>[.str "before",.int k,.int l]
 |.exit l=>[.str "exit",.int l]
 |.out l n=>[.str "out",.int l,.int n]
def LR (H:Hp) (r:V) (pl:Place):Prop:=∃ t,r=.ref t/\H t=some (.tup (rz pl))
def j8 (w:Int×Int) (l:Int):Bool:=decide (l=w.1) || decide (l=w.2)
def lZ (ws:aP) (l:Int):Nat->Nat->Place
 |0,_=>.exit l
 |n+1,s=>if j8 (bT ws s) l then .before s l else lZ ws l n (s+1)
def gD (ws:aP) (l:Int) (s:Nat):Place:=lZ ws l (ws.length-s) s
theorem Zd {l:Int}:∀ {n s k:Nat} {l':Int},lZ ws l n s=.before k l'->s<=k/\k<s+n/\j8 (bT ws k) l=true/\l'=l
 |0,_,_,_,h=>by simp [lZ] at h
 |n+1,s,k,l',h=>by
  unfold lZ at h;by_cases c:j8 (bT ws s) l=true
  ·rw [aQ c] at h;injection h with h1 h2
   exact ⟨by lk, by lk, by rw [<-h1];exact c,h2.symm⟩
  ·rw [aK c] at h;obtain ⟨a,b,d,e⟩:=Zd h;exact ⟨by lk, by lk, d,e⟩
theorem afL {l:Int} {s k:Nat} (h:gD ws l s=.before k l'):s<=k/\k<ws.length/\j8 (bT ws k) l=true/\l'=l:=by obtain ⟨a,b,c,d⟩:=Zd h;exact ⟨a,by lk, c,d⟩
theorem Zz {l:Int}:∀ {n s:Nat},lZ ws l n s=.exit l'->l'=l
 |0,_,h=>by unfold lZ at h;injection h with h;exact h.symm
 |n+1,s,h=>by
  unfold lZ at h;by_cases c:j8 (bT ws s) l=true
  ·rw [aQ c] at h;cases h
  ·rw [aK c] at h;exact Zz h
theorem aad {l n':Int}:∀ {n s:Nat},lZ ws l n s≠.out l' n'
 |0,_,h=>by simp [lZ] at h
 |n+1,s,h=>by
  unfold lZ at h;by_cases c:j8 (bT ws s) l=true
  ·rw [aQ c] at h;cases h
  ·rw [aK c] at h;exact aad h
structure cH where
 iI:aF
 bM:aF
 aX:List Place
 chg:aF
structure dB where
 dx:Addr
 lf:Addr
 lt:Addr
 lp:Addr
 lc:Addr
def m8 (v:V) (L:dB):List (Str×V):=cZ "changes" (.ref L.lc) (cZ "places" (.ref L.lp) (cZ "tally" (.ref L.lt) (cZ "facing" (.ref L.lf) (cZ "net" v []))))
theorem qz (f:Str) (v:V):∀ fs:List (Str×V),(cZ f v fs).length<=fs.length+1
 |[]=>by simp [cZ]
 |(g,x)::r=>by
  unfold cZ;split
  ·simp
  ·have:=qz f v r;simp;lk
theorem vq (v:V) (L:dB):(m8 v L).lookup ("net":Str)=some v:=by unfold m8;rw [iJ,aK (by k_go),iJ,aK (by k_go),iJ,aK (by k_go),iJ,aK (by k_go),iJ,aQ rfl]
theorem El (v:V) (L:dB):(m8 v L).lookup ("facing":Str)=some (.ref L.lf):=by unfold m8;rw [iJ,aK (by k_go),iJ,aK (by k_go),iJ,aK (by k_go),iJ,aQ rfl]
theorem yK (v:V) (L:dB):(m8 v L).lookup ("tally":Str)=some (.ref L.lt):=by unfold m8;rw [iJ,aK (by k_go),iJ,aK (by k_go),iJ,aQ rfl]
theorem tR (v:V) (L:dB):(m8 v L).lookup ("places":Str)=some (.ref L.lp):=by unfold m8;rw [iJ,aK (by k_go),iJ,aQ rfl]
theorem O7 (v:V) (L:dB):(m8 v L).lookup ("changes":Str)=some (.ref L.lc):=by unfold m8;rw [iJ,aQ rfl]
theorem oY (v:V) (L:dB) {m:Str} (h1:¬ m="changes") (h2:¬ m="places") (h3:¬ m="tally") (h4:¬ m="facing") (h5:¬ m="net"):(m8 v L).lookup m=none:=by unfold m8;rw [iJ,aK h1,iJ,aK h2,iJ,aK h3,iJ,aK h4,iJ,aK h5];rfl
structure cN (C:Addr) (H:Hp) (p:Addr) (v:V) (L:dB) (st:cH):Prop where
 ob:H p=some (.ins C L.dx (m8 v L))
 fa:H L.lf=some (.lst (st.iI.map V.int))
 ta:H L.lt=some (.lst (st.bM.map V.int))
 pl:∃ rs,H L.lp=some (.lst rs)/\Paired (LR H) rs st.aX
 ch:H L.lc=some (.lst (st.chg.map V.int))
 ft:L.lf≠L.lt
 fp:L.lf≠L.lp
 fc:L.lf≠L.lc
 tp:L.lt≠L.lp
 tc:L.lt≠L.lc
 pc:L.lp≠L.lc
def dW (L:dB) (H H':Hp):Prop:=∀ b o,H b=some o->b≠L.lf->b≠L.lt->b≠L.lp->b≠L.lc->H' b=some o
theorem dW.trans {L:dB} (a:dW L H H1) (b:dW L H1 H2):dW L H H2:=λc o e h1 h2 d g=>b c o (a c o e h1 h2 d g) h1 h2 d g
theorem dW.same {L:dB} (s:aB H H'):dW L H H':=λb o e _ _ _ _=>s b o e
theorem dW.kt {L:dB} {st:cH} (P:cN C H p v L st) (k:dW L H H'):KT H H':=λb xs e=>by obtain ⟨rs,a,_⟩:=P.pl;exact k b _ e (zW e P.fa) (zW e P.ta) (zW e a) (zW e P.ch)
theorem LR.kt {r:V} {pl:Place} (k:KT H H') (h:LR H r pl):LR H' r pl:=let ⟨t,e,x⟩:=h;⟨t,e,k _ _ x⟩
theorem cN.same {L:dB} {st:cH} (P:cN C H p v L st) (s:aB H H'):cN C H' p v L st :=
 let ⟨rs,a,b⟩:=P.pl
 ⟨s _ _ P.ob,s _ _ P.fa,s _ _ P.ta,⟨rs,s _ _ a,vO b λ_ _ z=>z.kt (cG s (bY _))⟩,s _ _ P.ch,P.ft,P.fp,P.fc,P.tp,P.tc,P.pc⟩
theorem cN.MP {L:dB} {st:cH} (P:cN C H p v L st):p≠L.lf/\p≠L.lt/\p≠L.lp/\p≠L.lc:=by obtain ⟨rs,a,_⟩:=P.pl;exact ⟨kY P.ob P.fa (by intro z;cases z),kY P.ob P.ta (by intro z;cases z),kY P.ob a (by intro z;cases z),kY P.ob P.ch (by intro z;cases z)⟩
theorem Paired.Du {F:α->β->Prop}:∀ {l:List α} {m:List β} {i:Nat} {b:β},Paired F l m->m[i]?=some b->∃ a,l[i]?=some a/\F a b
 |_,_,_,_,.nil,e=>by simp at e
 |_,_,0,_,.cons h _,e=>by simp at e;subst e;exact ⟨_,rfl,h⟩
 |_,_,i+1,b,.cons _ t,e=>by obtain ⟨a,h1,h2⟩:=Paired.Du (i:=i) (b:=b) t (by simpa using e);exact ⟨a,by simpa using h1,h2⟩
theorem Paired.aey {F:α->β->Prop} {a:α} {b:β} (h:F a b):∀ {l:List α} {m:List β} (i:Nat),Paired F l m->Paired F (l.set i a) (m.set i b)
 |_,_,_,.nil=>.nil
 |_,_,0,.cons _ t=>.cons h t
 |_,_,i+1,.cons g t=>.cons g (Paired.aey h i t)
theorem Paired.aez {F:α->β->Prop}:∀ {l:List α} {m:List β} {l':List α} {m':List β},Paired F l m->Paired F l' m'->Paired F (l++l') (m++m')
 |_,_,_,_,.nil,s=>s
 |_,_,_,_,.cons r t,s=>.cons r (Paired.aez t s)
structure ad3 (K:bG) (C:Addr):Prop where
 cl:nW K C
 nN:pQ K C "net"
 nF:pQ K C "facing"
 nT:pQ K C "tally"
 nP:pQ K C "places"
 nC:pQ K C "changes"
structure Wf (aj:Int) (ws:aP) (st:cH):Prop where
 fl:st.iI.length=ws.length
 tl:st.bM.length=aj.toNat
 cl:st.chg.length=st.aX.length
 ml:st.aX.length<=400
 fs:∀ k w,ws[k]?=some w->st.iI.getD k 0=w.1\/st.iI.getD k 0=w.2
 cs:∀ i,i<st.chg.length->st.chg.getD i 0=1\/st.chg.getD i 0=-1
 ps:∀ pl∈st.aX,match pl with|.before k l=>k<ws.length/\0<=l/\l<aj|.exit l=>0<=l/\l<aj|.out _ _=>True
def jF (aj:Int) (ws:aP):cH:=⟨ws.map (·.1),replicate aj.toNat 0,[],[]⟩
def mO (ws:aP) (st:cH) (cC c:Int):cH:=⟨st.iI,st.bM,st.aX++[gD ws cC 0],st.chg++[c]⟩
def sO (w:Int×Int) (f:Int):Int:=if f=w.1 then w.2 else w.1
def Gv (ws:aP) (st:cH) (k:Nat):cH:=⟨st.iI.set k (sO (bT ws k) (st.iI.getD k 0)),st.bM,st.aX,st.chg⟩
def jq (ws:aP) (st:cH) (k:Nat) (c:Int):Int:=if c=1 then st.iI.getD k 0 else sO (bT ws k) (st.iI.getD k 0)
def Gf (st:cH) (l c:Int):cH:=⟨st.iI,st.bM.set l.toNat (st.bM.getD l.toNat 0+c),st.aX,st.chg⟩
def jR (aj:Int) (st:cH) (l c:Int):Int:=l+aj*(if c=1 then st.bM.getD l.toNat 0 else st.bM.getD l.toNat 0+c)
def GF (st:cH) (i:Nat) (pl:Place):cH:=⟨st.iI,st.bM,st.aX.set i pl,st.chg⟩
def jA (aj:Int) (ws:aP) (st:cH) (i:Nat) (pl:Place):Place:=match pl with
 |.before k _=>gD ws (jq ws st k (st.chg.getD i 0)) (k+1)
 |.exit l=>.out l (jR aj st l (st.chg.getD i 0))
 |.out l n=>.out l n
def kZ (aj:Int) (ws:aP) (st:cH) (i:Nat) (pl:Place):cH:=match pl with
 |.before k l=>GF (Gv ws st k) i (jA aj ws st i (.before k l))
 |.exit l=>GF (Gf st l (st.chg.getD i 0)) i (jA aj ws st i (.exit l))
 |.out l n=>st
def cB:Place->Bool
 |.out _ _=>true
 |_=>false
def gQ:Nat->List Place->aF
 |_,[]=>[]
 |i,pl::r=>(if cB pl then [] else [(i:Int)])++gQ (i+1) r
theorem af7 (ps:List Place) (pl:Place):∀ i,gQ i (ps++[pl])=gQ i ps++(if cB pl then [] else [((i+ps.length:Nat):Int)]):=by
 induction ps with
 |nil=>intro i;simp [gQ]
 |cons q r a =>
  intro i;show _++gQ (i+1) (r++[pl])=(_++gQ (i+1) r)++_;rw [a,vh];have e:i+1+r.length=i+(q::r).length:=by simp;lk
  rw [e]
theorem agG (ps:List Place):∀ i,(gQ i ps).length<=ps.length:=by
 induction ps with
 |nil=>intro i;simp [gQ]
 |cons q r a =>intro i;show (_++gQ (i+1) r).length<=_;rw [dJ,gw];have:=a (i+1);split<;>simp<;>lk
abbrev eF (H:Hp) (v:V) (aj:Int) (ws:aP):Prop:=eV H v aj ws/\1<=aj/\aj<=8/\bJ aj ws/\ws.length<=41
theorem eF.kt (n:eF H v aj ws) (k:KT H H'):eF H' v aj ws:=⟨n.1.kt k,n.2⟩
inductive ahv (vs:aA) (H:Hp) (Q:VK):Prop
 |mk (i:Int) (h1:vs=[.int i]) (h2:Q (.bl true) H)
def aaF:=nE ahv
inductive aiX (vs:aA) (H:Hp) (Q:VK):Prop
 |mk (aj i:Int) (h1:vs=[.int aj,.int i]) (h2:0<=i) (h3:i<aj) (h4:Q (.bl true) H)
def ak_:=nE aiX
inductive ahw (vs:aA) (H:Hp) (Q:VK):Prop
 |mk (v:V) (aj:Int) (ws:aP) (l:Int) (s:Nat) (h1:vs=[v,.int l,.int s]) (h2:eF H v aj ws) (h3:s<=ws.length) (h4:∀ (t:Addr) (H':Hp),H t=none->aB H H'->H' t=some (.tup (rz (gD ws l s)))->Q (.ref t) H')
def aaG:=nE ahw
inductive ak' (C:Addr) (vs:aA) (H:Hp) (Q:VK):Prop
 |mk (p dx:Addr) (v:V) (aj:Int) (ws:aP) (h1:vs=[.ref p,v]) (h2:H p=some (.ins C dx [])) (h3:eF H v aj ws) (h4:∀ (L:dB) (H':Hp),H L.lf=none->H L.lt=none->H L.lp=none->H L.lc=none->cN C H' p v L (jF aj ws)->(∀ b o,H b=some o->b≠p->H' b=some o)->Q .non H')
def R9 (C:Addr):=nE (ak' C)
inductive aiY (C:Addr) (vs:aA) (H:Hp) (Q:VK):Prop
 |mk (p:Addr) (v:V) (aj:Int) (ws:aP) (L:dB) (st:cH) (cC c:Int) (h1:vs=[.ref p,.int cC,.int c]) (h2:eF H v aj ws) (h3:cN C H p v L st) (h4:Wf aj ws st) (h5:0<=cC) (h6:cC<aj) (h7:∀ H',cN C H' p v L (mO ws st cC c)->dW L H H'->Q (.int st.aX.length) H')
def ala (C:Addr):=nE (aiY C)
inductive alb (C:Addr) (c:Int) (vs:aA) (H:Hp) (Q:VK):Prop
 |mk (p:Addr) (v:V) (aj:Int) (ws:aP) (L:dB) (st:cH) (cC:Int) (h1:vs=[.ref p,.int cC]) (h2:eF H v aj ws) (h3:cN C H p v L st) (h4:Wf aj ws st) (h5:0<=cC) (h6:cC<aj) (h7:∀ H',cN C H' p v L (mO ws st cC c)->dW L H H'->Q (.int st.aX.length) H')
def Kw (C:Addr) (c:Int):=nE (alb C c)
inductive alc (C:Addr) (vs:aA) (H:Hp) (Q:VK):Prop
 |mk (p:Addr) (v:V) (L:dB) (st:cH) (i:Nat) (pl:Place) (h1:vs=[.ref p,.int i]) (h2:cN C H p v L st) (h3:st.aX[i]?=some pl) (h4:∀ (t:Addr),H t=some (.tup (rz pl))->Q (.ref t) H)
def ani (C:Addr):=nE (alc C)
inductive anj (C:Addr) (vs:aA) (H:Hp) (Q:VK):Prop
 |mk (p:Addr) (v:V) (aj:Int) (ws:aP) (L:dB) (st:cH) (k:Nat) (h1:vs=[.ref p,.int k]) (h2:eF H v aj ws) (h3:cN C H p v L st) (h4:st.iI.length=ws.length) (h5:k<ws.length) (h6:∀ H',cN C H' p v L (Gv ws st k)->dW L H H'->Q .non H')
def apg (C:Addr):=nE (anj C)
inductive ank (C:Addr) (vs:aA) (H:Hp) (Q:VK):Prop
 |mk (p:Addr) (v:V) (aj:Int) (ws:aP) (L:dB) (st:cH) (k:Nat) (c:Int) (h1:vs=[.ref p,.int k,.int c]) (h2:eF H v aj ws) (h3:cN C H p v L st) (h4:st.iI.length=ws.length) (h5:k<ws.length) (h6:∀ (t:Addr) (H':Hp),cN C H' p v L (Gv ws st k)->dW L H H'->H' t=some (.tup (rz (gD ws (jq ws st k c) (k+1))))->Q (.ref t) H')
def aph (C:Addr):=nE (ank C)
inductive ald (C:Addr) (vs:aA) (H:Hp) (Q:VK):Prop
 |mk (p:Addr) (v:V) (aj:Int) (ws:aP) (L:dB) (st:cH) (l c:Int) (h1:vs=[.ref p,.int l,.int c]) (h2:eF H v aj ws) (h3:cN C H p v L st) (h4:st.bM.length=aj.toNat) (h5:0<=l) (h6:l<aj) (h7:∀ (t:Addr) (H':Hp),cN C H' p v L (Gf st l c)->dW L H H'->H' t=some (.tup (rz (.out l (jR aj st l c))))->Q (.ref t) H')
def anl (C:Addr):=nE (ald C)
inductive anm (C:Addr) (vs:aA) (H:Hp) (Q:VK):Prop
 |mk (p:Addr) (v:V) (aj:Int) (ws:aP) (L:dB) (st:cH) (i:Nat) (pl:Place) (h1:vs=[.ref p,.int i]) (h2:eF H v aj ws) (h3:cN C H p v L st) (h4:Wf aj ws st) (h5:st.aX[i]?=some pl) (h6:cB pl=false) (h7:∀ (t:Addr) (H':Hp),cN C H' p v L (kZ aj ws st i pl)->dW L H H'->H' t=some (.tup (rz (jA aj ws st i pl)))->Q (.ref t) H')
def K7 (C:Addr):=nE (anm C)
inductive aiZ (C:Addr) (vs:aA) (H:Hp) (Q:VK):Prop
 |mk (p:Addr) (v:V) (L:dB) (st:cH) (h1:vs=[.ref p]) (h2:cN C H p v L st) (h3:st.aX.length<=1000) (h4:∀ (a:Addr) (H':Hp),H a=none->aB H H'->H' a=some (.lst ((gQ 0 st.aX).map V.int))->Q (.ref a) H')
def ale (C:Addr):=nE (aiZ C)
inductive ahx (C:Addr) (vs:aA) (H:Hp) (Q:VK):Prop
 |mk (p:Addr) (v:V) (L:dB) (st:cH) (h1:vs=[.ref p]) (h2:cN C H p v L st) (h3:∀ (a:Addr) (H':Hp),H a=none->aB H H'->H' a=some (.lst (st.bM.map V.int))->Q (.ref a) H')
def ai0 (C:Addr):=nE (ahx C)
end
section
open PySem.Spec PyProof.Rows
theorem ai1 {sq:Hp->aA->Prop} {own:Nat} {R:Hp->Prop} (Pv:Nat->aA->Hp->Prop) (h0:Pv 0 [] (upd H1 l (.lst []))) (hz:xs.length<=sizeLine) (hl:∀ i ys H,i<=xs.length->Pv i ys H->sq H xs/\H l=some (.lst ys)/\ys.length<=i) (hs:∀ i x T ys H,xs[i]?=some x->H T=none->Pv i ys H->g (.ref T) (gK own cI σ) (upd H T (.tup [.int i,x])) λσ2 H2=>Wk (gK own cI σ) σ2 /\tt σ2 H2 λb H3=>if b=true then te σ2 H3 λy H4=>H4 l=some (.lst ys)/\Pv (i+1) (ys++[y]) (upd H4 l (.lst (ys++[y]))) else Pv (i+1) ys H3) (hd:∀ ys H,Pv xs.length ys H->R H) : ∃ W:Nat->Nat->aA->Hp->Prop,(∃ m,W 0 m [] (upd H1 l (.lst []))) /\∀ i m ys H,W i m ys H->H l=some (.lst ys)/\(((uF sq).stop i H/\R H)\/((uF sq).go i H/\ys.length<sizeLine/\∃ N:aA->Hp->Prop,(∀ ys' H',N ys' H'->∃ m',m'<m/\W (i+1) m' ys' H') /\∀ x H',(uF sq).oG i H x H'->g x (gK own cI σ) H' λσ2 H2=>Wk (gK own cI σ) σ2 /\tt σ2 H2 λb H3=>if b=true then te σ2 H3 λy H4=>H4 l=some (.lst ys)/\N (ys++[y]) (upd H4 l (.lst (ys++[y]))) else N ys H3)):=by
 refine ⟨λi m ys H=>m=xs.length-i/\i<=xs.length/\Pv i ys H,⟨xs.length,by simp,fP _,h0⟩,?_⟩;rintro i m ys H ⟨rfl,hi,p⟩;obtain ⟨q,c,o⟩:=hl i ys H hi p;refine ⟨c,?_⟩;by_cases a:i<xs.length
 ·refine .inr ⟨⟨xs,xs[i],q,by simp [a]⟩,by lk, Pv (i+1),λys' H' j=>⟨xs.length-(i+1),by lk, rfl,a,j⟩,λx H' y=>?_⟩;obtain ⟨T,v,n,d,k,y⟩:=y;subst d k;exact hs i v T ys H (y xs q) n p
 ·have e:i=xs.length:=by lk
  subst e;exact .inl ⟨⟨xs,q,rfl⟩,hd ys H p⟩
end
variable {st:L2.cH} {cC:Int} {pl:L2.Place}
section
open PySem.SeqAt
theorem alf:Wf aj ws (jF aj ws) where
 fl:=by simp [jF]
 tl:=by simp [jF]
 cl:=rfl
 ml:=by simp [jF]
 fs:=λk w h=>by refine .inl ?_;show (ws.map (·.1)).getD k 0=w.1;simp [getD,h]
 cs:=λi hi=>absurd hi (by simp [jF])
 ps:=λpl h=>by simp [jF] at h
theorem Qh {l:Int} {s:Nat} (h0:0<=l) (h1:l<aj):match gD ws l s with|.before k l=>k<ws.length/\0<=l/\l<aj|.exit l=>0<=l/\l<aj|.out _ _=>True:=by
 cases e:gD ws l s with
 |before k l' =>obtain ⟨_,a,_,b⟩:=afL e;exact ⟨a,by lk, by lk⟩
 |exit l' =>have:=Zz e;exact ⟨by lk, by lk⟩
 |out l' c=>trivial
theorem alg {c:Int} (wf:Wf aj ws st) (h0:0<=cC) (h1:cC<aj) (hc:c=1\/c=-1) (hm:st.aX.length<400):Wf aj ws (mO ws st cC c) where
 fl:=wf.fl
 tl:=wf.tl
 cl:=by have:=wf.cl;simp [mO];lk
 ml:=by simp [mO];lk
 fs:=wf.fs
 cs:=λi hi=>by
  have a:i<st.chg.length+1:=by simpa [mO] using hi
  show (st.chg++[c]).getD i 0=1\/(st.chg++[c]).getD i 0=-1;by_cases z:i<st.chg.length
  ·rw [Bj z];exact wf.cs i z
  ·have e:i=st.chg.length:=by lk
   subst e;rw [getD_last];exact hc
 ps:=λpl h=>by
  rcases nM.mp h with z|z
  ·exact wf.ps pl z
  ·have e:pl=gD ws cC 0:=by simpa using z
   subst e;exact Qh h0 h1
theorem aaH {w:Int×Int} (f:Int):sO w f=w.1\/sO w f=w.2:=by
 unfold sO;split
 ·exact .inr rfl
 ·exact .inl rfl
theorem ano {k:Nat} (wf:Wf aj ws st):Wf aj ws (Gv ws st k) where
 fl:=by show (st.iI.set k _).length=_;rw [fU];exact wf.fl
 tl:=wf.tl
 cl:=wf.cl
 ml:=wf.ml
 fs:=λj w h=>by
  have a:j<ws.length:=(dY.mp h).1;show (st.iI.set k _).getD j 0=w.1\/(st.iI.set k _).getD j 0=w.2;by_cases c:k<st.iI.length
  ·rw [jY c];by_cases e:j=k
   ·rw [aQ e,<-e,show bT ws j=w by simp [bT,getD,h]];exact aaH _
   ·rw [aK e];exact wf.fs j w h
  ·rw [JR (by lk)];exact wf.fs j w h
 cs:=wf.cs
 ps:=wf.ps
theorem alh {l c:Int} (wf:Wf aj ws st):Wf aj ws (Gf st l c) where
 fl:=wf.fl
 tl:=by show (st.bM.set _ _).length=_;rw [fU];exact wf.tl
 cl:=wf.cl
 ml:=wf.ml
 fs:=wf.fs
 cs:=wf.cs
 ps:=wf.ps
theorem acG (wf:Wf aj ws st) (h:match pl with|.before k l=>k<ws.length/\0<=l/\l<aj|.exit l=>0<=l/\l<aj|.out _ _=>True):Wf aj ws (GF st i pl) where
 fl:=wf.fl
 tl:=wf.tl
 cl:=by show _=(st.aX.set i pl).length;rw [fU];exact wf.cl
 ml:=by show (st.aX.set i pl).length<=_;rw [fU];exact wf.ml
 fs:=wf.fs
 cs:=wf.cs
 ps:=λq a=>by
  rcases List.mem_or_eq_of_mem_set a with z|z
  ·exact wf.ps q z
  ·subst z;exact h
theorem R_ {k:Nat} {c:Int} (ok:bJ aj ws) (wf:Wf aj ws st) (hk:k<ws.length):0<=jq ws st k c/\jq ws st k c<aj:=by
 have a:ws[k]?=some ws[k]:=by simp [hk]
 obtain ⟨g,d,j,i,e⟩:=bJ.mem ok a;have b:bT ws k=ws[k]:=by simp [bT,getD,a]
 unfold jq;rw [b];split
 ·rcases wf.fs k _ a with h|h<;>rw [h]<;>lk
 ·rcases aaH (w:=ws[k]) (st.iI.getD k 0) with h|h<;>rw [h]<;>lk
theorem acH (ok:bJ aj ws) (wf:Wf aj ws st) (h:st.aX[i]?=some pl):Wf aj ws (kZ aj ws st i pl):=by
 have d:=wf.ps pl (eZ h);cases pl with
 |before k l=>exact acG (ano wf) (by obtain ⟨a,b⟩:=R_ (c:=st.chg.getD i 0) ok wf d.1;exact Qh a b)
 |exit l=>exact acG (alh wf) trivial
 |out l n=>exact wf
end
section
end
variable {S:jk} {L:L2.dB}
section
open PySem.SeqAt
theorem aaI:∀ {rs:aA} {ws:aP},dM H rs ws->Dt H rs (ws.map λx=>PyData.tuple [.int x.1,.int x.2])
 |_,_,.nil=>.nil
 |_,_,.cons ⟨t,e,h⟩ r=>by subst e;exact .cons (.tup h (.cons (.int _) (.cons (.int _) .nil))) (aaI r)
theorem aaJ:∀ ws:aP,canLayAll0 (ws.map λx=>PyData.tuple [.int x.1,.int x.2])=true/\depthAll (ws.map λx=>PyData.tuple [.int x.1,.int x.2])<=5
 |[]=>by simp [canLayAll0,depthAll]
 |w::r=>by
  obtain ⟨a,b⟩:=aaJ r;constructor
  ·simp [canLayAll0,canLay0,a]
  ·simp only [gb,depthAll,PyData.depth];lk
def dI (S:jk) (H H':Hp):Prop:=∀ b o,H b=some o->b∉S->H' b=some o
theorem dI.refl (S:jk) (H:Hp):dI S H H:=λ_ _ e _=>e
theorem dI.trans (a:dI S H H1) (b:dI S H1 H2):dI S H H2:=λc o e n=>b c o (a c o e n) n
def uG:=@dI.trans
theorem dI.same (s:aB H H'):dI S H H':=λb o e _=>s b o e
theorem dI.upd {x:Addr} (h:x∈S):dI S H (upd H x o):=λb _ e n=>(aV (λz=>n (by rw [z];exact h))).trans e
def sS:=@dI.upd
theorem dI.mono {T:jk} (k:dI S H H') (h:∀ x∈S,x∈T):dI T H H':=λb o e n=>k b o e λz=>n (h b z)
theorem dI.M4 (k:dW L H H') (h1:L.lf∈S) (h2:L.lt∈S) (h3:L.lp∈S) (h4:L.lc∈S):dI S H H':=λb o e n=>k b o e (λz=>n (z ▸ h1)) (λz=>n (z ▸ h2)) (λz=>n (z ▸ h3)) (λz=>n (z ▸ h4))
theorem dI.old (k:dI S H H') (s:aB G H) (h:∀ x∈S,G x=none):aB G H':=λb o e=>k b o (s b o e) λz=>by rw [h b z] at e;cases e
def dB.own (L:dB) (p:Addr):jk:=[p,L.lf,L.lt,L.lp,L.lc]
def Dj (S T:jk):Prop:=∀ x∈S,x∉T
theorem Dj.symm {T:jk} (h:Dj S T):Dj T S:=λx a b=>h x b a
theorem cN.keep (P:cN C H p v L st) (k:dI S H H') (kt:KT H H') (d:Dj (L.own p) S):cN C H' p v L st :=
 let ⟨rs,a,b⟩:=P.pl
 ⟨k _ _ P.ob (d _ (by simp [dB.own])),k _ _ P.fa (d _ (by simp [dB.own])),k _ _ P.ta (d _ (by simp [dB.own])),⟨rs,k _ _ a (d _ (by simp [dB.own])),vO b λ_ _ z=>z.kt kt⟩,k _ _ P.ch (d _ (by simp [dB.own])),P.ft,P.fp,P.fc,P.tp,P.tc,P.pc⟩
theorem cN.live (P:cN C H p v L st):∀ x∈L.own p,H x≠none:=λx b z=>by
 obtain ⟨rs,a,_⟩:=P.pl;simp only [dB.own,fW,tZ,JT] at b;rcases b with rfl|rfl|rfl|rfl|rfl
 ·rw [P.ob] at z;cases z
 ·rw [P.fa] at z;cases z
 ·rw [P.ta] at z;cases z
 ·rw [a] at z;cases z
 ·rw [P.ch] at z;cases z
theorem ZC {x:Int}:∀ (ps:List Place) (j:Nat),x∈gQ j ps->∃ i pl,x=((j+i:Nat):Int)/\ps[i]?=some pl/\cB pl=false
 |[],j,h=>by simp [gQ] at h
 |q::r,j,h=>by
  rcases nM.mp (show x∈(if cB q then [] else [(j:Int)])++gQ (j+1) r from h) with z|z
  ·by_cases c:cB q=true
   ·rw [aQ c] at z;simp at z
   ·rw [aK c] at z;have e:x=(j:Int):=by simpa using z
    exact ⟨0,q,by simpa using e,rfl,by simpa using c⟩
  ·obtain ⟨i,pl,e,h1,h2⟩:=ZC r (j+1) z;exact ⟨i+1,pl,by rw [e];congr 1;lk, by simpa using h1,h2⟩
theorem rF:(kZ aj ws st i pl).aX.length=st.aX.length:=by
 cases pl with
 |before k l=>show (st.aX.set _ _).length=_;rw [fU]
 |exit l=>show (st.aX.set _ _).length=_;rw [fU]
 |out l n=>rfl
theorem step_at (h:st.aX[i]?=some pl):(kZ aj ws st i pl).aX[i]?=some (jA aj ws st i pl):=by
 have a:=(dY.mp h).1;cases pl with
 |before k l=>show (st.aX.set _ _)[i]?=_;rw [zJ a]
 |exit l=>show (st.aX.set _ _)[i]?=_;rw [zJ a]
 |out l n=>exact h
theorem Sd {x:Addr}:x∈L.own p↔x=p\/x=L.lf\/x=L.lt\/x=L.lp\/x=L.lc:=by simp [dB.own]
end
section
section
variable (K:bG) (hK:X.K=K)
include hK
end
end
section
open PySem.SeqAt
section
def Vf (ws:aP) (e:Int->Int) (P:Nat->Int):Nat->Int->Int
 |0,x=>e x
 |k+1,x=>if x=(bT ws k).1 then (P k+1) / 2 else if x=(bT ws k).2 then P k / 2 else Vf ws e P k x
def iB (p:Place->Bool):aF->List Place->Int
 |c::cs,pl::ps=>(if p pl then c else 0)+iB p cs ps
 |_,_=>0
def j9 (k:Nat):Place->Bool
 |.before j _=>decide (j=k)
 |_=>false
def mF (l:Int):Place->Bool
 |.exit x=>decide (x=l)
 |_=>false
structure xY (aj:Int) (ws:aP) (st:cH) (e:Int->Int) (P:Nat->Int):Prop where
 fa:∀ k w,ws[k]?=some w->st.iI.getD k 0=if P k % 2=0 then w.1 else w.2
 pa:∀ k,k<ws.length->P k=Vf ws e P k (bT ws k).1+Vf ws e P k (bT ws k).2-iB (j9 k) st.chg st.aX
 ta:∀ l,0<=l->l<aj->st.bM.getD l.toNat 0=Vf ws e P ws.length l-iB (mF l) st.chg st.aX
theorem Qi (p:Place->Bool) (c:Int) (pl:Place):∀ (cs:aF) (ps:List Place),cs.length=ps.length->iB p (cs++[c]) (ps++[pl])=iB p cs ps+if p pl then c else 0
 |[],[],_=>by simp [iB]
 |[],_::_,h=>by simp at h
 |_::_,[],h=>by simp at h
 |a::cs,q::ps,h=>by show (if p q then a else 0)+iB p (cs++[c]) (ps++[pl])=(if p q then a else 0)+iB p cs ps+_;rw [Qi p c pl cs ps (by simpa using h)];lk
theorem Ew (p:Place->Bool) (i_:Place):∀ (cs:aF) (ps:List Place) (i:Nat) (pl:Place),cs.length=ps.length->ps[i]?=some pl->iB p cs (ps.set i i_)=iB p cs ps+(if p i_ then cs.getD i 0 else 0)-(if p pl then cs.getD i 0 else 0)
 |[],[],i,pl,_,h=>by simp at h
 |[],_::_,_,_,h,_=>by simp at h
 |_::_,[],_,_,h,_=>by simp at h
 |a::cs,q::ps,0,pl,_,h=>by
  have e:q=pl:=by simpa using h
  subst e;show (if p i_ then a else 0)+iB p cs ps=(if p q then a else 0)+iB p cs ps+(if p i_ then a else 0)-(if p q then a else 0);lk
 |a::cs,q::ps,i+1,pl,hl,h=>by
  show (if p q then a else 0)+iB p cs (ps.set i i_)=(if p q then a else 0)+iB p cs ps+_-_;rw [Ew p i_ cs ps i pl (by simpa using hl) (by simpa using h)];have e:(a::cs).getD (i+1) 0=cs.getD i 0:=by simp [getD]
  rw [e];lk
theorem Qj (p:Place->Bool):∀ (cs:aF) (ps:List Place),(∀ pl∈ps,p pl=false)->iB p cs ps=0
 |[],_,_=>rfl
 |_::_,[],_=>rfl
 |a::cs,q::ps,h=>by show (if p q then a else 0)+iB p cs ps=0;rw [h q (by simp),Qj p cs ps λx b=>h x (by simp [b])];rfl
def clear (ws:aP) (l:Int) (s k:Nat):Prop:=∀ j,s<=j->j<k->j8 (bT ws j) l=false
theorem place_spec (ws:aP) (l:Int):∀ (n s:Nat),(lZ ws l n s=.exit l/\clear ws l s (s+n))\/∃ k,lZ ws l n s=.before k l/\s<=k/\k<s+n/\j8 (bT ws k) l=true/\clear ws l s k
 |0,s=>.inl ⟨rfl,λj a b=>by lk⟩
 |n+1,s=>by
  unfold lZ;by_cases c:j8 (bT ws s) l=true
  ·rw [aQ c];exact .inr ⟨s,rfl,bI _,by lk, c,λj a b=>by lk⟩
  ·rw [aK c];have g:j8 (bT ws s) l=false:=by simpa using c
   rcases place_spec ws l n (s+1) with ⟨a,b⟩|⟨k,a,b,d,e,f⟩
   ·refine .inl ⟨a,λj h1 h2=>?_⟩;by_cases z:j=s
    ·rw [z];exact g
    ·exact b j (by lk) (by lk)
   ·refine .inr ⟨k,a,by lk, by lk, e,λj h1 h2=>?_⟩;by_cases z:j=s
    ·rw [z];exact g
    ·exact f j (by lk) h2
theorem wR (ws:aP) (l:Int) {s:Nat} (hs:s<=ws.length):(gD ws l s=.exit l/\clear ws l s ws.length)\/∃ k,gD ws l s=.before k l/\s<=k/\k<ws.length/\j8 (bT ws k) l=true/\clear ws l s k:=by have h:=place_spec ws l (ws.length-s) s;rw [show s+(ws.length-s)=ws.length by lk] at h;exact h
theorem Jk {e:Int->Int} {P P':Nat->Int}:∀ (k:Nat),(∀ j,j<k->P' j=P j)->∀ x,Vf ws e P' k x=Vf ws e P k x
 |0,_,_=>rfl
 |k+1,h,x=>by show (if x=(bT ws k).1 then (P' k+1) / 2 else if x=(bT ws k).2 then P' k / 2 else Vf ws e P' k x)=(if x=(bT ws k).1 then (P k+1) / 2 else if x=(bT ws k).2 then P k / 2 else Vf ws e P k x);rw [h k (by lk),Jk k (λj a=>h j (by lk)) x]
open Classical in
theorem adB {ws:aP} {e e':Int->Int} {P P':Nat->Int} {s:Nat} {l c:Int} (hb:∀ x,Vf ws e' P' s x=Vf ws e P s x+if x=l then c else 0) (hP:∀ j,s<=j->P' j=P j) :
  ∀ (n:Nat) (x:Int),Vf ws e' P' (s+n) x=Vf ws e P (s+n) x+if x=l/\clear ws l s (s+n) then c else 0
 |0,x=>by
  rw [JV,hb x]
  have m:clear ws l s s:=λj a b=>by lk
  by_cases z:x=l
  ·rw [aQ z,aQ ⟨z,m⟩]
  ·rw [aK z,aK λh=>z h.1]
 |n+1,x=>by
  have o:=adB hb hP n x
  rw [<-Nat.add_assoc]
  show (if x=(bT ws (s+n)).1 then (P' (s+n)+1) / 2 else if x=(bT ws (s+n)).2 then P' (s+n) / 2 else Vf ws e' P' (s+n) x)=(if x=(bT ws (s+n)).1 then (P (s+n)+1) / 2 else if x=(bT ws (s+n)).2 then P (s+n) / 2 else Vf ws e P (s+n) x)+_
  rw [hP (s+n) (by lk)]
  by_cases d:x=(bT ws (s+n)).1
  ·rw [aQ d,aQ d,aK,Rq]
   rintro ⟨rfl,h⟩
   have:=h (s+n) (by lk) (by lk)
   simp [j8,<-d] at this
  ·rw [aK d,aK d]
   by_cases i:x=(bT ws (s+n)).2
   ·rw [aQ i,aQ i,aK,Rq]
    rintro ⟨rfl,h⟩
    have:=h (s+n) (by lk) (by lk)
    simp [j8,<-i] at this
   ·rw [aK i,aK i,o]
    congr 1
    by_cases h:x=l/\clear ws l s (s+n)
    ·have k:clear ws l s (s+n+1):=λj a b=>by
      by_cases e:j=s+n
      ·rw [e,<-h.1]
       simp [j8,d,i]
      ·exact h.2 j a (by lk)
     rw [aQ h,aQ ⟨h.1,k⟩]
    ·rw [aK h,aK λg=>h ⟨g.1,λj a b=>g.2 j a (by lk)⟩]
-- one more on cC l from level s on,and aJ place
open Classical in
theorem aaK {aj:Int} {ws:aP} {e e':Int->Int} {P P':Nat->Int} {s:Nat} {l c:Int} (ok:bJ aj ws) (hs:s<=ws.length) (hb:∀ x,Vf ws e' P' s x=Vf ws e P s x+if x=l then c else 0) (hP:∀ j,s<=j->P' j=P j) :
  (∀ k,s<=k->k<ws.length->Vf ws e' P' k (bT ws k).1+Vf ws e' P' k (bT ws k).2=Vf ws e P k (bT ws k).1+Vf ws e P k (bT ws k).2+if j9 k (gD ws l s) then c else 0) /\
  ∀ x,Vf ws e' P' ws.length x=Vf ws e P ws.length x+if mF x (gD ws l s) then c else 0:=by
 have i:=adB (l:=l) (c:=c) hb hP
 constructor
 ·intro k h1 h2
  obtain ⟨n,rfl⟩:∃ n,k=s+n:=⟨k-s,by lk⟩
  have C:ws[s+n]?=some (bT ws (s+n)):=by simp [bT,getD,h2]
  obtain ⟨J,I,L,D,B⟩:=bJ.mem ok C
  rw [i n,i n]
  have t:((if (bT ws (s+n)).1=l/\clear ws l s (s+n) then c else 0)+if (bT ws (s+n)).2=l/\clear ws l s (s+n) then c else 0)=if j9 (s+n) (gD ws l s) then c else 0:=by
   rcases wR ws l hs with ⟨a,b⟩|⟨k,a,b,d,f,g⟩
   ·rw [a]
    have u:=b (s+n) (by lk) h2
    simp [j8] at u
    rw [aK λz=>u.1 z.1.symm,aK λz=>u.2 z.1.symm]
    rfl
   ·rw [a]
    by_cases v:k=s+n
    ·subst v
     have m:j9 (s+n) (.before (s+n) l)=true:=by simp [j9]
     rw [m,aQ rfl]
     simp [j8] at f
     rcases f with f|f
     ·rw [aQ ⟨f.symm,g⟩,aK λz=>B (by rw [z.1,f]),Rq]
     ·rw [aK λz=>B (by rw [z.1,f]),aQ ⟨f.symm,g⟩,rP]
    ·have m:j9 (s+n) (.before k l)=false:=by simp [j9,v]
     rw [m]
     have y:∀ q:Int,((q=(bT ws (s+n)).1\/q=(bT ws (s+n)).2)/\q=l/\clear ws l s (s+n))->False:=λq ⟨o,p,r⟩=>by
      by_cases lt:k<s+n
      ·have:=r k b lt
       rw [f] at this;cases this
      ·have:=g (s+n) (by lk) (by lk)
       simp [j8] at this
       rcases o with o|o
       ·exact this.1 (p ▸ o)
       ·exact this.2 (p ▸ o)
     rw [aK λz=>y _ ⟨.inl rfl,z⟩,aK λz=>y _ ⟨.inr rfl,z⟩]
     rfl
  rw [<-t]
  lk
 ·intro x
  have h:=i (ws.length-s) x
  rw [show s+(ws.length-s)=ws.length by lk] at h
  rw [h]
  congr 1
  rcases wR ws l hs with ⟨a,b⟩|⟨k,a,b,d,f,g⟩
  ·rw [a]
   by_cases z:x=l
   ·have:mF x (.exit l)=true:=by simp [mF,z]
    rw [this,aQ ⟨z,b⟩];rfl
   ·have:mF x (.exit l)=false:=by simp [mF];exact λh=>z h.symm
    rw [this,aK λh=>z h.1];rfl
  ·rw [a,aK]
   ·rfl
   ·intro z
    have:=z.2 k b d
    rw [f] at this;cases this
theorem ahy {e e':Int->Int} {P:Nat->Int} {l c:Int} (ok:bJ aj ws) (wf:Wf aj ws st) (F:xY aj ws st e P) (he:∀ x,e' x=e x+if x=l then c else 0):xY aj ws (mO ws st l c) e' P:=by
 obtain ⟨g,d⟩:=aaK (P:=P) (P':=P) ok (fP _) (l:=l) (c:=c) (s:=0) he (λ_ _=>rfl);refine ⟨F.fa,λk a=>?_,λx b h1=>?_⟩
 ·show P k=_+_-iB (j9 k) (st.chg++[c]) (st.aX++[gD ws l 0]);rw [Qi _ _ _ _ _ wf.cl,g k (fP _) a];have:=F.pa k a;lk
 ·show st.bM.getD x.toNat 0=_-iB (mF x) (st.chg++[c]) (st.aX++[gD ws l 0]);rw [Qi _ _ _ _ _ wf.cl,d x];have:=F.ta x b h1;lk
theorem aaL {l:Int} {s k:Nat} (hs:s<=ws.length) (h:k<s):j9 k (gD ws l s)=false:=by
 rcases wR ws l hs with ⟨a,_⟩|⟨c,a,b,_⟩
 ·rw [a];rfl
 ·rw [a];simp [j9];lk
theorem ai2 {e:Int->Int} {P:Nat->Int} (ok:bJ aj ws) (wf:Wf aj ws st) (F:xY aj ws st e P) (hi:st.aX[i]?=some pl):∃ P',xY aj ws (kZ aj ws st i pl) e P':=by
 have U:i<st.aX.length:=(dY.mp hi).1;have v:=wf.cl;have t:=wf.cs i (by lk);have p:=wf.ps pl (eZ hi);cases pl with
 |out l n=>exact ⟨P,F⟩
 |exit l =>
  refine ⟨P,F.fa,λk B=>?_,λx D h1=>?_⟩
  ·show P k=_+_-iB (j9 k) st.chg (st.aX.set i (.out l (jR aj st l (st.chg.getD i 0))));rw [Ew _ _ _ _ _ _ v hi];have:=F.pa k B;have d:j9 k (.out l (jR aj st l (st.chg.getD i 0)))=false:=rfl;have u:j9 k (.exit l)=false:=rfl;rw [d,u];simp;exact this
  ·show (st.bM.set l.toNat (st.bM.getD l.toNat 0+st.chg.getD i 0)).getD x.toNat 0=_-iB (mF x) st.chg (st.aX.set i (.out l (jR aj st l (st.chg.getD i 0))));rw [Ew _ _ _ _ _ _ v hi];have tl:=wf.tl;have S:=F.ta x D h1;have R:=p.1;have p2:=p.2;rw [jY (by lk)];have d:mF x (.out l (jR aj st l (st.chg.getD i 0)))=false:=rfl;rw [d];by_cases z:x=l
   ·subst z;have u:mF x (.exit x)=true:=by simp [mF]
    rw [u,aQ rfl];simp only [tX,yV,rM];lk
   ·have u:mF x (.exit l)=false:=by simp [mF];exact λh=>z h.symm
    rw [u,aK (by lk)];simp only [yV,rM];lk
 |before k l =>
  have B:=p.1;have I:ws[k]?=some (bT ws k):=by simp [bT,getD,B]
  obtain ⟨o1,W,o3,V,y⟩:=bJ.mem ok I;have J:=F.fa k _ I;have O:=wf.fl
  -- the count of the asK
  have q:∀ x,Vf ws e (λj=>if j=k then P k+st.chg.getD i 0 else P j) (k+1) x=Vf ws e P (k+1) x+if x=jq ws st k (st.chg.getD i 0) then st.chg.getD i 0 else 0:=λx=>by
   show (if x=(bT ws k).1 then ((if k=k then P k+st.chg.getD i 0 else P k)+1) / 2 else if x=(bT ws k).2 then (if k=k then P k+st.chg.getD i 0 else P k) / 2 else Vf ws e (λj=>if j=k then P k+st.chg.getD i 0 else P j) k x)=(if x=(bT ws k).1 then (P k+1) / 2 else if x=(bT ws k).2 then P k / 2 else Vf ws e P k x)+_;rw [aQ rfl,Jk k (λj o=>by show (if j=k then _ else _)=_;rw [aK (by lk)]) x];have pv:jq ws st k (st.chg.getD i 0)=if (P k % 2=0/\st.chg.getD i 0=1)\/(¬ P k % 2=0/\st.chg.getD i 0=-1) then (bT ws k).1 else (bT ws k).2:=by unfold jq sO;rw [J];generalize st.chg.getD i 0=c at t;rcases t with h|h<;>by_cases g:P k % 2=0<;>simp [h,g,bF y]
   rw [pv];generalize st.chg.getD i 0=c at t;generalize (bT ws k)=w at y;have C:((P k % 2=0/\c=1)\/(¬ P k % 2=0/\c=-1))\/((P k % 2=0/\c=-1)\/(¬ P k % 2=0/\c=1)):=by lk
   rcases C with h|h
   ·rw [aQ h];by_cases a:x=w.1
    ·rw [aQ a,aQ a,aQ a];lk
    ·rw [aK a,aK a,aK a];by_cases b:x=w.2
     ·rw [aQ b,aQ b];lk
     ·rw [aK b,aK b];lk
   ·rw [aK (by lk : ¬ ((P k % 2=0/\c=1)\/(¬ P k % 2=0/\c=-1)))];by_cases a:x=w.1
    ·rw [aQ a,aQ a,aK (by rw [a];exact y)];lk
    ·rw [aK a,aK a];by_cases b:x=w.2
     ·rw [aQ b,aQ b,aQ b];lk
     ·rw [aK b,aK b,aK b];lk
  obtain ⟨N,L⟩:=aaK ok (s:=k+1) (by lk) q (λj o=>by show (if j=k then _ else _)=_;rw [aK (by lk)]);refine ⟨λj=>if j=k then P k+st.chg.getD i 0 else P j,λj w o=>?_,λj o=>?_,λx D h1=>?_⟩
  ·show (st.iI.set k (sO (bT ws k) (st.iI.getD k 0))).getD j 0=_;rw [jY (by lk)];by_cases z:j=k
   ·subst z;rw [I] at o;cases o;rw [aQ rfl,J];unfold sO;show _=if (if j=j then P j+st.chg.getD i 0 else P j) % 2=0 then _ else _
    rw [aQ rfl];by_cases g:P j % 2=0
    ·rw [aQ g,aQ rfl,aK (by rcases t with h|h<;>rw [h]<;>lk)]
    ·rw [aK g,aK (bF y),aQ (by rcases t with h|h<;>rw [h]<;>lk)]
   ·rw [aK z];show _=if (if j=k then P k+st.chg.getD i 0 else P j) % 2=0 then _ else _
    rw [aK z];exact F.fa j w o
  ·show (if j=k then P k+st.chg.getD i 0 else P j)=_+_-iB (j9 j) st.chg (st.aX.set i (gD ws (jq ws st k (st.chg.getD i 0)) (k+1)));rw [Ew _ _ _ _ _ _ v hi];have Y:=F.pa j o;by_cases z:j=k
   ·subst z;have r:∀ x,Vf ws e (λm=>if m=j then P j+st.chg.getD i 0 else P m) j x=Vf ws e P j x:=Jk j (λm M=>by show (if m=j then _ else _)=_;rw [aK (by lk)]);rw [aQ rfl,r,r];have d:j9 j (.before j l)=true:=by simp [j9]
    rw [d,aaL (by lk) (by lk)];simp only [tX,yV,rM];lk
   ·rw [aK z];have d:j9 j (.before k l)=false:=by simp [j9];exact λh=>z h.symm
    rw [d];by_cases lt:k<j
    ·rw [N j (by lk) o];simp only [yV,rM];lk
    ·have r:∀ x,Vf ws e (λm=>if m=k then P k+st.chg.getD i 0 else P m) j x=Vf ws e P j x:=Jk j (λm M=>by show (if m=k then _ else _)=_;rw [aK (by lk)]);rw [aaL (by lk) (by lk),r,r];simp only [yV,rM];lk
  ·show st.bM.getD x.toNat 0=_-iB (mF x) st.chg (st.aX.set i (gD ws (jq ws st k (st.chg.getD i 0)) (k+1)));rw [Ew _ _ _ _ _ _ v hi,L x];have:=F.ta x D h1;have d:mF x (.before k l)=false:=rfl;rw [d];simp only [yV,rM];lk
def lQ (cs:aF) (x:Int):Int:=if 0<=x then cs.getD x.toNat 0 else 0
theorem ahz (h:0<=aj):xY aj ws (jF aj ws) (lQ (replicate aj.toNat 0)) (λ_=>0):=by
 have z:∀ k x,Vf ws (lQ (replicate aj.toNat 0)) (λ_=>0) k x=0:=λk=>by
  induction k with
  |zero =>
   intro x;show lQ _ x=0;unfold lQ;split
   ·simp [getD,uh];split<;>rfl
   ·rfl
  |succ k b =>
   intro x;show (if x=(bT ws k).1 then ((0:Int)+1) / 2 else if x=(bT ws k).2 then 0 / 2 else _)=0;rw [b x];split
   ·rfl
   ·split<;>rfl
 refine ⟨λk w a=>?_,λk d=>?_,λl c h1=>?_⟩
 ·show (ws.map (·.1)).getD k 0=_;simp [getD,a]
 ·rw [z,z];rfl
 ·rw [z];show (replicate aj.toNat (0:Int)).getD l.toNat 0=_;simp [getD,uh,jF,iB];split<;>rfl
theorem anp {l c:Int} (h0:0<=l) (h1:l.toNat<cs.length) (x:Int):lQ (cs.set l.toNat (cs.getD l.toNat 0+c)) x=lQ cs x+if x=l then c else 0:=by
 unfold lQ;by_cases z:0<=x
 ·rw [aQ z,aQ z,jY h1];by_cases e:x=l
  ·subst e;rw [aQ rfl,aQ rfl]
  ·rw [aK (by lk),aK e];lk
 ·rw [aK z,aK z,aK (by lk)];rfl
theorem ai3 {P:Nat->Int} (ok:bJ aj ws) (wf:Wf aj ws st) (hl:cs.length=aj.toNat) (F:xY aj ws st (lQ cs) P) (out:∀ pl∈st.aX,cB pl=true) : st.bM=bC cs ws/\∀ k w,ws[k]?=some w->st.iI.getD k 0=if fH (bC cs (ws.take k)) w % 2=0 then w.1 else w.2:=by
 have v:∀ k,iB (j9 k) st.chg st.aX=0:=λk=>Qj _ _ _ λpl g=>by have:=out pl g;cases pl<;>simp [cB] at this<;>rfl
 have z:∀ l,iB (mF l) st.chg st.aX=0:=λk=>Qj _ _ _ λpl g=>by have:=out pl g;cases pl<;>simp [cB] at this<;>rfl
 have m:∀ k,k<=ws.length->∀ x,0<=x->x<aj->Vf ws (lQ cs) P k x=(bC cs (ws.take k)).getD x.toNat 0:=λk=>by
  induction k with
  |zero =>intro _ x n _;show lQ cs x=_;unfold lQ;rw [aQ n];rfl
  |succ k i =>
   intro u x n h1;have b:ws[k]?=some (bT ws k):=by simp [bT,getD,show k<ws.length by lk]
   have o:=bJ.mem ok b;obtain ⟨r,p,t,e,D⟩:=id o;have tl:(bC cs (ws.take k)).length=aj.toNat:=by rw [jE];exact hl
   rw [fZ b,Pq];have c:=F.pa k (by lk);rw [v,Fl,i (by lk) _ r p,i (by lk) _ t e] at c;have y:fH (bC cs (ws.take k)) (bT ws k)=P k:=c.symm;show (if x=(bT ws k).1 then (P k+1) / 2 else if x=(bT ws k).2 then P k / 2 else Vf ws (lQ cs) P k x)=_;by_cases d:x=(bT ws k).1
   ·rw [aQ d,d,Z_ tl o,y]
   ·rw [aK d];by_cases q:x=(bT ws k).2
    ·rw [aQ q,q,Zw tl o,y]
    ·rw [aK q,aac tl o (by lk) (by lk)];exact i (by lk) x n h1
 constructor
 ·refine Rr λj=>?_;have tl:=wf.tl;have B:(bC cs ws).length=aj.toNat:=by rw [jE];exact hl
  by_cases I:j<aj.toNat
  ·rw [Fz (show j<st.bM.length by lk),Fz (show j<(bC cs ws).length by lk)];have a:=F.ta (j:Int) (by lk) (by lk);rw [z,Fl,m ws.length (bI _) _ (by lk) (by lk),gq,kO] at a;rw [a]
  ·rw [yZ (by lk),yZ (by lk)]
 ·intro k w b;have u:k<ws.length:=(dY.mp b).1;have C:bT ws k=w:=by simp [bT,getD,b]
  obtain ⟨r,p,t,e,D⟩:=bJ.mem ok b;have c:=F.pa k u;rw [v,Fl,C,m k (by lk) _ r p,m k (by lk) _ t e] at c;rw [F.fa k w b,c];rfl
end
end
section
open PySem.Spec PyProof.Rows
theorem Sg {c:TT} (Pv:Nat->St->Hp->Prop) (m0:Nat) (h0:Pv m0 σ H) (hs:∀ m σ H,Pv m σ H->c σ H λb H1=>if b=true then tb { D with nx:=λσ' H'=>∃ m',m'<m/\Pv m' σ' H',ct:=λσ' H'=>∃ m',m'<m/\Pv m' σ' H',bk:=D.nx } σ H1 else D.nx σ H1) (mono:∀ σ H Q Q',(∀ b H1,Q b H1->Q' b H1)->c σ H Q->c σ H Q'):ado c tb D σ H:=by
 refine ⟨Pv,⟨m0,h0⟩,?_⟩;rintro m σ H p;refine mono σ H _ _ (λb H1 q=>?_) (hs m σ H p);cases b with
 |true=>exact ⟨_,λσ' H' z=>z,q⟩
 |false=>exact q
end
variable {is:aF}
section
open PySem.SeqAt
inductive vZ (aj:Int) (ws:aP) (i:Nat):cH->cH->Prop
 |done {st:cH} {pl:Place}:st.aX[i]?=some pl->cB pl=true->vZ aj ws i st st
 |more {st dG:cH} {pl:Place}:st.aX[i]?=some pl->cB pl=false->vZ aj ws i (kZ aj ws st i pl) dG->vZ aj ws i st dG
inductive oZ (aj:Int) (ws:aP):aF->cH->cH->Prop
 |nil {st:cH}:oZ aj ws [] st st
 |cons {i:Int} {is:aF} {st st1 st2:cH}:vZ aj ws i.toNat st st1->oZ aj ws is st1 st2->oZ aj ws (i::is) st st2
theorem ahA (h:j≠i):(kZ aj ws st i pl).aX[j]?=st.aX[j]?:=by
 cases pl with
 |before k l=>show (st.aX.set _ _)[j]?=_;rw [zK (bF h)]
 |exit l=>show (st.aX.set _ _)[j]?=_;rw [zK (bF h)]
 |out l n=>rfl
theorem vZ.other {a:cH} (h:vZ aj ws i st a):(∀ j,j≠i->a.aX[j]?=st.aX[j]?)/\a.aX.length=st.aX.length/\∃ pl,a.aX[i]?=some pl/\cB pl=true:=by
 induction h with
 |done e o=>exact ⟨λ_ _=>rfl,rfl,_,e,o⟩
 |more e o _ g =>
  obtain ⟨a,b,c⟩:=g;refine ⟨λj d=>?_,?_,c⟩
  ·rw [a j d,ahA d]
  ·rw [b,rF]
theorem oZ.len {a:cH} (h:oZ aj ws is st a):a.aX.length=st.aX.length:=by
 induction h with
 |nil=>rfl
 |cons r _ b=>rw [b,r.other.2.1]
theorem oZ.out {a:cH} (h:oZ aj ws is st a):∀ (j:Nat) (pl:Place),a.aX[j]?=some pl->((∃ q,st.aX[j]?=some q/\cB q=true)\/(j:Int)∈is)->cB pl=true:=by
 induction h with
 |nil =>
  intro j pl e h;rcases h with ⟨q,a,b⟩|h
  ·rw [e] at a;cases a;exact b
  ·cases h
 |@cons i is st g l r _ d =>
  intro j pl e h;obtain ⟨k,m,c⟩:=r.other;refine d j pl e ?_;by_cases z:j=i.toNat
  ·rw [<-z] at c;exact .inl c
  ·rcases h with ⟨q,a,b⟩|h
   ·exact .inl ⟨q,by rw [k j z];exact a,b⟩
   ·rcases fW.mp h with h|h
    ·exact absurd (by lk) z
    ·exact .inr h
theorem ZD:∀ (ps:List Place) (j i:Nat) (pl:Place),ps[i]?=some pl->cB pl=false->((j+i:Nat):Int)∈gQ j ps
 |[],_,_,_,h,_=>by simp at h
 |q::r,j,0,pl,h,o=>by
  have e:q=pl:=by simpa using h
  subst e;show _∈(if cB q then [] else [(j:Int)])++gQ (j+1) r;rw [o];simp
 |q::r,j,i+1,pl,h,o=>by have:=ZD r (j+1) i pl (by simpa using h) o;refine pN _ ?_;rw [show j+(i+1)=j+1+i by lk];exact this
theorem oZ.all {a:cH} (h:oZ aj ws (gQ 0 st.aX) st a):∀ pl∈a.aX,cB pl=true:=λpl d=>by
 obtain ⟨j,b⟩:=abR d;refine h.out j pl b ?_;have c:j<st.aX.length:=by rw [<-h.len];exact (dY.mp b).1
 have e:st.aX[j]?=some st.aX[j]:=by simp [c]
 by_cases o:cB st.aX[j]=true
 ·exact .inl ⟨_,e,o⟩
 ·have:=ZD st.aX 0 j _ e (by simpa using o);rw [oM] at this;exact .inr this
def L_ (n:Nat):Place->Nat
 |.before k _=>n+2-k
 |.exit _=>1
 |.out _ _=>0
theorem ai4 (wf:Wf aj ws st) (h:st.aX[i]?=some pl) (no:cB pl=false):L_ ws.length (jA aj ws st i pl)<L_ ws.length pl:=by
 have d:=wf.ps pl (eZ h);cases pl with
 |before k l =>
  have g:=d.1;show L_ ws.length (gD ws (jq ws st k (st.chg.getD i 0)) (k+1))<ws.length+2-k;rcases wR ws (jq ws st k (st.chg.getD i 0)) (s:=k+1) (by lk) with ⟨a,_⟩|⟨e,a,b,c,_⟩
  ·rw [a];show 1<_;lk
  ·rw [a];show ws.length+2-e<_;lk
 |exit l=>show 0<1;lk
 |out l n=>simp [cB] at no
inductive anq (C:Addr) (vs:aA) (H:Hp) (Q:VK):Prop
 |mk (p:Addr) (v:V) (aj:Int) (ws:aP) (L:dB) (st:cH) (h1:vs=[.ref p]) (h2:eF H v aj ws) (h3:cN C H p v L st) (h4:Wf aj ws st) (h5:∀ (dG:cH) (H':Hp),oZ aj ws (gQ 0 st.aX) st dG->cN C H' p v L dG->dW L H H'->Q .non H')
def apj (C:Addr):=nE (anq C)
section
variable {A:Sts} {en:Addr}
theorem dW.own (k:dW L H H'):dI (L.own p) H H':=dI.M4 k (by simp [dB.own]) (by simp [dB.own]) (by simp [dB.own]) (by simp [dB.own])
end
end
section
open PySem.Spec PyProof.Rows
section
theorem aaM:∀ {xs ys:aA} {us vs:bV},bO xs us->bO ys vs->bO (xs++ys) (us++vs)
 |_,_,_,_,.nil,s=>s
 |_,_,_,_,.cons r t,s=>.cons r (aaM t s)
theorem ali (r:bO xs us):bO xs.reverse us.reverse:=by
 induction r with
 |nil=>exact .nil
 |cons a b c =>rw [List.reverse_cons,List.reverse_cons];exact aaM c (.cons a .nil)
end
theorem Zi:∀ {us:bV} {ns:aF},IntsAre us ns->bO (ns.map V.int) us
 |_,_,.nil=>.nil
 |_,_,.cons n t h=>.cons ⟨t,rfl⟩ (Zi h)
inductive afs (K:bG) (xs:aA) (H:Hp) (Q:VK):Prop
 |mk (p:Addr) (ns:aF) (h1:xs=[.ref p]) (h2:dH K H p (ns.map V.int)) (h3:ns.length<64) (h4:∀ (l:Addr) (ns':aF),H l=none->ns'.Perm ns->ns'.Pairwise (·<=·)->Q (.ref l) (upd H l (.lst (ns'.map V.int))))
theorem Zj:jz X (.builtin "sorted") (afs X.K):=by
 rintro ak s σ H xs us Q I r ⟨p,ns,rfl,j,l,q⟩;obtain ⟨u,rfl,n⟩:=r.one;cases n;obtain ⟨aJ,c,pl,v⟩:=I.list j;have m:=c.length;rw [bh] at m;refine sorted_ints pl.isList (intsAre_of c) (by lk) λout a g d i=>?_;obtain ⟨e,k⟩:=sortedAll_at s.heap aJ out;have t:=d.length_eq;refine ⟨.ref (s.heap.objs.size+1),upd H (s.heap.objs.size+1) (.lst (a.map V.int)),I.laid (t':=s.toks) (λb o e=>sortedAll_old e) (vD _) ⟨?_,out.toList,e,Zi g,?_⟩,rfl,q _ a (I.hok.fresh (vD _)) d i⟩
 ·rw [bh];exact CJ (aaB (by lk))
 ·rw [JW];exact k
theorem agH {st:Expr} {ts:TE} {p2:Pos} (he:PE X e te) (hs:PE X st ts) : PE X (.Subscript e (.Slice none none (some st) p2) pos) (λσ H Q=>te σ H λx H1=>ts σ H1 λy H2=>∃ a xs,x=.ref a/\y=.int (-1)/\dH X.K H2 a xs/\∀ l,H2 l=none->Q (.ref l) (upd H2 l (.lst xs.reverse))):=by intro ak s σ H Q I h;refine Subscript_ (bA (he ak s σ H _ I h) λv n ⟨x,H1,z,D,B⟩=>wpAny_Slice ?_);rw [evalPart_none];refine cY (cY ?_);rw [evalPart_some];refine bA (hs ak n σ H1 _ z B) λj c ⟨y,J,t,m,C⟩=>?_;obtain ⟨a,xs,rfl,rfl,k,q⟩:=C;cases D;obtain ⟨g,rfl⟩:=m;have d:aD X ak σ J { c with heap:=c.heap.push { cls:=.type "slice",data:=.fields #[.none,.none,.int (-1) g] } }:=t.kept (t':=c.toks) λb u q=>dF _ q;obtain ⟨aJ,r,i,p⟩:=d.list k;have L:=r.length;show wpAny (model X.prog X.w) X.A (subscriptTail e (.Slice none none (some st) p2) (.ref a) (.ref c.heap.objs.size)) (EP X ak σ Q) X.xe { c with heap:=c.heap.push { cls:=.type "slice",data:=.fields #[.none,.none,.int (-1) g] } };refine tail_any (ops:=[.ref a,.ref c.heap.objs.size]) i.isList.typeIs Rb.lookup ?_ (by with_unfolding_all rfl);refine wpAny_getItem_list_slice i.isList (Heap.IsSliceOf.new ..) .none .none (.int (-1) g) (by simp) ?_ (by rw [gU]<;>lk);rw [PySem.W.krv_pick];refine ⟨.ref _,_,d.laid (t':=c.toks) (o:=.lst xs.reverse) (λb u q=>dF _ q) (bI _) ?_,rfl,q _ (d.hok.fresh (bI _))⟩;exact ⟨by rw [List.length_reverse];exact p,_,0,ali r,fQ _ rfl⟩
end
section
open PySem.SeqAt
end
section
theorem t_ {a b:TS} (h:∀ N:St->Hp->Prop,(∀ σ H,b D σ H->N σ H)->a { D with nx:=N } σ H):Ut a b D σ H:=h (b D) (λ_ _ z=>z)
end
variable {to:TE}
section
open PySem.Spec PyProof.Rows
theorem bmK (K:bG) (hK:X.K=K) {r:V->aA->Hp->VK->Prop} {t:TA} (h:PE X e (Vg X.K T r to t)):PE X e (Vg K T r to t):=by subst hK;exact h
end
section
open PySem.SeqAt
end
section
open PySem.Spec PyProof.Rows
end
section
open PySem.SeqAt
def pairD (w:Int×Int):PyData:=.tuple [.int w.1,.int w.2]
theorem ai5 (a w:Int×Int):PySem.Spec.same (pairD a) (pairD w)=decide (a=w):=by
 obtain ⟨b,e⟩:=a;obtain ⟨d,g⟩:=w;by_cases h:(b,e)=(d,g)
 ·cases h;rw [PyProof.Rows.same_refl];simp
 ·rw [lJ h];simp only [pairD,PySem.Spec.same,PySem.Spec.sameAll,Bool.and_true];rw [Bool.and_eq_false_iff];by_cases c:b=d
  ·subst c;right;simp only [Dd,ne_eq];intro z;subst z;exact h rfl
  ·left;simpa using c
def jJ (aj:Int) (w:Int×Int):Int×Int:=(aj-1-w.2,aj-1-w.1)
theorem adC {w:Int×Int} (ok:zT aj w):zT aj (jJ aj w):=by obtain ⟨c,a,e,d,b⟩:=ok;unfold jJ;refine ⟨?_,?_,?_,?_,?_⟩<;>dsimp only<;>lk
theorem Sh (ok:bJ aj ws):bJ aj (ws.map (jJ aj)):=λw b=>by obtain ⟨u,a,rfl⟩:=fV.mp b;exact adC (ok u a)
theorem anr (aj:Int) (ws:aP):(ws.map (jJ aj)).map (jJ aj)=ws:=by
 rw [xq]
 conv=>rhs;rw [<-List.map_id ws]
 refine xu λw _=>?_;unfold jJ;refine Prod.ext ?_ ?_
 ·show aj-1-(aj-1-w.1)=w.1;lk
 ·show aj-1-(aj-1-w.2)=w.2;lk
def m9 (cs:aF):aF:=cs.reverse.map λx=>0-x
theorem zB (cs:aF):(m9 cs).length=cs.length:=by simp [m9]
theorem Bm {x:Nat} (h:x<cs.length):(m9 cs).getD x 0=- cs.getD (cs.length-1-x) 0:=by unfold m9;simp only [getD,jP];rw [List.getElem?_reverse h,Fo (by lk)];show 0-_=- _;simp
theorem aaN {a:Int} (h0:0<=a) (h1:a<aj):(aj-1-a).toNat=aj.toNat-1-a.toNat:=by lk
theorem lt_toNat {a:Int} (h0:0<=a) (h1:a<aj):a.toNat<aj.toNat:=by lk
theorem alj {a b:Int} (h0:0<=a) (h1:0<=b) (h:a≠b):a.toNat≠b.toNat:=by lk
theorem adD {a:Nat} (h:a<n):n-1-a<n:=by lk
theorem Bg {a:Nat} (h:a<n):n-1-(n-1-a)=a:=by lk
theorem alk (a b:Int):-b+-a=-(a+b):=by lk
theorem alm (s:Int):-s / 2=-((s+1) / 2):=by lk
theorem ai6 (s:Int):(-s+1) / 2=-(s / 2):=by lk
theorem ant (hl:cs.length=aj.toNat) {w:Int×Int} (ok:zT aj w):cM (m9 cs) (jJ aj w)=m9 (cM cs w):=by
 have l:=adC ok;obtain ⟨m,q,n,p,r⟩:=id ok;refine QF (by rw [wW,zB,zB,wW]) λx c=>?_;rw [wW,zB] at c;have i:(jJ aj w).1.toNat=aj.toNat-1-w.2.toNat:=aaN n p;have k:(jJ aj w).2.toNat=aj.toNat-1-w.1.toNat:=aaN m q;have la:=lt_toNat m q;have o:=lt_toNat n p;have j:=alj m n r;have a:x<aj.toNat:=hl ▸ c;have t:fH (m9 cs) (jJ aj w)=- fH cs w:=by unfold fH;rw [Bm (by rw [i,hl];exact adD o),Bm (by rw [k,hl];exact adD la),i,k,hl,Bg o,Bg la];exact alk _ _
 rw [aaE (by rw [zB,hl]) l,Bm (cs:=cM cs w) (by rw [wW];exact c),aaE hl ok,t,i,k,wW,Bm c,hl];by_cases b:x=aj.toNat-1-w.1.toNat
 ·have d:aj.toNat-1-x=w.1.toNat:=by rw [b];exact Bg la
  rw [aQ b,aK (λz=>j (d.symm.trans z)),aQ d];exact alm _
 ·have d:¬ aj.toNat-1-x=w.1.toNat:=λz=>b (by rw [<-z];exact (Bg a).symm);rw [aK b];by_cases e:x=aj.toNat-1-w.2.toNat
  ·have g:aj.toNat-1-x=w.2.toNat:=by rw [e];exact Bg o
   rw [aQ e,aQ g];exact ai6 _
  ·have g:¬ aj.toNat-1-x=w.2.toNat:=λz=>e (by rw [<-z];exact (Bg a).symm);rw [aK e,aK g,aK d]
theorem aln (ws:aP):∀ cs:aF,cs.length=aj.toNat->bJ aj ws->bC (m9 cs) (ws.map (jJ aj))=m9 (bC cs ws):=by
 induction ws with
 |nil=>intro cs _ _;rfl
 |cons w r c =>intro cs a ok;show bC (cM (m9 cs) (jJ aj w)) (r.map (jJ aj))=m9 (bC (cM cs w) r);rw [ant a (ok w (iy ..)),c _ (by rw [wW,a]) λx b=>ok x (fG _ b)]
inductive agI (vs:aA) (H:Hp) (Q:VK):Prop
 |mk (v:V) (aj:Int) (ws:aP) (h1:vs=[v]) (h2:eV H v aj ws) (h3:ws.length<=100) (h4:∀ (v':V) (H':Hp),aB H H'->eV H' v' aj (ws.map (jJ aj))->Q v' H')
def aae:=nE agI
end
variable {ea:Addr}
section
open PySem.Spec PyProof.Rows
theorem dZ.ex (x:dZ P w H h a o):∃ ob,h.get? a=some ob:=by
 cases o with
 |lst xs=>exact let ⟨_,_,_,_,e⟩:=x;⟨_,e⟩
 |tup xs=>exact let ⟨_,_,_,ob,e,_⟩:=x;⟨ob,e⟩
 |dK aY=>exact let ⟨_,_,_,_,ob,_,_,e,_⟩:=x;⟨ob,e⟩
 |dT aY=>exact let ⟨_,_,_,_,ob,_,_,e,_⟩:=x;⟨ob,e⟩
 |set S n=>exact let ⟨ob,_,_,_,e,_⟩:=x;⟨ob,e⟩
 |ins C dx fs=>exact let ⟨_,_,_,e,_⟩:=x;⟨_,e⟩
 |own y=>exact x
 |xd fs=>exact let ⟨_,⟨ob,_,_,e,_⟩,_⟩:=x;⟨ob,e⟩
 |rng lo hi=>exact let ⟨_,_,_,e⟩:=x;⟨_,e⟩
 |oE ob u=>exact ⟨ob,x.1⟩
 |yt q=>exact match (show h.get? a=some { cls:=.none,data:=.fields #[] }\/∃ c,h.get? a=some { cls:=.none,data:=.fields #[rawInt q.2.1,rawInt q.2.2,.ref c] }/\H c=some (.own a)/\h.CodeRec (.ref c) q.1 from x) with|.inl e=>⟨_,e⟩|.inr ⟨_,e,_⟩=>⟨_,e⟩
 |met f y=>exact ⟨_,x⟩
 |ext φ=>exact x.2.1
def lU (P:Program) (w:World):qj:=λouter H s E e s'=>∃ (ea:Addr) (cls a0:Value) (B:Heap) (H':Hp),e=.ref ea/\s'.os=s.os/\AllBare s'.gens/\Un (d7 outer) [] H H' s.heap s'.heap/\gM P w H' s'.heap /\
 FlyingW B outer ea cls a0 s'.heap/\H' ea=none/\(∀ b o,s'.heap.get? b=some o->b∉d7 outer->((∃ u,s.heap.get? b=some u)\/∃ u,H' b=some u)->B.get? b=some o)/\E cls none H'
theorem Un.left {L:Addr} {fs:jk} {H₀:Hp} {g h2:Heap} (tr:Un (L::fs) [] H₀ H' g h) (hL:∀ b o,g.get? b=some o->b≠L) (hf:∀ b∈fs,H₀ b=none) (k2:∀ b o,h.get? b=some o->b∉L::fs->(∃ u,g.get? b=some u)->h2.get? b=some o) (up:∀ b o,b∈fs->h.get? b=some o->∃ sl,h2.get? b=some { o with slots:=sl }):Un fs [] H₀ H' g h2:=by
 have nm:∀ {b o},g.get? b=some o->b∉fs->b∉L::fs:=λq n z=>by
  rcases fW.mp z with z|z
  ·exact hL _ _ q z
  ·exact n z
 refine ⟨λb o q n a d=>k2 b o (tr.keep b o q n (nm q a) d) (nm q a) ⟨o,q⟩,λb o q n a d=>?_,tr.free,λb o q d=>?_,tr.tups,tr.mq,λb ps q=>⟨(tr.jf b ps q).1,λc o j x=>let z:=(tr.jf b ps q).2 c o j x;⟨z.1,k2 c o z.2 (nm x λm=>by rw [hf c m] at j;cases j) ⟨o,x⟩⟩⟩⟩
 ·obtain ⟨sl,e⟩:=tr.slot b o q n (fG _ a) d;obtain ⟨i,k⟩:=up b _ a e;exact ⟨i,k⟩
 ·obtain ⟨o',e⟩:=tr.there b o q d;by_cases a:b∈fs
  ·obtain ⟨sl,k⟩:=up b o' a e;exact ⟨_,k⟩
  ·exact ⟨o',k2 b o' e (nm q a) ⟨o,q⟩⟩
section
variable {s₀:Shared} {H₀:Hp} {E:XK}
abbrev XC (P:Program) (w:World) (K:bG) (mg:dR) (au:Heap) (N:bK) (bZ:Str) (scope:Scope) (f:Addr) (cd:Value) (A:Around) (outer:nQ) (s₀:Shared) (H₀:Hp) (E:XK):Cx :=
 z9 (lU P w) P w K mg au N bZ scope f cd A outer s₀ H₀ E
theorem ai7 {l:nQ} (he:env∈l) (hb:env.frame=some b):b∈d7 l:=S9.mpr ⟨env,he,hb⟩
theorem aD.Ma (I:aD (XC P w K mg au N bZ scope f cd A outer s₀ H₀ E) ak σ H s):∀ b o,s₀.heap.get? b=some o->b≠s₀.heap.objs.size:=λb o q z=>by have:=cF q;rw [z] at this;exact uf _ this
theorem alo (I:aD (XC P w K mg au N bZ scope f cd A outer s₀ H₀ E) ak σ H s) {cls:Value} (hx:Heap.MadeExcOf s.heap h' ea cls vs) (hE:E cls none H) : (XC P w K mg au N bZ scope f cd A outer s₀ H₀ E).xe (.ref ea) { s with heap:=h' }:=by
 have j:=I.stack;have p:=I.ok.frames;have mem:∀ {b:Addr},b∈d7 (envOfC bZ scope s₀.heap.objs.size f cd::outer)↔b=s₀.heap.objs.size\/b∈d7 outer:=λ{b}=>by show b∈s₀.heap.objs.size::d7 outer↔_;exact fW
 refine wpAny_leaves_madeW (base:=hideAll s.heap (d7 (envOfC bZ scope s₀.heap.objs.size f cd::outer))) (h:=s.heap) (outer:=outer) p rfl (λb o q=>PySem.W.of_hideAll _ q) (PySem.W.funFrames_hide j (λenv y b d=>ai7 y d)) hx λh2 t r tup C m=>?_;have l:∀ b o,s.heap.get? b=some o->b∉d7 (envOfC bZ scope s₀.heap.objs.size f cd::outer)->h2.get? b=some o:=λb o q n=>r.1 _ _ (SN _ q n);have free:=I.Fx;have mZ:∀ b u,H b=some u->b∉d7 (envOfC bZ scope s₀.heap.objs.size f cd::outer):=λb u q z=>by rw [free b z] at q;cases q
 refine ⟨ea,cls,.ref t,_,H,rfl,I.os,I.bare,?_,?_,r,?_,?_,hE⟩
 ·refine Un.left (I.au.mono (fs':=s₀.heap.objs.size::d7 outer) (λb d=>fG _ d) (λb d=>d)) I.Ma I.ok.uL (λb o q n _=>l b o q n) λb o d q=>?_;obtain ⟨_,o',i,B⟩:=j.mem (b:=b) (mem.mpr (.inr d));rw [q] at i;cases i;exact m b o (hx.keeps b o q) B
 ·exact λa o e=>(I.hok a o e).stay (λb u d q=>by
   rcases d with rfl|d
   ·exact l b u q (mZ b _ e)
   ·exact l b u q (mZ b _ d)) (λ_ q=>q) λ_ _ q=>q
 ·cases e:H ea with
  |none=>rfl
  |some u =>obtain ⟨g,z⟩:=(I.hok ea u e).ex;rw [hx.new] at z;cases z
 ·intro b o q n c;have k:∀ g,s.heap.get? b=some g->b∉d7 (envOfC bZ scope s₀.heap.objs.size f cd::outer)->(hideAll s.heap (d7 (envOfC bZ scope s₀.heap.objs.size f cd::outer))).get? b=some o:=λg z v=>by have:=l b g z v;rw [q] at this;cases this;exact SN _ z v
  rcases c with ⟨u,c⟩|⟨u,c⟩
  ·obtain ⟨g,z⟩:=I.au.there b u c (tZ (a:=b));refine k g z λx=>?_;rcases mem.mp x with e|e
   ·exact I.Ma b u c e
   ·exact n e
  ·obtain ⟨g,z⟩:=(I.hok b u c).ex;exact k g z (mZ b u c)
theorem ad4:uZ (lU P w) (XC P w K mg au N bZ scope f cd A outer s₀ H₀ E) E:=by
 rintro ak σ H s e s' I ⟨ea,cls,a0,B,H',rfl,M,l,un,j,v,S,D,O⟩;have p:=I.stack;have t:=I.ok.frames;have mem:∀ {b:Addr},b∈d7 (envOfC bZ scope s₀.heap.objs.size f cd::outer)↔b=s₀.heap.objs.size\/b∈d7 outer:=λ{b}=>by show b∈s₀.heap.objs.size::d7 outer↔_;exact fW
 have free:∀ b∈d7 (envOfC bZ scope s₀.heap.objs.size f cd::outer),H' b=none:=λb d=>by obtain ⟨_,o,L,_⟩:=p.mem (b:=b) d;exact un.free b o L (I.Fx b d) (tZ (a:=b))
 have mZ:∀ b u,H' b=some u->b∉d7 (envOfC bZ scope s₀.heap.objs.size f cd::outer):=λb u q z=>by rw [free b z] at q;cases q
 have C:Un (s₀.heap.objs.size::d7 outer) [] H₀ H' s₀.heap s'.heap:=(I.au.mono (fs':=s₀.heap.objs.size::d7 outer) (λb d=>fG _ d) (λb d=>d)).trans un;refine wpAny_leaves_onW (outer:=outer) t rfl v λh2 y r=>?_;have m:∀ b o,s'.heap.get? b=some o->b∉d7 (envOfC bZ scope s₀.heap.objs.size f cd::outer)->((∃ u,s.heap.get? b=some u)\/∃ u,H' b=some u)->h2.get? b=some o:=λb o q n c=>y.1 _ _ (D b o q n c);refine ⟨ea,cls,a0,B,H',rfl,M.trans I.os,l,?_,?_,y,S,?_,O⟩
 ·refine Un.left C I.Ma I.ok.uL (λb o q n ⟨u,c⟩=>m b o q n (.inl (I.au.there b u c (tZ (a:=b))))) λb o d q=>?_;obtain ⟨_,o',i,R⟩:=v.2.2.1.mem (b:=b) (mem.mpr (.inr d));rw [q] at i;cases i;exact r b o q R
 ·exact λa o e=>(j a o e).stay (λb u d q=>by
   rcases d with rfl|d
   ·exact m b u q (mZ b _ e) (.inr ⟨_,e⟩)
   ·exact m b u q (mZ b _ d) (.inr ⟨_,d⟩)) (λ_ q=>q) λ_ _ q=>q
 ·intro b o q n c;have k:∀ g,s'.heap.get? b=some g->b∉d7 (envOfC bZ scope s₀.heap.objs.size f cd::outer)->((∃ u,s.heap.get? b=some u)\/∃ u,H' b=some u)->B.get? b=some o:=λg z x c=>by have:=m b g z x c;rw [q] at this;cases this;exact D b _ z x c
  rcases c with ⟨u,c⟩|⟨u,c⟩
  ·obtain ⟨g,z⟩:=C.there b u c (tZ (a:=b));refine k g z (λJ=>?_) (.inl (I.au.there b u c (tZ (a:=b))));rcases mem.mp J with e|e
   ·exact I.Ma b u c e
   ·exact n e
  ·obtain ⟨g,z⟩:=(j b u c).ex;exact k g z (mZ b u c) (.inr ⟨u,c⟩)
end
theorem wF.Vs {st:Stmt} {k:Nat} (F:wF K x bZ st f fd) (S:rW N ps (gG st)) (len:∀ vs H Q E,sp vs H Q E->vs.length=ps.length) (hbody:∀ (cdv:Value) (A:Around) (outer:nQ) (s:Shared) (H:Hp) (vs:aA) (Q:VK) (E:XK),eG k (A.deeper (envOfC bZ (gG st) s.heap.objs.size f cdv))->sp vs H Q E ->∃ t,oF (XC P w K mg au N bZ (gG st) f cdv A outer s H E) (jO st) t/\t { nx:=λ_ H'=>Q .non H',rt:=Q } (start N vs) H):dw P w K mg au (lU P w) (k+1) f fd ps sp:=by obtain ⟨oc,od,kV,d,pm,an,cdv,ct,osl,rfl,c,a⟩:=F.ex;exact ad1 c a S len λA outer s H vs Q E hr b=>hbody cdv A outer s H vs Q E hr b
theorem dw.up {k:Nat} (F:dw P w K mg au jL k f fd ps sp):dw P w K mg au (lU P w) k f fd ps sp:=⟨F.len,λA outer s H a us vs Q E hr d g r h=>sE (F.run A outer s H a us vs Q E hr d g r h) λb s' q=>by
  cases b with
  |ok c=>cases c with
   |ret u=>exact q
   |next=>exact q
   |brk=>exact q
   |cont=>exact q
  |error e=>exact q.elim⟩
structure rY (P:Program) (w:World) (K:bG) (mg:dR) (au:Heap) (x:Str) (k:Nat) (ps:bK) (sp:Sp):Prop where
 ex:∃ (f:Addr) (fd:FuncData),dw P w K mg au (lU P w) k f fd ps sp/\mK K fd ps []/\keepIn K (.ref f)=true/\mg x=some (.ref f)
theorem oW.Sq {st:Stmt} {k:Nat} (h:oW K mg x st f fd) (F:dw P w K mg au (lU P w) k f fd ps sp) (hb:∀ (kV doc pm:Value) (an:jy) (cdv ct:Value) (us:bV),us.length=ps.length->bindArgs (fnOf x x (kJ st) (jO st) (gG st) .none kV doc pm an cdv ct) ⟨us,[]⟩=pure (ps.zip us)):rY P w K mg au x k ps sp:=⟨f,fd,F,h.fn.binds hb,h.fn.kp,h.at_⟩
theorem nG {s₀:Shared} {H₀:Hp} {E:XK} {k:Nat} {t:TA} {p:Pos} (C:rY P w K mg au x k ps sp) (hr:eG k (XC P w K mg au N bZ scope f cd A outer s₀ H₀ E).A) (hg:Gl (XC P w K mg au N bZ scope f cd A outer s₀ H₀ E) x) (ha:PA (XC P w K mg au N bZ scope f cd A outer s₀ H₀ E) (e::es) t) (hdb:(x == ("__debug__":Str))=false:=by decide) (he:starEach (e::es) (XC P w K mg au N bZ scope f cd A outer s₀ H₀ E).env=(false,eval e (XC P w K mg au N bZ scope f cd A outer s₀ H₀ E).env)::starEach es (XC P w K mg au N bZ scope f cd A outer s₀ H₀ E).env:=by rfl) (hpl:(backTo pos (starEach es (XC P w K mg au N bZ scope f cd A outer s₀ H₀ E).env)).any (·.1)=false:=by rfl) : PE (XC P w K mg au N bZ scope f cd A outer s₀ H₀ E) (.Call (.Name x p) (e::es) [] pos) (La sp [] E t):=by obtain ⟨d,fd,F,a,c,b⟩:=C.ex;exact acr F hr hg b c a .nil ad4 ha hdb he hpl
structure ExcAt (h:Heap) (C:Addr) (bmB:bV) (newId:String):Prop where
 ex:∃ (bm:bV) (N:Addr) (nm qn:Str) (bs:bV) (hd:Bool) (sn:bK) (sub:bV) (ab:Bool) (col:Option Bool) (dd:jy) (k0 k1 k2 k3 k5:sH) (mN:dR),
  h.get? C=some (excClassObj nm qn C N bs bm hd sn sub ab col dd k0 k1 k2 k3 k5 newId)/\h.Ns N mN/\mN "__init__"=none/\OwnTail h bmB bm
theorem alp {bmB:bV} {newId:String} (X:K.In h) (q:excIn K C bmB newId=true):ExcAt h C bmB newId:=by
 unfold excIn at q;split at q
 case h_1 dd cd sl ho =>
  split at q
  case h_1 C' bm k0 k1 k2 k3 n k5 hm hs =>
   simp only [Bt,zN,Bool.not_eq_true'] at q;obtain ⟨⟨⟨⟨⟨i,m⟩,e⟩,p⟩,b⟩,d⟩:=q;subst i m;cases cd with
   |mk nm bs g ns j r t a k c o =>
    dsimp only at hm e b d;subst hm e;have es:sl=#[k0,k1,k2,k3,some (.builtin n),k5]:=by
     cases sl with
     |mk l=>exact je Array.mk hs
    subst es;exact ⟨bm,ns,nm,j,bs,r,t,a,k,c,dd,k0,k1,k2,k3,k5,_,X _ _ ho,.of_isNs (PySem.W.isNs_of_in X b),PySem.W.nsMap_none_of_in X b d,PySem.W.tail_of_in X p⟩
  all_goals cases q
 all_goals cases q
section
variable {s₀:Shared} {H₀:Hp} {E:XK}
abbrev Ah:bV:=[.type "ValueError",.type "Exception",.type "BaseException",.type "object"]
theorem Bo {np cpos:Pos} (hq:excIn K C Ah "ValueError.__new__"=true) (hg:Gl (XC P w K mg au N bZ scope f cd A outer s₀ H₀ E) x) (hm:mg x=some (.ref C)) (ha:PA (XC P w K mg au N bZ scope f cd A outer s₀ H₀ E) [e] ta) (hd:(x == ("__debug__":Str))=false:=by decide) (he:starEach [e] (XC P w K mg au N bZ scope f cd A outer s₀ H₀ E).env=[(false,eval e (XC P w K mg au N bZ scope f cd A outer s₀ H₀ E).env)]:=by rfl) : PS (XC P w K mg au N bZ scope f cd A outer s₀ H₀ E) (.Raise (some (.Call (.Name x np) [e] [] cpos)) none pos) (λ_ σ H=>ta σ H λvs H1=>vs.length<=1000/\E (.ref C) none H1):=by intro ak s σ H D I h;obtain ⟨bm,i,nm,k,bs,b,sn,sub,ab,col,dd,k0,k1,k2,k3,k5,mN,m,g,c,T⟩:=(alp I.ok.mod.yu hq).ex;refine wpAny_Raise_call_subT (C:=C) (nm:=nm) (q:=k) (N:=i) (bs:=bs) (bm:=bm) (hdct:=b) (sn:=sn) (sub:=sub) (ab:=ab) (col:=col) (dd:=dd) (k0:=k0) (k1:=k1) (k2:=k2) (k3:=k3) (k5:=k5) abS (mN:=mN) (T.hasType abS.hasBase) (I.ok.hd rfl) (by rw [he];rfl) c (Ca I hg hm ⟨rfl,?_⟩ hd);have d:=ha cpos ak s σ H _ I h;rw [he] at d ⊢;refine Calls.evalArgs_plain (bA d λus n ⟨vs,H1,a,r,l,q⟩=>⟨rfl,?_,a.bk _ _ m,g.keeps a.bk,T.keeps a.bk,λh' ea j=>alo a j q⟩);rw [<-r.length];exact CJ (aaB l)
end
def UG (ea:Addr) (cls:Value):HO:=.ext λh=>∃ o,h.get? ea=some o/\o.cls=cls
section
variable {s':Shared} {B h5:Heap} {cls a0:Value}
theorem landed (I:aD X ak σ H s) (os:s'.os=s.os) (bare:AllBare s'.gens) (un:Un (d7 X.stack) [] H H' s.heap s'.heap) (hok:gM X.prog X.w H' s'.heap) (fl:FlyingW B X.stack ea cls a0 s'.heap) (sZ:H' ea=none) (kB:∀ b o,s'.heap.get? b=some o->b∉d7 X.stack->((∃ u,s.heap.get? b=some u)\/∃ u,H' b=some u)->B.get? b=some o) (yE:FlyingW B X.stack ea cls a0 h5) (up:s'.heap.UpToSlots h5) : aD X ak σ (upd H' ea (UG ea cls)) { s' with heap:=h5 }:=by
 have v:∀ b:Addr,b∉([]:jk):=λb=>tZ (a:=b);have free:∀ b∈d7 X.stack,H' b=none:=λb d=>by obtain ⟨_,o,R,_⟩:=I.stack.mem (b:=b) d;exact un.free b o R (I.Fx b d) (v b)
 have mZ:∀ b u,H' b=some u->b∉d7 X.stack:=λb u q z=>by rw [free b z] at q;cases q
 have p:∀ b o,s'.heap.get? b=some o->b∉d7 X.stack->((∃ u,s.heap.get? b=some u)\/∃ u,H' b=some u)->h5.get? b=some o:=λb o q n c=>yE.1 _ _ (kB b o q n c);have t:∀ b o,s.heap.get? b=some o->b≠ea:=λb o q z=>by
  subst z;obtain ⟨o',j⟩:=un.there b o q (v b);by_cases L:b∈d7 X.stack
  ·obtain ⟨_,W,r,C⟩:=fl.2.2.1.mem (b:=b) L;obtain ⟨V,vs,h1,_,h2,_⟩:=fl.first;rw [r] at h1;cases h1;exact C vs h2
  ·have:=kB b o' j L (.inl ⟨o,q⟩);rw [fl.2.1] at this;cases this
 have l:∀ b o,b∈d7 X.stack->s'.heap.get? b=some o->∃ sl,h5.get? b=some { o with slots:=sl }:=λb o d e=>by obtain ⟨_,o',i,C⟩:=fl.2.2.1.mem (b:=b) d;rw [e] at i;cases i;exact up b o e C
 refine I.call' (ch:=[]) os ⟨λb o q n d g=>p b o (un.keep b o q n d g) d (.inl ⟨o,q⟩),λb o q n d g=>?_,λb o q n g=>by rw [aV (t b o q)];exact un.free b o q n g,λb o q g=>?_,
  λb xs q=>by rw [aV (cV (un.tups b xs q) sZ)];exact un.tups b xs q,λb u xs q=>by rw [aV (cV (un.mq b u xs q) sZ)];exact un.mq b u xs q,λb ps q=>?_⟩ ?_ bare (λb z=>absurd z (v b))
 ·obtain ⟨sl,e⟩:=un.slot b o q n d g;obtain ⟨y,j⟩:=l b _ d e;exact ⟨y,j⟩
 ·obtain ⟨o',e⟩:=un.there b o q g;by_cases d:b∈d7 X.stack
  ·obtain ⟨sl,j⟩:=l b o' d e;exact ⟨_,j⟩
  ·exact ⟨o',p b o' e d (.inl ⟨o,q⟩)⟩
 ·have e:=un.jf b ps q;exact ⟨by rw [aV (cV e.1 sZ)];exact e.1,λc o U x=>let z:=e.2 c o U x;⟨by rw [aV (cV z.1 sZ)];exact z.1,p c o z.2 (mZ c _ z.1) (.inl ⟨o,x⟩)⟩⟩
 ·intro a o e;by_cases c:a=ea
  ·subst c;rw [aM] at e;cases e;obtain ⟨J,m,O⟩:=yE.there;exact ⟨⟨J,m,O⟩,⟨J,m⟩,λh1 h2 ⟨M,N,S⟩ k=>⟨M,k M N,S⟩⟩
  ·rw [aV c] at e;have D:∀ b u,H' b=some u->b≠ea:=λb u q=>cV q sZ;exact (hok a o e).stay (λb u d q=>by
    rcases d with rfl|d
    ·exact p b u q (mZ b _ e) (.inr ⟨_,e⟩)
    ·exact p b u q (mZ b _ d) (.inr ⟨_,d⟩)) (λb q=>by rw [aV (D b _ q)];exact q) λb xs q=>by rw [aV (D b _ q)];exact q
abbrev Cx.inside (X:Cx) (ea:Addr):Cx:={ X with A:=X.A.mark (some (.ref ea)),calm:=false,xe:=λ_ _=>False }
theorem aD.inside (I:aD X ak σ H s) (ea:Addr):aD (X.inside ea) ak σ H s:=⟨⟨I.ok.mod,I.ok.kind,I.ok.glob,I.ok.blt,I.ok.above,I.ok.inj,I.ok.has,I.ok.cab,(λz=>by cases z),I.ok.frames,I.ok.stk,I.ok.Mu,I.ok.bs,I.ok.uK,I.ok.Dm,I.ok.Dn,I.ok.qb,I.ok.uL⟩,I.os,I.bare,I.au,I.loc,I.cell,I.free,I.o8,I.pin,I.hok,I.len⟩
theorem aD.outside (ok:X.Ok) (I:aD (X.inside ea) ak σ H s):aD X ak σ H s:=⟨ok,I.os,I.bare,I.au,I.loc,I.cell,I.free,I.o8,I.pin,I.hok,I.len⟩
theorem SP.outside {f:Flow} (ok:X.Ok) (h:SP (X.inside ea) ak D f s):SP X ak D f s:=by
 cases f with
 |next=>exact let ⟨a,b,I,q⟩:=h;⟨a,b,I.outside ok,q⟩
 |brk=>exact let ⟨a,b,I,q⟩:=h;⟨a,b,I.outside ok,q⟩
 |cont=>exact let ⟨a,b,I,q⟩:=h;⟨a,b,I.outside ok,q⟩
 |ret u=>exact let ⟨v,a,b,I,r,q⟩:=h;⟨v,a,b,I.outside ok,r,q⟩
end
def PX (X:Cx) (e:Expr) (t:St->Hp->VK->XK->Prop):Prop:=∀ (ak:List (Addr×Obj)) (s:Shared) (σ:St) (H:Hp) (Q:VK) (E:XK) (a:lF),aD X ak σ H s->t σ H Q E ->
 (∀ H1 b e s',aD X ak σ H1 b->lU X.prog X.w X.stack H1 b E e s'->a e s')->wpAny (model X.prog X.w) X.A (eval e X.env) (EP X ak σ Q) a s
def PSX (X:Cx) (st:Stmt) (t:qK->XK->St->Hp->Prop):Prop:=∀ (ak:List (Addr×Obj)) (s:Shared) (σ:St) (H:Hp) (D:qK) (E:XK) (a:lF),aD X ak σ H s->t D E σ H ->
 (∀ H1 b e s',aD X ak σ H1 b->lU X.prog X.w X.stack H1 b E e s'->a e s')->wpAny (model X.prog X.w) X.A (exec st X.env) (SP X ak D) a s
section
theorem anu {tx:St->Hp->VK->XK->Prop} (hN:X.N.Nodup) (hi:X.N[i]?=some x) (hx:vP X.env.scope x) (he:PX X e tx) (hs:swapsWith e (some (.Name x pos')) pos.line X.env=pure false:=by rfl) (hf:X.fn x=true\/X.env.scope.names.lookup x=some .local:=by first|exact .inl rfl|exact .inr rfl|assumption):PSX X (.Assign [.Name x pos'] e pos) (λD E σ H=>tx σ H (λv H1=>D.nx (σ.set i (some v)) H1) E):=by intro ak s σ H D E c I h a;refine wpAny_Assign_Name (bA (he ak s σ H _ E c I h a) λv k ⟨y,H1,d,j,g⟩=>?_) hs;exact Ji d hN hi hx j (λl b=>⟨_,H1,b,g⟩) hf
theorem anv {st:Stmt} {tx:qK->XK->St->Hp->Prop} {b₀:Stmt} {suite:List Stmt} {np hpos:Pos} {ts:TS} (hst:X.stack=X.env::X.outer) (hf:X.env.frame=some X.env.locals) (hb:PSX X st tx) (hg:Gl X x) (hm:X.mg x=some (.ref C)) (hs:∀ ea,oF (X.inside ea) (b₀::suite) ts) (hd:(x == ("__debug__":Str))=false:=by decide) : PS X (.Try [st] [.ExceptHandler (some (.Name x np)) none (b₀::suite) hpos] [] [] pos) (λD σ H=>tx D (λcls _ H1=>exmOne X.K cls (.ref C)=some true/\∀ ea,H1 ea=none->ts D σ (upd H1 ea (UG ea cls))) σ H):=by
 intro ak s σ H D I h;refine wpAny_Try_except (S5 (bA (hb ak s σ H D _ _ I h λH1 N e s' n c=>?_) λb N q=>?_))
 ·obtain ⟨ea,cls,a0,B,H',rfl,J,a,un,d,b,t,M,L⟩:=c;have i:=n.ok.frames;rw [hst] at i;have v:=b;rw [hst] at v;refine wpAny_looks_onW i hf v λV j l=>wpAny_landsW j λh5 k o=>?_;have g:=l.trans o;rw [<-hst] at k;have y:=(landed n J a un d b t M k g).inside ea;obtain ⟨U,p,R⟩:=k.there;have O:Looks (model X.prog X.w) h5 (typeOf (.ref ea)) cls:=R ▸ (Looks.ld p).andThen .now;refine wpAny_handleBy_cons (codeAny_handlers_test (Ca y hg hm ?_ hd)) (by intro q;cases q);refine PySem.W.exm_one (h:=h5) y.gn O L.1 _ _ _ _ (λ_ _ z=>z) ?_;show codeAny _ _ _ _ _;refine codeAny_handlers_suite (lands_againW k λh6 m r=>?_);have S:=landed n J a un d b t M m (g.trans r);exact lE (hs ea ak _ σ _ D (S.inside ea) (L.2 ea t)) (λf Y q=>SP.outside I.ok q) (λ_ _ z=>z.elim)
 ·cases b with
  |next=>exact CK (CK q)
  |brk=>exact q
  |cont=>exact q
  |ret u=>exact q
end
end
section
open PySem.Spec PyProof.Rows PySem.W Builtin Builtin.ObjectAttr Builtin.Getset_descriptor
end
section
open PySem.Spec PyProof.Rows
section
def clV:V->sH
 |.ref a=>some (.ref a)
 |.ty n=>some (.type n)
 |_=>none
theorem anw {c:V} {t:Value} (e:clV c=some t) (r:cA c u):u=t:=by
 cases c with
 |ref a=>cases e;exact r
 |ty n=>cases e;exact r
 |_=>cases e
def GJ:aA->Option bV
 |[]=>some []
 |c::r=>match clV c,GJ r with
  |some t,some ts=>some (t::ts)
  |_,_=>none
theorem QG:∀ {cs:aA} {us ts:bV},GJ cs=some ts->bO cs us->us=ts
 |[],_,_,e,.nil=>by cases e;rfl
 |c::r,_,_,e,.cons h1 h2=>by
  unfold GJ at e;split at e
  case h_1 t ts e1 e2 =>
   cases e;rw [anw e1 h1,QG e2 h2]
  case h_2=>cases e
end
end
section
open PySem.Spec PyProof.Rows PySem.W PySem.Builtin PySem.Builtin.ObjectAttr
end
section
open PySem.Spec PyProof.Rows
section
variable {M:Model}
end
section
variable {s₀:Shared} {H₀:Hp} {E:XK}
end
section
variable {Nm:bK} {asL:Scope} {s₀:Shared} {H₀:Hp} {E:XK}
variable {elt jo:Expr} {ifs:List Expr} {wi:TI}
end
end
variable {c:aF}
section
def iD (c:aF):Prop:=∀ i j,i<=j->j<c.length->0<=c.getD i 0-c.getD j 0/\c.getD i 0-c.getD j 0<=1
def dN (n:Nat) (total:Int):aF:=(range n).map λi:Nat=>-(((0:Int)+(i:Int)-total) / (n:Int))
theorem Bf (n:Nat) (t:Int):(dN n t).length=n:=by unfold dN;simp
theorem O8 {t:Int} (h:i<n):(dN n t).getD i 0=-(((0:Int)+(i:Int)-t) / (n:Int)):=by unfold dN;simp only [getD];rw [jP,JQ h];rfl
def mQ (n k:Nat) (m:Int):aF:=(range n).map λi:Nat=>if i<k then m+1 else m
theorem Pu (n k:Nat) (m:Int):(mQ n k m).length=n:=by unfold mQ;simp
theorem Im {k:Nat} {m:Int} (h:i<n):(mQ n k m).getD i 0=if i<k then m+1 else m:=by unfold mQ;simp only [getD];rw [jP,JQ h];rfl
theorem ahB (n k:Nat) (m:Int) (h:k<=n):(mQ n k m).sum=n*m+k:=by
 induction n generalizing k with
 |zero =>
  have:k=0:=by lk
  subst this;simp [mQ]
 |succ n b =>
  have e:mQ (n+1) k m=mQ n k m++[if n<k then m+1 else m]:=by unfold mQ;rw [rO,cX];rfl
  rw [e,List.sum_append_int];have a:((n+1:Nat):Int)*m=(n:Int)*m+m:=by rw [Int.natCast_add,Int.add_mul];lk
  by_cases c:n<k
  ·rw [aQ c];have g:k=n+1:=by lk
   subst g;have d:mQ n (n+1) m=mQ n n m:=by unfold mQ;refine xu λi hi=>?_;have:i<n:=pL.mp hi;rw [aQ (by lk),aQ this]
   rw [d,b n (bI _),a];simp;lk
  ·rw [aK c,b k (by lk),a];simp;lk
theorem agJ (h:iD c) (pos:0<c.length):∃ k m,k<c.length/\c=mQ c.length k m:=by
 have b:∀ q,q<c.length->(∀ i,i<q->c.getD i 0=c.getD (c.length-1) 0+1)->∃ k,k<c.length/\∀ i,i<c.length->c.getD i 0=if i<k then c.getD (c.length-1) 0+1 else c.getD (c.length-1) 0:=by
  intro q;induction hd:c.length-q generalizing q with
  |zero=>intro j;lk
  |succ d o =>
   intro j hi;by_cases e:c.getD q 0=c.getD (c.length-1) 0
   ·refine ⟨q,j,λi g=>?_⟩;by_cases a:i<q
    ·rw [aQ a];exact hi i a
    ·rw [aK a];have h1:=h q i (by lk) g;have h2:=h i (c.length-1) (by lk) (by lk);lk
   ·have h2:=h q (c.length-1) (by lk) (by lk);have p:q≠c.length-1:=λz=>e (by rw [z]);refine o (q+1) (by lk) (by lk) λi g=>?_;by_cases a:i<q
    ·exact hi i a
    ·have:i=q:=by lk
     subst this;lk
 obtain ⟨k,n,l⟩:=b 0 pos (λi hi=>absurd hi (by lk));refine ⟨k,c.getD (c.length-1) 0,n,QF (Pu _ _ _).symm λi hi=>?_⟩;rw [Im hi];exact l i hi
theorem agK (n k:Nat) (m:Int):iD (mQ n k m):=λi j b a=>by rw [Pu] at a;rw [Im (by lk),Im a];split<;>split<;>lk
theorem aaf {k:Nat} {m:Int} (hk:k<n):dN n (n*m+k)=mQ n k m:=by
 refine QF (by rw [Bf,Pu]) λi hi=>?_;rw [Bf] at hi;rw [O8 hi,Im hi];have a:(0:Int)<(n:Int):=by lk
 by_cases c:i<k
 ·rw [aQ c];have e:(0:Int)+(i:Int)-((n:Int)*m+(k:Int))=((n:Int)+(i:Int)-(k:Int))+(n:Int)*(-(m+1)):=by rw [BP,Int.mul_add];lk
  rw [e,zj _ _ (by lk),Fp (by lk) (by lk)];lk
 ·rw [aK c];have e:(0:Int)+(i:Int)-((n:Int)*m+(k:Int))=((i:Int)-(k:Int))+(n:Int)*(-m):=by rw [BP];lk
  rw [e,zj _ _ (by lk),Fp (by lk) (by lk)];lk
theorem af8 (hn:0<n) (t:Int):∃ k m,k<n/\t=n*m+k/\dN n t=mQ n k m:=by
 have h1:=rQ t (b:=(n:Int)) (by lk);have h2:=rR t (b:=(n:Int)) (by lk);have a:=Int.mul_ediv_add_emod t (n:Int);refine ⟨(t % (n:Int)).toNat,t / (n:Int),by lk, by lk, ?_⟩;rw [<-aaf (by lk)]
 congr 1
 lk
theorem af9 (hn:0<n) (t:Int):iD (dN n t):=by obtain ⟨k,m,b,a,e⟩:=af8 hn t;rw [e];exact agK n k m
theorem Bp (h:iD c) (pos:0<c.length):dN c.length c.sum=c:=by obtain ⟨k,m,a,e⟩:=agJ h pos;have s:=ahB c.length k m (by lk);rw [<-e] at s;rw [s,aaf a,<-e]
theorem aaO (pos:0<c.length):iD c↔dN c.length c.sum=c:=⟨λh=>Bp h pos,λe=>by rw [<-e];exact af9 pos _⟩
def zE (c:aF):Prop:=∀ i,i+1<c.length->c.getD (i+1) 0<=c.getD i 0
theorem zE.le (h:zE c):∀ {i j:Nat},i<=j->j<c.length->c.getD j 0<=c.getD i 0:=by
 intro i j a;induction j with
 |zero=>intro _;have:i=0:=by lk
        subst this;exact yX _
 |succ j d =>
  intro b;by_cases e:i=j+1
  ·subst e;exact yX _
  ·have:=d (by lk) (by lk);have:=h j b;lk
theorem O9 (pos:0<c.length):iD c↔zE c/\c.getD 0 0-c.getD (c.length-1) 0<=1:=by
 constructor
 ·intro h;exact ⟨λi hi=>by have:=h i (i+1) (by lk) hi;lk, (h 0 (c.length-1) (by lk) (by lk)).2⟩
 ·rintro ⟨h,l⟩ i j a b;have h1:=h.le a b;have h2:=h.le (fP i) (by lk);have d:=h.le (i:=j) (j:=c.length-1) (by lk) (by lk);lk
inductive alq (vs:aA) (H:Hp) (Q:VK):Prop
 |mk (c:Addr) (cs:aF) (h1:vs=[.ref c]) (h2:H c=some (.lst (cs.map V.int))) (h3:cs.length<=100) (h4:∀ (b:Bool) (H':Hp),aB H H'->(b=true↔zE cs)->Q (.bl b) H')
def anx:=nE alq
inductive alr (vs:aA) (H:Hp) (Q:VK):Prop
 |mk (c:Addr) (cs:aF) (h1:vs=[.ref c]) (h2:H c=some (.lst (cs.map V.int))) (h3:0<cs.length) (h4:cs.length<=100) (h5:∀ (b:Bool) (H':Hp),aB H H'->(b=true↔iD cs)->Q (.bl b) H')
def anz:=nE alr
end
section
open PySem.SeqAt
def UJ (a b:Int):Int:=if b<a then b else a
def Dv (cs:aF) (w:Int×Int):aF:=(cs.set w.1.toNat (gj (cs.getD w.1.toNat 0) (cs.getD w.2.toNat 0))).set w.2.toNat (UJ (cs.getD w.1.toNat 0) (cs.getD w.2.toNat 0))
def qZ (cs:aF) (ws:aP):aF:=ws.foldl Dv cs
theorem als (cs:aF) (w:Int×Int):(Dv cs w).length=cs.length:=by unfold Dv;rw [fU,fU]
theorem abl (ws:aP):∀ cs:aF,(qZ cs ws).length=cs.length:=by
 unfold qZ;induction ws with
 |nil=>intro cs;rfl
 |cons w r a=>intro cs;rw [jG,a,als]
theorem ai8 (cs:aF) (ws:aP) (w:Int×Int):qZ cs (ws++[w])=Dv (qZ cs ws) w:=by unfold qZ;rw [yW];rfl
def sU (M:List aF) (ns:aF):List aF:=M.flatMap λr=>ns.map λn=>r++[n]
def j5 (C:List aF):List aF:=C.foldl sU [[]]
theorem Iu (C:List aF) (ns:aF):j5 (C++[ns])=sU (j5 C) ns:=by unfold j5;rw [yW];rfl
theorem Qk (M:List aF) (ns:aF):(sU M ns).length=M.length*ns.length:=by
 unfold sU;induction M with
 |nil=>simp
 |cons r q a=>rw [List.flatMap_cons,dJ,a,bh,gw,Rt];lk
def Ud (C:List aF) (r:aF):Prop:=r.length=C.length/\∀ i,i<C.length->r.getD i 0∈C.getD i []
theorem Ja (C:List aF):∀ r,r∈j5 C↔Ud C r:=by
 have j:∀ (k:Nat) (C:List aF),C.length=k->∀ r,r∈j5 C↔Ud C r:=by
  intro k;induction k with
  |zero =>
   intro C b r;have:C=[]:=Rp.mp b;subst this;show r∈[[]]↔_;constructor
   ·intro h;have:r=[]:=by simpa using h
    subst this;exact ⟨rfl,λi hi=>absurd hi (by simp)⟩
   ·intro h;have:r=[]:=Rp.mp h.1;simp [this]
  |succ k m =>
   intro C b r;obtain ⟨D,ns,rfl⟩:∃ D ns,C=D++[ns]:=⟨C.dropLast,C.getLast (by intro z;rw [z] at b;simp at b),(abT _).symm⟩;have d:D.length=k:=by simpa using b
   rw [Iu];unfold sU;rw [List.mem_flatMap];constructor
   ·rintro ⟨q,t,hr⟩;obtain ⟨n,u,rfl⟩:=fV.mp hr;obtain ⟨l,g⟩:=(m D d q).mp t;refine ⟨by simp [l],λi hi=>?_⟩;by_cases c:i<D.length
    ·rw [show (q++[n]).getD i 0=q.getD i 0 by simp [getD,qJ (show i<q.length by lk)],show (D++[ns]).getD i []=D.getD i [] by simp [getD,qJ c]];exact g i c
    ·have:i=D.length:=by simp at hi;lk
     subst this;rw [show (q++[n]).getD D.length 0=n by rw [<-l];simp [getD],show (D++[ns]).getD D.length []=ns by simp [getD]];exact u
   ·rintro ⟨l,g⟩;have o:r.length=k+1:=by rw [l];simp [d]
    have a:r≠[]:=λz=>by rw [z] at o;simp at o
    have e:r=r.dropLast++[r.getLast a]:=(abT a).symm;have p:r.dropLast.length=k:=by rw [List.length_dropLast];lk
    refine ⟨r.dropLast,(m D d _).mpr ⟨by lk, λi hi=>?_⟩,fV.mpr ⟨r.getLast a,?_,e.symm⟩⟩
    ·have:=g i (by simp;lk);rw [e,show (r.dropLast++[r.getLast a]).getD i 0=r.dropLast.getD i 0 by simp only [getD];rw [qJ (by lk)],show (D++[ns]).getD i []=D.getD i [] by simp [getD,qJ hi]] at this;exact this
    ·have:=g D.length (by simp);rw [e,show (r.dropLast++[r.getLast a]).getD D.length 0=r.getLast a by simp only [getD];rw [d,<-p,xV (bI _),Ru];rfl,show (D++[ns]).getD D.length []=ns by simp [getD]] at this;exact this
 exact j C.length C rfl
def z_ (n:Nat) (r:aF):Prop:=r.length=n/\∀ i,i<n->r.getD i 0=0\/r.getD i 0=1
theorem aaP (n:Nat) (r:aF):r∈j5 (replicate n [0,1])↔z_ n r:=by
 rw [Ja];unfold Ud z_;rw [vG];refine and_congr_right λl=>⟨λh i hi=>?_,λh i hi=>?_⟩
 ·have:=h i hi;rw [show (replicate n ([0,1]:aF)).getD i []=[0,1] by simp [getD,hi]] at this;simpa using this
 ·rw [show (replicate n ([0,1]:aF)).getD i []=[0,1] by simp [getD,hi]];simpa using h i hi
def aeB (n:Nat) (ws:aP):Prop:=∀ r,z_ n r->zE (qZ r ws)
end
section
inductive apk (vs:aA) (H:Hp) (Q:VK):Prop
 |mk (v:V) (aj:Int) (ws:aP) (c:Addr) (cs:aF) (h1:vs=[v,.ref c]) (h2:eV H v aj ws) (h3:bJ aj ws) (h4:ws.length<=100) (h5:H c=some (.lst (cs.map V.int))) (h6:cs.length=aj.toNat) (h7:∀ (a:Addr) (H':Hp),H a=none->aB H H'->H' a=some (.lst ((qZ cs ws).map V.int))->Q (.ref a) H')
def aqr:=nE apk
inductive ai9 (vs:aA) (H:Hp) (Q:VK):Prop
 |mk (a b:Addr) (rs:aA) (M:List aF) (ns:aF) (h1:vs=[.ref a,.ref b]) (h2:H a=some (.lst rs)) (h3:Rows H rs M) (h4:H b=some (.lst (ns.map V.int))) (h5:M.length*ns.length<=50000) (h6:ns.length<=50000) (h7:(∀ r∈M,r.length<=50)) (h8:∀ (l:Addr) (rs':aA) (H':Hp),H l=none->aB H H'->H' l=some (.lst rs')->fD H H' l rs' (sU M ns)->Q (.ref l) H')
def alu:=nE ai9
inductive ai_ (vs:aA) (H:Hp) (Q:VK):Prop
 |mk (a:Addr) (cs:aA) (C:List aF) (h1:vs=[.ref a]) (h2:H a=some (.lst cs)) (h3:Rows H cs C) (h4:C.length<=40) (h5:(∀ i,i<=C.length->(j5 (C.take i)).length<=50000)) (h6:(∀ r∈C,r.length<=50000)) (h7:∀ (l:Addr) (rs':aA) (H':Hp),H l=none->aB H H'->H' l=some (.lst rs')->fD H H' l rs' (j5 C)->Q (.ref l) H')
def alv:=nE ai_
inductive ai' (vs:aA) (H:Hp) (Q:VK):Prop
 |mk (v:V) (aj:Int) (ws:aP) (h1:vs=[v]) (h2:eV H v aj ws) (h3:1<=aj) (h4:aj<=8) (h5:bJ aj ws) (h6:ws.length<=41) (h7:(∀ (T:Addr) (H':Hp),H T=none->aB H H'->H' T=some (.tup [.str "orders"])->aeB aj.toNat ws->Q (.ref T) H')) (h8:∀ (T l:Addr) (r:aF) (H':Hp),H T=none->H l=none->aB H H'->H' T=some (.tup [.str "not",.ref l])->H' l=some (.lst (r.map V.int))->z_ aj.toNat r->¬ zE (qZ r ws)->Q (.ref T) H')
def alw:=nE ai'
theorem Oq (n:Nat):(j5 (replicate n [0,1])).length=2 ^ n:=by
 induction n with
 |zero=>rfl
 |succ n a=>rw [Fq,Iu,Qk,a];rfl
theorem aja (h:i<=n):(replicate n ([0,1]:aF)).take i=replicate i [0,1]:=by rw [List.take_replicate,tY h]
end
section
open PySem.SeqAt
def zF (w u:Int×Int):Prop:=w.1≠u.1/\w.1≠u.2/\w.2≠u.1/\w.2≠u.2
theorem zF.symm {w u:Int×Int} (h:zF w u):zF u w:=⟨bF h.1,bF h.2.2.1,bF h.2.1,bF h.2.2.2⟩
def First (ws:aP) (i:Nat) (w:Int×Int):Prop:=ws[i]?=some w/\∀ j u,j<i->ws[j]?=some u->zF w u
def gJ (ws:aP) (d:aF):aP:=((ws.zip d).filter λp=>decide (p.2=1)).map (·.1)
theorem acI {w:Int×Int} (h:ws[i]?=some w):bT ws i=w:=by simp [bT,getD,h]
theorem abm (ok:bJ aj ws) {w:Int×Int} (hw:ws[i]?=some w) (hd:(cj aj ws).2.getD i 0=1):First ws i w:=by
 have k:=acB ok;have m:i<ws.length:=(dY.mp hw).1;obtain ⟨v,e,l⟩:=k.2 i m;have p:v=0:=by lk
 subst p;refine ⟨hw,λj u n o=>?_⟩;obtain ⟨t,q,g⟩:=k.2 j (by lk);have r:=g.1;have nm:¬ Gu (bT ws j) (bT ws i)=true:=λz=>by have:=l.2.1 _ ⟨j,n,z,rfl⟩;lk
 rw [acI hw,acI o] at nm;unfold Gu at nm;simp only [JF,Fj,not_or] at nm;obtain ⟨⟨a,b⟩,c,d⟩:=nm;exact ⟨bF a,bF c,bF b,bF d⟩
theorem aag (ok:bJ aj ws) {w:Int×Int} (h:w∈gJ ws (cj aj ws).2):∃ i,First ws i w:=by unfold gJ at h;obtain ⟨p,b,rfl⟩:=fV.mp h;obtain ⟨a,h1⟩:=CG.mp b;obtain ⟨i,hi⟩:=List.mem_iff_getElem?.mp a;rw [Rv] at hi;exact ⟨i,abm ok hi.1 (by simpa [getD,hi.2] using h1)⟩
theorem alx (P:Int×Int->Int->Prop) (hP:∀ (i j:Nat) (w u:Int×Int) (x y:Int),i<j->ws[i]?=some w->ws[j]?=some u->d[i]?=some x->d[j]?=some y->x=1->y=1->zF w u) : ((ws.zip d).filter λp=>decide (p.2=1)).Pairwise λa b=>zF a.1 b.1:=by rw [List.pairwise_filter,abU];intro i j hi n c a b;have o:(ws.zip d)[i]?=some (ws.zip d)[i]:=Fo hi;have k:(ws.zip d)[j]?=some (ws.zip d)[j]:=Fo n;obtain ⟨g,e⟩:=Rv.mp o;obtain ⟨m,l⟩:=Rv.mp k;exact hP i j _ _ _ _ c g m e l (by simpa using a) (by simpa using b)
theorem Zk (ok:bJ aj ws):(gJ ws (cj aj ws).2).Pairwise zF:=by unfold gJ;rw [List.pairwise_map];refine alx (λ_ _=>True) λi j w u x y a e b g c ex d=>?_;have f:=abm ok b (by simp [getD,c,d]);exact (f.2 i w a e).symm
def Jl (aj:Int) (ws:aP):aF:=(gJ ws (cj aj ws).2).map (·.2)
def Ey (aj:Int) (ws:aP):List aF:=(range aj.toNat).map λl:Nat=>if (l:Int)∈Jl aj ws then [0] else (range (2 ^ dX aj ws)).map λk:Nat=>(k:Int)
theorem af_ (aj:Int) (ws:aP):(Ey aj ws).length=aj.toNat:=by simp [Ey]
end
variable {i1 i2:Addr}
section
open PySem.Spec PyProof.Rows
section
structure ZT (h:Heap) (TI i1 i2 t l:Addr) (k:Nat) (xs ys:g_):Prop where
 pr:IsPair h TI (.ref i1) (.ref i2)
 g1:h.IsTupleIter i1 t k
 g2:h.IsListIter i2 l k
 gt:h.IsTuple t xs
 gl:h.IsList l ys
theorem acJ {xs:g_} (g:h.IsTuple a xs) (k:ExtBut b h h') (n:a≠b):h'.IsTuple a xs:=let ⟨o,e,r⟩:=g;⟨o,k a o n e,r⟩
theorem ahC {z TI TO t:Addr} {k:Nat} {xs:g_} {x y v:Value} (D:ZipApart z TI TO i1 i2 t l) (gz:IsZip s.heap z TI TO .none) (gO:IsPair s.heap TO u v) (Z:ZT s.heap TI i1 i2 t l k xs ys) (gx:xs[k]?=some x) (gy:ys[k]?=some y) (q:∀ h',IsZip h' z TI TO (rawInt s.heap.objs.size)->IsPair h' TO x y->h'.IsTupleIter i1 t (k+1)->h'.IsListIter i2 l (k+1)->IsPair h' s.heap.objs.size x y ->(∀ c o,c≠z->c≠TO->c≠i1->c≠i2->s.heap.get? c=some o->h'.get? c=some o)->Q (.ref s.heap.objs.size) { s with heap:=h' }) : wpAny (model P w) A (Builtin.«zip.__next__» ⟨[.ref z],[]⟩) (λcU s'=>∃ r,cU=.done (.ret r)/\Q r s') E s:=by
 obtain ⟨gI,g1,g2,gt,gl⟩:=Z;have free:wpAny (model P w) A (ownedTupleIsFree (.ref z)) (λb s'=>b=true/\s'=s) E s:=by unfold ownedTupleIsFree;exact bf (qC gz rfl (x:=.none) rfl (cY ⟨rfl,rfl⟩))
 refine show wpAny _ _ (field (.ref z) 2 >>= _) _ _ _ from bf (qC gz rfl (x:=.bool false) rfl (show wpAny _ _ (field (.ref z) 3 >>= _) _ _ _ from bf (qC gz rfl (x:=.ref TI) rfl (bf (rN gI rfl (show wpAny _ _ (ownedTupleIsFree (.ref z) >>= _) _ _ _ from bf (lE free (λb s' e=>?_) λ_ _ e=>e)))))));obtain ⟨rfl,rfl⟩:=e;simp only [tX];refine bf (JC (bf (qC gz rfl (x:=.ref TO) rfl (bf (BR gz (by simp) λha ga d=>?_)))));have za:IsZip ha z TI TO .ellipsis:=ga;refine bf ?_;simp only [List.zipIdx_cons,List.zipIdx_nil,Bv,List.forIn_nil];refine bf (bf (JX (show wpAny _ _ (nextOf (.ref i1) >>= _) _ _ _ from bf (QD (g1.extBut d.extBut D.i1z) (acJ gt d.extBut D.l1z) gx λhb S i=>cY ?_))));have Ob:IsPair hb TO u v:=i.extBut _ _ D.TOi1 (d.extBut _ _ D.TOz gO);refine bf (rN Ob rfl (bf (Rw Ob λhc V g=>?_)));have Oc:IsPair hc TO x v:=V;have Vt:=((g2.extBut d.extBut D.i2z).extBut i.extBut (bF D.i12)).extBut g.extBut (bF D.TOi2);have Vu:=((gl.extBut d.extBut D.l2z).extBut i.extBut D.l2i1).extBut g.extBut D.l2TO;refine bf (yS (cY (bf (bf (JX (show wpAny _ _ (nextOf (.ref i2) >>= _) _ _ _ from bf (wpAny_nextOf_list_item Vt Vu gy λhd U p=>cY ?_)))))));have Od:IsPair hd TO x v:=p.extBut _ _ D.TOi2 Oc;refine bf (rN Od rfl (bf (Rw Od λa L j=>?_)));have Oe:IsPair a TO x y:=L;refine bf (yS (cY (cY (bf (rN Oe rfl (bf (wpAny_newTuple ?_)))))));have size:a.objs.size=s'.heap.objs.size:=by rw [j.1,p.1,g.1,i.1,d.1]
 have Y:IsZip a z TI TO .ellipsis:=j.extBut _ _ (bF D.TOz) (p.extBut _ _ (bF D.i2z) (g.extBut _ _ (bF D.TOz) (i.extBut _ _ (bF D.i1z) za)));have ke:∀ c o,c≠z->c≠TO->c≠i1->c≠i2->s'.heap.get? c=some o->a.get? c=some o:=λc o B C J N e=>j.extBut _ _ C (p.extBut _ _ N (g.extBut _ _ C (i.extBut _ _ J (d.extBut _ _ B e))));have I:a.IsTupleIter i1 t (k+1):=((S.extBut g.extBut (bF D.TOi1)).extBut p.extBut D.i12).extBut j.extBut (bF D.TOi1);have O:a.IsListIter i2 l (k+1):=U.extBut j.extBut (bF D.TOi2);have m:z<a.objs.size:=cF Y;refine show wpAny _ _ (ownedTupleHandOut (.ref z) (.ref a.objs.size) >>= _) _ _ _ from bf ?_;unfold ownedTupleHandOut;have zf:IsZip (a.push { cls:=.type "tuple",data:=.seq #[x,y] }) z TI TO .ellipsis:=dF _ Y;refine bf (BR zf (by simp) λhg R sg=>?_);have zg:IsZip hg z TI TO (rawInt a.objs.size):=R;refine BR zg (by simp) λhi M W=>?_;have zi:IsZip hi z TI TO (rawInt a.objs.size):=M;have up:∀ c o,c≠z->a.get? c=some o->hi.get? c=some o:=λc o n e=>W.extBut _ _ n (sg.extBut _ _ n (dF _ e));have Ti:IsPair hi a.objs.size x y:=W.extBut _ _ (vB m) (sg.extBut _ _ (vB m) (fQ _ rfl));rw [size] at zi Ti;refine cY ⟨_,rfl,show Q (.ref a.objs.size) _ from ?_⟩;rw [size];exact q hi zi (up _ _ D.TOz Oe) (I.at λo e=>up _ o D.i1z e) (O.at λo e=>up _ o D.i2z e) Ti λc o B C J N e=>up c o B (ke c o B C J N e)
theorem ajb {z TI TO t:Addr} {k:Nat} {xs:g_} {v:Value} {Q:Fin->Shared->Prop} (hh:A.handled=none) (D:ZipApart z TI TO i1 i2 t l) (gz:IsZip s.heap z TI TO .none) (gO:IsPair s.heap TO u v) (Z:ZT s.heap TI i1 i2 t l k xs ys) (no:xs[k]?=none\/ys[k]?=none) (q:∀ h' e,(∀ c o,c≠z->c≠TO->c≠i1->c≠i2->s.heap.get? c=some o->h'.get? c=some o)->(∃ o,h'.get? e=some o/\o.cls=.type "StopIteration")->E (.ref e) { s with heap:=h' }) : wpAny (model P w) A (Builtin.«zip.__next__» ⟨[.ref z],[]⟩) Q E s:=by
 obtain ⟨gI,Y,g2,gt,gl⟩:=Z;have free:wpAny (model P w) A (ownedTupleIsFree (.ref z)) (λb s'=>b=true/\s'=s) E s:=by unfold ownedTupleIsFree;exact bf (qC gz rfl (x:=.none) rfl (cY ⟨rfl,rfl⟩))
 refine show wpAny _ _ (field (.ref z) 2 >>= _) _ _ _ from bf (qC gz rfl (x:=.bool false) rfl (show wpAny _ _ (field (.ref z) 3 >>= _) _ _ _ from bf (qC gz rfl (x:=.ref TI) rfl (bf (rN gI rfl (show wpAny _ _ (ownedTupleIsFree (.ref z) >>= _) _ _ _ from bf (lE free (λb s' e=>?_) λ_ _ e=>e)))))));obtain ⟨rfl,rfl⟩:=e;simp only [tX];refine bf (JC (bf (qC gz rfl (x:=.ref TO) rfl (bf (BR gz (by simp) λha ga j=>?_)))));have W:IsZip ha z TI TO .ellipsis:=ga;have a:∀ {h:Heap} {e:Addr},IsZip h z TI TO .ellipsis->(∃ o,h.get? e=some o/\o.cls=.type "StopIteration")->e≠z:=λg ⟨o,m,B⟩ n=>by rw [n,g] at m;cases m;simp at B
 refine bf ?_;simp only [List.zipIdx_cons,List.zipIdx_nil,Bv,List.forIn_nil];refine bf (bf (JX (show wpAny _ _ (nextOf (.ref i1) >>= _) _ _ _ from ?_)));have y:=Y.extBut j.extBut D.i1z;have p:=acJ gt j.extBut D.l1z;cases L:xs[k]? with
 |none =>refine bf (Zh hh y p L λM e d st=>?_);have N:IsZip M z TI TO .ellipsis:=d _ _ (bF D.i1z) W;have J:=a N st;obtain ⟨I,m,B⟩:=st;exact BR N (by simp) λS _ i=>q S e (λc o r _ C _ g=>i.extBut _ _ r (d _ _ C (j.extBut _ _ r g))) ⟨I,i.extBut _ _ J m,B⟩
 |some x =>have gy:ys[k]?=none:=no.elim (λh=>by rw [L] at h;cases h) id;refine bf (QD y p L λM g1b d=>cY ?_);have R:IsPair M TO u v:=d.extBut _ _ D.TOi1 (j.extBut _ _ D.TOz gO);refine bf (rN R rfl (bf (Rw R λS gOc i=>?_)));have Vt:=((g2.extBut j.extBut D.i2z).extBut d.extBut (bF D.i12)).extBut i.extBut (bF D.TOi2);have Vu:=((gl.extBut j.extBut D.l2z).extBut d.extBut D.l2i1).extBut i.extBut D.l2TO;refine bf (yS (cY (bf (bf (JX (show wpAny _ _ (nextOf (.ref i2) >>= _) _ _ _ from bf (wpAny_nextOf_list_end hh Vt Vu gy λhd e V st=>?_)))))));have U:IsZip hd z TI TO .ellipsis:=V _ _ (bF D.i2z) (i.extBut _ _ (bF D.TOz) (d.extBut _ _ (bF D.i1z) W));have J:=a U st;obtain ⟨I,m,B⟩:=st;exact BR U (by simp) λhe _ O=>q he e (λc o r n2 C n4 g=>O.extBut _ _ r (V _ _ n4 (i.extBut _ _ n2 (d.extBut _ _ C (j.extBut _ _ r g))))) ⟨I,O.extBut _ _ J m,B⟩
theorem ahD {z TI TO t:Addr} {k:Nat} {xs:g_} {x y v:Value} {Q:sH->Shared->Prop} (D:ZipApart z TI TO i1 i2 t l) (gz:IsZip s.heap z TI TO .none) (gO:IsPair s.heap TO u v) (Z:ZT s.heap TI i1 i2 t l k xs ys) (gx:xs[k]?=some x) (gy:ys[k]?=some y) (q:∀ h',IsZip h' z TI TO (rawInt s.heap.objs.size)->IsPair h' TO x y->h'.IsTupleIter i1 t (k+1)->h'.IsListIter i2 l (k+1)->IsPair h' s.heap.objs.size x y ->(∀ c o,c≠z->c≠TO->c≠i1->c≠i2->s.heap.get? c=some o->h'.get? c=some o)->Q (some (.ref s.heap.objs.size)) { s with heap:=h' }):wpAny (model P w) A (pyNext (.ref z)) Q E s:=by have ty:s.TypeIs (.ref z) "zip":=⟨_,gz,rfl⟩;unfold pyNext;refine bf (wpAny_attempt (JG (name:=ofString "__next__") ty JZ (JK JZ ty F.entry_zip_next ?_ (F.args_zip_next_1 _))));exact ahC D gz gO Z gx gy λh' b a d g e i=>cY (q h' b a d g e i)
theorem aft {z TI TO t:Addr} {k:Nat} {xs:g_} {v:Value} {Q:sH->Shared->Prop} (hh:A.handled=none) (D:ZipApart z TI TO i1 i2 t l) (gz:IsZip s.heap z TI TO .none) (gO:IsPair s.heap TO u v) (Z:ZT s.heap TI i1 i2 t l k xs ys) (no:xs[k]?=none\/ys[k]?=none) (q:∀ h',(∀ c o,c≠z->c≠TO->c≠i1->c≠i2->s.heap.get? c=some o->h'.get? c=some o)->Q none { s with heap:=h' }):wpAny (model P w) A (pyNext (.ref z)) Q E s:=by have ty:s.TypeIs (.ref z) "zip":=⟨_,gz,rfl⟩;unfold pyNext;refine bf (wpAny_attempt (JG (name:=ofString "__next__") ty JZ (JK JZ ty F.entry_zip_next ?_ (F.args_zip_next_1 _))));exact ajb hh D gz gO Z no λh' e kk ⟨o,a,d⟩=>bf (wpAny_isInstance (T:="StopIteration") (b:=true) ⟨o,a,d⟩ isSubtype_stop (cY (q _ kk)))
abbrev G_ (h:Heap) (t:Addr):Heap:=h.push { cls:=.type "tuple_iterator",data:=.fields #[.ref t,.int 0 0] }
abbrev M5 (h:Heap) (t l:Addr):Heap:=(G_ h t).push { cls:=.type "list_iterator",data:=.fields #[.ref l,.int 0 0] }
abbrev M6 (h:Heap) (t l:Addr):Heap:=(M5 h t l).push { cls:=.type "tuple",data:=.seq #[.ref h.objs.size,.ref (G_ h t).objs.size] }
abbrev M7 (h:Heap) (t l:Addr):Heap:=(M6 h t l).push { cls:=.type "tuple",data:=.seq #[.none,.none] }
abbrev Ai (h:Heap) (t l:Addr):Heap:=(M7 h t l).push { cls:=.type "zip",data:=.fields #[.none,.bool false,.bool false,.ref (M5 h t l).objs.size,.ref (M6 h t l).objs.size] }
theorem ajc (t l:Addr) (xs ys:g_):Meets (Builtin.«zip.__new__» ⟨[.type "zip",.ref t,.ref l],[]⟩) (λ_ R s=>s.heap.IsTuple t xs/\s.heap.IsList l ys/\R (.ok (.ret (.ref (M7 s.heap t l).objs.size))) { s with heap:=Ai s.heap t l }):=.of_wp λprog w A R s h=>by
  obtain ⟨e,g,d,b,c⟩:=s;obtain ⟨i,j,q⟩:=h;have a:=sub_zip;have k:IsTuple (Shared.heap ⟨e,g,d,b,c⟩) t xs:=i;have m:IsList (Shared.heap ⟨G_ e t,g,d,b,c⟩) l ys:=IsList.push j _
  wp_walk using KZ k,FW m
  exact ⟨_,rfl,q⟩
theorem ahE {t:Addr} {xs:g_} (gt:s.heap.IsTuple t xs) (gl:s.heap.IsList l ys) (q:∀ h',IsZip h' (s.heap.objs.size+4) (s.heap.objs.size+2) (s.heap.objs.size+3) .none->ZT h' (s.heap.objs.size+2) s.heap.objs.size (s.heap.objs.size+1) t l 0 xs ys->IsPair h' (s.heap.objs.size+3) .none .none ->(∀ c o,s.heap.get? c=some o->h'.get? c=some o)->Q (.ref (s.heap.objs.size+4)) { s with heap:=h' }):wpAny (model P w) A (call (.type "zip") [.ref t,.ref l]) Q E s:=by
 refine callType_new F.called_zip (by decide) (F.typeCall_zip_2 _ _) (F.newCall_zip_2 _ _) (λx=>F.args_object_init_3 x _ _) F.entry_zip_new (ajc t l xs ys) ⟨gt,gl,?_⟩;have d:(G_ s.heap t).objs.size=s.heap.objs.size+1:=pO ..;have g:(M5 s.heap t l).objs.size=s.heap.objs.size+2:=by rw [pO,d]
 have b:(M6 s.heap t l).objs.size=s.heap.objs.size+3:=by rw [pO,g]
 have m:(M7 s.heap t l).objs.size=s.heap.objs.size+4:=by rw [pO,b]
 have a:∀ {h:Heap} {c:Addr} {o:Obj} (o':Obj),h.get? c=some o->(h.push o').get? c=some o:=λo' e=>dF o' e;have i:(Ai s.heap t l).get? (M7 s.heap t l).objs.size=some _:=fQ _ rfl;have j:(Ai s.heap t l).get? (M6 s.heap t l).objs.size=some _:=a _ (fQ _ rfl);have n:(Ai s.heap t l).get? (M5 s.heap t l).objs.size=some _:=a _ (a _ (fQ _ rfl));have k:(Ai s.heap t l).get? (G_ s.heap t).objs.size=some _:=a _ (a _ (a _ (fQ _ rfl)));have z:(Ai s.heap t l).get? s.heap.objs.size=some _:=a _ (a _ (a _ (a _ (fQ _ rfl))));have kk:∀ c o,s.heap.get? c=some o->(Ai s.heap t l).get? c=some o:=λc o e=>a _ (a _ (a _ (a _ (a _ e))));obtain ⟨u,p,B⟩:=gt;obtain ⟨r,y,v⟩:=gl;rw [g,b,m] at i;rw [b] at j;rw [d,g] at n;rw [d] at k;refine show _/\_ from ?_;rw [m];exact ⟨⟨_,i,rfl⟩,q _ i ⟨n,⟨_,z,rfl,rfl⟩,⟨_,k,rfl,rfl⟩,⟨u,kk _ _ p,B⟩,⟨r,kk _ _ y,v⟩⟩ j kk⟩
end
section
variable {elts:List Expr} {kk:Nat} {ps:Pos}
def ztS (z TI TO i1 i2 a1 a2:Addr) (i:Nat) (h:Heap):Prop:=IsZip h z TI TO .none/\IsPair h TI (.ref i1) (.ref i2)/\(∃ a b,IsPair h TO a b)/\h.IsTupleIter i1 a1 i/\h.IsListIter i2 a2 i
theorem ahF (a1 a2 z TI TO i1 i2:Addr) (D:ZipApart z TI TO i1 i2 a1 a2):uq P w K (.Tuple elts kk ps) (ql (λH xs=>gF K H a1 xs) (λH xs=>dH K H a2 xs)) [z,TI,TO,i1,i2] z (ztS z TI TO i1 i2 a1 a2) where
 mem:=by simp
 obj:=λi h st b d=>by
  obtain ⟨j,a,⟨u,v,c⟩,⟨o1,e1,c1,d1⟩,⟨o2,e2,c2,d2⟩⟩:=st;have q:b=z\/b=TI\/b=TO\/b=i1\/b=i2:=by simpa using d
  rcases q with rfl|rfl|rfl|rfl|rfl
  ·exact ⟨_,j,λv q=>by have C:Data.fields _=Data.cell v:=q;cases C⟩
  ·exact ⟨_,a,λv q=>by have C:Data.seq _ _=Data.cell v:=q;cases C⟩
  ·exact ⟨_,c,λv q=>by have C:Data.seq _ _=Data.cell v:=q;cases C⟩
  ·exact ⟨o1,e1,λv q=>by rw [d1] at q;cases q⟩
  ·exact ⟨o2,e2,λv q=>by rw [d2] at q;cases q⟩
 keep:=λi h h' st k=>by obtain ⟨j,a,⟨u,v,c⟩,h1,h2⟩:=st;exact ⟨k z (by simp) _ j,k TI (by simp) _ a,⟨u,v,k TO (by simp) _ c⟩,h1.at λo e=>k i1 (by simp) o e,h2.at λo e=>k i2 (by simp) o e⟩
 item:=by
  intro X S hw hK hc i ak s σ H E I N st R;subst S hw hK;obtain ⟨j,a,⟨u0,v0,c⟩,h1,h2⟩:=st;obtain ⟨xs,x,ys,y,L,hr,M,hy⟩:=R;obtain ⟨aJ,U,p,_⟩:=I.tuple L;obtain ⟨B,Y,V,_⟩:=I.list hr;obtain ⟨u,hu,ru⟩:=U.get M;obtain ⟨v,hv,Vp⟩:=Y.get hy;refine ahD D j c ⟨a,h1,h2,p,V.isList⟩ (x:=u) (y:=v) (by simpa using hu) (by simpa using hv) λh' b1 b2 b3 b4 b5 O=>⟨_,rfl,wpAny_letOwnedTupleGo_zip b1 λl W t=>?_⟩;have eT:z<s.heap.objs.size:=cF j;have k2:∀ b o,b∉[z,TO,i1,i2]->s.heap.get? b=some o->l.get? b=some o:=λb o n q=>by
   have g:b≠z/\b≠TO/\b≠i1/\b≠i2:=by simpa using n
   exact t.extBut b o g.1 (O b o g.1 g.2.1 g.2.2.1 g.2.2.2 q)
  have new:dZ X.prog X.w (upd H s.heap.objs.size (.tup [x,y])) l s.heap.objs.size (.tup [x,y]):=⟨by show 2<=sizeLine;rw [vC];decide,[u,v],.cons ru (.cons Vp .nil),_,t.extBut _ _ (vB eT) b5,rfl,_,rfl,rfl⟩;have m:∀ b∈[z,TO,i1,i2],b∈[z,TI,TO,i1,i2]:=λb d=>by simp at d ⊢;rcases d with e|e|e|e<;>simp [e]
  have I2:aD X ak σ (upd H s.heap.objs.size (.tup [x,y])) { s with heap:=l,toks:=s.toks }:=aD.acE I k2 (λb d=>N b (m b d)) new;refine ⟨.ref s.heap.objs.size,_,I2,rfl,⟨s.heap.objs.size,x,y,I.hok.fresh (bI _),rfl,rfl,(λzs r=>by rw [I.PN r L];exact M),λzs r=>by rw [I.Es r hr];exact hy⟩,⟨W,?_,⟨u,v,?_⟩,?_,?_⟩,λb d=>?_⟩
  ·exact t.extBut _ _ D.TIz (O _ _ D.TIz D.TITO D.TIi1 D.TIi2 a)
  ·exact t.extBut _ _ D.TOz b2
  ·exact b3.extBut t.extBut D.i1z
  ·exact b4.extBut t.extBut D.i2z
  ·have bl:b<s.heap.objs.size:=by
    have q:b=z\/b=TI\/b=TO\/b=i1\/b=i2:=by simpa using d
    rcases q with rfl|rfl|rfl|rfl|rfl
    ·exact eT
    ·exact cF a
    ·exact cF c
    ·obtain ⟨_,q,_⟩:=h1;exact cF q
    ·obtain ⟨_,q,_⟩:=h2;exact cF q
   rw [aV (fO bl)];exact (N b d).1
 done:=by
  intro X S hw hK hc i ak s σ H E I N st R;subst S hw hK;obtain ⟨j,a,⟨u0,v0,c⟩,h1,h2⟩:=st;obtain ⟨xs,ys,L,hr,M⟩:=R;obtain ⟨aJ,U,p,_⟩:=I.tuple L;obtain ⟨B,Y,V,_⟩:=I.list hr;have l1:=U.length;have l2:=Y.length;have J:aJ.toArray[i]?=none\/B.toArray[i]?=none:=by
   rcases M with q|q
   ·exact .inl (by rw [JM,BJ] at *;lk)
   ·exact .inr (by rw [JM,BJ] at *;lk)
  have m:∀ b∈[z,TO,i1,i2],b∈[z,TI,TO,i1,i2]:=λb d=>by simp at d ⊢;rcases d with e|e|e|e<;>simp [e]
  refine aft (I.ok.hd hc) D j c ⟨a,h1,h2,p,V.isList⟩ J λh' O=>⟨rfl,?_⟩;exact aD.acD (t':=s.toks) (ch:=[z,TO,i1,i2]) I (λb o n q=>by
   have g:b≠z/\b≠TO/\b≠i1/\b≠i2:=by simpa using n
   exact O b o g.1 g.2.1 g.2.2.1 g.2.2.2 q) λb d=>N b (m b d)
 self:=λ_ _ _ _ _ st h=>JN st.1 h
def apl (K:bG) (ta:TA):TI:=λσ H R=>ta σ H λvs H1=>∃ a b,vs=[.ref a,.ref b]/\(∃ xs,gF K H1 a xs)/\(∃ ys,dH K H1 b ys)/\R (ql (λH xs=>gF K H a xs) (λH xs=>dH K H b xs)) H1
theorem QH {l r:Expr} {p:Pos} (hg:Gl X "zip") (hm:X.mg "zip"=none) (ha:PA X [l,r] ta) (hs:starEach [l,r] X.env=(false,eval l X.env)::starEach [r] X.env:=by rfl) (hpl:(backTo pos (starEach [r] X.env)).any (·.1)=false:=by rfl) : PI X (.Tuple elts kk ps) (.Call (.Name "zip" p) [l,r] [] pos) (apl X.K ta):=by
 intro ak s σ H R I h;refine Call_ (qM I hg hm boot_zip (xR (bA (ha pos ak s σ H _ I h) λus d ⟨vs,H1,g,B,y⟩=>?_) hs hpl));obtain ⟨a,b,e,⟨xs,t⟩,⟨ys,hr⟩,q⟩:=y;subst e;obtain ⟨u,v,rfl,L,x⟩:=bO.two B;cases L;cases x;obtain ⟨aJ,_,k,_⟩:=g.tuple t;obtain ⟨D,_,m,_⟩:=g.list hr;have la:a<d.heap.objs.size:=by obtain ⟨o,e,_⟩:=k;exact cF e
 have M:b<d.heap.objs.size:=by obtain ⟨o,n,e,_⟩:=m;exact cF e
 refine ahE k m.isList λh' j Z J kk=>JN (by simpa using j) ?_;have z:ZipApart (d.heap.objs.size+4) (d.heap.objs.size+2) (d.heap.objs.size+3) d.heap.objs.size (d.heap.objs.size+1) a b:=by generalize d.heap.objs.size=n at la M;constructor<;>exact λq=>by simp only [Addr] at *;lk
 refine ⟨d.heap.objs.size+4,[d.heap.objs.size+4,d.heap.objs.size+2,d.heap.objs.size+3,d.heap.objs.size,d.heap.objs.size+1],_,_,H1,rfl,g.kept (t':=d.toks) kk,ahF a b _ _ _ _ _ z,⟨j,Z.pr,⟨_,_,J⟩,Z.g1,Z.g2⟩,λc C=>?_,q⟩;have i:d.heap.objs.size<=c:=by
  have q:c=d.heap.objs.size+4\/c=d.heap.objs.size+2\/c=d.heap.objs.size+3\/c=d.heap.objs.size\/c=d.heap.objs.size+1:=by simpa using C
  rcases q with rfl|rfl|rfl|rfl|rfl
  ·exact vm _ _
  ·exact vm _ _
  ·exact vm _ _
  ·exact bI _
  ·exact vm _ _
 exact g.sW i (g.hok.fresh i)
end
inductive agL (K:bG) (xs:aA) (H:Hp) (Q:VK):Prop
 |mk (i j:Int) (h1:xs=[.int i,.int j]) (h2:∀ r,H r=none->Q (.ref r) (upd H r (.rng i j)))
theorem ajd:jz X (.type "range") (agL X.K):=by rintro ak s σ H xs us Q I r ⟨i,j,rfl,q⟩;obtain ⟨u,v,rfl,⟨t,rfl⟩,⟨t',rfl⟩⟩:=Kq r;refine call_range_2 ⟨.ref s.heap.objs.size,_,I.laid (t':=s.toks+1) (o:=.rng i j) (λb o e=>dF _ e) (bI _) ⟨_,_,_,fQ _ rfl⟩,rfl,q _ (I.hok.fresh (bI _))⟩
inductive agM (K:bG) (xs:aA) (H:Hp) (Q:VK):Prop
 |mk (j:Int) (h1:xs=[.int j]) (h2:∀ r,H r=none->Q (.ref r) (upd H r (.rng 0 j)))
theorem Ql:jz X (.type "range") (agM X.K):=by rintro ak s σ H xs us Q I r ⟨j,rfl,q⟩;obtain ⟨u,rfl,⟨t,rfl⟩⟩:=qH r;refine call_range_1 ⟨.ref s.heap.objs.size,_,I.laid (t':=s.toks+1+1) (o:=.rng 0 j) (λb o e=>dF _ e) (bI _) ⟨_,_,_,fQ _ rfl⟩,rfl,q _ (I.hok.fresh (bI _))⟩
theorem Qm (i:Int):∀ (l:bV) (k:Nat),(∀ (j:Nat) (v:Value),l[j]?=some v->∃ t,v=.int (i+((k+j:Nat):Int)) t)->bO ((range' k l.length).map λm:Nat=>V.int (i+(m:Int))) l
 |[],_,_=>.nil
 |v::r,k,h=>by
  rw [gw,List.range'_succ,gb];refine .cons ?_ (Qm i r (k+1) λj u e=>?_)
  ·obtain ⟨t,e⟩:=h 0 v rfl;exact ⟨t,e⟩
  ·obtain ⟨t,a⟩:=h (j+1) u (by simpa using e);exact ⟨t,by rw [a];congr 3;lk⟩
def mz (i j:Int):aF:=(range (j-i).toNat).map λk:Nat=>i+(k:Int)
inductive afu (K:bG) (xs:aA) (H:Hp) (Q:VK):Prop
 |mk (r:Addr) (i j:Int) (h1:xs=[.ref r]) (h2:H r=some (.rng i j)) (h3:-(2 ^ 62)<=i) (h4:i<2 ^ 62) (h5:-(2 ^ 62)<=j) (h6:j<2 ^ 62) (h7:(j-i).toNat<=50000) (h8:∀ l,H l=none->Q (.ref l) (upd H l (.lst ((mz i j).map V.int))))
theorem Zm (hc:X.calm=true):jz X (.type "list") (afu X.K):=by
 rintro ak s σ H xs us Q I r ⟨p,i,j,rfl,y,i1,i2,B,n,N,q⟩;obtain ⟨u,rfl,L⟩:=qH r;cases L;obtain ⟨t,M,v,e⟩:=(show dZ X.prog X.w H s.heap p (.rng i j) from I.hok p _ y);have l:rangeSize i j 1=((j-i).toNat:Nat):=by rw [rangeSize_one];split<;>lk
 refine call_list_range (I.ok.hd hc) e (small_one i1 i2 B n) l (by lk) λh' D b g m d ⟨C,J⟩=>?_;have a:bO ((mz i j).map V.int) b.toList:=by
  have z:=Qm i b.toList 0 λk v e=>by obtain ⟨t,x⟩:=J k v (by simpa using e);exact ⟨t,by rw [x,S8,oM]⟩
  have c:b.toList.length=(j-i).toNat:=by rw [xQ,C]
  rw [c,<-abV] at z;unfold mz;rw [xq];exact z
 refine ⟨.ref s.heap.objs.size,_,I.laid (t':=D) (o:=.lst ((mz i j).map V.int)) m (bI _) ⟨?_,b.toList,g,a,?_⟩,rfl,q _ (I.hok.fresh (bI _))⟩
 ·simp only [mz,bh,BW];exact aW (by lk)
 ·rw [JW];exact d
theorem Cp {i:Int} (hg:Gl X x) (h:∃ t,X.mg x=some (.int i t)) (hd:(x == ("__debug__":Str))=false:=by decide):PE X (.Name x pos) (tC (.int i)):=by obtain ⟨t,h⟩:=h;exact Ce hg h ⟨t,rfl⟩ hd
structure ad5 (P:Program) (w:World) (K:bG) (mg:dR) (au:Heap) (f:Addr) (k:Nat) (ps:bK) (sp:Sp):Prop where
 ex:∃ fd:FuncData,dw P w K mg au (lU P w) k f fd ps sp/\mK K fd ps []/\keepIn K (.ref f)=true
theorem Io:bootBuiltins "range"=some (.type "range"):=by k_go
theorem Li {w1 w2:TI} (h1:PI X tg e w1) (h2:PI X tg e w2):PI X tg e (λσ H R=>w1 σ H R\/w2 σ H R):=λak s σ H R I h=>h.elim (h1 ak s σ H R I) (h2 ak s σ H R I)
end
section
open PySem.SeqAt
inductive Out where
 |net (aj:Int) (ws:aP)|none|many
def FJ (a:Int) (us:aP) (b:Int) (vs:aP):Out:=if a≠b then .none else if 40<us.length+vs.length then .many else .net a (us++vs)
structure Dw where
 net:Addr
 pY:Addr
 asM:Addr
 asw:Addr
 many:Addr
 asN:Addr
 asW:Addr
 asO:Addr
inductive aje (a:Dw) (vs:aA) (H:Hp) (Q:VK) (E:XK):Prop
 |mk (aj:Int) (t:Addr) (rs:aA) (ws:aP) (h1:vs=[.int aj,.ref t]) (h2:H t=some (.tup rs)) (h3:dM H rs ws) (h4:ws.length<=1000) (h5:((40<ws.length/\E (.ref a.many) none H)\/(ws.length<=40/\∀ (v':V) (H':Hp),aB H H'->eV H' v' aj ws->Q v' H')))
def aly (a:Dw):Sp:=λvs H Q E=>aje a vs H Q E
def adE (a:Dw) (g:Int->aP->Int->aP->Out):Sp:=λvs H Q E=>∃ (d i:V) (c b:Int) (us ws:aP),vs=[d,i]/\eV H d c us/\eV H i b ws/\1<=c/\c<=8/\1<=b/\b<=8/\bJ c us/\bJ b ws/\us.length<=100/\ws.length<=100 /\
 match g c us b ws with
 |.none=>∀ H',aB H H'->E (.ref a.pY) none H'
 |.many=>∀ H',aB H H'->E (.ref a.many) none H'
 |.net w us'=>∀ (e:V) (H':Hp),aB H H'->eV H' e w us'->Q e H'
end
section
open PySem.Spec PyProof.Rows
end
section
open PySem.Spec PyProof.Rows PyProof.V PySem.SeqAt
section
theorem eG.anA {k:Nat} (r:eG k A):A.units+65<cLine:=by have:=r.un;lk
def arx:R2:=λx y H Q=>∃ dx ds,o_ H x dx/\o_ H y (.list ds)/\shaped dx=true/\shaped (PyData.list ds)=true/\(∀ d∈ds,noMix d dx=true)/\Q (.bl (decide (countIn dx ds≠0))) H
theorem apm (hu:X.A.units+65<cLine):dO X (compareOp .In) arx:=by rintro ak s σ H x y v u Q I i j ⟨dx,ds,e,a,b,d,nm,q⟩;obtain ⟨k,g⟩:=e.reads I v i;obtain ⟨bs,c⟩:=a.reads I u j;exact in_list_dataH c g d b hu nm ⟨.bl _,H,I,rfl,q⟩
end
end
section
open PySem.SeqAt PySem.Spec PyProof.Rows
theorem alz (a b:Int×Int):same (.tuple [.int a.1,.int a.2]) (.tuple [.int b.1,.int b.2])=decide (a=b):=ai5 a b
theorem Zn (x:PyData):∀ l:List PyData,0<=countIn x l
 |[]=>by simp [countIn]
 |y::r=>by have:=Zn x r;unfold countIn;split<;>lk
theorem O_ (w:Int×Int):∀ ws:aP,countIn (.tuple [.int w.1,.int w.2]) (ws.map λx=>PyData.tuple [.int x.1,.int x.2])≠0↔w∈ws
 |[]=>by simp [countIn]
 |u::r=>by
  have a:=O_ w r;have b:=Zn (.tuple [.int w.1,.int w.2]) (r.map λx=>PyData.tuple [.int x.1,.int x.2]);rw [gb,countIn,alz];by_cases c:u=w
  ·subst c;simp;lk
  ·rw [fW,aK (by simpa using c),<-a];constructor
   ·intro z;right;lk
   ·rintro (z|z)
    ·exact absurd z.symm c
    ·lk
theorem ahG (w:Int×Int):shaped (.tuple [.int w.1,.int w.2])=true:=by show (canLay0 _ && decide (PyData.depth _<=64))=true;simp [canLay0,canLayAll0,PyData.depth,depthAll]
theorem af' (ws:aP):shaped (.list (ws.map λx=>PyData.tuple [.int x.1,.int x.2]))=true:=by
 obtain ⟨a,b⟩:=aaJ ws;show (canLay0 _ && decide (PyData.depth _<=64))=true;rw [Bt];constructor
 ·simp only [canLay0,a]
 ·refine fM ?_;simp only [PyData.depth];lk
theorem anB (w:Int×Int) (ws:aP):∀ d∈ws.map (λx=>PyData.tuple [.int x.1,.int x.2]),noMix d (.tuple [.int w.1,.int w.2])=true:=λd a=>by obtain ⟨u,_,rfl⟩:=fV.mp a;simp [noMix,noMixAll]
def gY (a:Int) (us:aP) (b:Int) (ws:aP):aF:=((gJ us (cj a us).2).filter λw=>decide (w∈gJ ws (cj b ws).2)).map (·.2)
def nZ (a:Int) (us:aP) (b:Int) (ws:aP):Nat:=if dX b ws<dX a us then dX a us else dX b ws
def mC (n:Nat) (secs:aF) (d:Nat):List aF:=(range n).map λl:Nat=>if (l:Int)∈secs then [0] else (range (2 ^ d)).map λk:Nat=>(k:Int)
theorem Qn (a:Int) (us:aP):gY a us a us=Jl a us:=by unfold gY Jl;rw [List.filter_eq_self.mpr (λw b=>fM b)]
theorem Qo (a:Int) (us:aP):nZ a us a us=dX a us:=by unfold nZ;rw [aK (uf _)]
theorem alA (a:Int) (us:aP):mC a.toNat (gY a us a us) (nZ a us a us)=Ey a us:=by unfold mC Ey;rw [Qn,Qo]
theorem QJ:∀ (n:Nat) (l:gA),l.Nodup->(∀ x∈l,x<n)->l.length<=n
 |0,l,_,h=>by
  cases l with
  |nil=>exact bI _
  |cons a r=>exact absurd (h a (.head _)) (zm _)
 |n+1,l,nd,h=>by
  by_cases c:n∈l
  ·have e:=abW c;have:=QJ n (l.erase n) (nd.erase n) λx b=>by
    have h1:=h x (abX b);have h2:x≠n:=λz=>by subst z;exact absurd b (by rw [nd.mem_erase_iff];exact λq=>q.1 rfl)
    lk
   lk
  ·have:=QJ n l nd λx b=>by
    have h1:=h x b;have h2:x≠n:=λz=>by subst z;exact c b
    lk
   lk
theorem acK {a b:Int} {us:aP} (ok:bJ a us) (h1:1<=a):(gY a us b ws).length<a.toNat:=by
 have p:=Zk ok;have n:∀ w∈gJ us (cj a us).2,0<=w.1/\w.1<a/\0<=w.2/\w.2<a/\w.1≠w.2:=λw l=>by obtain ⟨i,f⟩:=aag ok l;exact ok w (eZ f.1)
 unfold gY;have g:=p.filter (λw=>decide (w∈gJ ws (cj b ws).2));have c:∀ w∈(gJ us (cj a us).2).filter (λw=>decide (w∈gJ ws (cj b ws).2)),0<=w.1/\w.1<a/\0<=w.2/\w.2<a/\w.1≠w.2:=λw l=>n w ((CG.mp l).1);generalize (gJ us (cj a us).2).filter (λw=>decide (w∈gJ ws (cj b ws).2))=m at g c;cases m with
 |nil=>simp;lk
 |cons w r =>
  have k:=QJ a.toNat (w.1.toNat::(w::r).map λx=>x.2.toNat) (by
   rw [sG];constructor
   ·intro z;obtain ⟨u,d,e⟩:=fV.mp z;have v:=c u d;have t:=c w (.head _);rcases fW.mp d with q|q
    ·subst q;lk
    ·have:=(List.pairwise_cons.mp g).1 u q;exact this.2.1 (by lk)
   ·refine zp _ (R:=λx y:Int×Int=>x.2.toNat≠y.2.toNat) (λx y h=>h) (abY (λ{x y} j o h=>?_) g);have v:=c x j;have t:=c y o;exact λe=>h.2.2.2 (by lk)) (λx j=>by
   rcases fW.mp j with q|q
   ·have:=c w (.head _);lk
   ·obtain ⟨u,d,e⟩:=fV.mp q;have:=c u d;lk)
  simp at k ⊢;lk
theorem alB (M:List aF) (ns:aF):(sU M ns).length=M.length*ns.length:=by
 unfold sU;rw [List.length_flatMap];induction M with
 |nil=>simp
 |cons r M a =>simp at a ⊢;rw [a,Rt,Nat.one_mul,Rg]
theorem ajf (C:List aF) (ns:aF):(j5 (C++[ns])).length=(j5 C).length*ns.length:=by unfold j5;rw [yW];exact alB _ _
theorem alC (n:Nat) (secs:aF) (d i:Nat) (h:i<=n):(mC n secs d).take i=mC i secs d:=by unfold mC;rw [<-List.map_take,List.take_range,tY h]
theorem abn (i:Nat) (secs:aF) (d:Nat):mC (i+1) secs d=mC i secs d++[if (i:Int)∈secs then [0] else (range (2 ^ d)).map λk:Nat=>(k:Int)]:=by unfold mC;rw [rO,cX];rfl
theorem abo (secs:aF) (d:Nat):∀ n:Nat,(j5 (mC n secs d)).length=2 ^ (d*((range n).filter λl:Nat=>decide ((l:Int)∉secs)).length)
 |0=>by simp [mC,j5]
 |n+1=>by
  rw [abn,ajf,abo secs d n,rO,zq,dJ];by_cases c:(n:Int)∈secs
  ·simp [c]
  ·simp [c,Nat.mul_add,Nat.pow_add]
theorem QK:∀ (n:Nat) (l:gA),l.Nodup->(∀ x∈l,x<n)->((range n).filter λx=>decide (x∈l)).length=l.length
 |0,l,_,h=>by
  cases l with
  |nil=>rfl
  |cons a r=>exact absurd (h a (.head _)) (zm _)
 |n+1,l,nd,h=>by
  rw [rO,zq,dJ];by_cases c:n∈l
  ·have e:=abW c;have pos:=List.length_pos_of_mem c;have d:=QK n (l.erase n) (nd.erase n) λx b=>by
    have h1:=h x (abX b);have h2:x≠n:=λz=>by subst z;exact absurd b (by rw [nd.mem_erase_iff];exact λq=>q.1 rfl)
    lk
   have g:(range n).filter (λx=>decide (x∈l))=(range n).filter (λx=>decide (x∈l.erase n)):=List.filter_congr λx b=>by
    have:x<n:=pL.mp b;have i:x≠n:=by lk
    exact decide_eq_decide.mpr (by rw [nd.mem_erase_iff];exact ⟨λh=>⟨i,h⟩,λh=>h.2⟩)
   rw [g,d,show ([n].filter λx=>decide (x∈l))=[n] by simp [c]];simp;lk
  ·have d:=QK n l nd λx b=>by
    have h1:=h x b;have h2:x≠n:=λz=>by subst z;exact c b
    lk
   rw [d,show ([n].filter λx=>decide (x∈l))=[] by simp [c]];simp
theorem abp (p:Nat->Bool):∀ l:gA,(l.filter p).length+(l.filter λx=>!p x).length=l.length
 |[]=>rfl
 |a::r=>by have:=abp p r;rw [Rx,Rx];cases h:p a<;>simp<;>lk
theorem anC {a b:Int} {us:aP} (ok:bJ a us):((gY a us b ws).map Int.toNat).Nodup/\∀ x∈gY a us b ws,0<=x/\x<a:=by
 have l:=Zk ok;have m:∀ w∈gJ us (cj a us).2,0<=w.1/\w.1<a/\0<=w.2/\w.2<a/\w.1≠w.2:=λw c=>by obtain ⟨i,f⟩:=aag ok c;exact ok w (eZ f.1)
 unfold gY;have j:=l.filter (λw=>decide (w∈gJ ws (cj b ws).2));have d:∀ w∈(gJ us (cj a us).2).filter (λw=>decide (w∈gJ ws (cj b ws).2)),0<=w.1/\w.1<a/\0<=w.2/\w.2<a/\w.1≠w.2:=λw c=>m w (CG.mp c).1;generalize (gJ us (cj a us).2).filter (λw=>decide (w∈gJ ws (cj b ws).2))=p at j d;constructor
 ·rw [xq];refine zp _ (R:=λx y:Int×Int=>x.2.toNat≠y.2.toNat) (λx y h=>h) (abY (λ{x y} g k h=>?_) j);have o:=d x g;have n:=d y k;exact λe=>h.2.2.2 (by lk)
 ·intro x g;obtain ⟨w,c,rfl⟩:=fV.mp g;have:=d w c;lk
theorem alD {a b:Int} {us:aP} (ok:bJ a us):((range a.toNat).filter λl:Nat=>decide ((l:Int)∉gY a us b ws)).length+(gY a us b ws).length=a.toNat:=by
 obtain ⟨nd,d⟩:=anC (b:=b) (ws:=ws) ok;have f:=QK a.toNat _ nd λx i=>by obtain ⟨y,c,rfl⟩:=fV.mp i;have:=d y c;lk
 have g:=abp (λx=>decide (x∈(gY a us b ws).map Int.toNat)) (range a.toNat);rw [f,bh,BW] at g;have e:(range a.toNat).filter (λl:Nat=>decide ((l:Int)∉gY a us b ws))=(range a.toNat).filter (λx=>!decide (x∈(gY a us b ws).map Int.toNat)):=List.filter_congr λx _=>by
  have:x∈(gY a us b ws).map Int.toNat↔(x:Int)∈gY a us b ws:=by
   rw [fV];constructor
   ·rintro ⟨y,c,rfl⟩;have:=d y c;rw [show ((y.toNat:Nat):Int)=y by lk];exact c
   ·exact λh=>⟨_,h,by lk⟩
  simp only [this,decide_not]
 rw [e];lk
theorem ahH {a b:Int} {us:aP} (ok:bJ a us) {d:Nat} (h:(d:Int)*(a-((gY a us b ws).length:Int))<=10) (h1:1<=a) : d<=10/\∀ i,i<=a.toNat->(j5 (mC i (gY a us b ws) d)).length<=1024:=by
 have n:=alD (b:=b) (ws:=ws) ok;have lt:=acK (b:=b) (ws:=ws) ok h1;obtain ⟨m,k⟩:∃ m:Nat,(gY a us b ws).length+m=a.toNat:=⟨_,Nat.add_sub_of_le (CJ lt)⟩;have e:a-((gY a us b ws).length:Int)=(m:Int):=by lk
 have c:d*m<=10:=by
  rw [e] at h
  exact_mod_cast h
 have j:1<=m:=by lk
 refine ⟨gR (Nat.le_mul_of_pos_right d j) c,λi hi=>?_⟩;rw [abo];have up:2 ^ (d*m)<=2 ^ 10:=J0 (by decide) c;refine gR (J0 (by decide) (Nat.mul_le_mul_left d (m:=m) ?_)) up;have g:((range i).filter λl:Nat=>decide ((l:Int)∉gY a us b ws)).length<=((range a.toNat).filter λl:Nat=>decide ((l:Int)∉gY a us b ws)).length:=by refine Sublist.length_le (Sublist.filter _ ?_);rw [<-tY hi,<-List.take_range];exact List.take_sublist _ _
 lk
structure ad6 (K:bG) (mg:dR) (a:Addr):Prop where
 Qp:excIn K a Ah "ValueError.__new__"=true
 Iv:mg "TooMany"=some (.ref a)
 ajg:exmOne K (.ref a) (.ref a)=some true
inductive alE (vs:aA) (H:Hp) (Q:VK):Prop
 |mk (v:V) (aj:Int) (ws:aP) (h1:vs=[v]) (h2:eV H v aj ws) (h3:1<=aj) (h4:aj<=8) (h5:bJ aj ws) (h6:ws.length<=41) (h7:∀ (l:Addr) (H':Hp),H l=none->aB H H'->m5 H' l (gJ ws (cj aj ws).2)->Q (.ref l) H')
def anD:=nE alE
inductive ajh (am:Addr) (vs:aA) (H:Hp) (Q:VK) (E:XK):Prop
 |mk (v1 v2:V) (a b:Int) (us ws:aP) (h1:vs=[v1,v2]) (h2:eV H v1 a us) (h3:eV H v2 b ws) (h4:1<=a) (h5:a<=8) (h6:1<=b) (h7:b<=8) (h8:bJ a us) (h9:bJ b ws) (h10:us.length<=41) (h11:ws.length<=41) (h12:(10<((nZ a us b ws:Nat):Int)*(a-((gY a us b ws).length:Int))->∀ H',aB H H'->E (.ref am) none H')) (h13:(((nZ a us b ws:Nat):Int)*(a-((gY a us b ws).length:Int))<=10->∀ (l:Addr) (rs':aA) (H':Hp),H l=none->aB H H'->H' l=some (.lst rs')->fD H H' l rs' (j5 (mC a.toNat (gY a us b ws) (nZ a us b ws)))->Q (.ref l) H'))
def alF (am:Addr):Sp:=λvs H Q E=>ajh am vs H Q E
def Ue (aj:Int) (ws:aP):Prop:=10<((dX aj ws:Nat):Int)*(aj-((Jl aj ws).length:Int))
inductive aji (am:Addr) (vs:aA) (H:Hp) (Q:VK) (E:XK):Prop
 |mk (v:V) (aj:Int) (ws:aP) (h1:vs=[v]) (h2:eV H v aj ws) (h3:1<=aj) (h4:aj<=8) (h5:bJ aj ws) (h6:ws.length<=41) (h7:(Ue aj ws->∀ H',aB H H'->E (.ref am) none H')) (h8:(¬ Ue aj ws->∀ (l:Addr) (rs':aA) (H':Hp),H l=none->aB H H'->H' l=some (.lst rs')->fD H H' l rs' (j5 (Ey aj ws))->Q (.ref l) H'))
def alG (am:Addr):Sp:=λvs H Q E=>aji am vs H Q E
end
section
open PySem.Spec PyProof.Rows
section
inductive agN (K:bG) (xs:aA) (H:Hp) (Q:VK):Prop
 |mk (a:_) (tp:_) (ys:_) (cs:_) (ts:_) (b:_) (h1:xs=[.ref a,.ref tp]) (h2:H a=some (.lst ys)) (h3:H tp=some (.tup cs)) (h4:GJ cs=some ts) (h5:kitAny K (.type "list") ts=some b) (h6:Q (.bl b) H)
theorem ajj:jz X (.builtin "isinstance") (agN X.K):=by
 rintro ak s σ H xs us Q I r ⟨a,i,ys,cs,ts,b,rfl,j,p,g,e,q⟩;obtain ⟨u,v,rfl,x,c⟩:=r.two;cases x;cases c;obtain ⟨_,_,n,_,h1⟩:=(show dZ X.prog X.w H s.heap a (.lst ys) from I.hok a _ j);obtain ⟨aJ,c,pl,_⟩:=I.tuple (aZ (K:=X.K) p);obtain ⟨o,k,d,n,t⟩:=(show s.heap.IsTuple i aJ.toArray from pl);cases QG g c;cases o with
 |mk oc od m osl =>cases d;cases t;exact PySem.W.kia_tup Te I.gn ⟨_,h1,rfl⟩ k e (λz=>nomatch z) λl=>⟨.bl b,H,I.tok l,rfl,q⟩
end
end
section
open PySem.SeqAt
def arz (aj:Int) (ws:aP):Bool:=ws.all λw=>decide (0<=w.1/\w.1<aj/\0<=w.2/\w.2<aj/\w.1≠w.2)
theorem CW (h:arz aj ws=true):bJ aj ws:=λw a=>by have:=wZ.mp h w a;exact jH this
theorem anE {w:Int×Int} (hb:z_ aj.toNat c) (h:0<=w.1/\w.1<aj/\0<=w.2/\w.2<aj/\w.1≠w.2):cM c w=Dv c w/\z_ aj.toNat (cM c w):=by
 have d:=hb.2 w.1.toNat (by lk);have b:=hb.2 w.2.toNat (by lk);have k:(fH c w+1) / 2=gj (c.getD w.1.toNat 0) (c.getD w.2.toNat 0):=by unfold fH gj;rcases d with x|x<;>rcases b with y|y<;>rw [x,y]<;>decide
 have j:fH c w / 2=UJ (c.getD w.1.toNat 0) (c.getD w.2.toNat 0):=by unfold fH UJ;rcases d with x|x<;>rcases b with y|y<;>rw [x,y]<;>decide
 have g:(fH c w+1) / 2=0\/(fH c w+1) / 2=1:=by unfold fH;lk
 have m:fH c w / 2=0\/fH c w / 2=1:=by unfold fH;lk
 constructor
 ·unfold cM Dv;rw [k,j]
 ·unfold cM;refine ⟨by rw [fU,fU];exact hb.1,λi hi=>?_⟩;have l:=hb.1;rw [getD,List.getElem?_set];by_cases e:w.2.toNat=i
  ·rw [aQ e,aQ (by rw [fU];lk)];exact m
  ·rw [aK e,List.getElem?_set];by_cases a:w.1.toNat=i
   ·rw [aQ a,aQ (by lk)];exact g
   ·rw [aK a];exact hb.2 i hi
structure adF (K:bG) (mg:dR) (a:Addr):Prop where
 FN:excIn K a Ah "ValueError.__new__"=true
 Ez:mg "NoNet"=some (.ref a)
inductive agO (vs:aA) (H:Hp) (Q:VK):Prop
 |mk (aj:Int) (t:Addr) (w:Int×Int) (h1:vs=[.int aj,.ref t]) (h2:H t=some (.tup [.int w.1,.int w.2])) (h3:(0<=w.1/\w.1<aj/\0<=w.2/\w.2<aj/\w.1≠w.2)) (h4:Q (.bl true) H)
def ahI:=nE agO
inductive alH (vs:aA) (H:Hp) (Q:VK):Prop
 |mk (aj:Int) (l:Addr) (ws:aP) (h1:vs=[.int aj,.ref l]) (h2:m5 H l ws) (h3:1<=aj) (h4:aj<=8) (h5:bJ aj ws) (h6:ws.length<=40) (h7:∀ H',aB H H'->Q (.bl true) H')
def acL:=nE alH
inductive alI (vs:aA) (H:Hp) (Q:VK):Prop
 |mk (aj:Int) (l:Addr) (ws:aP) (h1:vs=[.int aj,.ref l]) (h2:m5 H l ws) (h3:1<=aj) (h4:aj<=8) (h5:bJ aj ws) (h6:ws.length<=40) (h7:∀ (v:V) (H':Hp),aB H H'->eV H' v aj ws->Q v H')
def acM:=nE alI
theorem alJ (ws:aP):∀ c:aF,z_ aj.toNat c->bJ aj ws->bC c ws=qZ c ws:=by
 induction ws with
 |nil=>intro c _ _;rfl
 |cons w r g =>intro c b ok;obtain ⟨e,a⟩:=anE b (ok w (.head _));have:=g (cM c w) a λu d=>ok u (.tail _ d);unfold bC qZ at *;rw [jG,jG,<-e];exact this
end
section
theorem dw.down {k:Nat} (F:dw P w K mg au (lU P w) k f fd ps sp) (h:∀ vs H Q E,sp vs H Q E->sp vs H Q λ_ _ _=>False):dw P w K mg au jL k f fd ps sp:=⟨F.len,λA outer s H a us vs Q E hr d g r i=>sE (F.run A outer s H a us vs Q (λ_ _ _=>False) hr d g r (h _ _ _ _ i)) λb s' q=>by
  cases b with
  |ok c=>cases c with
   |ret u=>exact q
   |next=>exact q
   |brk=>exact q
   |cont=>exact q
  |error e =>obtain ⟨_,_,_,_,_,_,_,_,_,_,_,_,_,z⟩:=q;exact z.elim⟩
end
section
open PySem.SeqAt
end
section
open PySem.Spec PyProof.Rows
end
section
open PySem.SeqAt
theorem rG (c:aF) (us ws:aP):bC c (us++ws)=bC (bC c us) ws:=by unfold bC;rw [yW]
theorem alK {a:Int} (hl:c.length=a.toNat) {w:Int×Int} (h:zT a w):cM (c++d) w=cM c w++d:=by
 obtain ⟨h1,h2,e,i,h5⟩:=h;have g:∀ x:Nat,x<c.length->(c++d).getD x 0=c.getD x 0:=λx b=>by simp only [getD];rw [qJ b]
 unfold cM fH;rw [g _ (by lk),g _ (by lk),abZ _ _ (by lk),abZ _ _ (by rw [fU];lk)]
theorem ajk {a:Int} (h0:0<=a) (hl:c.length=a.toNat) {w:Int×Int} (h1:0<=w.1) (h3:0<=w.2):cM (c++d) (kW a w)=c++cM d w:=by
 have g:∀ x:Nat,(c++d).getD (c.length+x) 0=d.getD x 0:=λx=>by simp only [getD];rw [xV (by lk)];simp
 have b:(w.1+a).toNat=c.length+w.1.toNat:=by lk
 have e:(w.2+a).toNat=c.length+w.2.toNat:=by lk
 unfold cM fH kW;simp only [];rw [b,e,g,g,ab0 _ _ (by lk),ab0 _ _ (by lk)];simp
theorem aaQ {a:Int} (us:aP):∀ c:aF,c.length=a.toNat->bJ a us->bC (c++d) us=bC c us++d:=by
 induction us with
 |nil=>intro c _ _;rfl
 |cons w r i =>intro c b ok;have e:=alK (d:=d) b (ok w (.head _));have:=i (cM c w) (by unfold cM;rw [fU,fU];exact b) λu g=>ok u (.tail _ g);unfold bC at *;rw [jG,jG,e];exact this
theorem aah {a b:Int} (h0:0<=a) (hl:c.length=a.toNat) (ws:aP):∀ d:aF,bJ b ws->bC (c++d) (ws.map (kW a))=c++bC d ws:=by
 induction ws with
 |nil=>intro d _;rfl
 |cons w r i =>intro d ok;have o:=ok w (.head _);have e:=ajk (d:=d) h0 hl o.1 o.2.2.1;have:=i (cM d w) λu g=>ok u (.tail _ g);unfold bC at *;rw [gb,jG,jG,e];exact this
theorem ZF {a b:Int} (h0:0<=a) (hc:c.length=a.toNat) {us:aP} (ok1:bJ a us) (ok2:bJ b ws) : bC (c++d) (us++ws.map (kW a))=bC c us++bC d ws/\bC (c++d) (ws.map (kW a)++us)=bC c us++bC d ws:=by
 constructor
 ·rw [rG,aaQ us c hc ok1,aah h0 (by rw [jE];exact hc) ws d ok2]
 ·rw [rG,aah h0 hc ws d ok2,aaQ us c hc ok1]
theorem aqs (c:aF):m9 (m9 c)=c:=by
 unfold m9;rw [<-List.map_reverse,xq,List.reverse_reverse]
 conv=>rhs;rw [<-List.map_id c]
 exact xu λx _=>by simp
theorem alL (h:iD c):iD (m9 c):=λi j b a=>by rw [zB] at a;rw [Bm (by lk),Bm a];have:=h (c.length-1-j) (c.length-1-i) (by lk) (by lk);lk
theorem aaR (ok:bJ aj ws) (h:∀ c:aF,c.length=aj.toNat->iD (bC c ws)):∀ c:aF,c.length=aj.toNat->iD (bC c (ws.map (jJ aj))):=λc a=>by have e:=aln ws (m9 c) (by rw [zB];exact a) ok;rw [aqs] at e;rw [e];exact alL (h _ (by rw [zB];exact a))
structure aeC (K:bG) (mg:dR) (a:Dw):Prop where
 FN:excIn K a.pY Ah "ValueError.__new__"=true
 Qp:excIn K a.many Ah "ValueError.__new__"=true
 Ez:mg "NoNet"=some (.ref a.pY)
 Iv:mg "TooMany"=some (.ref a.many)
theorem afM (ok:bJ aj ws):(∀ c:aF,c.length=aj.toNat->iD (bC c (ws.map (jJ aj))))↔∀ c:aF,c.length=aj.toNat->iD (bC c ws):=by
 constructor
 ·intro h;have:=aaR (Sh ok) h;rw [anr] at this;exact this
 ·exact aaR ok
inductive anF (vs:aA) (H:Hp) (Q:VK):Prop
 |mk (aj n:Int) (h1:vs=[.int aj,.int n]) (h2:1<=aj) (h3:aj<=8) (h4:∀ (l:Addr) (rs:aA) (H':Hp),H l=none->aB H H'->H' l=some (.lst rs)->fD H H' l rs ((range aj.toNat).map λi:Nat=>vX aj.toNat i n)->Q (.ref l) H')
def apn:=nE anF
inductive afN (vs:aA) (H:Hp) (Q:VK):Prop
 |mk (v1 v2:V) (aj:Int) (us ws:aP) (l:Addr) (rs:aA) (M:List aF) (h1:vs=[v1,v2,.ref l]) (h2:eV H v1 aj us) (h3:eV H v2 aj ws) (h4:1<=aj) (h5:aj<=8) (h6:bJ aj us) (h7:bJ aj ws) (h8:us.length<=100) (h9:ws.length<=100) (h10:H l=some (.lst rs)) (h11:Rows H rs M) (h12:(∀ r∈M,r.length=aj.toNat)) (h13:(∀ H',aB H H'->(∀ r∈M,bC r us=bC r ws)->Q .non H')) (h14:∀ (i:Nat) (t:Addr) (r:aF) (H':Hp),aB H H'->rs[i]?=some (.ref t)->M[i]?=some r->H' t=some (.lst (r.map V.int))->bC r us≠bC r ws->Q (.ref t) H')
def aga:=nE afN
end
section
open PySem.Spec PyProof.Rows
end
section
open PySem.SeqAt
end
section
open PySem.Spec PyProof.Rows
section
inductive agP (K:bG) (xs:aA) (H:Hp) (Q:VK):Prop
 |mk (a:_) (tp:_) (ys:_) (cs:_) (ts:_) (b:_) (h1:xs=[.ref a,.ref tp]) (h2:((H a=some (.lst ys)/\kitAny K (.type "list") ts=some b)\/(H a=some (.tup ys)/\kitAny K (.type "tuple") ts=some b))) (h3:H tp=some (.tup cs)) (h4:GJ cs=some ts) (h5:Q (.bl b) H)
theorem ajl:jz X (.builtin "isinstance") (agP X.K):=by
 rintro ak s σ H xs us Q I r ⟨a,m,ys,cs,ts,b,rfl,c,p,l,q⟩;rcases c with ⟨c,e⟩|⟨c,e⟩
 ·exact ajj ak s σ H _ us Q I r ⟨a,m,ys,cs,ts,b,rfl,c,p,l,e,q⟩
 ·obtain ⟨u,v,rfl,D,i⟩:=r.two;cases D;cases i;obtain ⟨d,_,t,_⟩:=I.tuple (aZ (K:=X.K) c);obtain ⟨J,g,j,_⟩:=(show s.heap.IsTuple a d.toArray from t);obtain ⟨aJ,i,pl,_⟩:=I.tuple (aZ (K:=X.K) p);obtain ⟨o,x,k,n,C⟩:=(show s.heap.IsTuple m aJ.toArray from pl);cases QG l i;cases o with
  |mk oc od B osl =>cases k;cases C;exact PySem.W.kia_tup PySem.W.kitx_tuple I.gn ⟨_,g,j⟩ x e (λz=>nomatch z) λy=>⟨.bl b,H,I.tok y,rfl,q⟩
theorem acN:G3 X .FloorDiv (rI Uw λi j=>.int (i / j)):=akG
end
end
section
open PySem.SeqAt
def pw (k:Nat):Int:=((2 ^ k:Nat):Int)
theorem FP (k:Nat):pw (k+1)=2*pw k:=by unfold pw;rw [Nat.pow_succ];lk
theorem vL (k:Nat):1<=pw k:=by have:0<2 ^ k:=Ry (by decide);unfold pw;lk
theorem zX {k:Nat} (h:k<=3):pw k<=8:=by
 have:k=0\/k=1\/k=2\/k=3:=by lk
 rcases this with z|z|z|z<;>subst z<;>decide
def jd (aj:Int):aP:=(range (aj / 2).toNat).map λk:Nat=>((k:Int),aj-1-(k:Int))
def iY:Nat->aP
 |0=>[]
 |k+1=>jd (pw (k+1))++(iY k++(iY k).map (kW (pw k)))
def qd (k:Nat):aP:=(replicate k (iY k)).flatten
theorem acO {k:Nat} (h:k<=3):(iY k).length<=12:=by
 have:k=0\/k=1\/k=2\/k=3:=by lk
 rcases this with z|z|z|z<;>subst z<;>decide
theorem acP {k:Nat} (h:k<=3):bJ (pw k) (qd k)/\(qd k).length<=40:=by
 have:k=0\/k=1\/k=2\/k=3:=by lk
 rcases this with z|z|z|z<;>subst z<;>exact ⟨CW (by decide),by decide⟩
inductive uH (H:Hp):V->Prop
 |bl (b:Bool):uH H (.bl b)
 |non:uH H .non
 |str (s:Str):uH H (.str s)
 |lst {a:Addr} {xs:aA} (h:H a=some (.lst xs)):uH H (.ref a)
 |tup {a:Addr} {xs:aA} (h:H a=some (.tup xs)):uH H (.ref a)
 |dct {a:Addr} {aY:dU} (h:H a=some (.dK aY)):uH H (.ref a)
def vM (i:Int):Prop:=i=1\/i=2\/i=4\/i=8
instance (i:Int):Decidable (vM i):=inferInstanceAs (Decidable (i=1\/i=2\/i=4\/i=8))
structure ad7 (K:bG) (mg:dR):Prop where
 ex:∃ (a:Addr),mg "HALVED_WIDES"=some (.ref a)/\∀ H:Hp,gF K H a [.int 1,.int 2,.int 4,.int 8]
inductive ajm (vs:aA) (H:Hp) (Q:VK):Prop
 |mk (x:_) (h1:vs=[x]) (h2:((∃ i,x=.int i/\Q (.bl true) H)\/(uH H x/\Q (.bl false) H)))
def abq:=nE ajm
theorem alM (vs:aA) (H:Hp) (Q:VK) (E:XK) (h:aaF vs H Q E):abq vs H Q E:=by obtain ⟨i,rfl,q⟩:=h;exact ⟨_,rfl,.inl ⟨i,rfl,q⟩⟩
def M8 (H:Hp) (l:Addr) (ws:aP):Prop:=∃ rs,(H l=some (.lst rs)\/H l=some (.tup rs))/\dM H rs ws
inductive alN (vs:aA) (H:Hp) (Q:VK):Prop
 |mk (aj:Int) (l:Addr) (ws:aP) (h1:vs=[.int aj,.ref l]) (h2:M8 H l ws) (h3:bJ aj ws) (h4:ws.length<=40) (h5:∀ H',aB H H'->Q (.bl true) H')
def anG:=nE alN
inductive ajn (vs:aA) (H:Hp) (Q:VK):Prop
 |mk (aj:Int) (l:Addr) (ws:aP) (h1:vs=[.int aj,.ref l]) (h2:M8 H l ws) (h3:1<=aj) (h4:aj<=8) (h5:bJ aj ws) (h6:ws.length<=40) (h7:∀ H',aB H H'->Q (.bl true) H')
def abr:=nE ajn
theorem makes_of (vs:aA) (H:Hp) (Q:VK) (E:XK) (h:acL vs H Q E):abr vs H Q E:=by obtain ⟨aj,l,ws,rfl,⟨rs,c,hr⟩,a,g,e,b,d⟩:=h;exact ⟨aj,l,ws,rfl,⟨rs,.inl c,hr⟩,a,g,e,b,d⟩
inductive ajo (an:Addr) (vs:aA) (H:Hp) (Q:VK) (E:XK):Prop
 |mk (x:_) (h1:vs=[x]) (h2:((∃ i,x=.int i/\vM i/\Q .non H)\/((uH H x\/∃ i,x=.int i/\¬ vM i)/\E (.ref an) none H)))
def alO (an:Addr):Sp:=λvs H Q E=>ajo an vs H Q E
inductive ajp (vs:aA) (H:Hp) (Q:VK):Prop
 |mk (l:Addr) (ws:aP) (k:Int) (h1:vs=[.ref l,.int k]) (h2:m5 H l ws) (h3:ws.length<=100) (h4:∀ (a:Addr) (H':Hp),H a=none->aB H H'->m5 H' a (ws++ws.map (kW k))->Q (.ref a) H')
def abt:=nE ajp
inductive ajq (vs:aA) (H:Hp) (Q:VK):Prop
 |mk (aj:Int) (h1:vs=[.int aj]) (h2:1<=aj) (h3:aj<=8) (h4:∀ (a:Addr) (H':Hp),H a=none->aB H H'->m5 H' a (jd aj)->Q (.ref a) H')
def alP:=nE ajq
inductive apo (n:Nat) (vs:aA) (H:Hp) (Q:VK):Prop
 |mk (k:Nat) (h1:vs=[.int (pw k)]) (h2:k<n) (h3:k<=3) (h4:∀ (a:Addr) (H':Hp),H a=none->aB H H'->m5 H' a (iY k)->Q (.ref a) H')
def Gw (n:Nat):=nE (apo n)
def Qq (an:Addr):Sp:=λvs H Q E=>(∃ (k:Nat),vs=[.int (pw k)]/\k<=3/\∀ (v:V) (H':Hp),aB H H'->eV H' v (pw k) (qd k)->Q v H')\/(∃ x,vs=[x]/\(uH H x\/∃ i,x=.int i/\¬ vM i)/\E (.ref an) none H)
inductive ahJ (vs:aA) (H:Hp) (Q:VK):Prop
 |mk (k:Nat) (h1:vs=[.int (pw k)]) (h2:k<=3) (h3:∀ (v:V) (H':Hp),aB H H'->eV H' v (pw k) (qd k)->Q v H')
def ajr:=nE ahJ
theorem asx {an:Addr} (vs:aA) (H:Hp) (Q:VK) (E:XK) (h:ajr vs H Q E):Qq an vs H Q E:=by obtain ⟨k,e,l,q⟩:=h;exact .inl ⟨k,e,l,q⟩
end
section
open PySem.Spec PyProof.Rows
section
end
end
section
open PySem.SeqAt
inductive anH (vs:aA) (H:Hp) (Q:VK):Prop
 |mk (aj:Int) (l:Addr) (ws:aP) (h1:vs=[.int aj,.ref l]) (h2:M8 H l ws) (h3:1<=aj) (h4:aj<=8) (h5:bJ aj ws) (h6:ws.length<=40) (h7:∀ (v:V) (H':Hp),aB H H'->eV H' v aj ws->Q v H')
def TF:=nE anH
end
section
open PySem.Spec PyProof.Rows
structure Dg (P:Program) (w:World) (K:bG) (mg:dR) (au:Heap) (C:Addr) (m:Str) (k:Nat) (ps:bK) (sp:Sp):Prop where
 ex:∃ (f:Addr) (fd:FuncData),dw P w K mg au (lU P w) k f fd ps sp/\mK K fd ps []/\CV K C m f
theorem vY.aqt {q:Str} {st:Stmt} {k:Nat} (h:vY K mg C x q st f fd) (F:dw P w K mg au (lU P w) k f fd ps sp) (hb:∀ (kV doc pm:Value) (an:jy) (cdv ct:Value) (us:bV),us.length=ps.length->bindArgs (fnOf x q (kJ st) (jO st) (gG st) .none kV doc pm an cdv ct) ⟨us,[]⟩=pure (ps.zip us)):Dg P w K mg au C x k ps sp:=⟨f,fd,F,h.fn.binds hb,h.mt⟩
end
section
open PySem.SeqAt
end
variable {aY:List (List eE×V)}
section
open PySem.Spec PyProof.Rows
section
variable {κ:Type} [DecidableEq κ]
def dh (aY:List (κ×V)) (k:κ):Option V:=(aY.find? λa=>decide (a.1=k)).map (·.2)
def cD (aY:List (κ×V)) (k:κ) (v:V):List (κ×V) :=
 if (aY.any λa=>decide (a.1=k))=true then aY.map (λa=>if a.1=k then (a.1,v) else a) else aY++[(k,v)]
theorem rH {p:κ×V} {r:List (κ×V)} {k:κ} (e:p.1=k):dh (p::r) k=some p.2:=by simp [dh,xG,e]
theorem rJ {p:κ×V} {r:List (κ×V)} {k:κ} (e:¬ p.1=k):dh (p::r) k=dh r k:=by simp [dh,xG,e]
theorem EY (k:κ):∀ aY:List (κ×V),(aY.any λkv=>decide (kv.1=k))=(dh aY k).isSome
 |[]=>rfl
 |p::r=>by
  rw [yN];by_cases e:p.1=k
  ·simp only [rH e,fM e,Bool.true_or,Option.isSome_some]
  ·rw [rJ e,lJ e,Bool.false_or];exact EY k r
theorem abu (k j:κ) (y:V):∀ aY:List (κ×V),dh (aY.map λkv=>if kv.1=k then (kv.1,y) else kv) j=(dh aY j).map λx=>if j=k then y else x
 |[]=>rfl
 |p::r=>by
  have a:=abu k j y r;rw [gb];by_cases h:p.1=k
  ·rw [aQ h];by_cases e:p.1=j
   ·rw [rH (p:=(p.1,y)) e,rH e,Bx,aQ (e.symm.trans h)]
   ·rw [rJ (p:=(p.1,y)) e,rJ e,a]
  ·rw [aK h];by_cases e:p.1=j
   ·rw [rH (p:=p) e,rH e,Bx,aK (λz=>h (e.trans z))]
   ·rw [rJ (p:=p) e,rJ e,a]
theorem aaS (k j:κ) (y:V):∀ aY:List (κ×V),dh aY k=none->dh (aY++[(k,y)]) j=if j=k then some y else dh aY j
 |[],_=>by
  by_cases e:k=j
  ·rw [aQ e.symm];exact rH (p:=(k,y)) e
  ·rw [aK (λz=>e z.symm)];exact rJ (p:=(k,y)) e
 |p::r,hn=>by
  rw [Rz];have a:¬ p.1=k:=λz=>by rw [rH z] at hn;cases hn
  rw [rJ a] at hn;have b:=aaS k j y r hn;by_cases e:p.1=j
  ·rw [rH e,rH e,aK (λz=>a (e.trans z))]
  ·rw [rJ e,rJ e,b]
theorem rK (aY:List (κ×V)) (k j:κ) (y:V):dh (cD aY k y) j=if j=k then some y else dh aY j:=by
 unfold cD;by_cases a:(aY.any λc=>decide (c.1=k))=true
 ·rw [aQ a,abu];rw [EY] at a;by_cases e:j=k
  ·obtain ⟨x,b⟩:=adl.mp a;rw [aQ e,e,b,Bx,aQ rfl]
  ·rw [aK e];cases dh aY j with
   |none=>rfl
   |some x=>rw [Bx,aK e]
 ·rw [aK a];refine aaS k j y aY ?_;rw [EY] at a;cases q:dh aY k with
  |none=>rfl
  |some x=>rw [q] at a;exact (a rfl).elim
theorem ZG (aY:List (κ×V)) (k:κ) (v:V):(cD aY k v).length<=aY.length+1:=by
 unfold cD;split
 ·rw [bh];lk
 ·rw [dJ,gw,List.length_nil];lk
theorem mW.Qs {o:Option V} {u:sH} (r:mW o u):o.isSome=u.isSome:=by
 cases o with
 |none=>cases u with
  |none=>rfl
  |some _=>exact (show False from r).elim
 |some _=>cases u with
  |none=>exact (show False from r).elim
  |some _=>rfl
theorem KV.val {aY:List (κ×V)} {vs:List (κ×Value)} (r:KV aY vs) (k:κ):mW (dh aY k) (valueAt vs k):=by
 unfold KV at r;induction r with
 |nil=>exact rZ
 |@cons p q ps a h t d =>
  obtain ⟨h1,h2⟩:=h;by_cases e:p.1=k
  ·have c:q.1=k:=h1.symm.trans e;have b:valueAt (q::a) k=some q.2:=by simp [valueAt,xG,c]
   rw [rH e,b];exact h2
  ·have c:¬ q.1=k:=λz=>e (h1.trans z);have b:valueAt (q::a) k=valueAt a k:=by simp [valueAt,xG,c]
   rw [rJ e,b];exact d
theorem KV.any {aY:List (κ×V)} {vs:List (κ×Value)} (r:KV aY vs) (k:κ):(aY.any λkv=>decide (kv.1=k))=vs.any λkv=>decide (kv.1=k):=by
 unfold KV at r;induction r with
 |nil=>rfl
 |cons h t a=>rw [yN,yN,a,h.1]
theorem KV.repl {aY:List (κ×V)} {vs:List (κ×Value)} (r:KV aY vs) (k:κ) (ry:cA y u) : KV (aY.map λkv=>if kv.1=k then (kv.1,y) else kv) (vs.map λkv=>if kv.1=k then (kv.1,u) else kv):=by
 unfold KV at r ⊢;induction r with
 |nil=>exact .nil
 |@cons p q ps b h t a =>
  rw [gb,gb];refine .cons ?_ a;obtain ⟨h1,h2⟩:=h;by_cases e:p.1=k
  ·rw [aQ e,aQ (h1.symm.trans e)];exact ⟨h1,ry⟩
  ·rw [aK e,aK (λz=>e (h1.trans z))];exact ⟨h1,h2⟩
theorem KV.put {aY:List (κ×V)} {vs:List (κ×Value)} (r:KV aY vs) (k:κ) (ry:cA y u):KV (cD aY k y) (stored vs k u):=by
 unfold cD stored;rw [r.any k];by_cases e:(vs.any λa=>decide (a.1=k))=true
 ·rw [aQ e,aQ e];exact r.repl k ry
 ·rw [aK e,aK e];exact Paired.snoc r ⟨rfl,ry⟩
theorem KV.length {aY:List (κ×V)} {vs:List (κ×Value)} (r:KV aY vs):aY.length=vs.length:=o7 r
end
theorem Dh {k:eE} (r:cA (kV k) u):(kE P w).is k u=true:=by
 cases k with
 |inl i=>obtain ⟨t,e⟩:=(show ∃ t,u=Value.int i t from r);subst e;exact agx P w i t
 |inr x=>obtain ⟨t,e⟩:=(show ∃ t,u=Value.str x t from r);subst e;exact O5 P w x t
theorem aaT:∀ {ks:List eE} {us:bV},bO (ks.map kV) us->ItemsAre (kE P w) ks us
 |[],_,r=>by rw [zO] at r;cases r;exact .nil
 |k::ks,_,r=>by
  rw [gb] at r;cases r with
  |cons h t=>exact .cons (Dh h) (aaT t)
abbrev pC (H:Hp):List (List eE×V)->List (List eE×Addr×Value)->Prop:=Paired λp q=>p.1=q.1/\H q.2.1=some (.tup (p.1.map kV))/\cA p.2 q.2.2
theorem pC.val {xs:List (List eE×Addr×Value)} (r:pC H aY xs) (k:List eE):mW (dh aY k) ((atKey xs k).map (·.2)):=by
 induction r with
 |nil=>exact rZ
 |@cons p q ps a h t d =>
  obtain ⟨h1,_,h2⟩:=h;by_cases e:p.1=k
  ·have c:q.1=k:=h1.symm.trans e;have b:atKey (q::a) k=some q.2:=by simp [atKey,xG,c]
   rw [rH e,b];exact h2
  ·have c:¬ q.1=k:=λz=>e (h1.trans z);have b:atKey (q::a) k=atKey a k:=by simp [atKey,xG,c]
   rw [rJ e,b];exact d
theorem pC.repl {xs:List (List eE×Addr×Value)} (r:pC H aY xs) (k:List eE) (ry:cA y u) : pC H (aY.map λkv=>if kv.1=k then (kv.1,y) else kv) (xs.map (putAt k u)):=by
 induction r with
 |nil=>exact .nil
 |@cons p q ps c h t b =>
  rw [gb,gb];refine .cons ?_ b;obtain ⟨h1,h2,a⟩:=h;unfold putAt;by_cases e:p.1=k
  ·rw [aQ e,aQ (h1.symm.trans e)];exact ⟨h1,h2,ry⟩
  ·rw [aK e,aK (λz=>e (h1.trans z))];exact ⟨h1,h2,a⟩
theorem pC.put {xs:List (List eE×Addr×Value)} (r:pC H aY xs) (k:List eE) (hb:H b=some (.tup (k.map kV))) (ry:cA y u) : pC H (cD aY k y) (storedH xs k b u):=by
 have e:(aY.any λa=>decide (a.1=k))=(atKey xs k).isSome:=by rw [EY,(r.val k).Qs,Option.isSome_map]
 unfold cD storedH;rw [e];by_cases q:(atKey xs k).isSome=true
 ·rw [aQ q,aQ q];exact r.repl k ry
 ·rw [aK q,aK q];exact Paired.snoc r ⟨rfl,hb,ry⟩
theorem pC.keeps {xs:List (List eE×Addr×Value)} (r:pC H aY xs) (ht:∀ b ys,H b=some (.tup ys)->H' b=some (.tup ys)):pC H' aY xs:=vO r λ_ _ z=>⟨z.1,ht _ _ z.2.1,z.2.2⟩
section
theorem ad8 {u:HO} (ok:gM P w H h) (e:Rd H a u):dZ P w H h a u:=e.ok ok
theorem Lj {aY:dU} (ok:gM P w H h) (e:Rd H a (.dK aY)):aY.length<=sizeLine/\(a == sysModules)=false/\∃ vs,KV aY vs/\h.DictOf (kE P w) a vs :=
 show dZ P w H h a (.dK aY) from ad8 ok e
theorem aqu {aY:dU} (ok:gM P w H h) (e:H a=some (.dK aY)):aY.length<=sizeLine/\(a == sysModules)=false/\∃ vs,KV aY vs/\h.DictOf (kE P w) a vs:=Lj ok (.inl e)
theorem K8 {ks:List eE} (ok:gM P w H h) (e:H a=some (.tup (ks.map kV))):(tupleKind (kE P w)).is h ks a:=by obtain ⟨_,aJ,r,o,h1,h2,n,b,_⟩:=(show dZ P w H h a (.tup (ks.map kV)) from ok a _ e);exact ⟨o,aJ.toArray,n,h1,h2,b,by simpa using aaT r⟩
theorem Lk (ok:gM P w H h) (e:Rd H a (.dT aY)):aY.length<=sizeLine/\(a == sysModules)=false /\∃ xs,pC H aY xs/\h.DictOfH (tupleKind (kE P w)) a xs:=by
 obtain ⟨z,y,xs,r,o,es,j,h1,h2,d,g,h5⟩:=(show dZ P w H h a (.dT aY) from ad8 ok e);refine ⟨z,y,xs,r,o,es,j,h1,h2,d,g,λx b=>?_,h5⟩;have all:∀ {l:List (List eE×V)} {m:List (List eE×Addr×Value)},pC H l m->∀ x∈m,(tupleKind (kE P w)).is h x.1 x.2.1:=by
  intro l m q;induction q with
  |nil=>intro x b;exact nomatch b
  |@cons p q ps k c t i =>
   intro x b;rcases fW.mp b with e|b
   ·subst e;exact K8 ok (by rw [<-c.1];exact c.2.1)
   ·exact i x b
 exact all r x b
theorem aqv (ok:gM P w H h) (e:H a=some (.dT aY)):aY.length<=sizeLine/\(a == sysModules)=false /\∃ xs,pC H aY xs/\h.DictOfH (tupleKind (kE P w)) a xs:=Lk ok (.inl e)
end
def q8 (H:Hp) (a:Addr) (y:V) (r:Option V):Prop :=
 (∃ aY k,Rd H a (.dK aY)/\y=kV k/\r=dh aY k)\/∃ aY k b,Rd H a (.dT aY)/\y=.ref b/\H b=some (.tup (k.map kV))/\r=dh aY k
def uJ (H:Hp) (a:Addr) (y v:V) (H':Hp):Prop :=
 (∃ aY k,H a=some (.dK aY)/\y=kV k/\aY.length<sizeLine/\H'=upd H a (.dK (cD aY k v))) \/
 ∃ aY k b,H a=some (.dT aY)/\y=.ref b/\H b=some (.tup (k.map kV))/\aY.length<sizeLine/\H'=upd H a (.dT (cD aY k v))
theorem q8.k {aY:dU} {k:eE} (e:H a=some (.dK aY)):q8 H a (kV k) (dh aY k):=.inl ⟨aY,k,.inl e,rfl,rfl⟩
theorem uJ.k {aY:dU} {k:eE} (e:H a=some (.dK aY)) (hl:aY.length<sizeLine):uJ H a (kV k) v (upd H a (.dK (cD aY k v))):=.inl ⟨aY,k,e,rfl,hl,rfl⟩
section
variable {r:Value} {o:Option V}
theorem aD.big (I:aD X ak σ H s):sysModules<s.heap.objs.size:=by have h:mainGlobals<s.heap.objs.size:=(I.mod.glob.keeps I.bk).lt;exact Nat.lt_trans (by decide) h
theorem ajs (hu:A.units+1<cLine) (I:aD X ak σ H s) (g:q8 H a y (some v)) (ry:cA y u) (h:∀ w' s',aD X ak σ H s'->cA v w'->Q w' s') : wpAny (model X.prog X.w) A (getItem (.ref a) u) Q E s:=by
 rcases g with ⟨aY,k,e,d,l⟩|⟨aY,k,b,e,d,r,l⟩
 ·subst d;obtain ⟨z,t,vs,c,j⟩:=Lj I.hok e;obtain ⟨w',n,i⟩:=mW.some_of (v:=v) (o:=valueAt vs k) (by rw [l];exact c.val k);exact wpAny_getItem_of (Dh ry) j.mapOf n (h w' _ (I.tok _) i)
 ·subst d;cases (show u=Value.ref b from ry);obtain ⟨z,t,xs,c,j⟩:=Lk I.hok e;obtain ⟨w',n,i⟩:=mW.some_of (v:=v) (o:=(atKey xs k).map (·.2)) (by rw [l];exact c.val k);obtain ⟨p,q,m⟩:=ab1.mp n;refine wpAny_getItem_heap (RB hu) (K8 I.hok r) j q ?_;rw [m];exact h w' _ (I.tok _) i
theorem anI (hu:A.units+1<cLine) (I:aD X ak σ H s) (g:q8 H a y o) (ry:cA y u) (h:∀ s',aD X ak σ H s'->Q (.bool (!o.isSome)) s') : wpAny (model X.prog X.w) A (compareOp .NotIn u (.ref a)) Q E s:=by
 rcases g with ⟨aY,k,e,d,l⟩|⟨aY,k,b,e,d,m,l⟩
 ·subst d;obtain ⟨z,j,vs,c,i⟩:=Lj I.hok e;refine wpAny_notIn_of (Dh ry) j i.mapOf ?_;rw [<-(c.val k).Qs,<-l];exact h _ (I.tok _)
 ·subst d;cases (show u=Value.ref b from ry);obtain ⟨z,j,xs,c,i⟩:=Lk I.hok e;refine wpAny_notIn_heap (RB hu) (K8 I.hok m) j i ?_;have q:=(c.val k).Qs;rw [Option.isSome_map] at q;rw [<-q,<-l];exact h _ (I.tok _)
theorem acQ {ob:HO} (I:aD X ak σ H s) (mu:GR (H a)) (hs:SameBut a s.heap h') (he:∃ q,h'.get? a=some q) (new:dZ X.prog X.w (upd H a ob) h' a ob) : aD X ak σ (upd H a ob) { s with heap:=h',toks:=t' }:=I.write (x:=a) (e:=a) mu (.inl rfl) (λb q c z=>(hs.2 b c).trans z) he new
theorem apq {aY:dU} {vs:iT} (z:aY.length<=sizeLine) (hd:(a == sysModules)=false) (rel:KV aY vs) (dd:h'.DictOf (kE P w) a vs) : dZ P w H' h' a (.dK aY):=⟨z,hd,vs,rel,dd⟩
theorem ajt {Q:CQ} (hu:A.units+1<cLine) (I:aD X ak σ H s) (g:uJ H a y v H') (ry:cA y u) (rv:cA v r) (h:∀ s',aD X ak σ H' s'->Q () s') : wpAny (model X.prog X.w) A (setItem (.ref a) u r) Q E s:=by
 rcases g with ⟨aY,k,e,o,l,n⟩|⟨aY,k,b,e,o,C,l,n⟩
 ·subst o n;obtain ⟨z,B,vs,d,p⟩:=aqu I.hok e;have m:vs.length<=sizeLine:=by rw [<-d.length];exact z
  have x:(cD aY k v).length<=sizeLine:=by have:=ZG aY k v;lk
  refine wpAny_setItem_pairs (hsz:=m) (Dh ry) p λh' i t=>h _ ?_;have N:∃ q,h'.get? a=some q:=let ⟨q,_,_,j,_⟩:=i;⟨q,j⟩;exact acQ I (by rw [e];exact rZ) t N (apq x B (d.put k rv) i)
 ·subst o n;cases (show u=Value.ref b from ry);obtain ⟨z,B,xs,d,p⟩:=aqv I.hok e;have m:xs.length<=sizeLine:=by rw [<-o7 d];exact z
  have x:(cD aY k v).length<=sizeLine:=by have:=ZG aY k v;lk
  refine wpAny_setItem_heap (hsz:=m) (RB hu) (K8 I.hok C) p λh' i t=>h _ ?_;obtain ⟨q,es,M,j,h2,J,L,_,h5⟩:=i;refine acQ I (by rw [e];exact rZ) t ⟨q,j⟩ ⟨x,B,_,(d.put k C rv).keeps λc ys D=>?_,q,es,M,j,h2,J,L,h5⟩;rw [aV (kY D e (λz=>nomatch z))];exact D
end
def UL (i:Expr):Prop:=∀ b a,subscripted i false b a=operate [b,a] (getItem b a)
theorem acR {value slice:Expr} {id:String} (hl:typeLookup (.type T) "__getitem__"=pure (some (.builtin id))) (hs:UL slice) (h:wpAny (model prog w) A (eval value env) (λo s₁=>wpAny (model prog w) A (eval slice env) (λi s₂=>s₂.TypeIs o T/\wpAny (model prog w) A (getItem o i) Q E s₂) E s₁) E s) : wpAny (model prog w) A (eval (.Subscript value slice pos) env) Q E s:=by
 refine Subscript_ (lE h (λo s₁ e=>lE e (λi s₂ a=>?_) λ_ _ x=>x) λ_ _ x=>x);obtain ⟨c,a⟩:=a;unfold subscriptTail;refine bf ?_;rw [getitemInPython_of_ne c.not_modules];refine bf (wpAny_specialOf c hl ?_);have b:wpAny (model prog w) A (subscripted slice false o i) (λr d=>wpAny (model prog w) A (letTemporaryGo value o r >>= λ_=>pure r) Q E d) E s₂:=by rw [hs o i];exact wpAny_operating (lE a (λr d g=>bf (wpAny_letTemporaryGo (cY g))) λ_ _ x=>x)
 first
  |exact cY (bf b)
  |exact bf (cY (bf b))
  |exact bf b
theorem agQ {o:Option V} (I:aD X ak σ H s) (g:q8 H a y o):s.TypeIs (.ref a) "dict":=by
 rcases g with ⟨aY,k,e,_,_⟩|⟨aY,k,b,e,_,_,_⟩
 ·obtain ⟨_,_,vs,_,c⟩:=Lj I.hok e;exact c.typeIs
 ·obtain ⟨_,_,xs,_,c⟩:=Lk I.hok e;exact c.typeIs
def aqw (td ty:TE):TE:=λσ H Q=>td σ H λx H1=>ty σ H1 λy H2=>∃ a v,x=.ref a/\q8 H2 a y (some v)/\Q v H2
def anJ (ty td:TE):TE:=λσ H Q=>ty σ H λy H1=>td σ H1 λx H2=>∃ a o,x=.ref a/\q8 H2 a y o/\Q (.bl (!o.isSome)) H2
def aqx (td ty tv:TE):TS:=λD σ H=>tv σ H λv H1=>td σ H1 λx H2=>ty σ H2 λy c=>∃ a b,x=.ref a/\uJ c a y v b/\D.nx σ b
section
variable {o i value:Expr} {tpos:Pos} {td ty tv:TE}
theorem acS (hu:X.A.units+1<cLine) (ho:PE X o td) (hi:PE X i ty) (hs:UL i):PE X (.Subscript o i pos) (aqw td ty):=by intro ak s σ H Q I h;refine acR ab2.lookup hs (bA (ho ak s σ H _ I h) λu d ⟨x,H1,j,m,l⟩=>bA (hi ak d σ H1 _ j l) λq t ⟨y,H2,b,n,a,v,ex,g,c⟩=>?_);subst ex;obtain rfl:u=Value.ref a:=m;exact ⟨agQ b g,ajs hu b g n λp r e k=>⟨v,H2,e,k,c⟩⟩
theorem aaU (hu:X.A.units+1<cLine) (hi:PE X i ty) (ho:PE X o td):PC X .NotIn i o (anJ ty td):=by intro ak s σ H Q I h;refine bA (hi ak s σ H _ I h) λp e ⟨y,H1,k,n,l⟩=>bA (ho ak e σ H1 _ k l) λu r ⟨x,H2,b,m,a,d,ex,g,c⟩=>?_;subst ex;obtain rfl:u=Value.ref a:=m;exact anI hu b g n λq j=>⟨.bl (!d.isSome),H2,j,rfl,c⟩
theorem Ky (hu:X.A.units+1<cLine) (ho:PE X o td) (hi:PE X i ty) (hv:PE X value tv) (hs:swapsWith value (some (.Subscript o i pos')) pos.line X.env=pure false) : PS X (.Assign [.Subscript o i pos'] value pos) (aqx td ty tv):=by intro ak s σ H D I h;refine wpAny_Assign_Subscript (bA (hv ak s σ H _ I h) λr d ⟨v,H1,k,m,n⟩=>bA (ho ak d σ H1 _ k n) λu l ⟨x,H2,b,q,c⟩=>bA (hi ak l σ H2 _ b c) λB C ⟨y,L,j,z,a,t,ex,g,p⟩=>?_) hs;subst ex;obtain rfl:u=Value.ref a:=q;exact ajt hu j g z m λJ e=>⟨σ,t,e,p⟩
end
theorem alQ (h:Heap) (hb:sysModules<h.objs.size):dZ P w H (h.push { cls:=.type "dict",data:=.dict #[] }) h.objs.size (.dK []):=⟨fP _,Dd.mpr (bF (fO hb)),[],.nil,Heap.DictOf.new h⟩
def apr:TE:=λ_ H Q=>∀ p,H p=none->Q (.ref p) (upd H p (.dK []))
section
theorem Jm:PE X (.Dict [] [] pos) apr:=λak s σ H Q I h =>
 wpAny_Dict_empty ⟨.ref s.heap.objs.size,_,I.laid (a:=s.heap.objs.size) (o:=.dK []) (t':=s.toks) (λ_ _ q=>dF _ q) (bI _) (alQ s.heap I.big),rfl,h _ (I.hok.fresh (bI _))⟩
end
end
variable {q:Int}
section
open PySem.SeqAt
def gP (q:Int) (c:aF):aF:=c.map λx=>x+q
theorem Gg (q:Int) (c:aF):(gP q c).length=c.length:=by simp [gP]
theorem Kz {x:Nat} (h:x<c.length):(gP q c).getD x 0=c.getD x 0+q:=by simp [gP,getD,h]
theorem aps (hl:c.length=aj.toNat) {w:Int×Int} (h:zT aj w):cM (gP q c) w=gP q (cM c w):=by
 obtain ⟨i,e,k,j,g⟩:=h;have b:fH (gP q c) w=fH c w+2*q:=by unfold fH;rw [Kz (by lk),Kz (by lk)];lk
 unfold cM;rw [b];have d:(fH c w+2*q+1) / 2=(fH c w+1) / 2+q:=by lk
 have a:(fH c w+2*q) / 2=fH c w / 2+q:=by lk
 rw [d,a];unfold gP;rw [Fi,Fi]
theorem KC (ws:aP):∀ c:aF,c.length=aj.toNat->bJ aj ws->bC (gP q c) ws=gP q (bC c ws):=by
 induction ws with
 |nil=>intro c _ _;rfl
 |cons w r d =>intro c a ok;have e:=aps (q:=q) a (ok w (.head _));have:=d (cM c w) (by unfold cM;rw [fU,fU];exact a) λu b=>ok u (.tail _ b);unfold bC at *;rw [jG,jG,e];exact this
theorem Jo (h:iD c):iD (gP q c):=λi j a b=>by rw [Gg] at b;rw [Kz (by lk),Kz b];have:=h i j a b;lk
theorem aqy:∀ c:aF,c.length=8->∃ c0 c1 c2 c3 c4 c5 c6 c7,c=[c0,c1,c2,c3,c4,c5,c6,c7]
 |[c0,c1,c2,c3,c4,c5,c6,c7],_=>⟨c0,c1,c2,c3,c4,c5,c6,c7,rfl⟩
theorem Ug:∀ c:aF,c.length=4->∃ c0 c1 c2 c3,c=[c0,c1,c2,c3]
 |[c0,c1,c2,c3],_=>⟨c0,c1,c2,c3,rfl⟩
theorem Uh:∀ c:aF,c.length=2->∃ c0 c1,c=[c0,c1]
 |[c0,c1],_=>⟨c0,c1,rfl⟩
def M_ (a b c d:Int):aF:=[(a+1) / 2,a / 2,(b+1) / 2,b / 2,(c+1) / 2,c / 2,(d+1) / 2,d / 2]
def Ln (a b:Int):aF:=[(a+1) / 2,a / 2,(b+1) / 2,b / 2]
theorem Vv (c0 c1 c2 c3 c4 c5 c6 c7:Int):cM [c0,c1,c2,c3,c4,c5,c6,c7] (0,7)=[(c0+c7+1) / 2,c1,c2,c3,c4,c5,c6,(c0+c7) / 2]:=rfl
theorem Vw (c0 c1 c2 c3 c4 c5 c6 c7:Int):cM [c0,c1,c2,c3,c4,c5,c6,c7] (1,6)=[c0,(c1+c6+1) / 2,c2,c3,c4,c5,(c1+c6) / 2,c7]:=rfl
theorem Vx (c0 c1 c2 c3 c4 c5 c6 c7:Int):cM [c0,c1,c2,c3,c4,c5,c6,c7] (2,5)=[c0,c1,(c2+c5+1) / 2,c3,c4,(c2+c5) / 2,c6,c7]:=rfl
theorem Vy (c0 c1 c2 c3 c4 c5 c6 c7:Int):cM [c0,c1,c2,c3,c4,c5,c6,c7] (3,4)=[c0,c1,c2,(c3+c4+1) / 2,(c3+c4) / 2,c5,c6,c7]:=rfl
theorem t03 (c0 c1 c2 c3 c4 c5 c6 c7:Int):cM [c0,c1,c2,c3,c4,c5,c6,c7] (0,3)=[(c0+c3+1) / 2,c1,c2,(c0+c3) / 2,c4,c5,c6,c7]:=rfl
theorem t12 (c0 c1 c2 c3 c4 c5 c6 c7:Int):cM [c0,c1,c2,c3,c4,c5,c6,c7] (1,2)=[c0,(c1+c2+1) / 2,(c1+c2) / 2,c3,c4,c5,c6,c7]:=rfl
theorem t01 (c0 c1 c2 c3 c4 c5 c6 c7:Int):cM [c0,c1,c2,c3,c4,c5,c6,c7] (0,1)=[(c0+c1+1) / 2,(c0+c1) / 2,c2,c3,c4,c5,c6,c7]:=rfl
theorem t23 (c0 c1 c2 c3 c4 c5 c6 c7:Int):cM [c0,c1,c2,c3,c4,c5,c6,c7] (2,3)=[c0,c1,(c2+c3+1) / 2,(c2+c3) / 2,c4,c5,c6,c7]:=rfl
theorem t47 (c0 c1 c2 c3 c4 c5 c6 c7:Int):cM [c0,c1,c2,c3,c4,c5,c6,c7] (4,7)=[c0,c1,c2,c3,(c4+c7+1) / 2,c5,c6,(c4+c7) / 2]:=rfl
theorem t56 (c0 c1 c2 c3 c4 c5 c6 c7:Int):cM [c0,c1,c2,c3,c4,c5,c6,c7] (5,6)=[c0,c1,c2,c3,c4,(c5+c6+1) / 2,(c5+c6) / 2,c7]:=rfl
theorem t45 (c0 c1 c2 c3 c4 c5 c6 c7:Int):cM [c0,c1,c2,c3,c4,c5,c6,c7] (4,5)=[c0,c1,c2,c3,(c4+c5+1) / 2,(c4+c5) / 2,c6,c7]:=rfl
theorem t67 (c0 c1 c2 c3 c4 c5 c6 c7:Int):cM [c0,c1,c2,c3,c4,c5,c6,c7] (6,7)=[c0,c1,c2,c3,c4,c5,(c6+c7+1) / 2,(c6+c7) / 2]:=rfl
theorem Vz (c0 c1 c2 c3:Int):cM [c0,c1,c2,c3] (0,3)=[(c0+c3+1) / 2,c1,c2,(c0+c3) / 2]:=rfl
theorem VB (c0 c1 c2 c3:Int):cM [c0,c1,c2,c3] (1,2)=[c0,(c1+c2+1) / 2,(c1+c2) / 2,c3]:=rfl
theorem u01 (c0 c1 c2 c3:Int):cM [c0,c1,c2,c3] (0,1)=[(c0+c1+1) / 2,(c0+c1) / 2,c2,c3]:=rfl
theorem u23 (c0 c1 c2 c3:Int):cM [c0,c1,c2,c3] (2,3)=[c0,c1,(c2+c3+1) / 2,(c2+c3) / 2]:=rfl
theorem eb8:iY 3=[(0,7),(1,6),(2,5),(3,4),(0,3),(1,2),(0,1),(2,3),(4,7),(5,6),(4,5),(6,7)]:=by decide
theorem eb4:iY 2=[(0,3),(1,2),(0,1),(2,3)]:=by decide
theorem arB (c0 c1 c2 c3 c4 c5 c6 c7:Int):∃ q a b c d:Int,0<=a/\a<=5/\0<=b/\b<=5/\0<=c/\c<=5/\0<=d/\d<=5/\bC [c0,c1,c2,c3,c4,c5,c6,c7] (iY 3)=gP q (M_ a b c d):=by
 have e:bC [c0,c1,c2,c3,c4,c5,c6,c7] (iY 3)=M_ ((((c0+c7+1) / 2+(c3+c4+1) / 2+1) / 2)+(((c1+c6+1) / 2+(c2+c5+1) / 2+1) / 2)) ((((c1+c6+1) / 2+(c2+c5+1) / 2) / 2)+(((c0+c7+1) / 2+(c3+c4+1) / 2) / 2)) (((((c3+c4) / 2+(c0+c7) / 2)+1) / 2)+((((c2+c5) / 2+(c1+c6) / 2)+1) / 2)) ((((c2+c5) / 2+(c1+c6) / 2) / 2)+(((c3+c4) / 2+(c0+c7) / 2) / 2)):=by rw [eb8];simp only [bC,jG,J1];rw [Vv,Vw,Vx,Vy,t03,t12,t01,t23,t47,t56,t45,t67];rfl
 rw [e];have g:∀ t:Int,0<=(t+1) / 2-t / 2/\(t+1) / 2-t / 2<=1:=λt=>by lk
 have two:∀ x y:Int,0<=x-y->x-y<=2->0<=x / 2-y / 2/\(x+1) / 2-y / 2<=2/\0<=(y+1) / 2-y / 2/\(y+1) / 2-y / 2<=1/\0<=(x+1) / 2-x / 2:=λx y h1 h2=>by lk
 have L:=g (c0+c7);have h1:=g (c1+c6);have h2:=g (c2+c5);have I:=g (c3+c4);clear e g;generalize (c0+c7+1) / 2=a0 at *;generalize (c0+c7) / 2=o at *;generalize (c1+c6+1) / 2=m at *;generalize (c1+c6) / 2=z at *;generalize (c2+c5+1) / 2=r at *;generalize (c2+c5) / 2=u at *;generalize (c3+c4+1) / 2=n at *;generalize (c3+c4) / 2=p at *;have R:=two (a0+n) (p+o) (by lk) (by lk);have S:=two (m+r) (u+z) (by lk) (by lk);clear two L h1 h2 I;generalize (a0+n+1) / 2=B at *;generalize (a0+n) / 2=C at *;generalize (p+o+1) / 2=O at *;generalize (p+o) / 2=l at *;generalize (m+r+1) / 2=D at *;generalize (m+r) / 2=N at *;generalize (u+z+1) / 2=J at *;generalize (u+z) / 2=j at *;have au:∀ v:Int,0<=v-2*(v / 2)/\v-2*(v / 2)<=1:=λv=>by lk
 have M:=au (j+l);have i:∀ x k:Int,(x-2*k+1) / 2+k=(x+1) / 2/\(x-2*k) / 2+k=x / 2:=λx k=>by lk
 refine ⟨(j+l) / 2,B+D-2*((j+l) / 2),N+C-2*((j+l) / 2),O+J-2*((j+l) / 2),j+l-2*((j+l) / 2),?_⟩;generalize (j+l) / 2=k at M ⊢;refine ⟨by lk, by lk, by lk, by lk, by lk, by lk, by lk, by lk, ?_⟩;unfold gP M_;simp only [gb,zO];rw [(i _ k).1,(i _ k).2,(i _ k).1,(i _ k).2,(i _ k).1,(i _ k).2,(i _ k).1,(i _ k).2]
theorem arC (c0 c1 c2 c3:Int):∃ q a b:Int,0<=a/\a<=5/\0<=b/\b<=5/\bC [c0,c1,c2,c3] (iY 2)=gP q (Ln a b):=by
 have e:bC [c0,c1,c2,c3] (iY 2)=Ln ((c0+c3+1) / 2+(c1+c2+1) / 2) ((c1+c2) / 2+(c0+c3) / 2):=by rw [eb4];simp only [bC,jG,J1];rw [Vz,VB,u01,u23];rfl
 rw [e];have c:∀ t:Int,0<=(t+1) / 2-t / 2/\(t+1) / 2-t / 2<=1:=λt=>by lk
 have m:=c (c0+c3);have h1:=c (c1+c2);clear e c;generalize (c0+c3+1) / 2=a0 at *;generalize (c0+c3) / 2=i at *;generalize (c1+c2+1) / 2=j at *;generalize (c1+c2) / 2=g at *;have au:∀ v:Int,0<=v-2*(v / 2)/\v-2*(v / 2)<=1:=λv=>by lk
 have l:=au (g+i);have d:∀ x k:Int,(x-2*k+1) / 2+k=(x+1) / 2/\(x-2*k) / 2+k=x / 2:=λx k=>by lk
 refine ⟨(g+i) / 2,a0+j-2*((g+i) / 2),g+i-2*((g+i) / 2),?_⟩;generalize (g+i) / 2=k at l ⊢;refine ⟨by lk, by lk, by lk, by lk, ?_⟩;unfold gP Ln;simp only [gb,zO];rw [(d _ k).1,(d _ k).2,(d _ k).1,(d _ k).2]
def Hi (c:aF):Bool:=decide (dN c.length c.sum=c)
theorem Jb (pos:0<c.length) (h:Hi c=true):iD c:=(aaO pos).mpr (jH h)
theorem arD:∀ a b:Fin 6,Hi (bC (Ln a.val b.val) (iY 2))=true:=by k_go
theorem arE (a b c d:Fin 6):Hi (bC (M_ a.val b.val c.val d.val) (iY 3++iY 3))=true:=by
 revert c d;obtain ⟨a,g⟩:=a;obtain ⟨b,e⟩:=b;have ea:a=0\/a=1\/a=2\/a=3\/a=4\/a=5:=by lk
 have i:b=0\/b=1\/b=2\/b=3\/b=4\/b=5:=by lk
 dsimp only;clear g e;rcases ea with z|z|z|z|z|z<;>subst z<;>rcases i with z|z|z|z|z|z<;>subst z<;>k_go
theorem Cq {x:Int} (h0:0<=x) (h5:x<=5):∃ f:Fin 6,x=(f.val:Int):=⟨⟨x.toNat,by lk⟩,by show x=((x.toNat:Nat):Int);lk⟩
theorem wb8:bJ 8 (iY 3):=CW (by decide)
theorem wb4:bJ 4 (iY 2):=CW (by decide)
theorem Zo {k:Nat} (h1:1<=k) (h3:k<=3) (hl:c.length=(pw k).toNat):iD (bC c (qd k)):=by
 have C:k=1\/k=2\/k=3:=by lk
 rcases C with z|z|z<;>subst z
 ·obtain ⟨i,g,rfl⟩:=Uh c hl;have e:bC [i,g] (qd 1)=[(i+g+1) / 2,(i+g) / 2]:=rfl;rw [e];refine (aaO (c:=[(i+g+1) / 2,(i+g) / 2]) (RD _)).mpr ?_;show dN 2 ([(i+g+1) / 2,(i+g) / 2].sum)=_;unfold dN;simp only [qD,List.sum_nil,range,range.loop,gb,zO,List.cons.injEq,and_true];constructor<;>lk
 ·obtain ⟨i,g,p,n,rfl⟩:=Ug c hl;have e:qd 2=iY 2++iY 2:=by decide
  obtain ⟨q,a,b,a0,r,m,j,z⟩:=arC i g p n;obtain ⟨l,rfl⟩:=Cq a0 r;obtain ⟨o,rfl⟩:=Cq m j;rw [e,rG,z,KC (aj:=4) _ _ rfl wb4];exact Jo (Jb (by rw [jE];exact RD _) (arD l o))
 ·obtain ⟨i,g,p,n,J,u,v,D,rfl⟩:=aqy c hl;have e:qd 3=iY 3++(iY 3++iY 3):=by decide
  obtain ⟨q,a,b,c,d,a0,r,m,j,x,t,I,B,z⟩:=arB i g p n J u v D;obtain ⟨l,rfl⟩:=Cq a0 r;obtain ⟨o,rfl⟩:=Cq m j;obtain ⟨y,rfl⟩:=Cq x t;obtain ⟨fd,rfl⟩:=Cq I B;rw [e,rG,z,KC (aj:=8) _ _ rfl (wb8.app wb8)];exact Jo (Jb (by rw [jE];exact RD _) (arE l o y fd))
def GK (aj gap:Int):aP:=((range aj.toNat).filter λk:Nat=>decide ((k:Int) / gap % 2=0)).map λk:Nat=>((k:Int),(k:Int)+gap)
def mV:Nat->Int->aP
 |0,_=>[]
 |j+1,aj=>GK aj (pw j)++mV j aj
def iK:Nat->aP
 |0=>[]
 |k+1=>(iK k++(iK k).map (kW (pw k)))++jd (pw (k+1))++mV k (pw (k+1))
theorem fold_all {k:Nat} (h:k<=3):bJ (pw k) (iK k)/\(iK k).length<=24:=by
 have:k=0\/k=1\/k=2\/k=3:=by lk
 rcases this with z|z|z|z<;>subst z<;>exact ⟨CW (by decide),by decide⟩
theorem Ip (hn:0<n) (p r:Int):dN n ((n:Int)*p+r)=gP p (dN n r):=by
 unfold dN gP;rw [xq];refine xu λi _=>?_;show -(((0:Int)+(i:Int)-((n:Int)*p+r)) / (n:Int))=-(((0:Int)+(i:Int)-r) / (n:Int))+p;have e:(0:Int)+(i:Int)-((n:Int)*p+r)=(0+(i:Int)-r)+(n:Int)*(-p):=by rw [BP];lk
 rw [e,zj _ _ (by lk)];lk
theorem ac8 {c0 c1 c2 c3 c4 c5 c6 c7 e0 e1 e2 e3 e4 e5 e6 e7:Int} (h0:c0+c7=e0+e7) (h1:c1+c6=e1+e6) (h2:c2+c5=e2+e5) (h3:c3+c4=e3+e4) : bC [c0,c1,c2,c3,c4,c5,c6,c7] (jd 8)=bC [e0,e1,e2,e3,e4,e5,e6,e7] (jd 8):=by
 have e:jd 8=[(0,7),(1,6),(2,5),(3,4)]:=by decide
 rw [e];simp only [bC,jG,J1];rw [Vv,Vw,Vx,Vy,Vv,Vw,Vx,Vy,h0,h1,h2,h3]
theorem ac4 {c0 c1 c2 c3 e0 e1 e2 e3:Int} (h0:c0+c3=e0+e3) (h1:c1+c2=e1+e2) : bC [c0,c1,c2,c3] (jd 4)=bC [e0,e1,e2,e3] (jd 4):=by
 have e:jd 4=[(0,3),(1,2)]:=by decide
 rw [e];simp only [bC,jG,J1];rw [Vz,VB,Vz,VB,h0,h1]
theorem aqz:∀ (r t:Fin 4) (e:Fin 2),Hi (bC (gP (e.val:Int) (dN 4 (r.val:Int))++dN 4 (t.val:Int)) (jd 8++mV 2 8))=true:=by k_go
theorem aqA:∀ (r t:Fin 2) (e:Fin 2),Hi (bC (gP (e.val:Int) (dN 2 (r.val:Int))++dN 2 (t.val:Int)) (jd 4++mV 1 4))=true:=by k_go
theorem CZ {x:Int} (h0:0<=x) (h5:x<n):∃ f:Fin n,x=(f.val:Int):=⟨⟨x.toNat,by lk⟩,by show x=((x.toNat:Nat):Int);lk⟩
theorem Nb (q a b c d:Int):gP q [a,b,c,d]=[a+q,b+q,c+q,d+q]:=rfl
theorem Nf (q a b:Int):gP q [a,b]=[a+q,b+q]:=rfl
theorem adG (q:Int) (a b:aF):gP q (a++b)=gP q a++gP q b:=cX
theorem ad9 (p q:Int) (a:aF):gP p (gP q a)=gP (q+p) a:=by unfold gP;rw [xq];exact xu λx _=>by show x+q+p=x+(q+p);lk
theorem wa8:bJ 8 (jd 8++mV 2 8):=CW (by decide)
theorem wa4:bJ 4 (jd 4++mV 1 4):=CW (by decide)
theorem aqB (lc:c.length=4) (ld:d.length=4) (hc:iD c) (hd:iD d):iD (bC (c++d) (jd 8++mV 2 8)):=by
 have b:=Bp hc (by lk);have a:=Bp hd (by lk);rw [lc] at b;rw [ld] at a;obtain ⟨r,m⟩:=CZ (n:=4) (x:=c.sum % 4) (by lk) (by lk);obtain ⟨t,B⟩:=CZ (n:=4) (x:=d.sum % 4) (by lk) (by lk);obtain ⟨e,i⟩:=CZ (n:=2) (x:=(c.sum / 4+d.sum / 4) % 2) (by lk) (by lk);have j:c.sum=((4:Nat):Int)*(c.sum / 4)+(r.val:Int):=by lk
 have k:d.sum=((4:Nat):Int)*(d.sum / 4)+(t.val:Int):=by lk
 rw [j,Ip (by decide)] at b;rw [k,Ip (by decide)] at a;generalize c.sum / 4=p at b i;generalize d.sum / 4=q at a i;have g:bC (c++d) (jd 8)=bC (gP ((p+q) / 2) (gP (e.val:Int) (dN 4 (r.val:Int))++dN 4 (t.val:Int))) (jd 8):=by rw [adG,ad9,<-b,<-a];obtain ⟨a0,o,z,u,ea⟩:=Ug (dN 4 (r.val:Int)) (by unfold dN;simp);obtain ⟨v,D,C,y,l⟩:=Ug (dN 4 (t.val:Int)) (by unfold dN;simp);rw [ea,l,Nb,Nb,Nb,Nb];refine ac8 ?_ ?_ ?_ ?_<;>lk
 rw [rG,g,<-rG,KC (aj:=8) _ _ (by rw [dJ,Gg];unfold dN;simp) wa8];exact Jo (Jb (by rw [jE,dJ,Gg];unfold dN;simp) (aqz r t e))
theorem aqC (lc:c.length=2) (ld:d.length=2) (hc:iD c) (hd:iD d):iD (bC (c++d) (jd 4++mV 1 4)):=by
 have b:=Bp hc (by lk);have a:=Bp hd (by lk);rw [lc] at b;rw [ld] at a;obtain ⟨r,m⟩:=CZ (n:=2) (x:=c.sum % 2) (by lk) (by lk);obtain ⟨t,v⟩:=CZ (n:=2) (x:=d.sum % 2) (by lk) (by lk);obtain ⟨e,i⟩:=CZ (n:=2) (x:=(c.sum / 2+d.sum / 2) % 2) (by lk) (by lk);have j:c.sum=((2:Nat):Int)*(c.sum / 2)+(r.val:Int):=by lk
 have k:d.sum=((2:Nat):Int)*(d.sum / 2)+(t.val:Int):=by lk
 rw [j,Ip (by decide)] at b;rw [k,Ip (by decide)] at a;generalize c.sum / 2=p at b i;generalize d.sum / 2=q at a i;have g:bC (c++d) (jd 4)=bC (gP ((p+q) / 2) (gP (e.val:Int) (dN 2 (r.val:Int))++dN 2 (t.val:Int))) (jd 4):=by rw [adG,ad9,<-b,<-a];obtain ⟨a0,o,ea⟩:=Uh (dN 2 (r.val:Int)) (by unfold dN;simp);obtain ⟨u,y,l⟩:=Uh (dN 2 (t.val:Int)) (by unfold dN;simp);rw [ea,l,Nf,Nf,Nf,Nf];refine ac4 ?_ ?_<;>lk
 rw [rG,g,<-rG,KC (aj:=4) _ _ (by rw [dJ,Gg];unfold dN;simp) wa4];exact Jo (Jb (by rw [jE,dJ,Gg];unfold dN;simp) (aqA r t e))
theorem Pa (hl:c.length=2):iD (bC c (iK 1)):=by
 have e:iK 1=qd 1:=by decide
 rw [e];exact Zo (k:=1) (by decide) (by decide) hl
theorem Pb (hl:c.length=4):iD (bC c (iK 2)):=by
 have e:iK 2=(iK 1++(iK 1).map (kW 2))++(jd 4++mV 1 4):=by decide
 rw [e,rG,<-ab3 2 c,(ZF (a:=2) (b:=2) (by decide) (by simp;lk) (fold_all (k:=1) (by decide)).1 (fold_all (k:=1) (by decide)).1).1];exact aqC (by rw [jE];simp;lk) (by rw [jE];simp;lk) (Pa (by simp;lk)) (Pa (by simp;lk))
theorem agR (hl:c.length=8):iD (bC c (iK 3)):=by
 have e:iK 3=(iK 2++(iK 2).map (kW 4))++(jd 8++mV 2 8):=by decide
 rw [e,rG,<-ab3 4 c,(ZF (a:=4) (b:=4) (by decide) (by simp;lk) (fold_all (k:=2) (by decide)).1 (fold_all (k:=2) (by decide)).1).1];exact aqB (by rw [jE];simp;lk) (by rw [jE];simp;lk) (Pb (by simp;lk)) (Pb (by simp;lk))
theorem ahK {k:Nat} (h1:1<=k) (h3:k<=3) (hl:c.length=(pw k).toNat):iD (bC c (iK k)):=by
 have a:k=1\/k=2\/k=3:=by lk
 rcases a with z|z|z<;>subst z
 ·exact Pa hl
 ·exact Pb hl
 ·exact agR hl
def jh (aj:Int) (ws:aP):Prop:=∀ c:aF,c.length=aj.toNat->iD (bC c ws)
theorem jh.ahead {us:aP} (h:jh aj ws):jh aj (us++ws):=λc a=>by rw [rG];exact h _ (by rw [jE];exact a)
theorem jh.come (h:jh aj ws) (ok:bJ aj ws) (w1:1<=aj) (hl:c.length=aj.toNat):bC c ws=dN aj.toNat c.sum:=by have e:=Bp (h c hl) (by rw [jE];lk);rw [jE,aiS ws c ok hl,hl] at e;exact e.symm
end
section
open PySem.Spec PyProof.Rows
section
open AutoSeq1 (wpAny_loadPart')
section
theorem agS {Q:bV->Shared->Prop} {r:Addr} {a b c:Int} {t u v:Tok} (hh:A.handled=none) (hr:IsRange s.heap r a b c t u v) (hsmall:Builtin.Range.small a b c=true) (hn:rangeSize a b c=n) (gC:n<=2 ^ 24) (hQ:∀ h' tk bU,(∀ b o',s.heap.get? b=some o'->h'.get? b=some o')->ItemsOf (λi v=>∃ t,v=.int (a+i*c) t) bU n->Q bU.toList { s with heap:=h',toks:=tk }) : wpAny (model prog w) A (collect (.ref r)) Q E s:=by
 unfold collect;refine bf (wpAny_runValue (w5 F.entry_proto_collect ?_));rw [yQ F.plain_proto_collect _];show wpAny _ A.in1 (newList [] >>= λl=>again (.builtin "list.__iadd__" ⟨[l,.ref r],[]⟩)) _ _ s;refine bf (yP (cY ⟨BK F.plain_list_iadd _,w5 F.entry_list_iadd ?_⟩));rw [yQ F.plain_list_iadd _];show wpAny _ A.in1 (Builtin.List.listExtendWith (.ref s.heap.objs.size) (.ref r) (.ref s.heap.objs.size)) _ _ _;have q:(s.heap.push { cls:=.type "list",data:=.seq ([]:bV).toArray }).get? s.heap.objs.size=some { cls:=.type "list",data:=.seq #[] 0 }:=fQ _ rfl;have g:∀ (h':Heap) (tk:Nat) (bU:g_) (d:Nat),(∀ b o',s.heap.get? b=some o'->h'.get? b=some o')->h'.get? s.heap.objs.size=some { cls:=.type "list",dict:=none,data:=.seq bU d,slots:=#[] }->ItemsOf (λi v=>∃ t,v=.int (a+i*c) t) bU n ->wpAny (model prog w) A (match Value.ref s.heap.objs.size with
   |Value.ref a=>do
    match (<-load a).data with
     |Data.seq xs _=>pure xs.toList
     |_=>unsupported "internal:collect"
   |_=>unsupported "internal:collect") Q E { s with heap:=h',toks:=tk }:=λh' tk bU d j m hi=>by
  show wpAny _ A (load s.heap.objs.size >>= _) _ _ _;exact bf (wpAny_load m (cY (hQ h' tk bU j hi)))
 refine lE (wpAny_extend_range (A:=A) (R:=λr s'=>∃ (h':Heap) (tk:Nat) (bU:g_) (d:Nat),r=.ok (.ret (.ref s.heap.objs.size))/\s'={ s with heap:=h',toks:=tk }/\(∀ b o',s.heap.get? b=some o'->h'.get? b=some o')/\h'.get? s.heap.objs.size=some { cls:=.type "list",dict:=none,data:=.seq bU d,slots:=#[] }/\ItemsOf (λi v=>∃ t,v=.int (a+i*c) t) bU n) (s:={ s with heap:=s.heap.push { cls:=.type "list",data:=.seq ([]:bV).toArray } }) hh (dF _ hr) hsmall hn gC s.heap.objs.size (.ref s.heap.objs.size) _ q λh' tk o d j p k=>?_) (λx s' h=>?_) (λe s' h=>?_)
 ·exact ⟨h',tk,o,d,rfl,rfl,λb o' e=>j b o' (fO (cF e)) (dF _ e),p,k⟩
 ·cases x with
  |done f =>obtain ⟨h',tk,bU,d,e,rfl,j,m,hi⟩:=h;cases e;exact g h' tk bU d j m hi
  |again d=>exact ⟨h.1,sE h.2 λr y hr=>by obtain ⟨h',tk,bU,d,rfl,rfl,j,m,hi⟩:=hr;exact g h' tk bU d j m hi⟩
 ·obtain ⟨_,_,_,_,e,_⟩:=h;cases e
end
theorem ae6 (r:Addr) {a b c:Int} {t u v:Tok} (hsmall:Builtin.Range.small a b c=true) (hn:rangeSize a b c=n) (gC:n<=100000) : Meets (Builtin.«tuple.__new__» ⟨[.type "tuple",.ref r],[]⟩) (λA R s=>A.handled=none/\IsRange s.heap r a b c t u v/\∀ (h':Heap) (tk:Nat) (bU:g_),(∀ b o',s.heap.get? b=some o'->h'.get? b=some o')->ItemsOf (λi v=>∃ t,v=.int (a+i*c) t) bU n ->R (.ok (.ret (.ref h'.objs.size))) { s with heap:=h'.push { cls:=.type "tuple",data:=.seq bU },toks:=tk }):=.of_wp λprog w A R s h=>by
  obtain ⟨y,g,d,tk,B⟩:=s;obtain ⟨C,l,h⟩:=h;have o:=sub_tuple_self;have j:=init_tuple_lookup;have p:=madeHere_tuple;have z:Shared.TypeIs ⟨y,g,d,tk,B⟩ (.ref r) "range":=⟨_,l,rfl⟩;have m:A.in1.handled=none:=C
  wp_walk using CP l,wpAny_typeOf z,agS (A:=A.in1) m l hsmall hn (by lk)
  intro h' k bU q hi;have x:bU.size=n:=hi.1;show wpAny _ _ (tupleExact bU.toList.toArray >>= λv=>ret v) _ _ _;unfold tupleExact;refine bf (yP ?_ (by show bU.toList.toArray.size<=sizeLine;rw [JW,x];exact aW (by lk)));refine cY ⟨_,rfl,?_⟩;have e:bU.toList.toArray=bU:=by simp
  rw [e];exact h h' k bU q hi
section
theorem afv {r:Addr} {a b c:Int} {t u v:Tok} (hh:A.handled=none) (hr:IsRange s.heap r a b c t u v) (hsmall:Builtin.Range.small a b c=true) (hn:rangeSize a b c=n) (gC:n<=100000) (h:∀ (h':Heap) (tk:Nat) (bU:g_),(∀ b o',s.heap.get? b=some o'->h'.get? b=some o')->ItemsOf (λi v=>∃ t,v=.int (a+i*c) t) bU n->Q (.ref h'.objs.size) { s with heap:=h'.push { cls:=.type "tuple",data:=.seq bU },toks:=tk }) : wpAny (model prog w) A (call (.type "tuple") [.ref r]) Q E s:=callType_new F.called_tuple (by decide) (F.typeCall_tuple_1 _) (F.newCall_tuple_1 _) (λd=>F.args_object_init_2 d _) F.entry_tuple_new (ae6 r hsmall hn gC) ⟨hh,hr,λh' tk bU e hi=>⟨⟨_,fQ _ rfl,rfl⟩,h h' tk bU e hi⟩⟩
end
inductive afO (K:bG) (xs:aA) (H:Hp) (Q:VK):Prop
 |mk (r:Addr) (i j:Int) (h1:xs=[.ref r]) (h2:H r=some (.rng i j)) (h3:-(2 ^ 62)<=i) (h4:i<2 ^ 62) (h5:-(2 ^ 62)<=j) (h6:j<2 ^ 62) (h7:(j-i).toNat<=50000) (h8:∀ l,H l=none->Q (.ref l) (upd H l (.tup ((mz i j).map V.int))))
theorem ZJ (hc:X.calm=true):jz X (.type "tuple") (afO X.K):=by
 rintro ak s σ H xs us Q I r ⟨p,i,j,rfl,C,i1,i2,D,y,O,q⟩;obtain ⟨u,rfl,M⟩:=qH r;cases M;obtain ⟨t,N,v,e⟩:=(show dZ X.prog X.w H s.heap p (.rng i j) from I.hok p _ C);have n:rangeSize i j 1=((j-i).toNat:Nat):=by rw [rangeSize_one];split<;>lk
 refine afv (I.ok.hd hc) e (small_one i1 i2 D y) n (by lk) λh' d c x ⟨J,L⟩=>?_;have a:bO ((mz i j).map V.int) c.toList:=by
  have z:=Qm i c.toList 0 λk v e=>by obtain ⟨t,B⟩:=L k v (by simpa using e);exact ⟨t,by rw [B,S8,oM]⟩
  have g:c.toList.length=(j-i).toNat:=by rw [xQ,J]
  rw [g,<-abV] at z;unfold mz;rw [xq];exact z
 have l:aD X ak σ H { s with heap:=h',toks:=d }:=I.kept (t':=d) x;have m:aD X ak σ (upd H h'.objs.size (.tup ((mz i j).map V.int))) { s with heap:=h'.push { cls:=.type "tuple",data:=.seq c },toks:=d }:=l.laid (t':=d) (λb o e=>dF _ e) (bI _) (show dZ X.prog X.w _ _ _ (.tup ((mz i j).map V.int)) from ⟨by simp only [mz,bh,BW];exact aW (by lk),c.toList,a,by rw [JW];exact oU.new _ _⟩);exact ⟨.ref h'.objs.size,_,m,rfl,q _ (l.hok.fresh (bI _))⟩
end
end
section
open PySem.SeqAt
inductive yj (H:Hp):Nat->V->Prop
 |one {a:Addr} (h:H a=some (.tup [.str "one"])):yj H 0 (.ref a)
 |VD {k:Nat} {a t1 t2:Addr} {x y:V} (h:H a=some (.tup [.str "halves",.int ((iK k++(iK k).map (kW (pw k))).length:Int),.ref t1,.ref t2,x,y])) (h1:H t1=some (.tup ((mz 0 (pw k)).map V.int))) (h2:H t2=some (.tup ((mz (pw k) (pw (k+1))).map V.int)))
   (hx:yj H k x) (hy:yj H k y):yj H (k+1) (.ref a)
theorem yj.same (s:aB H H'):∀ {k:Nat} {x:V},yj H k x->yj H' k x:=by
 intro k x h;induction h with
 |one h=>exact .one (s _ _ h)
 |VD h h1 h2 _ _ b a=>exact .VD (s _ _ h) (s _ _ h1) (s _ _ h2) b a
inductive anK (vs:aA) (H:Hp) (Q:VK):Prop
 |mk (k:Nat) (h1:vs=[.int (pw (k+1))]) (h2:k<=2) (h3:∀ (a:Addr) (H':Hp),H a=none->aB H H'->m5 H' a (mV k (pw (k+1)))->Q (.ref a) H')
def apt:=nE anK
inductive ahL (vs:aA) (H:Hp) (Q:VK):Prop
 |mk (l:Addr) (ws:aP) (k:Int) (h1:vs=[.ref l,.int k]) (h2:M8 H l ws) (h3:ws.length<=100) (h4:∀ (a:Addr) (H':Hp),H a=none->aB H H'->m5 H' a (ws++ws.map (kW k))->Q (.ref a) H')
def aaV:=nE ahL
theorem alR (vs:aA) (H:Hp) (Q:VK) (E:XK) (h:abt vs H Q E):aaV vs H Q E:=by obtain ⟨l,ws,k,e,⟨rs,a,hr⟩,len,q⟩:=h;exact ⟨l,ws,k,e,⟨rs,.inl a,hr⟩,len,q⟩
theorem acT (vs:aA) (H:Hp) (Q:VK) (E:XK) (h:acM vs H Q E):TF vs H Q E:=by obtain ⟨aj,l,ws,rfl,⟨rs,a,hr⟩,b,c,ok,len,q⟩:=h;exact ⟨aj,l,ws,rfl,⟨rs,.inl a,hr⟩,b,c,ok,len,q⟩
inductive abv (n:Nat) (vs:aA) (H:Hp) (Q:VK):Prop
 |mk (k:Nat) (h1:vs=[.int (pw k)]) (h2:k<n) (h3:k<=3) (h4:∀ (T:Addr) (v pv:V) (H':Hp),H T=none->aB H H'->H' T=some (.tup [v,pv])->eV H' v (pw k) (iK k)->yj H' k pv->Q (.ref T) H')
def u6 (an:Addr) (n:Nat):Sp:=λvs H Q E=>abv n vs H Q\/(0<n/\∃ x,vs=[x]/\(uH H x\/∃ i,x=.int i/\¬ vM i)/\E (.ref an) none H)
def aju:Sp:=λvs H Q _=>abv 4 vs H Q
theorem asy {an:Addr} (vs:aA) (H:Hp) (Q:VK) (E:XK) (h:aju vs H Q E):u6 an 4 vs H Q E:=.inl h
theorem acU:jh 1 []:=λc d i j b e=>by
 rw [aiO] at e ⊢;have k:c.length=1:=d;have g:i=0:=by lk
 have a:j=0:=by lk
 subst g;subst a;lk
theorem alS {k:Nat} (h3:k<=3):jh (pw k) (iK k):=by
 cases k with
 |zero=>exact acU
 |succ k=>exact λc a=>ahK (by lk) h3 a
theorem anL {k:Nat} (h3:k<=3):jh (pw k) (qd k):=by
 cases k with
 |zero=>exact acU
 |succ k=>exact λc a=>Zo (by lk) h3 a
theorem uU {p:Prop} (h:¬ p):(false=true)↔p:=⟨λz=>Bool.noConfusion z,λz=>absurd z h⟩
theorem Hj {p:Prop} (h:p):(true=true)↔p:=⟨λ_=>h,λ_=>rfl⟩
end
section
open PySem.Spec PyProof.Rows
section
open AutoSeq1 (wpAny_loadPart')
theorem ajv:bootBuiltins "set"=some (.type "set"):=by k_go
theorem Oh:fillsNumberSlot (.type "tuple") "mul"=pure false:=PySem.fillsNumberSlot_seq (id:="tuple.__mul__") (r:=some (.builtin "tuple.__rmul__")) Ft.lookup (by k_go) F.slot_tuple_rmul.lookup (by k_go)
theorem O1:seqRepeat? (.type "tuple")=pure (some (.builtin "tuple.__mul__")):=by unfold seqRepeat?;rw [PySem.seqSlot_of (T:="tuple") (name:="__mul__") (id:="tuple.__mul__") Ft.lookup (by k_go),PySem.seqSlot_of (T:="tuple") (name:="__rmul__") (id:="tuple.__rmul__") F.slot_tuple_rmul.lookup (by k_go)];rfl
theorem Ot (a:Int) (t:Tok) (l:Addr) (eY:g_) (n:Nat) (dd:jy) (sl:ux) : Meets (Builtin.«int.__rmul__» ⟨[.int a t,.ref l],[]⟩) (λ_ R s=>s.heap.get? l=some { cls:=.type "tuple",dict:=dd,data:=.seq eY n,slots:=sl }/\R (.ok (.ret Value.notImplemented)) s):=.of_wp λprog w A R s h=>by
  obtain ⟨i,g,d,b,c⟩:=s;obtain ⟨e,h⟩:=h
  wp_walk
  exact ⟨_,rfl,h⟩
theorem afP (l:Addr) (eY:g_) (n:Nat) (dd:jy) (sl:ux) (x:Int) (u:Tok) (h0:eY.isEmpty=false) (h1:2<=x) (h2:eY.size*x.toNat<=1000) : Meets (Builtin.«tuple.__mul__» ⟨[.ref l,.int x u],[]⟩) (λ_ R s=>s.heap.get? l=some { cls:=.type "tuple",dict:=dd,data:=.seq eY n,slots:=sl }/\R (.ok (.ret (.ref s.heap.objs.size))) { s with heap:=s.heap.push { cls:=.type "tuple",data:=.seq ((replicate x.toNat eY).foldl (·++·) #[]) } }):=.of_wp λprog w A R s h=>by
  obtain ⟨q,g,d,r,t⟩:=s;obtain ⟨i,h⟩:=h;have o:1<=eY.size:=by
   cases e:eY.size with
   |zero=>rw [Array.isEmpty_iff_size_eq_zero.mpr e] at h0;cases h0
   |succ k=>lk
  have p:x.toNat<=1000:=gR (Nat.le_mul_of_pos_left _ o) h2;have j:(eY.size:Int)*x<=1000:=by
   have:((eY.size*x.toNat:Nat):Int)<=1000:=by lk
   rw [Int.natCast_mul,xH (by lk)] at this;exact this
  wp_walk using CP i
  rw [aK (by simp;lk)]
  wp_walk using CP i
  rw [aK (by simp [h0];lk)]
  wp_walk
  rw [aK (by simp [h0];lk)]
  wp_walk
  rw [aK (by lk)]
  wp_walk
  rw [aK (by unfold Builtin.Tuple.tupleTooMany;simp only [Fj,Int.not_lt];exact Rn j (by decide))];have e:(foldl (λa c=>a++c) #[] (replicate x.toNat eY)).size<=1000:=by
   have z:∀ (k:Nat) (b:g_),(foldl (λa c=>a++c) b (replicate k eY)).size=b.size+k*eY.size:=by
    intro k;induction k with
    |zero=>intro b;simp
    |succ k m=>intro b;rw [ju,jG,m,Array.size_append,Nat.succ_mul];lk
   rw [z,Jy];simpa using h2
  show wpAny _ _ (tupleExact _ >>= λv=>ret v) _ _ _;unfold tupleExact;refine bf (yP ?_ (aW (by lk)));exact cY ⟨_,rfl,h⟩
inductive apu (x:V) (y:V) (H:Hp) (Q:VK):Prop
 |mk (l:Addr) (k:Int) (xs:aA) (h1:x=.ref l) (h2:y=.int k) (h3:H l=some (.tup xs)) (h4:1<=xs.length) (h5:2<=k) (h6:xs.length*k.toNat<=1000) (h7:∀ p,H p=none->Q (.ref p) (upd H p (.tup (replicate k.toNat xs).flatten)))
def aqD:R2:=λx y H Q=>apu x y H Q
theorem anM:dO X (binaryOp .Mult) aqD:=by
 rintro ak s σ H x y v u Q I M N ⟨l,k,xs,rfl,rfl,p,h1,h2,C,q⟩;cases M;obtain ⟨t,rfl⟩:=N;obtain ⟨aJ,r,z,_⟩:=I.tuple (aZ (K:=X.K) p);obtain ⟨⟨R,i,S,g⟩,d,D,n,O⟩:=id z;cases D;cases O;have j:xs.length=aJ.length:=r.length;have c:foldl (λB J=>B++J) #[] (replicate k.toNat aJ.toArray)=(replicate k.toNat aJ).flatten.toArray:=by have:=foldl_rep aJ k.toNat [];rw [List.nil_append] at this;exact this
 have L:aJ.toArray.isEmpty=false:=by
  cases aJ with
  |nil=>rw [show xs.length=0 from j] at h1;lk
  |cons a b=>rfl
 refine Jt (T:="tuple") (U:="int") (by decide) ⟨_,d,rfl⟩ (λs'=>vf s' k t) Oh Ju wY O1 Jv.lookup (lX wY (vf s k t) Jw (Jx _ _) (Ot k t l aJ.toArray n i g) ⟨d,rfl,⟨_,d,rfl⟩,lX Ft ⟨_,d,rfl⟩ RG (RJ _ _) (afP l aJ.toArray n i g k t L h2 (by rw [gU,<-j];exact C)) ⟨d,?_⟩⟩);rw [c];have m:aD X ak σ (upd H s.heap.objs.size (.tup (replicate k.toNat xs).flatten)) { s with heap:=s.heap.push { cls:=.type "tuple",data:=.seq (replicate k.toNat aJ).flatten.toArray } }:=I.laid (t':=s.toks) (λb o e=>dF _ e) (bI _) (show dZ X.prog X.w _ _ _ (.tup (replicate k.toNat xs).flatten) from ⟨by rw [Qc];exact aW (by rw [Jy];lk),_,r.rep k.toNat,oU.new _ _⟩);exact ⟨.ref _,_,m,rfl,q _ I.fresh⟩
end
end
section
open PySem.SeqAt PyProof.Rows
end
section
open PySem.Spec PyProof.Rows
def aqE:R2:=λx y H Q=>∃ a b xs ys,x=.ref a/\y=.ref b/\H a=some (.tup xs)/\H b=some (.tup ys)/\xs.length+ys.length<=sizeLine/\∀ c H',aB H H'->H' c=some (.tup (xs++ys))->Q (.ref c) H'
theorem anN:dO X (binaryOp .Add) aqE:=by
 rintro ak s σ H x y v u Q I m r ⟨a,b,xs,ys,rfl,rfl,i,k,C,q⟩;by_cases l:xs=[]
 ·cases m;cases r;subst l;obtain ⟨aJ,O,B,_⟩:=I.tuple (aZ (K:=X.K) i);obtain ⟨d,U,p2,_⟩:=I.tuple (aZ (K:=X.K) k);cases O;obtain ⟨⟨S,N,Y,J⟩,o,L,n,R⟩:=id B;obtain ⟨⟨V,t,W,z⟩,c,g,D,j⟩:=id p2;cases L;cases R;cases g;cases j;exact concat_meets ⟨_,o,rfl⟩ ⟨_,c,rfl⟩ Tp seq_tuple_add Tq Tr (Tt _ _) (tuple_addW0 a b #[] d.toArray n D N t J z rfl) ⟨o,c,⟨.ref b,H,I,rfl,q b H (cW _) k⟩⟩
 ·refine acs ak s σ H _ _ v u Q I m r ⟨a,b,xs,ys,rfl,rfl,aZ i,aZ k,l,C,λe=>?_,λ_ p M=>?_⟩
  ·subst e;exact q a H (cW _) (by rw [nO];exact i)
  ·exact q p _ (cu M _) aM
end
section
open PySem.SeqAt
end
section
open PySem.Spec PyProof.Rows
end
section
open PySem.SeqAt
end
section
open PySem.Spec PyProof.Rows
end
section
open PySem.SeqAt
end
section
open PySem.Spec PyProof.Rows PySem.SeqAt
section
open AutoSeq1 (wpAny_loadPart')
end
end
section
open PySem.SeqAt PyProof.Rows
end
section
open PySem.Spec PyProof.Rows
section
open PySem.W (CodeHd tabObj kla_fn kla_obj envX)
end
end
section
end
section
open PySem.Spec PyProof.Rows
end
section
open PySem.SeqAt
end
section
theorem adH {a b:TS} (P:St->Hp->Prop) (ha:∀ N:St->Hp->Prop,(∀ σ H,P σ H->N σ H)->a { D with nx:=N } σ H) (hb:∀ σ H,P σ H->b D σ H):Ut a b D σ H:=ha (b D) hb
end
section
open PySem.SeqAt
end
section
open PySem.SeqAt PyProof.Rows
end
section
open PySem.Spec PyProof.Rows
section
end
end
section
open PySem.Spec PyProof.Rows HT
end
section
open PySem.SeqAt PyProof.Rows
end
variable {tl:TE}
section
open PySem.Spec PyProof.Rows
section
def PJ (X:Cx) (parts:List Expr) (t:Str->St->Hp->VK->Prop):Prop :=
 ∀ (ak:List (Addr×Obj)) (s:Shared) (σ:St) (H:Hp) (out:Str) (Q:VK),aD X ak σ H s->t out σ H Q->wpAny (model X.prog X.w) X.A (joinParts out (evalEach parts X.env)) (EP X ak σ Q) X.xe s
def arF:Str->St->Hp->VK->Prop:=λout σ H Q=>out.length<=sizeLine/\Q (.str out) H
def aqF (te:TE) (t:Str->St->Hp->VK->Prop):Str->St->Hp->VK->Prop:=λout σ H Q=>te σ H λx H1=>∃ y,x=.str y/\(out++y).length<=sizeLine/\t (out++y) σ H1 Q
def anO (t:Str->St->Hp->VK->Prop):TE:=λσ H Q=>t empty σ H Q
def arG (te:TE):TE:=λσ H Q=>te σ H λx H1=>∃ i:Int,x=.int i/\i.natAbs.log2<1920/\Q (.str (toString i)) H1
theorem apv:PJ X [] arF:=by intro ak s σ H out Q I h;exact joinParts_nil ⟨.str out,H,I.tok _,⟨_,rfl⟩,h.2⟩ h.1
theorem KH {t:Str->St->Hp->VK->Prop} (he:PE X e te) (hr:PJ X es t):PJ X (e::es) (aqF te t):=by intro ak s σ H out Q I h;show wpAny _ _ (joinParts out (eval e X.env::evalEach es X.env)) _ _ _;refine joinParts_cons (bA (he ak s σ H _ I h) λv a ⟨x,H1,c,d,y,ex,b,q⟩=>?_);subst ex;obtain ⟨t',rfl⟩:=d;exact ⟨b,hr ak a σ H1 _ Q c q⟩
theorem ajw {e1 e2:Expr} {t:Str->St->Hp->VK->Prop} (h:PJ X (e1::e2::es) t):PE X (.JoinedStr (e1::e2::es) pos) (anO t):=by intro ak s σ H Q I a;exact JoinedStr_many (h ak s σ H empty Q I a)
theorem acV (he:PE X e te):PE X (.FormattedValue e (-1) none pos) (arG te):=by intro ak s σ H Q I h;refine FormattedValue_plain (bA (he ak s σ H _ I h) λv d ⟨x,H1,a,b,i,ex,c,q⟩=>?_);subst ex;obtain ⟨t',rfl⟩:=b;exact formatField_int_small c ⟨.str _,H1,a.tok _,⟨_,rfl⟩,q⟩
theorem Zq:∀ {us:bV} {ys:bK},bO (ys.map V.str) us->StrsAre us ys
 |_,[],.nil=>.nil
 |_,y::r,.cons ⟨t,rfl⟩ h=>.cons y t (Zq h)
inductive adI (K:bG) (x:V) (xs:aA) (H:Hp) (Q:VK):Prop
 |mk (sep:Str) (l:Addr) (ys:bK) (h1:x=.str sep) (h2:xs=[.ref l]) (h3:dH K H l (ys.map V.str)) (h4:(ys.map (·.length)).sum+ys.length*sep.length<=16777216) (h5:Q (.str (Txt.join sep ys)) H)
theorem KJ:Ae X "str.join" (adI X.K):=by rintro ak s σ H x xs v us Q I d b ⟨c,l,ys,rfl,rfl,g,a,q⟩;obtain ⟨t,rfl⟩:=d;obtain ⟨u,rfl,i⟩:=b.one;cases i;obtain ⟨aJ,r,p,_⟩:=I.list g;exact join_list p.isList (Zq r) a λt' k=>⟨.str _,H,I.kept (t':=k) λ_ _ e=>e,⟨_,rfl⟩,q⟩
inductive alT (x:V) (xs:aA) (H:Hp) (Q:VK):Prop
 |mk (a b:Str) (h1:x=.str a) (h2:xs=[.str b]) (h3:Q (.bl (startswith a b)) H)
theorem Ze:Ae X "str.startswith" alT:=by rintro ak s σ H x xs v us Q I d c ⟨a,b,rfl,rfl,q⟩;obtain ⟨t,rfl⟩:=d;obtain ⟨u,rfl,t',rfl⟩:=c.one;exact SC.startswith ⟨.bl _,H,I,rfl,q⟩
inductive apw (x:V) (xs:aA) (H:Hp) (Q:VK):Prop
 |mk (a b:Str) (h1:x=.str a) (h2:xs=[.str b]) (h3:(b.length == 0)=false) (h4:a.length<=sizeLine) (h5:∀ t,H t=none->Q (.ref t) (upd H t (.tup [.str (partition a b).1,.str (partition a b).2.1,.str (partition a b).2.2])))
theorem Zr:Ae X "str.partition" apw:=by
 rintro ak s σ H x xs v us Q I j g ⟨a,b,rfl,rfl,k,d,q⟩;obtain ⟨t,rfl⟩:=j;obtain ⟨u,rfl,t',rfl⟩:=g.one;refine lX F.slot_str_partition (tW _ _ _) F.entry_str_partition (F.args_str_partition_2 _ _) (meets_str_partition a b t t' k d) ?_;unfold partition at q;cases c:occurrences a b 0 a.length 1 with
 |nil =>rw [c] at q;refine ⟨.ref s.heap.objs.size,_,I.laid (t':=s.toks+1) (o:=.tup [.str a,.str empty,.str empty]) (λb e q=>dF _ q) (bI _) ?_,rfl,q _ (I.hok.fresh (bI _))⟩;exact ⟨aW (by show 3<=100000;decide),_,.cons ⟨_,rfl⟩ (.cons ⟨_,rfl⟩ (.cons ⟨_,rfl⟩ .nil)),oU.new _ _⟩
 |cons i r =>rw [c] at q;refine ⟨.ref s.heap.objs.size,_,I.laid (t':=s.toks+1+1) (o:=.tup [.str (strSub a 0 i),.str b,.str (strSub a (i+b.length) a.length)]) (λb e q=>dF _ q) (bI _) ?_,rfl,q _ (I.hok.fresh (bI _))⟩;exact ⟨aW (by show 3<=100000;decide),_,.cons ⟨_,rfl⟩ (.cons ⟨_,rfl⟩ (.cons ⟨_,rfl⟩ .nil)),oU.new _ _⟩
theorem Qt:∀ (n:Nat) (l:bK),bO (l.map V.str) (strsFrom n l)
 |_,[]=>.nil
 |n,y::r=>.cons ⟨_,rfl⟩ (Qt (n+1) r)
inductive anP (x:V) (xs:aA) (H:Hp) (Q:VK):Prop
 |mk (a b:Str) (h1:x=.str a) (h2:xs=[.str b]) (h3:(b.length == 0)=false) (h4:a.length<=100000) (h5:∀ l,H l=none->Q (.ref l) (upd H l (.lst ((Txt.split a b).map V.str))))
theorem QL:Ae X "str.split" anP:=by
 rintro ak s σ H x xs v us Q I m l ⟨a,b,rfl,rfl,i,j,q⟩;obtain ⟨t,rfl⟩:=m;obtain ⟨u,rfl,t',rfl⟩:=l.one;have one:∀ g:Nat,Txt.split a b=[a]->EP X ak σ Q (.ref s.heap.objs.size) { s with heap:=s.heap.push { cls:=.type "list",data:=.seq [Value.str a t].toArray },toks:=g }:=λg e=>by rw [e] at q;refine ⟨.ref s.heap.objs.size,_,I.laid (t':=g) (o:=.lst [.str a]) (λb k q=>dF _ q) (bI _) ?_,rfl,q _ (I.hok.fresh (bI _))⟩;exact ⟨aW (by show 1<=100000;decide),_,0,.cons ⟨_,rfl⟩ .nil,fQ _ rfl⟩
 cases h1:(decide (a.length<b.length) || decide (Builtin.Str.strKind a<Builtin.Str.strKind b))
 ·cases c:(occurrences a b 0 a.length (a.length+1)).isEmpty
  ·have e:Txt.split a b=partsBetween a (occurrences a b 0 a.length (a.length+1)) b.length:=by unfold Txt.split;rw [aK (BX h1),aK (BX c)]
   have d:=split_le a b;rw [e] at d q;refine lX BZ (tW _ _ _) B_ (RK _ _) (meets_str_split_sep a b t t' h1 i c (aW j) (gR d (by rw [J2];lk))) ⟨.ref s.heap.objs.size,_,I.laid (t':=s.toks+(partsBetween a (occurrences a b 0 a.length (a.length+1)) b.length).length) (o:=.lst ((partsBetween a (occurrences a b 0 a.length (a.length+1)) b.length).map V.str)) (λb k q=>dF _ q) (bI _) ?_,rfl,q _ (I.hok.fresh (bI _))⟩;exact ⟨by rw [bh];exact gR d (by rw [J2];lk),_,0,Qt _ _,fQ _ rfl⟩
  ·have e:Txt.split a b=[a]:=by unfold Txt.split;rw [aK (BX h1),aQ c]
   exact lX BZ (tW _ _ _) B_ (RK _ _) (meets_str_split_not_found a b t t' h1 i c) (one s.toks e)
 ·have e:Txt.split a b=[a]:=by unfold Txt.split;rw [aQ h1]
  exact lX BZ (tW _ _ _) B_ (RK _ _) (meets_str_split_cannot_occur a b t t' h1) (one s.toks e)
inductive apx (xs:aA) (H:Hp) (Q:VK):Prop
 |mk (x:Str) (n:Int) (h1:xs=[.str x]) (h2:PySem.intText? x=some n) (h3:x.length<=640) (h4:Q (.int n) H)
theorem aaW:jz X (.type "int") apx:=by rintro ak s σ H xs us Q I r ⟨x,n,rfl,b,a,q⟩;obtain ⟨u,rfl,t,rfl⟩:=r.one;exact PySem.W.KIN.call_text b a ⟨.int n,H,I.tok _,⟨_,rfl⟩,q⟩
def DX (x:Str):It:=⟨λi _=>i<x.cps.size,λi H v H'=>H'=H/\∃ c,x.cps[i]?=some c/\v=.str ⟨#[c]⟩,λi _=>x.cps.size<=i⟩
theorem ahM (x:Str) (t:Tok) (it:Addr):uq P w K tg (DX x) [it] it (λi h=>h.IsStrIter it "str_ascii_iterator" x t i) where
 mem:=by simp
 obj:=λi h st b a=>by
  have e:b=it:=by simpa using a
  subst e;obtain ⟨o,e,c,d⟩:=st;exact ⟨o,e,λv z=>by rw [d] at z;cases z⟩
 keep:=λi h h' st k=>by obtain ⟨o,e,r⟩:=st;exact ⟨o,k it (by simp) o e,r⟩
 item:=by intro X m u hK y i ak s σ H E I g st l;subst m u hK;have hi:i<x.cps.size:=l;obtain ⟨f0,p,C,n,q,j⟩:=g it (by simp);refine wpAny_pyNext_ascii_item st (c:=x.cps[i]) (by simp [hi]) λh' B J=>?_;have D:aD X ak σ H { s with heap:=h',toks:=s.toks+1 }:=I.turned (t':=s.toks+1) (λb o a e=>(J.2 b a).trans e) f0 p n q j;obtain ⟨o,e,c,d⟩:=id B;exact ⟨_,rfl,Gn (s:={ s with heap:=h',toks:=s.toks+1 }) e c d (by decide) ⟨.str ⟨#[x.cps[i]]⟩,H,D,⟨_,rfl⟩,⟨rfl,x.cps[i],by simp [hi],rfl⟩,B,λb a=>(g b a).1⟩⟩
 done:=by intro X m u hK y i ak s σ H E I g st l;subst m u hK;have hi:x.cps.size<=i:=l;obtain ⟨f0,p,C,n,q,j⟩:=g it (by simp);exact wpAny_pyNext_ascii_end (I.ok.hd y) st (by simp;lk) λh' L=>⟨rfl,I.turned (t':=s.toks) (λb o a e=>L b o a e) f0 p n q j⟩
 self:=λ_ _ _ _ _ st h=>wpAny_pyIter_striter_ascii st h
theorem ajx (x:Str) (t:Tok) (it:Addr):uq P w K tg (DX x) [it] it (λi h=>h.IsStrIter it "str_iterator" x t i) where
 mem:=by simp
 obj:=λi h st b a=>by
  have e:b=it:=by simpa using a
  subst e;obtain ⟨o,e,c,d⟩:=st;exact ⟨o,e,λv z=>by rw [d] at z;cases z⟩
 keep:=λi h h' st k=>by obtain ⟨o,e,r⟩:=st;exact ⟨o,k it (by simp) o e,r⟩
 item:=by intro X m u hK y i ak s σ H E I g st l;subst m u hK;have hi:i<x.cps.size:=l;obtain ⟨f0,p,C,n,q,j⟩:=g it (by simp);refine wpAny_pyNext_wide_item st (c:=x.cps[i]) (by simp [hi]) λh' B J=>?_;have D:aD X ak σ H { s with heap:=h',toks:=s.toks+1 }:=I.turned (t':=s.toks+1) (λb o a e=>(J.2 b a).trans e) f0 p n q j;obtain ⟨o,e,c,d⟩:=id B;exact ⟨_,rfl,Gn (s:={ s with heap:=h',toks:=s.toks+1 }) e c d (by decide) ⟨.str ⟨#[x.cps[i]]⟩,H,D,⟨_,rfl⟩,⟨rfl,x.cps[i],by simp [hi],rfl⟩,B,λb a=>(g b a).1⟩⟩
 done:=by intro X m u hK y i ak s σ H E I g st l;subst m u hK;have hi:x.cps.size<=i:=l;obtain ⟨f0,p,C,n,q,j⟩:=g it (by simp);exact wpAny_pyNext_wide_end (I.ok.hd y) st (by simp;lk) λh' L=>⟨rfl,I.turned (t':=s.toks) (λb o a e=>L b o a e) f0 p n q j⟩
 self:=λ_ _ _ _ _ st h=>wpAny_pyIter_striter_wide st h
theorem adJ {l:Expr} (hl:PE X l tl):PI X tg l (λσ H R=>tl σ H λv H1=>∃ x,v=.str x/\R (DX x) H1):=by
 intro ak s σ H R I h;refine bA (hl ak s σ H _ I h) λv a ⟨y,H1,c,g,x,ex,q⟩=>?_;subst ex;obtain ⟨t,rfl⟩:=g;have fp:∀ b∈[a.heap.objs.size],n_ X ak H1 b:=λb i=>by
  have e:b=a.heap.objs.size:=by simpa using i
  subst e;exact c.sW (bI _) (c.hok.fresh (bI _))
 cases d:x.cps.all (·<128)
 ·exact wpAny_pyIter_wide d ⟨a.heap.objs.size,[a.heap.objs.size],_,_,H1,rfl,c.kept (t':=a.toks) λb o e=>dF _ e,ajx x t _,⟨_,fQ _ rfl,rfl,rfl⟩,fp,q⟩
 ·exact wpAny_pyIter_ascii d ⟨a.heap.objs.size,[a.heap.objs.size],_,_,H1,rfl,c.kept (t':=a.toks) λb o e=>dF _ e,ahM x t _,⟨_,fQ _ rfl,rfl,rfl⟩,fp,q⟩
theorem QM {own:Nat} {R:Hp->Prop} (Pv:Nat->aA->Hp->Prop) (h0:Pv 0 [] (upd H1 l (.lst []))) (hz:x.cps.size<=sizeLine) (hl:∀ i ys H,Pv i ys H->H l=some (.lst ys)/\ys.length<=i) (hs:∀ i c ys H,x.cps[i]?=some c->Pv i ys H->g (.str ⟨#[c]⟩) (gK own cI σ) H λσ2 H2=>Wk (gK own cI σ) σ2 /\tt σ2 H2 λb H3=>if b=true then te σ2 H3 λy H4=>H4 l=some (.lst ys)/\Pv (i+1) (ys++[y]) (upd H4 l (.lst (ys++[y]))) else Pv (i+1) ys H3) (hd:∀ ys H,Pv x.cps.size ys H->R H) : ∃ W:Nat->Nat->aA->Hp->Prop,(∃ m,W 0 m [] (upd H1 l (.lst []))) /\∀ i m ys H,W i m ys H->H l=some (.lst ys)/\(((DX x).stop i H/\R H)\/((DX x).go i H/\ys.length<sizeLine/\∃ N:aA->Hp->Prop,(∀ ys' H',N ys' H'->∃ m',m'<m/\W (i+1) m' ys' H') /\∀ v H',(DX x).oG i H v H'->g v (gK own cI σ) H' λσ2 H2=>Wk (gK own cI σ) σ2 /\tt σ2 H2 λb H3=>if b=true then te σ2 H3 λy H4=>H4 l=some (.lst ys)/\N (ys++[y]) (upd H4 l (.lst (ys++[y]))) else N ys H3)):=by
 refine ⟨λi m ys H=>m=x.cps.size-i/\i<=x.cps.size/\Pv i ys H,⟨x.cps.size,by simp,fP _,h0⟩,?_⟩;rintro i m ys H ⟨rfl,hi,p⟩;obtain ⟨d,n⟩:=hl i ys H p;refine ⟨d,?_⟩;by_cases a:i<x.cps.size
 ·refine .inr ⟨a,by lk, Pv (i+1),λys' H' j=>⟨x.cps.size-(i+1),by lk, rfl,a,j⟩,λv H' y=>?_⟩;obtain ⟨e,c,k,y⟩:=y;subst e y;exact hs i c ys _ k p
 ·have e:i=x.cps.size:=by lk
  subst e;exact .inl ⟨bI _,hd ys H p⟩
end
section
def wj (x:Str) (n:Nat):Str:=⟨(x.cps.toList.drop n).toArray⟩
theorem aaX (x:Str) (n:Nat):strSliceIndices (some (n:Int)) none 1 x.length=strSliceIndices (some (n:Int)) (some (x.length:Int)) 1 x.length:=by
  have h2:¬ ((x.length:Int)<0):=by lk
  have a:max (0:Int) (min (x.length:Int) (x.length:Int))=x.length:=by lk
  unfold strSliceIndices;simp only [h2,rM,a];simp
theorem ahN (x:Str) (h:n<=x.length):(strSliceIndices (some (n:Int)) none 1 x.length).filterMap (x.cps[·]?)=x.cps.toList.drop n:=by have e:=aaX x n;rw [e,StrLaws.sliced_plain x h (bI _)];refine zc ?_;rw [xW];have:x.cps.toList.length=x.length:=xQ;lk
def arH:V->Option Int->Option Int->Hp->VK->Prop:=λx lo hi H Q=>∃ (a:Str) (n:Nat),x=.str a/\lo=some (n:Int)/\hi=none/\n<=a.length/\a.length<=sizeLine/\Q (.str (wj a n)) H
theorem adK:Vd X arH:=by
 intro ak s σ H x v r p lo hi sl Q I j k pl g h;obtain ⟨a,n,rfl,rfl,rfl,d,m,q⟩:=h;obtain ⟨t,rfl⟩:=j;cases g;cases pl with
 |int i b =>
 refine ⟨"str",_,PyProof.Rows.slot_str_getitem.lookup,tW _ _ _,?_⟩;have c:s.heap.IsSlice sl (some ((n:Int),b)) none none:=k;refine wpAny_getItem_str_slice c (by decide) ?_;unfold sliceMade;have e:(slicePicked a (some ((n:Int),b)) none none).filterMap (a.cps[·]?)=a.cps.toList.drop n:=ahN a d;split
 ·rename_i hw;rw [Bt] at hw;have h2:(slicePicked a (some ((n:Int),b)) none none).length=a.length:=eq_of_beq hw.2;have o:(slicePicked a (some ((n:Int),b)) none none).length=a.length-n:=by show (strSliceIndices (some (n:Int)) none 1 a.length).length=_;rw [aaX,StrLaws.strSliceIndices_plain d (bI _),bh,BW]
  have l:n=0:=by lk
  have:wj a n=a:=by rw [l];unfold wj;simp
  rw [this] at q;exact ⟨.str a,H,I,⟨_,rfl⟩,q⟩
 ·refine ⟨?_,⟨.str _,H,I.tok _,⟨_,rfl⟩,?_⟩⟩
  ·rw [e];show (a.cps.toList.drop n).toArray.size<=sizeLine;rw [gU,xW];have:a.cps.toList.length=a.length:=xQ;lk
  ·rw [e];exact q
end
theorem acW {y:Str} (hg:Gl X x) (h:∃ t,X.mg x=some (.str y t)) (hd:(x == ("__debug__":Str))=false:=by decide):PE X (.Name x pos) (tC (.str y)):=by obtain ⟨t,h⟩:=h;exact Ce hg h ⟨t,rfl⟩ hd
theorem qw:bootBuiltins "str"=some (.type "str"):=by k_go
theorem Ig (K:bG) (hK:X.K=K):jz X (.type "str") (Y7 K):=by subst hK;exact wQ
structure Cr (P:Program) (w:World) (K:bG) (a:Addr) (vs:iT):Prop where
 ex:∃ o,K.lookup a=some o/\∀ h:Heap,h.get? a=some o->h.DictOf (kE P w) a vs
 ns:(a == sysModules)=false
theorem Cr.at_ {vs:iT} (k:Cr P w K a vs) (x:K.In h):h.DictOf (kE P w) a vs :=
 let ⟨_,l,d⟩:=k.ex;d h (x _ _ l)
def ad_ (vs:iT) (ty:TE):TE:=λσ H Q=>ty σ H λy H1=>∃ k v,y=kV k/\valueAt vs k=some (.ref v)/\Q (.ref v) H1
def anQ (vs:iT) (ty:TE):TE:=λσ H Q=>ty σ H λy H1=>∃ k,y=kV k/\Q (.bl (!(valueAt vs k).isSome)) H1
section
variable {o i:Expr} {ty:TE} {vs:iT}
theorem acX (KD:Cr X.prog X.w X.K a vs) (ho:PE X o (tC (.ref a))) (hi:PE X i ty) (hs:UL i):PE X (.Subscript o i pos) (ad_ vs ty):=by intro ak s σ H Q I h;refine acR ab2.lookup hs (bA (ho ak s σ H (λv H1=>v=.ref a/\ad_ vs ty σ H1 Q) I ⟨rfl,h⟩) λu e ⟨x,H1,l,n,ex,m⟩=>bA (hi ak e σ H1 _ l m) λr t ⟨y,H2,b,p,k,v,g,q,c⟩=>?_);subst ex;obtain rfl:u=Value.ref a:=n;subst g;have d:=KD.at_ b.gn;obtain ⟨j,es,z,h1,h2,_⟩:=id d;exact ⟨⟨j,h1,h2.1⟩,wpAny_getItem_of (Dh p) d.mapOf q ⟨.ref v,H2,b.tok _,rfl,c⟩⟩
theorem ajy (KD:Cr X.prog X.w X.K a vs) (hi:PE X i ty) (ho:PE X o (tC (.ref a))):PC X .NotIn i o (anQ vs ty):=by intro ak s σ H Q I h;refine bA (hi ak s σ H _ I h) λn d ⟨y,H1,g,m,k,e,j⟩=>bA (ho ak d σ H1 (λv H2=>v=.ref a/\Q (.bl (!(valueAt vs k).isSome)) H2) g ⟨rfl,j⟩) λu p ⟨x,H2,b,l,ex,c⟩=>?_;subst ex;obtain rfl:u=Value.ref a:=l;subst e;exact wpAny_notIn_of (Dh m) KD.ns (KD.at_ b.gn).mapOf ⟨.bl _,H2,b.tok _,rfl,c⟩
end
theorem agT (x y:Str) {k:Int} (k0:0<=k):(splitMax x y k).length<=k.toNat+1:=by
 have e:limitOf x k=k.toNat:=by unfold limitOf;rw [aK (by lk)]
 unfold splitMax;split
 ·show 1<=_;lk
 ·split
  ·show 1<=_;lk
  ·rw [len_partsBetween,e];have:=StrLaws.occ_length_le x y 0 x.length k.toNat;lk
section
inductive alU (x:V) (xs:aA) (H:Hp) (Q:VK):Prop
 |mk (a b:Str) (k:Int) (h1:x=.str a) (h2:xs=[.str b,.int k]) (h3:(b.length == 0)=false) (h4:a.length<=90000) (h5:0<=k) (h6:k<=1000) (h7:∀ l,H l=none->Q (.ref l) (upd H l (.lst ((splitMax a b k).map V.str))))
theorem ajz:Ae X "str.split" alU:=by
 rintro ak s σ H x xs v us Q I r p ⟨a,b,k,rfl,rfl,l,y,m,z,q⟩;obtain ⟨t,rfl⟩:=r;obtain ⟨u,B,rfl,⟨t',rfl⟩,⟨d,rfl⟩⟩:=Kq p;have i:(decide (k < -(2 ^ 63:Int)) || decide (k>=2 ^ 63))=false:=by rw [lJ (by lk),lJ (by lk)];rfl
 have one:∀ j:Nat,splitMax a b k=[a]->EP X ak σ Q (.ref s.heap.objs.size) { s with heap:=s.heap.push { cls:=.type "list",data:=.seq [Value.str a t].toArray },toks:=j }:=λj e=>by rw [e] at q;refine ⟨.ref s.heap.objs.size,_,I.laid (t':=j) (o:=.lst [.str a]) (λb n q=>dF _ q) (bI _) ?_,rfl,q _ (I.hok.fresh (bI _))⟩;exact ⟨aW (by show 1<=100000;decide),_,0,.cons ⟨_,rfl⟩ .nil,fQ _ rfl⟩
 cases h1:(decide (a.length<b.length) || decide (Builtin.Str.strKind a<Builtin.Str.strKind b))
 ·cases c:(occurrences a b 0 a.length (limitOf a k)).isEmpty
  ·have e:splitMax a b k=partsBetween a (occurrences a b 0 a.length (limitOf a k)) b.length:=by unfold splitMax;rw [aK (BX h1),aK (BX c)]
   have g:=agT a b m;rw [e] at g q;refine lX BZ (tW _ _ _) B_ (RL _ _ _) (meets_str_split_sep_max a b k t t' d i h1 l c (aW (by lk)) (gR g (by rw [J2];lk))) ⟨.ref s.heap.objs.size,_,I.laid (t':=s.toks+(partsBetween a (occurrences a b 0 a.length (limitOf a k)) b.length).length) (o:=.lst ((partsBetween a (occurrences a b 0 a.length (limitOf a k)) b.length).map V.str)) (λb n q=>dF _ q) (bI _) ?_,rfl,q _ (I.hok.fresh (bI _))⟩;exact ⟨by rw [bh];exact gR g (by rw [J2];lk),_,0,Qt _ _,fQ _ rfl⟩
  ·have e:splitMax a b k=[a]:=by unfold splitMax;rw [aK (BX h1),aQ c]
   exact lX BZ (tW _ _ _) B_ (RL _ _ _) (meets_str_split_max_not_found a b k t t' d i h1 l c) (one s.toks e)
 ·have e:splitMax a b k=[a]:=by unfold splitMax;rw [aQ h1]
  exact lX BZ (tW _ _ _) B_ (RL _ _ _) (meets_str_split_max_cannot_occur a b k t t' d i h1) (one s.toks e)
end
end
section
open PySem.SeqAt PyProof.Rows
def Ls (x:Str):gA:=x.cps.toList
def Mk (l:gA):Str:=⟨l.toArray⟩
theorem wu (x:Str):Mk (Ls x)=x:=by unfold Mk Ls;simp
theorem Lp (l:gA):Ls (Mk l)=l:=rfl
theorem pU {y:Str} (h:Ls x=Ls y):x=y:=by rw [<-wu x,h,wu]
theorem gW (x y:Str):Ls (x++y)=Ls x++Ls y:=by show (x.cps++y.cps).toList=_;rw [Array.toList_append];rfl
theorem cO (x:Str):(Ls x).length=x.length:=xQ
theorem jc (x y:Str):(x++y).length=x.length+y.length:=by rw [<-cO,gW,dJ,cO,cO]
theorem Gh {c:Nat}:StrLaws.At x ⟨#[c]⟩ x.length i↔(Ls x)[i]?=some c:=RM x c i
theorem abw {a b:gA} {c:Nat} (h:c∉a):partition (Mk (a++c::b)) ⟨#[c]⟩=(Mk a,⟨#[c]⟩,Mk b):=by
 have g:(a++c::b)[a.length]?=some c:=by simp
 rcases StrLaws.occ_head (Mk (a++c::b)) ⟨#[c]⟩ 1 (bI _) with ⟨_,d⟩|⟨i,r,j,k,d⟩
 ·exact absurd (Gh.mpr g) (d a.length)
 ·have hi:(a++c::b)[i]?=some c:=Gh.mp k;have i1:¬ a.length<i:=λz=>d _ z (Gh.mpr g);have i2:¬ i<a.length:=λz=>by rw [qJ z] at hi;exact h (eZ hi)
  have e:i=a.length:=by lk
  subst e;unfold partition;rw [j];refine Prod.ext ?_ (Prod.ext rfl ?_)
  ·refine pU ?_;show ((Mk (a++c::b)).cps.extract 0 a.length).toList=a;unfold Mk;simp
  ·refine pU ?_;show ((Mk (a++c::b)).cps.extract (a.length+1) (Mk (a++c::b)).length).toList=b;unfold Mk;simp [Str.length];exact zc (by lk)
theorem acY {a b a' b':gA} {c:Nat}:∀ (h:c∉a) (h':c∉a') (e:a++c::b=a'++c::b'),a=a'/\b=b':=by
 induction a generalizing a' with
 |nil =>
  intro _ h' e;cases a' with
  |nil=>simp at e;exact ⟨rfl,e⟩
  |cons x r=>simp at e;exact absurd (e.1 ▸ iy) h'
 |cons x r i =>
  intro h h' e;cases a' with
  |nil=>simp at e;exact absurd (e.1 ▸ iy) h
  |cons y s =>simp at e;obtain ⟨g,d⟩:=i (λz=>h (fG _ z)) (λz=>h' (fG _ z)) e.2;exact ⟨by rw [e.1,g],d⟩
theorem mJ (c:Nat) (x y:Str) (r:bK):Ls (Str.join ⟨#[c]⟩ (x::y::r))=Ls x++c::Ls (Str.join ⟨#[c]⟩ (y::r)):=by show Ls (x++⟨#[c]⟩++Str.join ⟨#[c]⟩ (y::r))=_;rw [gW,gW,vh];rfl
theorem abx {c:Nat}:∀ (xs ys:bK),xs≠[]->ys≠[]->(∀ p∈xs,c∉Ls p)->(∀ p∈ys,c∉Ls p)->Ls (Str.join ⟨#[c]⟩ xs)=Ls (Str.join ⟨#[c]⟩ ys)->xs=ys
 |[],_,h,_,_,_,_=>absurd rfl h
 |_,[],_,h,_,_,_=>absurd rfl h
 |[x],[y],_,_,_,_,e=>by rw [pU (show Ls x=Ls y from e)]
 |[x],y::z::r,_,_,hx,hy,e=>by
  rw [mJ] at e;have:c∈Ls x:=by rw [show Ls x=_ from e];simp
  exact absurd this (hx x (by simp))
 |x::z::r,[y],_,_,hx,hy,e=>by
  rw [mJ] at e;have:c∈Ls y:=by rw [show Ls y=_ from e.symm];simp
  exact absurd this (hy y (by simp))
 |x::x2::r,y::y2::s,_,_,hx,hy,e=>by rw [mJ,mJ] at e;obtain ⟨b,d⟩:=acY (hx x (by simp)) (hy y (by simp)) e;rw [pU b,abx (x2::r) (y2::s) (by simp) (by simp) (λp a=>hx p (fG _ a)) (λp a=>hy p (fG _ a)) d]
theorem Bc {c:Nat} {ws:bK} (ne:ws≠[]) (h:∀ p∈ws,c∉Ls p):Txt.split (Str.join ⟨#[c]⟩ ws) ⟨#[c]⟩=ws:=abx _ _ (λz=>by have:=split_pos (Str.join ⟨#[c]⟩ ws) ⟨#[c]⟩;rw [z] at this;simp at this) ne (StrLaws.split_free _ c) h (by rw [StrLaws.join_split])
theorem wU (sep:Str):∀ l:bK,Txt.join sep l=Str.join sep l:=StrLaws.glued_eq_join sep
def dg (n:Int):Nat:=48+n.toNat
def bL (n:Int):Str:=toString n
theorem zU {n:Int} (h0:0<=n) (h9:n<=9):bL n=Mk [dg n]:=by
 have c:n=0\/n=1\/n=2\/n=3\/n=4\/n=5\/n=6\/n=7\/n=8\/n=9:=by lk
 rcases c with e|e|e|e|e|e|e|e|e|e<;>subst e<;>k_go
def m_ (w:Int×Int):Str:=Mk [dg w.1,45,dg w.2]
def jB (ws:aP):gA:=ws.flatMap λw=>32::Ls (m_ w)
def oA (aj:Int) (ws:aP):Str:=Mk (dg aj::58::jB ws)
def Ui (ws:aP):Prop:=∀ w∈ws,0<=w.1/\w.1<=9/\0<=w.2/\w.2<=9
theorem TJ (w8:aj<=8) (h:bJ aj ws):Ui ws:=λw e=>by obtain ⟨a,b,c,d,_⟩:=h w e;exact ⟨a,by lk, c,by lk⟩
theorem Qu (ws:aP):(jB ws).length=4*ws.length:=by
 induction ws with
 |nil=>rfl
 |cons w r a =>have e:jB (w::r)=(32::Ls (m_ w))++jB r:=rfl;rw [e,dJ,a,gw];show 4+4*r.length=4*(r.length+1);lk
theorem QS (aj:Int) (ws:aP):(oA aj ws).length=4*ws.length+2:=by rw [<-cO];show (dg aj::58::jB ws).length=_;rw [gw,gw,Qu]
theorem Ss (f:(Int×Int)->Str):∀ (ws:aP),(∀ w∈ws,(f w).length<=n)->((ws.map f).map (·.length)).sum<=n*ws.length
 |[],_=>by simp
 |w::r,h=>by rw [gb,gb,qD,gw];have a:=h w iy;have b:=Ss f r λx c=>h x (fG _ c);rw [Nat.mul_add];lk
theorem join_none {f:Int×Int->Str}:∀ (ws:aP),(∀ w∈ws,Ls (f w)=32::Ls (m_ w))->Ls (Txt.join empty (ws.map f))=jB ws:=by
 intro ws;rw [wU];induction ws with
 |nil=>intro _;rfl
 |cons w r c =>
  intro h;have i:=c λx b=>h x (fG _ b);have e:jB (w::r)=(32::Ls (m_ w))++jB r:=rfl;rw [e,<-i,<-h w iy];cases r with
  |nil =>show Ls (f w)=Ls (f w)++[];rw [nO]
  |cons a r =>show Ls (f w++empty++Str.join empty (f a::r.map f))=_;rw [gW,gW];show Ls (f w)++[]++_=_;rw [nO];rfl
theorem aai {f:Int×Int->Str}:∀ (ws:aP),(∀ w∈ws,f w=m_ w)->Ls (Str.join ⟨#[32]⟩ (x::ws.map f))=Ls x++jB ws:=by
 intro ws;induction ws generalizing x with
 |nil=>intro _;show Ls x=Ls x++[];rw [nO]
 |cons w r b =>intro h;rw [gb,mJ,b λy a=>h y (fG _ a),h w iy];rfl
theorem ajA {w:Int×Int}:jB (w::ws)=32::Ls (Str.join ⟨#[32]⟩ ((w::ws).map m_)):=by rw [gb,aai ws (λ_ _=>rfl)];rfl
theorem anR {c:Nat} (hc:c=32) {w:Int×Int} (h:0<=w.1/\w.1<=9/\0<=w.2/\w.2<=9):c∉Ls (m_ w):=by subst hc;show 32∉[dg w.1,45,dg w.2];unfold dg;simp;lk
theorem agU {w:Int×Int} (h:Ui (w::ws)):Txt.split (wj (Mk (jB (w::ws))) 1) ⟨#[32]⟩=(w::ws).map m_:=by
 have e:wj (Mk (jB (w::ws))) 1=Str.join ⟨#[32]⟩ ((w::ws).map m_):=by refine pU ?_;show (jB (w::ws)).drop 1=_;rw [ajA];rfl
 rw [e];refine Bc (by simp) λp b=>?_;obtain ⟨v,a,rfl⟩:=fV.mp b;exact anR rfl (h v a)
theorem alV (h0:0<=aj) (h9:aj<=9) (ws:aP):partition (oA aj ws) ⟨#[58]⟩=(Mk [dg aj],⟨#[58]⟩,Mk (jB ws)):=by refine abw (a:=[dg aj]) ?_;unfold dg;simp;lk
theorem anS {w:Int×Int} (h:0<=w.1/\w.1<=9/\0<=w.2/\w.2<=9):partition (m_ w) ⟨#[45]⟩=(Mk [dg w.1],⟨#[45]⟩,Mk [dg w.2]):=by refine abw (a:=[dg w.1]) (b:=[dg w.2]) ?_;unfold dg;simp;lk
theorem apy {n:Int} (h0:0<=n) (h9:n<=9):PySem.intText? (Mk [dg n])=some n:=by
 have c:n=0\/n=1\/n=2\/n=3\/n=4\/n=5\/n=6\/n=7\/n=8\/n=9:=by lk
 rcases c with e|e|e|e|e|e|e|e|e|e<;>subst e<;>k_go
theorem Bh {n:Int} (h0:0<=n) (h9:n<=9):n.natAbs.log2<1920:=by
 have c:n=0\/n=1\/n=2\/n=3\/n=4\/n=5\/n=6\/n=7\/n=8\/n=9:=by lk
 rcases c with e|e|e|e|e|e|e|e|e|e<;>subst e<;>k_go
theorem Cu {n:Int} (h0:0<=n) (h9:n<=9):(bL n).length=1:=by rw [zU h0 h9];rfl
inductive alW (vs:aA) (H:Hp) (Q:VK):Prop
 |mk (v:V) (aj:Int) (ws:aP) (h1:vs=[v]) (h2:eV H v aj ws) (h3:1<=aj) (h4:aj<=8) (h5:bJ aj ws) (h6:ws.length<=41) (h7:∀ H',aB H H'->Q (.str (oA aj ws)) H')
def anT:=nE alW
inductive alX (vs:aA) (H:Hp) (Q:VK):Prop
 |mk (n:Int) (h1:vs=[.str (Mk [dg n])]) (h2:0<=n) (h3:n<=9) (h4:∀ H',aB H H'->Q (.bl true) H')
def acZ:=nE alX
inductive alY (vs:aA) (H:Hp) (Q:VK):Prop
 |mk (n:Int) (h1:vs=[.str (Mk [dg n])]) (h2:0<=n) (h3:n<=9) (h4:∀ H',aB H H'->Q (.int n) H')
def anU:=nE alY
inductive anV (vs:aA) (H:Hp) (Q:VK):Prop
 |mk (w:Int×Int) (h1:vs=[.str (m_ w)]) (h2:0<=w.1/\w.1<=9/\0<=w.2/\w.2<=9) (h3:∀ (t:Addr) (H':Hp),aB H H'->H' t=some (.tup [.int w.1,.int w.2])->Q (.ref t) H')
def apz:=nE anV
inductive alZ (vs:aA) (H:Hp) (Q:VK):Prop
 |mk (ws:aP) (h1:vs=[.str (Mk (jB ws))]) (h2:Ui ws) (h3:ws.length<=40) (h4:∀ (l:Addr) (H':Hp),aB H H'->m5 H' l ws->Q (.ref l) H')
def anW:=nE alZ
inductive anY (vs:aA) (H:Hp) (Q:VK):Prop
 |mk (aj:Int) (ws:aP) (h1:vs=[.str (oA aj ws)]) (h2:1<=aj) (h3:aj<=8) (h4:bJ aj ws) (h5:ws.length<=40) (h6:∀ (v:V) (H':Hp),aB H H'->eV H' v aj ws->Q v H')
def apA:=nE anY
end
section
open PySem.SeqAt PySem.NumText
def gk (l:gA):gA:=if l.head?=some 45 then l.tail else l
def qU (l:gA):Prop:=1<=(gk l).length/\(gk l).length<=60/\AllDigits (gk l)/\(l=[48]\/(gk l).head?≠some 48)
def RdN (l:gA) (n:Int):Prop:=∀ d:Int,0<=d->d<=9->(n=d↔l=[dg d])
theorem anZ {d:Int} (h0:0<=d) (h9:d<=9):qU [dg d]:=by
 have e:gk [dg d]=[dg d]:=by unfold gk;rw [aK];intro z;have:dg d=45:=iz z;unfold dg at this;lk
 unfold qU;rw [e];refine ⟨by simp,by simp,λc a=>?_,?_⟩
 ·rw [yU.mp a];unfold dg;lk
 ·by_cases c:d=0
  ·subst c;exact .inl rfl
  ·refine .inr λz=>?_;have:dg d=48:=iz z;unfold dg at this;lk
theorem TQ:∀ (cs:gA) (a:Nat),a*10 ^ cs.length<=cs.foldl (λbU c=>bU*10+(c-48)) a
 |[],a=>by simp
 |c::r,a=>by rw [jG,gw,Nat.pow_succ];refine gR ?_ (TQ r (a*10+(c-48)));rw [Jy (10 ^ r.length) 10,<-Nat.mul_assoc];exact ab4 _ (vm _ _)
theorem an0 {c d:Nat} {r:gA} (h:AllDigits (c::d::r)) (n0:c≠48):10<=digitsVal (c::d::r):=by
 have a:=h.head;unfold digitsVal;rw [jG,jG];refine gR ?_ (TQ r _);have p:1<=10 ^ r.length:=Ry (by decide);have q:10<=(0*10+(c-48))*10+(d-48):=by lk
 calc 10=10*1:=rfl
  _<=_:=RN q p
theorem an1 {c:Nat} {r:gA} (h:AllDigits (c::r)) (n0:c≠48):1<=digitsVal (c::r):=by
 have a:=h.head;unfold digitsVal;rw [jG];refine gR ?_ (TQ r _);have p:1<=10 ^ r.length:=Ry (by decide);have q:1<=0*10+(c-48):=by lk
 calc 1=1*1:=rfl
  _<=_:=RN q p
theorem an2 {l:gA} (h:qU l):∃ n:Int,PySem.intText? (Mk l)=some n/\RdN l n/\l.length<=61:=by
 obtain ⟨i,o,g,z⟩:=h;by_cases c:l.head?=some 45
 ·obtain ⟨r,rfl⟩:∃ r,l=45::r:=by
   cases l with
   |nil=>cases c
   |cons a r=>exact ⟨r,by rw [iz c]⟩
  have m:gk (45::r)=r:=by unfold gk;rw [aQ c];rfl
  rw [m] at i o g z;have j:r≠[]:=λe=>by rw [e] at i;simp at i
  refine ⟨_,intText_neg (x:=Mk (45::r)) (cs:=r) rfl g j (by rw [<-cO];show (45::r).length<=4300;rw [gw];lk),λd p v=>?_,by rw [gw];lk⟩;constructor
  ·intro e;exfalso;rcases z with z|z
   ·cases z
   ·cases r with
    |nil=>exact j rfl
    |cons a q =>have:=an1 g (λy=>z (by rw [y];rfl));lk
  ·intro e;exfalso;have:(45:Nat)=dg d:=(J3 e).1;unfold dg at this;lk
 ·have m:gk l=l:=by unfold gk;rw [aK c]
  rw [m] at i o g z;have k:l≠[]:=λe=>by rw [e] at i;simp at i
  refine ⟨_,intText_digits (x:=Mk l) g k (by rw [<-cO];show l.length<=4300;lk),λd p v=>?_,by lk⟩;show ((digitsVal l:Nat):Int)=d↔_
  match l,k with
  |[a],_ =>
   have B:=g.head;have t:digitsVal [a]=a-48:=by unfold digitsVal;simp
   rw [t];constructor
   ·intro e;have:a=dg d:=by unfold dg;lk
    rw [this]
   ·intro e;have:a=dg d:=(J3 e).1;unfold dg at this;lk
  |a::b::r,_ =>
   have u:a≠48:=λy=>by
    rcases z with z|z
    ·cases z
    ·exact z (by rw [y];rfl)
   have:=an0 g u;constructor
   ·intro e;lk
   ·intro e;cases e
inductive ajB (vs:aA) (H:Hp) (Q:VK):Prop
 |mk (x:Str) (h1:vs=[.str x]) (h2:x.length<=5000) (h3:∀ (b:Bool) (H':Hp),aB H H'->(b=true↔qU (Ls x))->Q (.bl b) H')
def aby:=nE ajB
theorem ahO (x:Str) (c:Nat):startswith x ⟨#[c]⟩=decide ((Ls x).head?=some c):=by
 unfold startswith;have h:=RM x c 0;have e:(Ls x).head?=(Ls x)[0]?:=by cases Ls x<;>rfl
 rw [e,ug,Bt,rT,rT];exact h
theorem ac0 (c:Nat):(!(occurrences (ofString "0123456789") ⟨#[c]⟩ 0 (ofString "0123456789").length 1).isEmpty)=decide (48<=c/\c<=57):=by
 rw [StrLaws.found_one];have e:(ofString "0123456789").cps.toList=[48,49,50,51,52,53,54,55,56,57]:=by k_go
 rw [e,ug,rT,rT];simp only [fW,tZ,JT];lk
theorem ajC (x:Str) (c:Nat):Txt.split x ⟨#[c]⟩≠[]/\(∀ p∈Txt.split x ⟨#[c]⟩,c∉Ls p)/\Str.join ⟨#[c]⟩ (Txt.split x ⟨#[c]⟩)=x/\(Txt.split x ⟨#[c]⟩).length<=x.length+2:=by
 refine ⟨?_,StrLaws.split_free x c,StrLaws.join_split x _,PyProof.Rows.split_le x _⟩;unfold Txt.split;split
 ·simp
 ·split
  ·simp
  ·intro h;have:=je List.length h;rw [PyProof.Rows.len_partsBetween] at this;simp at this
end
section
open PySem.Spec PyProof.Rows
section
variable (K:bG) (hK:X.K=K)
include hK
theorem an3 {f:Str} {ta:TE} (he:PE X e ta) (hb:attributeBase e f X.env (eval e X.env)=eval e X.env):PE X (.Attribute e f pos) (z7 K ta f):=by subst hK;exact fX he hb
end
end
variable {t:aF}
section
open PySem.SeqAt
def h_ (aj cC low:Int) (n:Nat):aF:=(range n).map λ(j:Nat)=>cC+aj*(low+(j:Int))
def fB (aj:Int):Nat->aF->aF
 |_,[]=>[]
 |i,c::r=>h_ aj i 0 c.toNat++fB aj (i+1) r
def k_ (aj:Int):Nat->aF->aF
 |_,[]=>[]
 |i,c::r=>h_ aj i c (-c).toNat++k_ aj (i+1) r
def fJ:aF->Nat
 |[]=>0
 |c::r=>c.natAbs+fJ r
theorem Eo (aj cC low:Int) (n:Nat):(h_ aj cC low n).length=n:=by simp [h_]
theorem Iw (aj:Int):∀ (i:Nat) (t:aF),(fB aj i t).length<=fJ t
 |_,[]=>bI _
 |i,c::r=>by show (h_ aj i 0 c.toNat++fB aj (i+1) r).length<=c.natAbs+fJ r;rw [dJ,Eo];have:=Iw aj (i+1) r;lk
theorem Jc (aj:Int):∀ (i:Nat) (t:aF),(k_ aj i t).length<=fJ t
 |_,[]=>bI _
 |i,c::r=>by show (h_ aj i c (-c).toNat++k_ aj (i+1) r).length<=c.natAbs+fJ r;rw [dJ,Eo];have:=Jc aj (i+1) r;lk
theorem ZK (aj c:Int):∀ (i:Nat) (t:aF),fB aj i (t++[c])=fB aj i t++h_ aj ((i+t.length:Nat):Int) 0 c.toNat
 |i,[]=>by simp [fB]
 |i,d::r=>by
  show h_ aj i 0 d.toNat++fB aj (i+1) (r++[c])=(h_ aj i 0 d.toNat++fB aj (i+1) r)++_;rw [ZK aj c (i+1) r,vh];have e:i+1+r.length=i+(d::r).length:=by simp;lk
  rw [e]
theorem aaj (aj c:Int):∀ (i:Nat) (t:aF),k_ aj i (t++[c])=k_ aj i t++h_ aj ((i+t.length:Nat):Int) c (-c).toNat
 |i,[]=>by simp [k_]
 |i,d::r=>by
  show h_ aj i d (-d).toNat++k_ aj (i+1) (r++[c])=(h_ aj i d (-d).toNat++k_ aj (i+1) r)++_;rw [aaj aj c (i+1) r,vh];have e:i+1+r.length=i+(d::r).length:=by simp;lk
  rw [e]
theorem Jd {low x:Int}:x∈h_ aj cC low n↔∃ j:Nat,j<n/\x=cC+aj*(low+(j:Int)):=by
 unfold h_;rw [fV];constructor
 ·rintro ⟨j,a,e⟩;exact ⟨j,pL.mp a,e.symm⟩
 ·rintro ⟨j,a,e⟩;exact ⟨j,pL.mpr a,e.symm⟩
theorem Em {x:Int}:∀ {i:Nat} {t:aF},x∈fB aj i t↔∃ (l j:Nat),l<t.length/\(j:Int)<t.getD l 0/\x=((i+l:Nat):Int)+aj*(j:Int)
 |i,[]=>by simp [fB]
 |i,c::r=>by
  show x∈h_ aj i 0 c.toNat++fB aj (i+1) r↔_;rw [nM,Jd,Em (i:=i+1) (t:=r)];constructor
  ·rintro (⟨j,a,e⟩|⟨l,j,b,a,e⟩)
   ·exact ⟨0,j,by simp,by simp;lk, by rw [e];simp⟩
   ·refine ⟨l+1,j,by simp;lk, by simpa using a,?_⟩;rw [e,show i+1+l=i+(l+1) by lk]
  ·rintro ⟨l,j,b,a,e⟩;cases l with
   |zero=>exact .inl ⟨j,by simp at a;lk, by rw [e];simp⟩
   |succ l =>refine .inr ⟨l,j,by simp at b;lk, by simpa using a,?_⟩;rw [e,show i+1+l=i+(l+1) by lk]
theorem Qv (w1:1<=aj) (hl:t.length=aj.toNat) {n:Int} (hn:0<=n):n∈fB aj 0 t↔n / aj<t.getD (n % aj).toNat 0:=by
 rw [Em];have g:=rQ n (show aj≠0 by lk);have k:=rR n (show 0<aj by lk);have a:=Fv hn (show 0<=aj by lk);have d:=J4 n aj;constructor
 ·rintro ⟨l,j,h1,h2,e⟩;have b:(l:Int)<aj:=by lk
  have c:n % aj=(l:Int):=by rw [e,oM,ab5];exact J6 (by lk) b
  have i:n / aj=(j:Int):=by rw [e,oM,zj _ _ (by lk),Fp (by lk) b];lk
  rw [c,i,kO];exact h2
 ·intro h;refine ⟨(n % aj).toNat,(n / aj).toNat,by lk, ?_,?_⟩
  ·rw [xH a];exact h
  ·rw [oM,xH g,xH a];exact d.symm
theorem Qw:∀ (t:aF) (i:Nat),fJ (t.take i)<=fJ t
 |[],i=>by simp
 |c::r,0=>fP _
 |c::r,i+1=>by have:=Qw r i;show c.natAbs+fJ (r.take i)<=c.natAbs+fJ r;lk
theorem aak (aj cC low:Int) (n:Nat):h_ aj cC low (n+1)=h_ aj cC low n++[cC+aj*(low+(n:Int))]:=by unfold h_;rw [rO,cX];rfl
theorem Cv:∀ (l:Nat),(t.getD l 0).natAbs<=fJ t:=by
 induction t with
 |nil=>intro l;simp
 |cons c r a =>
  intro l;show _<=c.natAbs+fJ r;cases l with
  |zero=>simp
  |succ l =>have:=a l;simp only [List.getD_cons_succ];lk
theorem Ik (w1:1<=aj) {x:Int} (h:x∈fB aj 0 t):0<=x:=by obtain ⟨l,j,_,_,e⟩:=Em.mp h;have:0<=aj*(j:Int):=Int.mul_nonneg (by lk) (by lk);lk
theorem abz (w1:1<=aj) (w8:aj<=8) (hl:t.length=aj.toNat) (b:fJ t<=63) {x:Int} (h:x∈fB aj 0 t):x<600:=by
 obtain ⟨l,j,d,g,e⟩:=Em.mp h;have a:=Cv (t:=t) l;have c:(j:Int)<=63:=by lk
 have:aj*(j:Int)<=8*63:=RP w8 c (by lk) (by lk);lk
def sX (aj:Int) (t:aF) (g:Int):Prop:=g∈0::fB aj 0 t/\∀ x∈0::fB aj 0 t,x<=g
theorem sX.nonneg {g:Int} (a:sX aj t g):0<=g:=a.2 0 (by simp)
theorem sX.lt {g:Int} (w1:1<=aj) (w8:aj<=8) (hl:t.length=aj.toNat) (b:fJ t<=63) (a:sX aj t g):g<600:=by
 rcases fW.mp a.1 with e|e
 ·lk
 ·exact abz w1 w8 hl b e
theorem ajD (hp:ns.Perm (fB aj 0 t)) (e:ns=[]):sX aj t 0:=by subst e;have e:=hp.symm.eq_nil;unfold sX;rw [e];exact ⟨by simp,λx a=>by simp at a;lk⟩
theorem al0 {m:Int} (w1:1<=aj) (hp:ns.Perm (fB aj 0 t)) (h:vV ns m):sX aj t m:=by
 refine ⟨fG _ (hp.mem_iff.mp h.1),λx a=>?_⟩;rcases fW.mp a with rfl|a
 ·exact Ik w1 (hp.mem_iff.mp h.1)
 ·exact h.2 x (hp.mem_iff.mpr a)
def uI (aj:Int) (t:aF) (n:Nat):aF:=((range n).map λ(k:Nat)=>(k:Int)).filter λk=>decide (t.getD (k % aj).toNat 0<=k / aj)
theorem aal (aj:Int) (t:aF) (n:Nat):uI aj t (n+1)=uI aj t n++(if t.getD ((n:Int) % aj).toNat 0<=(n:Int) / aj then [(n:Int)] else []):=by
 unfold uI;rw [rO,cX,zq]
 congr 1
 rw [gb,zO,Rx];by_cases h:t.getD ((n:Int) % aj).toNat 0<=(n:Int) / aj
 ·rw [aQ h,aQ (by simpa using h)];rfl
 ·rw [aK h,aK (by simpa using h)];rfl
theorem aaY (aj:Int) (t:aF) (n:Nat):(uI aj t n).length<=n:=by unfold uI;refine gR (ab6 _ _) ?_;simp
theorem aaZ {a b:aF} (h1:a.Perm c) (h2:b.Perm c) (s1:a.Pairwise (·<=·)) (s2:b.Pairwise (·<=·)):a=b:=Perm.eq_of_pairwise (λx y _ _ h g=>Int.le_antisymm h g) s1 s2 (h1.trans h2.symm)
def Cw (aj:Int) (t:aF) (w:Str) (ns:aF):Prop :=
 (w="standing"/\ns.Perm (fB aj 0 t)/\ns.Pairwise (·<=·))\/(w="owed"/\ns.Perm (k_ aj 0 t)/\ns.Pairwise (·<=·))\/(w="lacking"/\∃ g,sX aj t g/\ns=uI aj t g.toNat)
theorem Cw.len {w:Str} {a:aF} (w1:1<=aj) (w8:aj<=8) (hl:t.length=aj.toNat) (b:fJ t<=63) (x:Cw aj t w a):a.length<=1000:=by
 rcases x with ⟨_,p,_⟩|⟨_,p,_⟩|⟨_,g,c,rfl⟩
 ·rw [p.length_eq];have:=Iw aj 0 t;lk
 ·rw [p.length_eq];have:=Jc aj 0 t;lk
 ·have:=aaY aj t g.toNat;have:=c.lt w1 w8 hl b;lk
def jT:List Place->Nat
 |[]=>0
 |pl::r=>(if cB pl then 1 else 0)+jT r
theorem ac1:∀ ps:List Place,jT ps<=ps.length
 |[]=>bI _
 |pl::r=>by have:=ac1 r;show (if cB pl then 1 else 0)+jT r<=r.length+1;split<;>lk
theorem aa0 (pl:Place):∀ ps:List Place,jT (ps++[pl])=jT ps+if cB pl then 1 else 0
 |[]=>by simp [jT]
 |q::r=>by show (if cB q then 1 else 0)+jT (r++[pl])=(if cB q then 1 else 0)+jT r+_;rw [aa0 pl r];lk
theorem QT (i_:Place):∀ (ps:List Place) (i:Nat) (pl:Place),ps[i]?=some pl->jT (ps.set i i_)+(if cB pl then 1 else 0)=jT ps+if cB i_ then 1 else 0
 |[],i,pl,h=>by simp at h
 |q::r,0,pl,h=>by
  have e:q=pl:=by simpa using h
  subst e;show (if cB i_ then 1 else 0)+jT r+_=(if cB q then 1 else 0)+jT r+_;lk
 |q::r,i+1,pl,h=>by have:=QT i_ r i pl (by simpa using h);show (if cB q then 1 else 0)+jT (r.set i i_)+_=(if cB q then 1 else 0)+jT r+_;lk
theorem abA {x c:Int} (hc:c=1\/c=-1):∀ (t:aF) (l:Nat),x=t.getD l 0+c->fJ (t.set l x)<=fJ t+1
 |[],l,_=>by simp [fJ]
 |d::r,0,h=>by show x.natAbs+fJ r<=d.natAbs+fJ r+1;simp at h;lk
 |d::r,l+1,h=>by have:=abA hc r l (by simpa using h);show d.natAbs+fJ (r.set l x)<=d.natAbs+fJ r+1;lk
theorem al1 (n:Nat):fJ (replicate n 0)=0:=by
 induction n with
 |zero=>rfl
 |succ n a=>rw [ju];show Int.natAbs 0+_=0;rw [a];rfl
def rB (st:cH):Prop:=fJ st.bM<=jT st.aX
theorem rB.start (aj:Int) (ws:aP):rB (jF aj ws):=by show fJ (replicate aj.toNat 0)<=jT [];rw [al1];exact bI _
theorem rB.enter {c:Int} (h:rB st):rB (mO ws st cC c):=by show fJ st.bM<=jT (st.aX++[gD ws cC 0]);rw [aa0];have:fJ st.bM<=jT st.aX:=h;lk
theorem rB.step (h:rB st) (wf:Wf aj ws st) (hi:st.aX[i]?=some pl):rB (kZ aj ws st i pl):=by
 have h':fJ st.bM<=jT st.aX:=h;have j:i<st.aX.length:=(dY.mp hi).1;have g:=wf.cl;cases pl with
 |out l n=>exact h
 |before k l =>show fJ st.bM<=jT (st.aX.set i (jA aj ws st i (.before k l)));have:=QT (jA aj ws st i (.before k l)) st.aX i _ hi;have e:cB (.before k l)=false:=rfl;rw [e,aK (by decide),JV] at this;rw [this];lk
 |exit l =>show fJ (st.bM.set l.toNat (st.bM.getD l.toNat 0+st.chg.getD i 0))<=jT (st.aX.set i (.out l (jR aj st l (st.chg.getD i 0))));have a:=abA (x:=st.bM.getD l.toNat 0+st.chg.getD i 0) (wf.cs i (by lk)) st.bM l.toNat rfl;have b:=QT (.out l (jR aj st l (st.chg.getD i 0))) st.aX i _ hi;have d:cB (.exit l)=false:=rfl;have c:cB (.out l (jR aj st l (st.chg.getD i 0)))=true:=rfl;rw [d,c,aK (by decide),aQ rfl,JV] at b;rw [b];lk
theorem rB.le (h:rB st):fJ st.bM<=st.aX.length:=gR h (ac1 _)
theorem an4 {Hd:Hp} (nt:eF Hd v aj ws) (x dx:Addr) (fx:Hd x=none) (Hl:Hd dx=none) {R:Hp->Prop} (h:∀ (L:dB) (H':Hp),(∀ b∈L.own x,Hd b=none)->cN C H' x v L (jF aj ws)->aB Hd H'->R H') : R9 C (.ref x::([v]++[])) (upd (upd Hd dx (.own x)) x (.ins C dx [])) (λv2 H2=>v2=.non/\R H2) E0:=by
 have a:aB Hd (upd (upd Hd dx (HO.own x)) x (HO.ins C dx [])):=bR fx (bR Hl (cW Hd));have d:(upd (upd Hd dx (HO.own x)) x (HO.ins C dx [])) x=some (.ins C dx []):=aM;generalize upd (upd Hd dx (HO.own x)) x (HO.ins C dx [])=n at a d;refine ⟨x,dx,v,aj,ws,rfl,d,nt.kt (cG a (bY _)),λL H1 l i j k m c=>⟨rfl,h L H1 (λb g=>?_) m (λb o e=>c b o (a b o e) (cV e fx))⟩⟩;rcases Sd.mp g with rfl|rfl|rfl|rfl|rfl
 ·exact fx
 ·exact a.free l
 ·exact a.free i
 ·exact a.free j
 ·exact a.free k
inductive an5 (vs:aA) (H:Hp) (Q:VK):Prop
 |mk (aj cC lo hi:Int) (h1:vs=[.int aj,.int cC,.int lo,.int hi]) (h2:1<=aj) (h3:aj<=8) (h4:(-1000<=lo/\lo<=1000)/\(-1000<=hi/\hi<=1000)) (h5:∀ (a:Addr) (H':Hp),H a=none->aB H H'->H' a=some (.lst ((h_ aj cC lo (hi-lo).toNat).map V.int))->Q (.ref a) H')
def apB:=nE an5
inductive al2 (C:Addr) (vs:aA) (H:Hp) (Q:VK):Prop
 |mk (p:Addr) (v:V) (aj:Int) (ws:aP) (L:dB) (st:cH) (h1:vs=[.ref p]) (h2:eF H v aj ws) (h3:cN C H p v L st) (h4:st.bM.length=aj.toNat) (h5:fJ st.bM<=63) (h6:∀ (a:Addr) (ns:aF) (H':Hp),H a=none->aB H H'->ns.Perm (fB aj 0 st.bM)->ns.Pairwise (·<=·)->H' a=some (.lst (ns.map V.int))->Q (.ref a) H')
def an6 (C:Addr):=nE (al2 C)
inductive an7 (C:Addr) (vs:aA) (H:Hp) (Q:VK):Prop
 |mk (p:Addr) (v:V) (aj:Int) (ws:aP) (L:dB) (st:cH) (h1:vs=[.ref p]) (h2:eF H v aj ws) (h3:cN C H p v L st) (h4:st.bM.length=aj.toNat) (h5:fJ st.bM<=63) (h6:∀ (a:Addr) (ns:aF) (H':Hp),H a=none->aB H H'->ns.Perm (k_ aj 0 st.bM)->ns.Pairwise (·<=·)->H' a=some (.lst (ns.map V.int))->Q (.ref a) H')
def apC (C:Addr):=nE (an7 C)
inductive an8 (C:Addr) (vs:aA) (H:Hp) (Q:VK):Prop
 |mk (p:Addr) (v:V) (aj:Int) (ws:aP) (L:dB) (st:cH) (h1:vs=[.ref p]) (h2:eF H v aj ws) (h3:cN C H p v L st) (h4:st.bM.length=aj.toNat) (h5:fJ st.bM<=63) (h6:∀ (a:Addr) (g:Int) (H':Hp),H a=none->aB H H'->sX aj st.bM g->H' a=some (.lst ((uI aj st.bM g.toNat).map V.int))->Q (.ref a) H')
def apD (C:Addr):=nE (an8 C)
end
section
open PySem.Spec PyProof.Rows
end
section
end
section
open PySem.SeqAt
theorem Gi {l:Int} (w1:1<=aj) (l0:0<=l) (l1:l<aj):(l+aj*q) % aj=l/\(l+aj*q) / aj=q:=by
 constructor
 ·rw [ab5];exact J6 l0 l1
 ·rw [zj _ _ (by lk),Fp l0 l1];lk
theorem Je {x:Int}:∀ {i:Nat} {t:aF},x∈k_ aj i t↔∃ (l:Nat) (q:Int),l<t.length/\t.getD l 0<=q/\q<0/\x=((i+l:Nat):Int)+aj*q
 |i,[]=>by simp [k_]
 |i,c::r=>by
  show x∈h_ aj i c (-c).toNat++k_ aj (i+1) r↔_;rw [nM,Jd,Je (i:=i+1) (t:=r)];constructor
  ·rintro (⟨j,d,e⟩|⟨l,q,a,h1,h2,e⟩)
   ·exact ⟨0,c+j,by simp,by show c<=_;lk, by lk, by rw [e];simp⟩
   ·refine ⟨l+1,q,by simp;lk, by simpa using h1,h2,?_⟩;rw [e,show i+1+l=i+(l+1) by lk]
  ·rintro ⟨l,q,a,h1,h2,e⟩;cases l with
   |zero =>
    have b:c<=q:=by simpa using h1
    exact .inl ⟨(q-c).toNat,by lk, by rw [e,xH (by lk)];simp;congr 1;lk⟩
   |succ l =>refine .inr ⟨l,q,by simp at a;lk, by simpa using h1,h2,?_⟩;rw [e,show i+1+l=i+(l+1) by lk]
theorem al3 (w1:1<=aj) (hl:t.length=aj.toNat) {n:Int}:n∈k_ aj 0 t↔t.getD (n % aj).toNat 0<=n / aj/\n / aj<0:=by
 rw [Je];have b:=rQ n (show aj≠0 by lk);have i:=rR n (show 0<aj by lk);have a:=J4 n aj;constructor
 ·rintro ⟨l,q,h1,h2,g,e⟩;obtain ⟨c,d⟩:=Gi (aj:=aj) (l:=(l:Int)) (q:=q) w1 (by lk) (by lk);rw [oM] at e;rw [e,c,d,kO];exact ⟨h2,g⟩
 ·rintro ⟨h1,h2⟩;refine ⟨(n % aj).toNat,n / aj,by lk, h1,h2,?_⟩;rw [oM,xH b];exact a.symm
theorem ahP (w1:1<=aj) (hl:t.length=aj.toNat) {n:Int}:n∈fB aj 0 t↔0<=n / aj/\n / aj<t.getD (n % aj).toNat 0:=by
 by_cases a:0<=n
 ·rw [Qv w1 hl a];have:=Fv a (show 0<=aj by lk);constructor
  ·exact λh=>⟨this,h⟩
  ·exact λh=>h.2
 ·constructor
  ·intro h;exact absurd (Ik w1 h) a
  ·rintro ⟨h,_⟩;have:=J7 (show n<0 by lk) (show 0<aj by lk);lk
theorem ZL {low:Int} (w1:1<=aj) (n:Nat):(h_ aj cC low n).Nodup:=by
 unfold h_;refine zp _ (R:=λa b=>a<b) (λa b h z=>?_) RQ;have:aj*(low+(a:Int))=aj*(low+(b:Int)):=by lk
 have:=Int.eq_of_mul_eq_mul_left (by lk) this;lk
theorem O2 (w1:1<=aj):∀ (i:Nat) (t:aF),(i:Int)+t.length<=aj->(fB aj i t).Nodup
 |_,[],_=>J8
 |i,c::r,h=>by show (h_ aj i 0 c.toNat++fB aj (i+1) r).Nodup;rw [gw] at h;refine List.nodup_append.mpr ⟨ZL w1 _,O2 w1 (i+1) r (by lk),λa g b d z=>?_⟩;subst z;obtain ⟨j,_,e⟩:=Jd.mp g;obtain ⟨l,k,n,_,m⟩:=Em.mp d;have h1:=(Gi (aj:=aj) (l:=(i:Int)) (q:=0+(j:Int)) w1 (by lk) (by lk)).1;have h2:=(Gi (aj:=aj) (l:=((i+1+l:Nat):Int)) (q:=(k:Int)) w1 (by lk) (by lk)).1;rw [<-e] at h1;rw [<-m] at h2;lk
theorem ZM (w1:1<=aj):∀ (i:Nat) (t:aF),(i:Int)+t.length<=aj->(k_ aj i t).Nodup
 |_,[],_=>J8
 |i,c::r,h=>by show (h_ aj i c (-c).toNat++k_ aj (i+1) r).Nodup;rw [gw] at h;refine List.nodup_append.mpr ⟨ZL w1 _,ZM w1 (i+1) r (by lk),λa g b d z=>?_⟩;subst z;obtain ⟨j,_,e⟩:=Jd.mp g;obtain ⟨l,q,m,_,_,k⟩:=Je.mp d;have h1:=(Gi (aj:=aj) (l:=(i:Int)) (q:=c+(j:Int)) w1 (by lk) (by lk)).1;have h2:=(Gi (aj:=aj) (l:=((i+1+l:Nat):Int)) (q:=q) w1 (by lk) (by lk)).1;rw [<-e] at h1;rw [<-k] at h2;lk
end
section
end
section
open PySem.SeqAt
section
variable {lt li pn:Addr} {ts is:aP}
theorem C_ {y:Addr} (h:y∉S):Dj S [y]:=λa c b=>h (by simp at b;rw [<-b];exact c)
end
end
section
open PySem.Spec PyProof.Rows
section
end
end
section
open PySem.SeqAt
end
section
open PySem.Spec PyProof.Rows
inductive ZP (xs:aA) (H:Hp) (Q:VK):Prop
 |int (i:Int) (h1:xs=[.int i]) (h2:i.natAbs.log2<1920) (h3:Q (.str (toString i)) H)
 |str (x:Str) (h1:xs=[.str x]) (h3:Q (.str x) H)
theorem ajE:jz X (.type "str") ZP:=by
 intro ak s σ H xs us Q I r h;rcases h with ⟨i,rfl,a,q⟩|⟨x,rfl,q⟩
 ·obtain ⟨u,rfl,t,rfl⟩:=qH r;exact PySem.P.str_of_int a ⟨.str _,H,I.tok _,⟨_,rfl⟩,q⟩
 ·obtain ⟨u,rfl,t,rfl⟩:=qH r;exact PySem.P.str_of_str ⟨.str _,H,I,⟨_,rfl⟩,q⟩
section
variable {f0:Addr} {s₀:Shared} {H₀:Hp} {E:XK}
def an9 (P:Program) (w:World) (K:bG) (mg:dR) (au:Heap) (E:XK) (k:Nat) (tf:TE) (t:TA):TE:=λσ H Q=>tf σ H λv H1=>∃ g ps sp,v=.ref g/\ad5 P w K mg au g k ps sp/\t σ H1 λvs H2=>∃ Q':VK,sp vs H2 Q' E/\∀ v a,Q' v a->Q v a
theorem ajF {f:Expr} {k:Nat} {tf:TE} {t:TA} (hf:PE (XC P w K mg au N bZ scope f0 cd A outer s₀ H₀ E) f tf) (hr:eG k (XC P w K mg au N bZ scope f0 cd A outer s₀ H₀ E).A) (ha:PA (XC P w K mg au N bZ scope f0 cd A outer s₀ H₀ E) (e::es) t) (ht:eval (.Call f (e::es) [] pos) (XC P w K mg au N bZ scope f0 cd A outer s₀ H₀ E).env=(do callWith pos (<-eval f (XC P w K mg au N bZ scope f0 cd A outer s₀ H₀ E).env) [] (backTo pos (starEach (e::es) (XC P w K mg au N bZ scope f0 cd A outer s₀ H₀ E).env)) (backToKw pos (keywordEach [] (XC P w K mg au N bZ scope f0 cd A outer s₀ H₀ E).env))):=by rfl) (he:starEach (e::es) (XC P w K mg au N bZ scope f0 cd A outer s₀ H₀ E).env=(false,eval e (XC P w K mg au N bZ scope f0 cd A outer s₀ H₀ E).env)::starEach es (XC P w K mg au N bZ scope f0 cd A outer s₀ H₀ E).env:=by rfl) (hpl:(backTo pos (starEach es (XC P w K mg au N bZ scope f0 cd A outer s₀ H₀ E).env)).any (·.1)=false:=by rfl) : PE (XC P w K mg au N bZ scope f0 cd A outer s₀ H₀ E) (.Call f (e::es) [] pos) (an9 P w K mg au E k tf t):=by intro ak s σ H Q I h;rw [ht];refine bf (bA (hf ak s σ H _ I h) λu l ⟨x,H1,b,o,g,ps,sp,ex,C,q⟩=>?_);subst ex;obtain rfl:u=Value.ref g:=o;obtain ⟨fd,F,p,j⟩:=C.ex;refine FZ (h₀:=(XC P w K mg au N bZ scope f0 cd A outer s₀ H₀ E).au) b.ok.mod.yu j (bA (ha pos ak l σ H1 _ b q) λus z ⟨vs,H2,a,r,Q',d,imp⟩=>⟨a.gn,?_⟩) he hpl;exact bA (K5 F hr p .nil ad4 a r (by rw [nO];exact d)) λu y ⟨v,c,m,i,n⟩=>⟨v,c,m,i,imp v c n⟩
end
theorem dw.none {k:Nat} (F:dw P w K mg au (lU P w) k f fd ps sp):dw P w K mg au jL k f fd ps (λvs H Q _=>sp vs H Q λ_ _ _=>False):=⟨λvs H Q E h=>F.len vs H Q _ h,λA outer s H a us vs Q E hr d g r i=>sE (F.run A outer s H a us vs Q (λ_ _ _=>False) hr d g r i) λb s' q=>by
  cases b with
  |ok c=>cases c with
   |ret u=>exact q
   |next=>exact q
   |brk=>exact q
   |cont=>exact q
  |error e =>obtain ⟨_,_,_,_,_,_,_,_,_,_,_,_,_,z⟩:=q;exact z.elim⟩
def Bq (w:World):List DictEntry->bK->Prop
 |[],[]=>True
 |e::es,x::xs=>(∃ t,e.key=.str x t)/\e.hash=hashStr w x/\Bq w es xs
 |_,_=>False
def wz:List DictEntry->bK->iT
 |e::es,x::xs=>(.inr x,e.val)::wz es xs
 |_,_=>[]
theorem aam:∀ {es:List DictEntry} {xs:bK},Bq w es xs->(wz es xs).map (·.1)=xs.map Sum.inr
 |[],[],_=>rfl
 |e::es,x::xs,h=>by show Sum.inr x::_=Sum.inr x::_;rw [aam h.2.2]
 |[],_::_,h=>h.elim
 |_::_,[],h=>h.elim
theorem ZQ:∀ {es:List DictEntry} {xs:bK},Bq w es xs->Pairs (kE P w) es (wz es xs)
 |[],[],_=>.nil
 |e::es,x::xs,h=>by obtain ⟨⟨t,a⟩,_,r⟩:=h;exact .cons (by rw [a];exact O5 P w x t) rfl (ZQ r)
 |[],_::_,h=>h.elim
 |_::_,[],h=>h.elim
theorem aan:∀ {es:List DictEntry} {xs:bK},Bq w es xs->∀ e∈es,∃ k,(kE P w).is k e.key=true/\e.hash=(kE P w).hash k
 |[],[],_=>λe c=>by cases c
 |e::es,x::xs,h=>λd g=>by
  obtain ⟨⟨t,a⟩,b,r⟩:=h;rcases fW.mp g with rfl|z
  ·exact ⟨.inr x,by rw [a];exact O5 P w x t,b⟩
  ·exact aan r d z
 |[],_::_,h=>h.elim
 |_::_,[],h=>h.elim
theorem abB:∀ {es:List DictEntry} {xs:bK} {i:Nat} {e:DictEntry} {x:Str},xs.Nodup->es[i]?=some e->xs[i]?=some x->valueAt (wz es xs) (.inr x)=some e.val
 |[],_,_,_,_,_,h,_=>by simp at h
 |_::_,[],_,_,_,_,_,h=>by simp at h
 |d::es,y::xs,0,e,x,_,h1,h2=>by simp at h1 h2;subst h1 h2;simp [wz,valueAt,xG]
 |d::es,y::xs,i+1,e,x,nd,h1,h2=>by
  have a:xs[i]?=some x:=by simpa using h2
  have b:¬ y=x:=λz=>by subst z;exact (sG.mp nd).1 (eZ a)
  have g:=abB (i:=i) (sG.mp nd).2 (by simpa using h1) a;rw [<-g];show Option.map _ (List.find? _ ((Sum.inr y,d.val)::wz es xs))=_;rw [xG];have c:decide ((Sum.inr y:eE)=Sum.inr x)=false:=lJ λz=>b (K_ z);simp only [c];rfl
theorem ajG {xs:bK} (h:xs.Nodup):(xs.map (Sum.inr:Str->eE)).Nodup:=by
 induction xs with
 |nil=>exact J8
 |cons x r d =>obtain ⟨a,b⟩:=sG.mp h;refine sG.mpr ⟨λz=>a ?_,d b⟩;obtain ⟨y,c,e⟩:=fV.mp z;exact K_ e ▸ c
theorem al4 {es:Array DictEntry} {ep:Nat} {xs:bK} (l:K.lookup a=some ⟨.type "dict",none,.dict es ep,#[]⟩) (h:Bq w es.toList xs) (nd:xs.Nodup) (ns:(a == sysModules)=false):Cr P w K a (wz es.toList xs):=⟨⟨_,l,λc e=>⟨_,es,ep,e,⟨rfl,rfl,rfl⟩,rfl,λd b=>aan h d (K1.mpr b),ZQ h,by rw [aam h];exact ajG nd⟩⟩,ns⟩
theorem afQ (l:Addr) (eY:g_) (n:Nat) (dd:jy) (sl:ux) (u:Tok) (h0:eY.isEmpty=false) : Meets (Builtin.«tuple.__mul__» ⟨[.ref l,.int 1 u],[]⟩) (λ_ R s=>s.heap.get? l=some { cls:=.type "tuple",dict:=dd,data:=.seq eY n,slots:=sl }/\R (.ok (.ret (.ref l))) s):=.of_wp λprog w A R s h=>by
  obtain ⟨e,g,d,b,c⟩:=s;obtain ⟨a,h⟩:=h
  wp_walk using CP a
  exact ⟨_,rfl,h⟩
theorem afw (l:Addr) (eY:g_) (n:Nat) (dd:jy) (sl:ux) (x:Int) (u:Tok) (h0:eY.isEmpty=false) (h1:x<=0) (h2:-1000<=x) : Meets (Builtin.«tuple.__mul__» ⟨[.ref l,.int x u],[]⟩) (λ_ R s=>s.heap.get? l=some { cls:=.type "tuple",dict:=dd,data:=.seq eY n,slots:=sl }/\R (.ok (.ret (.ref s.heap.objs.size))) { s with heap:=s.heap.push { cls:=.type "tuple",data:=.seq #[] } }):=.of_wp λprog w A R s h=>by
  obtain ⟨e,g,d,b,c⟩:=s;obtain ⟨a,h⟩:=h
  wp_walk using CP a
  rw [aK (by simp;lk)]
  wp_walk using CP a
  rw [aK (by simp [h0];lk)]
  wp_walk
  exact ⟨_,rfl,h⟩
inductive apE (x:V) (y:V) (H:Hp) (Q:VK):Prop
 |mk (l:Addr) (k:Int) (xs:aA) (h1:x=.ref l) (h2:y=.int k) (h3:H l=some (.tup xs)) (h4:1<=xs.length) (h5:-1000<=k) (h6:xs.length*k.toNat<=1000) (h7:∀ p H',aB H H'->H' p=some (.tup (replicate k.toNat xs).flatten)->Q (.ref p) H')
def aqG:R2:=λx y H Q=>apE x y H Q
theorem an_:dO X (binaryOp .Mult) aqG:=by
 rintro ak s σ H x y v u Q I z B ⟨l,k,xs,rfl,rfl,i,h1,h5,J,q⟩;by_cases M:2<=k
 ·exact anM ak s σ H _ _ v u Q I z B ⟨l,k,xs,rfl,rfl,i,h1,M,J,λp fp=>q p _ (cu fp _) aM⟩
 cases z;obtain ⟨t,rfl⟩:=B;obtain ⟨aJ,r,D,_⟩:=I.tuple (aZ (K:=X.K) i);obtain ⟨⟨j,g,S,d⟩,c,L,n,R⟩:=id D;cases L;cases R;have O:xs.length=aJ.length:=r.length;have m:aJ.toArray.isEmpty=false:=by
  cases aJ with
  |nil=>rw [show xs.length=0 from O] at h1;lk
  |cons a b=>rfl
 by_cases j:k=1
 ·subst j;exact Jt (T:="tuple") (U:="int") (by decide) ⟨_,c,rfl⟩ (λs'=>vf s' 1 t) Oh Ju wY O1 Jv.lookup (lX wY (vf s 1 t) Jw (Jx _ _) (Ot 1 t l aJ.toArray n g d) ⟨c,rfl,⟨_,c,rfl⟩,lX Ft ⟨_,c,rfl⟩ RG (RJ _ _) (afQ l aJ.toArray n g d t m) ⟨c,.ref l,H,I,rfl,q l H (cW _) (by rw [show (1:Int).toNat=1 from rfl,List.replicate_one,List.flatten_singleton];exact i)⟩⟩)
 ·refine Jt (T:="tuple") (U:="int") (by decide) ⟨_,c,rfl⟩ (λs'=>vf s' k t) Oh Ju wY O1 Jv.lookup (lX wY (vf s k t) Jw (Jx _ _) (Ot k t l aJ.toArray n g d) ⟨c,rfl,⟨_,c,rfl⟩,lX Ft ⟨_,c,rfl⟩ RG (RJ _ _) (afw l aJ.toArray n g d k t m (by lk) h5) ⟨c,?_⟩⟩);have N:(replicate k.toNat xs).flatten=[]:=by rw [show k.toNat=0 by lk];rfl
  have C:aD X ak σ (upd H s.heap.objs.size (.tup [])) { s with heap:=s.heap.push { cls:=.type "tuple",data:=.seq #[] } }:=I.laid (t':=s.toks) (λb o e=>dF _ e) (bI _) (show dZ X.prog X.w _ _ _ (.tup []) from ⟨fP _,[],.nil,oU.new _ _⟩);exact ⟨.ref _,_,C,rfl,q _ _ (cu I.fresh _) (by rw [N];exact aM)⟩
def qe (K:bG) (H:Hp) (a:Addr) (xs:aA):Prop:=H a=some (.tup xs)\/∃ (o:Obj) (aJ:g_) (n:Nat),K.lookup a=some o/\o.cls=.type "tuple"/\o.data=.seq aJ n/\aJ.size<=sizeLine/\bO xs aJ.toList
theorem qe.sq (h:qe K H a xs):gF K H a xs:=h.elim (λe=>aZ e) λe=>.inr e
theorem qe.kt (h:qe K H a xs) (k:∀ b ys,H b=some (.tup ys)->H' b=some (.tup ys)):qe K H' a xs:=h.imp (λe=>k _ _ e) id
theorem qe.same (h:qe K H a xs) (s:aB H H'):qe K H' a xs:=h.kt λb ys e=>s _ _ e
inductive apF (K:bG) (x y:V) (H:Hp) (Q:VK):Prop
 |mk (a b:Addr) (xs ys:aA) (h1:x=.ref a) (h2:y=.ref b) (h3:qe K H a xs) (h4:H b=some (.tup ys)) (h5:xs≠[]) (h6:xs.length+ys.length<=sizeLine) (h7:∀ c H',aB H H'->qe K H' c (xs++ys)->Q (.ref c) H')
def aqH (K:bG):R2:=λx y H Q=>apF K x y H Q
theorem an':dO X (binaryOp .Add) (aqH X.K):=by
 rintro ak s σ H x y v u Q I j l ⟨a,b,xs,ys,rfl,rfl,c,k,d,g,q⟩;refine acs ak s σ H _ _ v u Q I j l ⟨a,b,xs,ys,rfl,rfl,c.sq,aZ k,d,g,λe=>?_,λ_ p i=>?_⟩
 ·subst e;exact q a H (cW _) (by rw [nO];exact c)
 ·exact q p _ (cu i _) (.inl aM)
theorem ajH {k:Nat} {p:Pos} (M:Kv X.prog X.w X.K X.mg X.au x C k ps sp) (hr:eG (k+1) X.A) (hg:Gl X x) (hdb:(x == ("__debug__":Str))=false:=by decide) : PE X (.Call (.Name x p) [] [] pos) (Ld C sp [] E0 wB):=by obtain ⟨f,fd,F,a,b⟩:=M.ex;exact akL b F hr hg M.at_ a .nil Gq hdb
end
section
open PySem.SeqAt PyProof.Rows
theorem QV (x:Str) (c hi oR:Nat) (hh:hi=x.length):∀ (l:gA) (l':gA) (st:Array Nat×Nat),(∀ i∈l,(Ls x)[i]?≠some c) ->forIn (m:=Id) (l++l') st (occBody x ⟨#[c]⟩ hi oR)=forIn (m:=Id) l' st (occBody x ⟨#[c]⟩ hi oR)
 |[],_,_,_=>rfl
 |i::l,l',st,h=>by rw [Rz,Bv];have n:¬ (((st.fst.size<oR/\st.snd<=i)/\i+(⟨#[c]⟩:Str).length<=hi)/\subAt x ⟨#[c]⟩ i=true):=λz=>h i iy (Gh.mp ⟨hh ▸ z.1.2,z.2⟩);unfold occBody;rw [aK n];exact QV x c hi oR hh l l' st λj a=>h j (fG _ a)
theorem ac2 (x:Str) (c hi oR:Nat) (hh:hi=x.length) (i:Nat) (l':gA) (st:Array Nat×Nat) (h:(Ls x)[i]?=some c) (h1:st.1.size<oR) (h2:st.2<=i) : forIn (m:=Id) (i::l') st (occBody x ⟨#[c]⟩ hi oR)=forIn (m:=Id) l' (st.1.push i,i+1) (occBody x ⟨#[c]⟩ hi oR):=by
 rw [Bv];have a:=Gh.mpr h;have n:(((st.fst.size<oR/\st.snd<=i)/\i+(⟨#[c]⟩:Str).length<=hi)/\subAt x ⟨#[c]⟩ i=true):=⟨⟨⟨h1,h2⟩,hh ▸ a.1⟩,a.2⟩
 conv=>lhs;unfold occBody
 rw [aQ n];rfl
theorem abC (x:Str) (c hi oR:Nat):∀ (l:gA) (st:Array Nat×Nat),oR<=st.1.size->(forIn (m:=Id) l st (occBody x ⟨#[c]⟩ hi oR))=st
 |[],_,_=>rfl
 |i::l,st,h=>by
  rw [Bv];have n:¬ (((st.fst.size<oR/\st.snd<=i)/\i+(⟨#[c]⟩:Str).length<=hi)/\subAt x ⟨#[c]⟩ i=true):=λz=>by have:=z.1.1.1;lk
  unfold occBody;rw [aK n];exact abC x c hi oR l st h
theorem aoa {a b d:gA} {c:Nat} (ha:c∉a) (hb:c∉b):occurrences (Mk (a++c::(b++c::d))) ⟨#[c]⟩ 0 (Mk (a++c::(b++c::d))).length 2=[a.length,a.length+1+b.length]:=by
 have m:(Mk (a++c::(b++c::d))).length=a.length+1+b.length+1+d.length:=by rw [<-cO,Lp];simp;lk
 have g:∀ i:Nat,(Ls (Mk (a++c::(b++c::d))))[i]?=(a++c::(b++c::d))[i]?:=λi=>by rw [Lp]
 rw [StrLaws.occ_eq];have o:range' 0 ((Mk (a++c::(b++c::d))).length+1-0)=range' 0 a.length++a.length::(range' (a.length+1) b.length++(a.length+1+b.length)::range' (a.length+1+b.length+1) (d.length+1)):=by rw [m,show a.length+1+b.length+1+d.length+1-0=a.length+(1+(b.length+(1+(d.length+1)))) by lk];rw [<-J9,oM,<-J9 (n:=b.length+(1+(d.length+1))),<-J9 (n:=1+(d.length+1)),<-J9 (n:=d.length+1)];rfl
 rw [o];have e:∀ i∈range' 0 a.length,(Ls (Mk (a++c::(b++c::d))))[i]?≠some c:=λi hi z=>by
  have l:i<a.length:=by have:=List.mem_range'_1.mp hi;lk
  rw [g,qJ l] at z;exact ha (eZ z)
 have k:∀ i∈range' (a.length+1) b.length,(Ls (Mk (a++c::(b++c::d))))[i]?≠some c:=λi hi z=>by obtain ⟨h1,h2⟩:=List.mem_range'_1.mp hi;obtain ⟨j,rfl⟩:∃ j,i=a.length+1+j:=⟨i-a.length-1,by lk⟩;rw [g,xV (by lk),show a.length+1+j-a.length=j+1 by lk, ab7,qJ (by lk)] at z;exact hb (eZ z)
 rw [QV _ _ _ _ rfl _ _ _ e,ac2 _ _ _ _ rfl _ _ _ (by rw [g];simp) (by decide) (fP _),QV _ _ _ _ rfl _ _ _ k,ac2 _ _ _ _ rfl _ _ _ ?_ (by simp) (by show a.length+1<=_;lk),abC _ _ _ _ _ _ (by simp)]
 ·rfl
 ·rw [g,xV (by lk),show a.length+1+b.length-a.length=b.length+1 by lk, ab7];simp
theorem al5 (x:Str) {c:Nat} (hc:c<256):¬ (Builtin.Str.strKind x<Builtin.Str.strKind ⟨#[c]⟩):=by
 have e:Builtin.Str.strKind ⟨#[c]⟩=1:=by unfold Builtin.Str.strKind;rw [aQ (by simp [hc])]
 rw [e];unfold Builtin.Str.strKind;split
 ·lk
 ·split<;>lk
theorem ajI {a b d:gA} {c:Nat} (hc:c<256) (ha:c∉a) (hb:c∉b):splitMax (Mk (a++c::(b++c::d))) ⟨#[c]⟩ 2=[Mk a,Mk b,Mk d]:=by
 have e:(Mk (a++c::(b++c::d))).length=a.length+1+b.length+1+d.length:=by rw [<-cO,Lp];simp;lk
 have j:limitOf (Mk (a++c::(b++c::d))) 2=2:=rfl;unfold splitMax;rw [j,aoa ha hb,aK,aK (by simp)]
 ·unfold partsBetween strSub;rw [e];show [_,_,_]=_;have i:((Mk (a++c::(b++c::d))).cps.extract 0 a.length)=a.toArray:=by unfold Mk;simp
  have g:((Mk (a++c::(b++c::d))).cps.extract (a.length+1) (a.length+1+b.length))=b.toArray:=by
   unfold Mk;rw [ab8,ab9,List.drop_take]
   congr 1
   rw [show a.length+1+b.length-(a.length+1)=b.length by lk, <-J_,RV];simp
  have k:((Mk (a++c::(b++c::d))).cps.extract (a.length+1+b.length+1) (a.length+1+b.length+1+d.length))=d.toArray:=by
   unfold Mk;rw [ab8,ab9,List.drop_take]
   congr 1
   rw [show a.length+1+b.length+1+d.length-(a.length+1+b.length+1)=d.length by lk, show a.length+1+b.length+1=a.length+(1+(b.length+1)) by lk, <-J_,RV,<-J_,List.drop_one,List.tail_cons,<-J_,RV];simp
  show [(⟨_⟩:Str),⟨_⟩,⟨_⟩]=_;rw [show (⟨#[c]⟩:Str).length=1 from rfl,i,g,k];rfl
 ·simp only [JF,Fj,not_or];exact ⟨by rw [e];show ¬ _<1;lk, al5 _ hc⟩
theorem split_head {a b:gA} {c:Nat} (h:Ls x=a++c::b) (ha:c∉a):∃ r,Txt.split x ⟨#[c]⟩=Mk a::r:=by
 obtain ⟨g,d,j,_⟩:=ajC x c;generalize Txt.split x ⟨#[c]⟩=ps at g d j;cases ps with
 |nil=>exact absurd rfl g
 |cons p r =>
  refine ⟨r,?_⟩;cases r with
  |nil =>have e:p=x:=j;have:=d p iy;rw [e,h] at this;exact absurd (by simp) this
  |cons p2 r =>have e:=je Ls j;rw [mJ,h] at e;rw [show Mk a=p from pU (by rw [Lp];exact (acY (d p iy) ha e).1.symm)]
end
section
open PySem.Spec PyProof.Rows
end
section
open PySem.SeqAt
inductive ajJ (vs:aA) (H:Hp) (Q:VK):Prop
 |mk (n l:Addr) (aj:Int) (ws:aP) (h1:vs=[.ref n]) (h2:H n=some (.tup [.int aj,.ref l])) (h3:m5 H l ws) (h4:1<=aj) (h5:aj<=8) (h6:bJ aj ws) (h7:ws.length<=41) (h8:∀ H',aB H H'->Q (.str (oA aj ws)) H')
def al6:=nE ajJ
def Wt (qs:bK):Nat:=(qs.map (·.length)).sum+qs.length
theorem ac3 (y:Str) (b:bK):Wt (y::b)=y.length+1+Wt b:=by unfold Wt;rw [gb,qD,gw];lk
theorem ac5:∀ (qs:bK),qs≠[]->(Str.join ⟨#[32]⟩ qs).length+1=Wt qs
 |[x],_=>by rw [ac3];show x.length+1=_;rfl
 |x::y::r,_=>by have e:=je List.length (mJ 32 x y r);rw [cO,dJ,cO,gw,cO] at e;have:=ac5 (y::r) (by simp);rw [ac3];lk
theorem TV (qs:bK):(Txt.join ⟨#[32]⟩ qs).length<=Wt qs:=by
 rw [wU];cases qs with
 |nil=>exact fP _
 |cons a b =>have:=ac5 (a::b) (by simp);lk
theorem aob (A:bK) (lo hi:Option Int):ou (A.map V.str) lo hi=((A.drop (HT.iZ A.length 0 lo)).take (HT.iZ A.length A.length hi-HT.iZ A.length 0 lo)).map V.str:=by unfold ou;rw [bh,<-List.map_drop,<-List.map_take]
end
section
open PySem.Spec PyProof.Rows
theorem aB.arI (e:aB H H') (h:gF K H a xs):gF K H' a xs:=by
 rcases h with (h|⟨o,h⟩)|h
 ·exact .inl (.inl (e _ _ h))
 ·exact .inl (.inr ⟨o,e _ _ h⟩)
 ·exact .inr h
end
variable {kn:dU}
section
open PySem.SeqAt PyProof.Rows
theorem wX {cs:bK} {x:V} (h:(cs.map V.str)[j]?=some x):∃ z,cs[j]?=some z/\x=V.str z:=by
 rw [jP] at h;cases e:cs[j]? with
 |none=>rw [e] at h;cases h
 |some z=>rw [e] at h;exact ⟨z,rfl,(iz h).symm⟩
theorem ajK (x:Str) (r:bK):ou (map V.str (x::r)) (some 1) none=map V.str r:=by
 rw [aob]
 congr 1
 have a:HT.iZ (x::r).length 0 (some 1)=1:=by unfold HT.iZ;simp
 have b:HT.iZ (x::r).length (x::r).length none=(x::r).length:=rfl;rw [a,b];simp
theorem yp {r:bK}:jK (map V.str (x::r)) 0=some (V.str x):=by show jK (map V.str (x::r)) ((0:Nat):Int)=_;exact oO rfl
theorem aeD {y:Str} {r:bK}:jK (map V.str (x::y::r)) 1=some (V.str y):=by show jK (map V.str (x::y::r)) ((1:Nat):Int)=_;exact oO rfl
structure jt where
 dx:Addr
 n:Addr
 q:Addr
def jD (D:jt):List (Str×V):=cZ "plays" (.ref D.q) (cZ "nets" (.ref D.n) [])
theorem abD (D:jt):(jD D).lookup ("nets":Str)=some (.ref D.n):=by unfold jD;rw [iJ,aK (by k_go),iJ,aQ rfl]
theorem aa1 (D:jt):(jD D).lookup ("plays":Str)=some (.ref D.q):=by unfold jD;rw [iJ,aQ rfl]
theorem mR (D:jt) {m:Str} (h1:¬ m="plays") (h2:¬ m="nets"):(jD D).lookup m=none:=by unfold jD;rw [iJ,aK h1,iJ,aK h2];rfl
structure ad' (K:bG) (C:Addr):Prop where
 cl:nW K C
 nN:pQ K C "nets"
 nP:pQ K C "plays"
structure fY (C:Addr) (H:Hp) (d:Addr) (D:jt) (kn kp:dU):Prop where
 ob:H d=some (.ins C D.dx (jD D))
 ne:H D.n=some (.dK kn)
 pl:H D.q=some (.dK kp)
 nq:D.n≠D.q
 ln:kn.length<=1000
 lp:kp.length<=1000
theorem fY.same {d:Addr} {D:jt} {kp:dU} (h:fY C H d D kn kp) (s:aB H H'):fY C H' d D kn kp:={ h with ob:=s _ _ h.ob,ne:=s _ _ h.ne,pl:=s _ _ h.pl }
structure aea (P:Program) (w:World) (K:bG) (mg:dR) (aR:Addr) (vs:iT):Prop where
 kd:Cr P w K aR vs
 at_:mg "ROWS"=some (.ref aR)
structure UW (K:bG) (vs:iT) (x:Str) (nJ:bK) (f:Addr):Prop where
 ex:∃ r kt,valueAt vs (.inr x)=some (.ref r)/\(∀ H,qe K H r [.ref kt,.ref f])/\(∀ H,qe K H kt (nJ.map V.str))
structure pA (P:Program) (w:World) (K:bG) (mg:dR) (au:Heap) (vs:iT) (k:Nat) (x:Str) (nJ:bK) (sp:Sp):Prop where
 ex:∃ f,UW K vs x nJ f/\ad5 P w K mg au f k ["things"] sp
def E_:bK:=["net","folded","rounds","brick","behind","beside","mirror","slim","play","rest","show","depth","exits","levels","orders","bound","spread","alike","enter","back","step","counts","stands","owes","lacks"]
theorem ZR:E_.Nodup:=by k_go
theorem aoc (vs:aA) (H:Hp) (Q:VK) (E:XK) (h:acZ vs H Q E):aby vs H Q E:=by
 obtain ⟨n,rfl,d,c,q⟩:=h;refine ⟨Mk [dg n],rfl,?_,λb H' s a=>?_⟩
 ·rw [<-cO];show 1<=5000;decide
 ·rw [a.mpr (anZ d c)];exact q H' s
def xZ (x:Str):bK:=if (Txt.split x ⟨#[32]⟩).head?=some (ofString "net") then splitMax x ⟨#[32]⟩ 2 else Txt.split x ⟨#[32]⟩
def eU (x:Str) (nJ:bK) (n:Nat):bK:=if x="exits" then nJ++replicate (n-nJ.length) ("number":Str) else nJ
def iM (l:gA):Prop:=1<=l.length/\l.length<=8/\∀ c∈l,97<=c/\c<=122
inductive mG:Str->Str->Prop
 |text {x:Str}:mG "text" x
 |num {x:Str} (h:qU (Ls x)):mG "number" x
 |name {k x:Str} (n1:¬ k="text") (n2:¬ k="number") (h:iM (Ls x)):mG k x
inductive zG (kn kp:dU):Str->Str->V->Prop
 |net {x:Str} {v:V} (h:dh kn (.inr x)=some v):zG kn kp "net" x v
 |play {x:Str} {v:V} (h:dh kp (.inr x)=some v):zG kn kp "play" x v
 |num {x:Str} {n:Int} (h:PySem.intText? x=some n) (l:x.length<=640):zG kn kp "number" x (.int n)
 |other {k x:Str} (n1:¬ k="net") (n2:¬ k="play") (n3:¬ k="number"):zG kn kp k x (.str x)
inductive kh (kn kp:dU):bK->bK->aA->Prop
 |nil:kh kn kp [] [] []
 |cons {k x:Str} {v:V} {ks xs:bK} {vs:aA} (h:zG kn kp k x v) (t:kh kn kp ks xs vs):kh kn kp (k::ks) (x::xs) (v::vs)
theorem kh.len {kp:dU}:∀ {ks xs:bK} {vs:aA},kh kn kp ks xs vs->ks.length=xs.length/\vs.length=xs.length
 |_,_,_,.nil=>⟨rfl,rfl⟩
 |_,_,_,.cons _ t=>by obtain ⟨a,b⟩:=t.len;exact ⟨by simp [a],by simp [b]⟩
theorem kh.get {kp:dU}:∀ {ks xs:bK} {vs:aA} {i:Nat} {k x:Str},kh kn kp ks xs vs->ks[i]?=some k->xs[i]?=some x->∃ v,vs[i]?=some v/\zG kn kp k x v
 |_,_,_,_,_,_,.nil,h,_=>by simp at h
 |_,_,_,0,_,_,.cons h _,h1,h2=>by simp at h1 h2;subst h1 h2;exact ⟨_,rfl,h⟩
 |_,_,_,i+1,_,_,.cons _ t,h1,h2=>by obtain ⟨v,a,b⟩:=t.get (i:=i) (by simpa using h1) (by simpa using h2);exact ⟨v,by simpa using a,b⟩
theorem aod (c:Nat):(!(occurrences (ofString "abcdefghijklmnopqrstuvwxyz") ⟨#[c]⟩ 0 (ofString "abcdefghijklmnopqrstuvwxyz").length 1).isEmpty)=decide (97<=c/\c<=122):=by
 rw [StrLaws.found_one];have e:(ofString "abcdefghijklmnopqrstuvwxyz").cps.toList=(range 26).map (·+97):=by k_go
 rw [e,ug,rT,rT,fV];constructor
 ·rintro ⟨k,a,rfl⟩;have:=pL.mp a;lk
 ·intro h;exact ⟨c-97,pL.mpr (by lk),by lk⟩
theorem QW (v:α):∀ n:Nat,(replicate n [v]).flatten=replicate n v
 |0=>rfl
 |n+1=>by rw [ju,vg,QW v n,ju];rfl
inductive ahQ (eN:iT) (vs:aA) (H:Hp) (Q:VK):Prop
 |mk (x w0:Str) (r:bK) (h1:vs=[.str x]) (h2:x.length<=5000) (h3:Txt.split x ⟨#[32]⟩=w0::r) (h4:(valueAt eN (.inr w0)).isSome=true) (q:∀ (l:Addr) (H':Hp),H l=none->aB H H'->H' l=some (.lst ((xZ x).map V.str))->Q (.ref l) H')
def ajL (eN:iT):=nE (ahQ eN)
inductive al7 (K:bG) (eN:iT) (vs:aA) (H:Hp) (Q:VK):Prop
 |mk (l:Addr) (w0:Str) (r nJ:bK) (f:Addr) (h1:vs=[.ref l]) (h2:H l=some (.lst ((w0::r).map V.str))) (h3:UW K eN w0 nJ f) (h0:nJ≠[]) (h4:nJ.length<=10) (h5:r.length<=950) (q:∀ (t:Addr) (H':Hp),aB H H'->qe K H' t ((eU w0 nJ r.length).map V.str)->Q (.ref t) H')
def aoe (K:bG) (eN:iT):=nE (al7 K eN)
inductive ajM (vs:aA) (H:Hp) (Q:VK):Prop
 |mk (x:Str) (h1:vs=[.str x]) (h2:x.length<=5000) (h3:∀ (b:Bool) (H':Hp),aB H H'->(b=true↔iM (Ls x))->Q (.bl b) H')
def al8:=nE ajM
inductive aof (vs:aA) (H:Hp) (Q:VK):Prop
 |mk (k x:Str) (h1:vs=[.str k,.str x]) (h2:x.length<=5000) (h3:∀ (b:Bool) (H':Hp),aB H H'->(b=true↔mG k x)->Q (.bl b) H')
def apG:=nE aof
inductive ahR (K:bG) (vs:aA) (H:Hp) (Q:VK):Prop
 |mk (t l:Addr) (ks xs:bK) (h1:vs=[.ref t,.ref l]) (h2:gF K H t (ks.map V.str)) (h3:H l=some (.lst (xs.map V.str))) (h4:Paired mG ks xs) (h5:xs.length<=1000) (h6:∀ x∈xs,x.length<=5000) (q:∀ H',aB H H'->Q .non H')
def ajN (K:bG):=nE (ahR K)
inductive al9 (vs:aA) (H:Hp) (Q:VK):Prop
 |mk (a:Addr) (aY:dU) (x:Str) (v:V) (h1:vs=[.ref a,.str x]) (h2:H a=some (.dK aY)) (h3:dh aY (.inr x)=some v) (q:Q v H)
def aog:=nE al9
inductive al_ (C:Addr) (vs:aA) (H:Hp) (Q:VK):Prop
 |mk (d:Addr) (D:jt) (kn kp:dU) (k x:Str) (v:V) (h1:vs=[.ref d,.str k,.str x]) (da:fY C H d D kn kp) (h:zG kn kp k x v) (q:Q v H)
def aoh (C:Addr):=nE (al_ C)
inductive al' (C:Addr) (vs:aA) (H:Hp) (Q:VK):Prop
 |mk (d dx:Addr) (h1:vs=[.ref d]) (h2:H d=some (.ins C dx [])) (q:∀ (D:jt) (H':Hp),H D.n=none->H D.q=none->fY C H' d D [] []->(∀ b o,H b=some o->b≠d->H' b=some o)->Q .non H')
def ac6 (C:Addr):=nE (al' C)
inductive ur (D:jt) (kn kp:dU) (H1:Hp) (k0 x:Str) (Q:VK) (v:V) (H2:Hp):Prop
 |net (e:k0="new net") (s:aB H1 H2) (q:Q (.str "ok") (upd H2 D.n (.dK (cD kn (.inr x) v))))
 |play (e:k0="new play") (s:aB H1 H2) (q:Q (.str "ok") (upd H2 D.q (.dK (cD kp (.inr x) v))))
 |other (n1:¬ k0="new net") (n2:¬ k0="new play") (k:KT H1 H2) (q:Q v H2)
inductive apH (P:Program) (w:World) (K:bG) (mg:dR) (au:Heap) (eN:iT) (k:Nat) (C:Addr) (vs:aA) (H:Hp) (Q:VK) (E:XK):Prop
 |mk (d:Addr) (D:jt) (kn kp:dU) (x w0 x0 k0:Str) (xr kr:bK) (sp:Sp) (ts:aA) (h1:vs=[.ref d,.str x]) (da:fY C H d D kn kp) (h2:x.length<=5000) (h3:(Txt.split x ⟨#[32]⟩).head?=some w0) (h4:xZ x=w0::x0::xr) (h5:pA P w K mg au eN k w0 (k0::kr) sp) (h6:kr.length<=8) (h7:xr.length<=900)
   (h8:Paired mG (eU w0 (k0::kr) (xr.length+1)) (x0::xr)) (h9:kh kn kp (eU w0 (k0::kr) (xr.length+1)) (x0::xr) ts) (h10:∀ y∈x0::xr,y.length<=5000) (ln:kn.length<900) (lp:kp.length<900)
   (q:∀ (l:Addr) (H1:Hp),H l=none->aB H H1->H1 l=some (.lst ts)->sp [.ref l] H1 (ur D kn kp H1 k0 x0 Q) E)
def pZ (P:Program) (w:World) (K:bG) (mg:dR) (au:Heap) (eN:iT) (k:Nat) (C:Addr):Sp:=λvs H Q E=>apH P w K mg au eN k C vs H Q E
def apI (P:Program) (w:World) (K:bG) (mg:dR) (au:Heap) (eN:iT) (k:Nat) (C:Addr):Sp:=λvs H Q _=>pZ P w K mg au eN k C vs H Q λ_ _ _=>False
end
section
open PySem.Spec PyProof.Rows
section
variable {s₀:Shared} {H₀:Hp} {E:XK}
end
end
section
open PySem.SeqAt
end
section
open PySem.SeqAt PyProof.Rows
inductive Wd:V->Str->Prop
 |int {i:Int} (h:i.natAbs<=10000):Wd (.int i) (bL i)
 |str {x:Str} (h:x.length<=1000):Wd (.str x) x
theorem ajO {i:Int} (h:i.natAbs<=10000):(bL i).length<=10002:=by have:=len_str_of_int i;show (ofString (toString i)).length<=_;lk
theorem xP {i:Int} (h:i.natAbs<=10000):i.natAbs.log2<1920:=by
 by_cases z:i.natAbs=0
 ·rw [z];decide
 ·have:=(Nat.log2_lt z (k:=14)).mpr (by lk);lk
theorem Wd.len (h:Wd v x):x.length<=10002:=by
 cases h with
 |int h=>exact ajO h
 |str h=>lk
theorem FQ:∀ {xs:aA} {ys:bK},Paired Wd xs ys->(ys.map (·.length)).sum<=10002*xs.length
 |_,_,.nil=>by simp
 |_,_,.cons h t=>by have:=h.len;have:=FQ t;simp;lk
def iR (ns:aF):Str:=if ns=[] then "none" else Txt.join ⟨#[32]⟩ (ns.map bL)
theorem Br:∀ {ns:aF},(∀ n∈ns,n.natAbs<=10000)->Paired Wd (ns.map V.int) (ns.map bL)
 |[],_=>.nil
 |n::r,h=>.cons (.int (h n iy)) (Br λm a=>h m (fG _ a))
def pH:Place->bK
 |.before k l=>["before",bL k,bL l]
 |.exit l=>["exit",bL l]
 |.out l n=>["out",bL l,bL n]
def GP:Place->Prop
 |.before k l=>k<=10000/\l.natAbs<=10000
 |.exit l=>l.natAbs<=10000
 |.out l n=>l.natAbs<=10000/\n.natAbs<=10000
theorem adL (h:GP pl):Paired Wd (rz pl) (pH pl):=by
 cases pl with
 |before k l=>exact .cons (.str (by k_go)) (.cons (.int (by have:=h.1;lk)) (.cons (.int h.2) .nil))
 |exit l=>exact .cons (.str (by k_go)) (.cons (.int h) .nil)
 |out l n=>exact .cons (.str (by k_go)) (.cons (.int h.1) (.cons (.int h.2) .nil))
def Ho (pl:Place):Str:=Txt.join ⟨#[32]⟩ (pH pl)
inductive ajP (vs:aA) (H:Hp) (Q:VK):Prop
 |mk (a:Addr) (xs:aA) (ys:bK) (h1:vs=[.ref a]) (h2:H a=some (.lst xs)\/H a=some (.tup xs)) (h3:Paired Wd xs ys) (h4:xs.length<=1000) (q:∀ H',aB H H'->Q (.str (Txt.join ⟨#[32]⟩ ys)) H')
def ama:=nE ajP
inductive ajQ (vs:aA) (H:Hp) (Q:VK):Prop
 |mk (a:Addr) (ns:aF) (h1:vs=[.ref a]) (h2:H a=some (.lst (ns.map V.int))) (h3:∀ n∈ns,n.natAbs<=10000) (h4:ns.length<=1000) (q:∀ H',aB H H'->Q (.str (iR ns)) H')
def abE:=nE ajQ
inductive ahS (vs:aA) (H:Hp) (Q:VK):Prop
 |mk (l:Addr) (x0:Str) (aj:Int) (ws:aP) (h1:vs=[.ref l]) (h2:H l=some (.lst [.str x0,.str (oA aj ws)])) (w1:1<=aj) (w8:aj<=8) (ok:bJ aj ws) (len:ws.length<=40) (q:∀ (v:V) (H':Hp),aB H H'->eV H' v aj ws->Q v H')
def ajR:=nE ahS
inductive ahT (C:Addr) (vs:aA) (H:Hp) (Q:VK):Prop
 |mk (l:Addr) (x0:Str) (v:V) (aj:Int) (ws:aP) (h1:vs=[.ref l]) (h2:H l=some (.lst [.str x0,v])) (net:eF H v aj ws) (q:∀ (p:Addr) (L:dB) (H':Hp),(∀ b∈L.own p,H b=none)->cN C H' p v L (jF aj ws)->aB H H'->Q (.ref p) H')
def ajS (C:Addr):=nE (ahT C)
inductive ahU (vs:aA) (H:Hp) (Q:VK):Prop
 |mk (l:Addr) (v:V) (aj:Int) (ws:aP) (h1:vs=[.ref l]) (h2:H l=some (.lst [v])) (net:eF H v aj ws) (q:∀ H',aB H H'->Q (.str (oA aj ws)) H')
def ajT:=nE ahU
inductive aoi (C:Addr) (m:Sp) (vs:aA) (H:Hp) (Q:VK) (E:XK):Prop
 |mk (l p:Addr) (x v:V) (L:dB) (st:cH) (h1:vs=[.ref l]) (h2:H l=some (.lst [.ref p,x])) (pa:cN C H p v L st) (h:m [.ref p,x] H (λu H'=>∃ i:Int,u=.int i/\i.natAbs<=10000/\Q (.str (bL i)) H') E)
def apJ (C:Addr) (m:Sp):Sp:=λvs H Q E=>aoi C m vs H Q E
inductive amb (C:Addr) (m:Sp) (vs:aA) (H:Hp) (Q:VK) (E:XK):Prop
 |mk (l p:Addr) (x v:V) (L:dB) (st:cH) (h1:vs=[.ref l]) (h2:H l=some (.lst [.ref p,x])) (pa:cN C H p v L st) (h:m [.ref p,x] H (λu H'=>∃ (t:Addr) (pl:Place),u=.ref t/\H' t=some (.tup (rz pl))/\GP pl/\∀ H2,aB H' H2->Q (.str (Ho pl)) H2) E)
def aoj (C:Addr) (m:Sp):Sp:=λvs H Q E=>amb C m vs H Q E
inductive ahV (C:Addr) (vs:aA) (H:Hp) (Q:VK):Prop
 |mk (l p:Addr) (v:V) (aj:Int) (ws:aP) (L:dB) (st:cH) (h1:vs=[.ref l]) (h2:H l=some (.lst [.ref p])) (net:eF H v aj ws) (pa:cN C H p v L st) (wf:Wf aj ws st) (q:∀ (dG:cH) (H':Hp),oZ aj ws (gQ 0 st.aX) st dG->cN C H' p v L dG->dW L H H'->Q (.str "ok") H')
def ajU (C:Addr):=nE (ahV C)
inductive sV (aj:Int) (st:cH):Str->aF->Prop
 |counts:sV aj st "counts" st.bM
 |told {w:Str} {ns:aF} (h:Cw aj st.bM w ns):sV aj st w ns
inductive amc (C:Addr) (w:Str) (vs:aA) (H:Hp) (Q:VK):Prop
 |mk (l p:Addr) (v:V) (aj:Int) (ws:aP) (L:dB) (st:cH) (h1:vs=[.ref l]) (h2:H l=some (.lst [.ref p])) (net:eF H v aj ws) (pa:cN C H p v L st) (tl:st.bM.length=aj.toNat) (few:fJ st.bM<=63) (q:∀ (ns:aF) (H':Hp),aB H H'->sV aj st w ns->Q (.str (iR ns)) H')
def KN (C:Addr) (w:Str):=nE (amc C w)
theorem sV.small {w:Str} (h:sV aj st w ns) (w1:1<=aj) (w8:aj<=8) (tl:st.bM.length=aj.toNat) (few:fJ st.bM<=63):∀ n∈ns,n.natAbs<=10000:=λn a=>by
 cases h with
 |counts =>obtain ⟨i,hi,rfl⟩:=Jz.mp a;have:=Cv (t:=st.bM) i;rw [Fw,Fo hi,RX] at this;lk
 |told h =>
  rcases h with ⟨_,p,_⟩|⟨_,p,_⟩|⟨_,g,d,rfl⟩
  ·have m:=p.mem_iff.mp a;have:=Ik w1 m;have:=abz w1 w8 tl few m;lk
  ·obtain ⟨l,j,h1,h2,r,e⟩:=Je.mp (p.mem_iff.mp a);have:=Cv (t:=st.bM) l;have b:-63<=j:=by lk
   have o:aj*j<=0:=ab_ (by lk) (by lk);have u:8*(-63)<=aj*j:=by have q:aj*(-63)<=aj*j:=Ka b (by lk);lk
   rw [e];lk
  ·have m:=CG.mp a;obtain ⟨k,c,rfl⟩:=fV.mp m.1;have:=pL.mp c;have:=d.lt w1 w8 tl few;lk
end
section
open PySem.Spec PyProof.Rows
section
end
section
variable {m:Str} {k:Nat} {o:Expr} {ta:TE} {t:TA} {apos:Pos}
theorem amd {pl:Sem Bool} (he:PE X.yw o ta) (c:nW X.K C) (M:Dg X.prog X.w X.K X.mg X.au C m k ps sp) (hr:eG k X.A) (ha:PA X.yw (e::es) t) (hst:starEach (e::es) X.env=(false,eval e X.env)::starEach es X.env:=by rfl) (hpl:(backTo pos (starEach es X.env)).any (·.1)=false:=by rfl) (ht:eval (.Call (.Attribute o m apos) (e::es) [] pos) X.env=(do
   let ov <-eval o X.env
   standAt apos.atName
   let (f1,first) <-holding [ov] (getMethod ov m pl)
   callWith pos f1 first (backTo pos (starEach (e::es) X.env)) (backToKw pos (keywordEach [] X.env))):=by rfl) :
  PX X (.Call (.Attribute o m apos) (e::es) [] pos) (λσ H Q E=>ta σ H λx H1=>ad0 C m x H1 (t σ H1 λvs H2=>∃ (Q':VK) (E':XK),sp (x::vs) H2 Q' E'/\(∀ v H3,Q' v H3->Q v H3)/\∀ c H3,E' c none H3->E c none H3)):=by
 intro ak s σ H Q E O I h hx;obtain ⟨f,fd,F,hb,D⟩:=M.ex;have yw:∀ {α:Type} {t:Sem α} {Q:α->Shared->Prop} {s:Shared},wpAny (model X.prog X.w) X.A t Q (λ_ _=>False) s->wpAny (model X.prog X.w) X.A t Q O s:=λh=>lE h (λ_ _ z=>z) λ_ _ z=>z.elim;refine Tj (pl:=pl) (yw (bA (he ak s σ H _ (I.wish _) h) λu W ⟨x,H1,I1,rx,a,dx,fs,ex,ea,l,q⟩=>?_)) ht;subst ex;obtain rfl:u=Value.ref a:=rx;have d:=I1.sI;refine Pn d ea c D l (FZ (first:=[.ref a]) (h₀:=X.au) I.ok.mod.yu D.kp (lE (ha pos ak W σ H1 _ (d.wish _) q) (λus n ⟨vs,H2,p,r,Q',E',y,i1,i2⟩=>⟨p.sI.gn,?_⟩) (λ_ _ z=>elim z)) hst hpl);have i:=p.sI;have J:bO (V.ref a::vs) (Value.ref a::us):=.cons rfl r;have hl:(Value.ref a::us).length=ps.length:=by rw [<-J.length];exact F.len _ _ _ _ y
 have g:=hb n (.ref a::us) i.gn (by rw [nO];exact hl);rw [nO] at g;refine K3 (sE (F.run X.A X.stack n H2 ⟨.ref a::us,[]⟩ (.ref a::us) (.ref a::vs) Q' E' hr i.env0 g J y) λj s' b=>?_);cases j with
 |error e =>obtain ⟨ea,cls,a0,B,H',R,e2,e3,e4,e5,N,e7,S,e9⟩:=b;exact hx H2 n e s' i ⟨ea,cls,a0,B,H',R,e2,e3,e4,e5,N,e7,S,i2 _ _ e9⟩
 |ok U=>cases U with
  |ret u =>obtain ⟨v,H',Y,r4,L⟩:=i.after b;exact ⟨v,H',Y,r4,i1 _ _ L⟩
  |next=>exact b.elim
  |brk=>exact b.elim
  |cont=>exact b.elim
end
end
variable {w0:Str}
section
open PySem.SeqAt PyProof.Rows
theorem blank:(ofString " ")=⟨#[32]⟩:=by k_go
theorem nD {l:gA} (h:iM l):32∉l:=λz=>by have:=h.2.2 32 z;lk
theorem lW (h:iM (Ls x)):x.length<=8:=by rw [<-cO];exact h.2.1
theorem Jf {l:gA} (h:qU l):32∉l:=λz=>by
 by_cases c:l.head?=some 45
 ·cases l with
  |nil=>cases z
  |cons a r =>
   have ea:a=45:=iz c;have b:=h.2.2.1;have d:gk (a::r)=r:=by unfold gk;rw [aQ c];rfl
   rw [d] at b;rcases fW.mp z with y|y
   ·lk
   ·have:=b 32 y;lk
 ·have d:gk l=l:=by unfold gk;rw [aK c]
  have b:=h.2.2.1;rw [d] at b;have:=b 32 z;lk
theorem yL (h:qU (Ls x)):x.length<=61:=by obtain ⟨n,_,_,l⟩:=an2 h;rw [<-cO];exact l
theorem adM {a b:Str} (hx:Ls x=Ls a++32::Ls b) (ha:32∉Ls a) (hb:32∉Ls b):Txt.split x ⟨#[32]⟩=[a,b]:=by
 rw [show x=Str.join ⟨#[32]⟩ [a,b] from pU (by rw [hx,mJ];rfl)];exact Bc (by simp) λp c=>by
  simp at c;rcases c with rfl|rfl
  ·exact ha
  ·exact hb
theorem Gj {a b c:Str} (hx:Ls x=Ls a++32::(Ls b++32::Ls c)) (ha:32∉Ls a) (hb:32∉Ls b) (hc:32∉Ls c):Txt.split x ⟨#[32]⟩=[a,b,c]:=by
 rw [show x=Str.join ⟨#[32]⟩ [a,b,c] from pU (by rw [hx,mJ,mJ];rfl)];exact Bc (by simp) λp d=>by
  simp at d;rcases d with rfl|rfl|rfl
  ·exact ha
  ·exact hb
  ·exact hc
theorem vA {r:bK} (h:Txt.split x ⟨#[32]⟩=w0::r) (n:¬ w0="net"):xZ x=w0::r:=by unfold xZ;rw [h,aK (show ¬ (w0::r).head?=some (ofString "net") from λz=>n (iz z))]
section
variable {eN:iT} {k:Nat} {d:Addr} {D:jt} {kp:dU} {Q:VK} {E:XK} {nm c:Str}
theorem Gx (RA:pA P w K mg au eN k w0 ["play"] sp) (da:fY C H d D kn kp) (ln:kn.length<900) (lp:kp.length<900) (hp:dh kp (.inr nm)=some (.ref p)) (hx:Ls x=Ls w0++32::Ls nm) (nw:32∉Ls w0) (lw:w0.length<=10) (n1:¬ w0="net") (n2:¬ w0="exits") (hn:iM (Ls nm)) (q:∀ (l:Addr) (H1:Hp),H l=none->aB H H1->H1 l=some (.lst [.ref p])->sp [.ref l] H1 (ur D kn kp H1 "play" nm Q) E):pZ P w K mg au eN k C [.ref d,.str x] H Q E:=by
 have a:=adM hx nw (nD hn);have e:=lW hn;have g:x.length<=100:=by rw [<-cO,hx];simp [cO];lk
 have b:eU w0 ["play"] 1=(["play"]:bK):=aK n2;refine ⟨d,D,kn,kp,x,w0,nm,"play",[],[],sp,[.ref p],rfl,da,by lk, by rw [a];rfl,vA a n1,RA,by simp,by simp,?_,?_,λy c=>?_,ln,lp,q⟩
 ·show Paired mG (eU w0 ["play"] 1) [nm];rw [b];exact .cons (.name (by k_go) (by k_go) hn) .nil
 ·show kh kn kp (eU w0 ["play"] 1) [nm] _;rw [b];exact .cons (.play hp) .nil
 ·have:y=nm:=by simpa using c
  rw [this];lk
theorem adN {n:Int} (RA:pA P w K mg au eN k w0 ["play","number"] sp) (da:fY C H d D kn kp) (ln:kn.length<900) (lp:kp.length<900) (hp:dh kp (.inr nm)=some (.ref p)) (hx:Ls x=Ls w0++32::(Ls nm++32::Ls c)) (nw:32∉Ls w0) (lw:w0.length<=10) (n1:¬ w0="net") (n2:¬ w0="exits") (hn:iM (Ls nm)) (hc:qU (Ls c)) (hv:PySem.intText? c=some n) (q:∀ (l:Addr) (H1:Hp),H l=none->aB H H1->H1 l=some (.lst [.ref p,.int n])->sp [.ref l] H1 (ur D kn kp H1 "play" nm Q) E):pZ P w K mg au eN k C [.ref d,.str x] H Q E:=by
 have a:=Gj hx nw (nD hn) (Jf hc);have i:=lW hn;have g:=yL hc;have j:x.length<=100:=by rw [<-cO,hx];simp [cO];lk
 have b:eU w0 ["play","number"] 2=(["play","number"]:bK):=aK n2;refine ⟨d,D,kn,kp,x,w0,nm,"play",[c],["number"],sp,[.ref p,.int n],rfl,da,by lk, by rw [a];rfl,vA a n1,RA,by simp,by simp,?_,?_,λy e=>?_,ln,lp,q⟩
 ·show Paired mG (eU w0 ["play","number"] 2) [nm,c];rw [b];exact .cons (.name (by k_go) (by k_go) hn) (.cons (.num hc) .nil)
 ·show kh kn kp (eU w0 ["play","number"] 2) [nm,c] _;rw [b];exact .cons (.play hp) (.cons (.num hv (by lk)) .nil)
 ·have:y=nm\/y=c:=by simpa using e
  rcases this with rfl|rfl<;>lk
theorem Lq (RA:pA P w K mg au eN k w0 ["net"] sp) (da:fY C H d D kn kp) (ln:kn.length<900) (lp:kp.length<900) (hp:dh kn (.inr nm)=some v) (hx:Ls x=Ls w0++32::Ls nm) (nw:32∉Ls w0) (lw:w0.length<=10) (n1:¬ w0="net") (n2:¬ w0="exits") (hn:iM (Ls nm)) (q:∀ (l:Addr) (H1:Hp),H l=none->aB H H1->H1 l=some (.lst [v])->sp [.ref l] H1 (ur D kn kp H1 "net" nm Q) E):pZ P w K mg au eN k C [.ref d,.str x] H Q E:=by
 have a:=adM hx nw (nD hn);have e:=lW hn;have g:x.length<=100:=by rw [<-cO,hx];simp [cO];lk
 have b:eU w0 ["net"] 1=(["net"]:bK):=aK n2;refine ⟨d,D,kn,kp,x,w0,nm,"net",[],[],sp,[v],rfl,da,by lk, by rw [a];rfl,vA a n1,RA,by simp,by simp,?_,?_,λy c=>?_,ln,lp,q⟩
 ·show Paired mG (eU w0 ["net"] 1) [nm];rw [b];exact .cons (.name (by k_go) (by k_go) hn) .nil
 ·show kh kn kp (eU w0 ["net"] 1) [nm] _;rw [b];exact .cons (.net hp) .nil
 ·have:y=nm:=by simpa using c
  rw [this];lk
theorem ac7 {txt:Str} (RA:pA P w K mg au eN k "net" ["new net","text"] sp) (da:fY C H d D kn kp) (ln:kn.length<900) (lp:kp.length<900) (hx:Ls x=Ls (ofString "net")++32::(Ls nm++32::Ls txt)) (hn:iM (Ls nm)) (lt:txt.length<=4000) (q:∀ (l:Addr) (H1:Hp),H l=none->aB H H1->H1 l=some (.lst [.str nm,.str txt])->sp [.ref l] H1 (ur D kn kp H1 "new net" nm Q) E):pZ P w K mg au eN k C [.ref d,.str x] H Q E:=by
 have m:=lW hn;have c:32∉Ls (ofString "net"):=by k_go
 have j:(ofString "net").length=3:=by k_go
 have g:x.length<=5000:=by rw [<-cO,hx];simp [cO];lk
 obtain ⟨r,a⟩:=split_head hx c;rw [wu] at a;have ex:x=Mk (Ls (ofString "net")++32::(Ls nm++32::Ls txt)):=by rw [<-hx,wu]
 have i:xZ x=[ofString "net",nm,txt]:=by unfold xZ;rw [a,aQ (show (ofString "net":: r).head?=some (ofString "net") from rfl),ex,ajI (by decide) c (nD hn),wu,wu,wu]
 have b:eU "net" ["new net","text"] 2=(["new net","text"]:bK):=aK (by k_go);refine ⟨d,D,kn,kp,x,"net",nm,"new net",[txt],["text"],sp,[.str nm,.str txt],rfl,da,g,by rw [a];rfl,i,RA,by simp,by simp,?_,?_,λy e=>?_,ln,lp,q⟩
 ·show Paired mG (eU "net" ["new net","text"] 2) [nm,txt];rw [b];exact .cons (.name (by k_go) (by k_go) hn) (.cons .text .nil)
 ·show kh kn kp (eU "net" ["new net","text"] 2) [nm,txt] _;rw [b];exact .cons (.other (by k_go) (by k_go) (by k_go)) (.cons (.other (by k_go) (by k_go) (by k_go)) .nil)
 ·have:y=nm\/y=txt:=by simpa using e
  rcases this with rfl|rfl<;>lk
theorem abF {a:Str} (RA:pA P w K mg au eN k "play" ["new play","net"] sp) (da:fY C H d D kn kp) (ln:kn.length<900) (lp:kp.length<900) (hp:dh kn (.inr a)=some v) (hx:Ls x=Ls (ofString "play")++32::(Ls nm++32::Ls a)) (hn:iM (Ls nm)) (ha:iM (Ls a)) (q:∀ (l:Addr) (H1:Hp),H l=none->aB H H1->H1 l=some (.lst [.str nm,v])->sp [.ref l] H1 (ur D kn kp H1 "new play" nm Q) E):pZ P w K mg au eN k C [.ref d,.str x] H Q E:=by
 have j:=lW hn;have la:=lW ha;have g:32∉Ls (ofString "play"):=by k_go
 have i:(ofString "play").length=4:=by k_go
 have b:=Gj hx g (nD hn) (nD ha);have m:x.length<=100:=by rw [<-cO,hx];simp [cO];lk
 have c:eU "play" ["new play","net"] 2=(["new play","net"]:bK):=aK (by k_go);refine ⟨d,D,kn,kp,x,"play",nm,"new play",[a],["net"],sp,[.str nm,v],rfl,da,by lk, by rw [b];rfl,vA b (by k_go),RA,by simp,by simp,?_,?_,λy e=>?_,ln,lp,q⟩
 ·show Paired mG (eU "play" ["new play","net"] 2) [nm,a];rw [c];exact .cons (.name (by k_go) (by k_go) hn) (.cons (.name (by k_go) (by k_go) ha) .nil)
 ·show kh kn kp (eU "play" ["new play","net"] 2) [nm,a] _;rw [c];exact .cons (.other (by k_go) (by k_go) (by k_go)) (.cons (.net hp) .nil)
 ·have:y=nm\/y=a:=by simpa using e
  rcases this with rfl|rfl<;>lk
end
theorem ajV (n:Nat) (h:n<100):qU (Ls (bL n))/\PySem.intText? (bL n)=some (n:Int):=by
 have a:∀ m:Fin 100,(1<=(gk (Ls (bL (m.val:Int)))).length/\(gk (Ls (bL (m.val:Int)))).length<=60/\(∀ c∈gk (Ls (bL (m.val:Int))),48<=c/\c<=57)/\(Ls (bL (m.val:Int))=[48]\/(gk (Ls (bL (m.val:Int)))).head?≠some 48))/\PySem.intText? (bL (m.val:Int))=some (m.val:Int):=by k_go
 exact a ⟨n,h⟩
theorem ame:qU (Ls (bL (-1)))/\PySem.intText? (bL (-1))=some (-1):=by
 have a:(1<=(gk (Ls (bL (-1)))).length/\(gk (Ls (bL (-1)))).length<=60/\(∀ c∈gk (Ls (bL (-1))),48<=c/\c<=57)/\(Ls (bL (-1))=[48]\/(gk (Ls (bL (-1)))).head?≠some 48))/\PySem.intText? (bL (-1))=some (-1):=by k_go
 exact a
theorem uc {i:Int} (h0:-1<=i) (h1:i<100):qU (Ls (bL i))/\PySem.intText? (bL i)=some i:=by
 by_cases c:i=-1
 ·subst c;exact ame
 ·obtain ⟨n,rfl⟩:∃ n:Nat,i=(n:Int):=⟨i.toNat,by lk⟩;exact ajV n (by lk)
end
variable {Q':VK}
section
open PySem.SeqAt
inductive aqI (m:Sp) (vs:aA) (H:Hp) (Q:VK) (E:XK):Prop
 |mk (l:Addr) (y x:V) (h1:vs=[.ref l]) (h2:H l=some (.lst [y,x])) (h:m [x] H Q E)
def aeE (m:Sp):Sp:=λvs H Q E=>aqI m vs H Q E
inductive aqJ (m:Sp) (vs:aA) (H:Hp) (Q:VK) (E:XK):Prop
 |mk (l:Addr) (y x z:V) (h1:vs=[.ref l]) (h2:H l=some (.lst [y,x,z])) (h:m [x,z] H Q E)
def arJ (m:Sp):Sp:=λvs H Q E=>aqJ m vs H Q E
inductive aqK (m:Sp) (vs:aA) (H:Hp) (Q:VK) (E:XK):Prop
 |mk (l:Addr) (y x:V) (h1:vs=[.ref l]) (h2:H l=some (.lst [y,x])) (h:m [x] H (λu H'=>∃ (t:Addr) (v p:V),u=.ref t/\H' t=some (.tup [v,p])/\Q v H') E)
def arK (m:Sp):Sp:=λvs H Q E=>aqK m vs H Q E
theorem agV {an:Addr} {vs:aA} {Q:VK} {E:XK} (h:u6 an n vs H Q E) (i:∀ u H',Q u H'->Q' u H'):u6 an n vs H Q' E:=by
 rcases h with h|h
 ·obtain ⟨k,e,kn,c,q⟩:=h;exact .inl ⟨k,e,kn,c,λT v pv H' f s x a b=>i _ _ (q T v pv H' f s x a b)⟩
 ·exact .inr h
inductive agW (vs:aA) (H:Hp) (Q:VK):Prop
 |mk (l:Addr) (v:V) (aj:Int) (ws:aP) (cs:aF) (ys:bK) (h1:vs=[.ref l]) (h2:H l=some (.lst (v::cs.map V.int))) (net:eF H v aj ws) (lc:cs.length=aj.toNat) (hp:Paired Wd ((bC cs ws).map V.int) ys) (q:∀ H',aB H H'->Q (.str (Txt.join ⟨#[32]⟩ ys)) H')
def Px:=nE agW
theorem ajW (v:V) (xs:aA):ou (v::xs) (some 1) none=xs:=by
 unfold ou;have a:HT.iZ (v::xs).length 0 (some 1)=1:=by unfold HT.iZ;simp
 have b:HT.iZ (v::xs).length (v::xs).length none=(v::xs).length:=rfl;rw [a,b];show (xs.take _)=xs;rw [zc (by simp)]
end
section
open PySem.Spec PyProof.Rows
end
section
open PySem.SeqAt PyProof.Rows
theorem apK {a b c e:Str} (hx:Ls x=Ls a++32::(Ls b++32::(Ls c++32::Ls e))) (ha:32∉Ls a) (hb:32∉Ls b) (hc:32∉Ls c) (he:32∉Ls e):Txt.split x ⟨#[32]⟩=[a,b,c,e]:=by
 rw [show x=Str.join ⟨#[32]⟩ [a,b,c,e] from pU (by rw [hx,mJ,mJ,mJ];rfl)];exact Bc (by simp) λp d=>by
  simp at d;rcases d with rfl|rfl|rfl|rfl
  ·exact ha
  ·exact hb
  ·exact hc
  ·exact he
section
variable {eN:iT} {k:Nat} {d:Addr} {D:jt} {kp:dU} {Q:VK} {E:XK} {nm c:Str}
theorem adO {n:Int} (RA:pA P w K mg au eN k w0 ["new net","number"] sp) (da:fY C H d D kn kp) (ln:kn.length<900) (lp:kp.length<900) (hx:Ls x=Ls w0++32::(Ls nm++32::Ls c)) (nw:32∉Ls w0) (lw:w0.length<=10) (n1:¬ w0="net") (n2:¬ w0="exits") (hn:iM (Ls nm)) (hc:qU (Ls c)) (hv:PySem.intText? c=some n) (q:∀ (l:Addr) (H1:Hp),H l=none->aB H H1->H1 l=some (.lst [.str nm,.int n])->sp [.ref l] H1 (ur D kn kp H1 "new net" nm Q) E):pZ P w K mg au eN k C [.ref d,.str x] H Q E:=by
 have a:=Gj hx nw (nD hn) (Jf hc);have i:=lW hn;have g:=yL hc;have j:x.length<=100:=by rw [<-cO,hx];simp [cO];lk
 have b:eU w0 ["new net","number"] 2=(["new net","number"]:bK):=aK n2;refine ⟨d,D,kn,kp,x,w0,nm,"new net",[c],["number"],sp,[.str nm,.int n],rfl,da,by lk, by rw [a];rfl,vA a n1,RA,by simp,by simp,?_,?_,λy e=>?_,ln,lp,q⟩
 ·show Paired mG (eU w0 ["new net","number"] 2) [nm,c];rw [b];exact .cons (.name (by k_go) (by k_go) hn) (.cons (.num hc) .nil)
 ·show kh kn kp (eU w0 ["new net","number"] 2) [nm,c] _;rw [b];exact .cons (.other (by k_go) (by k_go) (by k_go)) (.cons (.num hv (by lk)) .nil)
 ·have:y=nm\/y=c:=by simpa using e
  rcases this with rfl|rfl<;>lk
theorem apL {a:Str} (RA:pA P w K mg au eN k w0 ["new net","net"] sp) (da:fY C H d D kn kp) (ln:kn.length<900) (lp:kp.length<900) (hp:dh kn (.inr a)=some v) (hx:Ls x=Ls w0++32::(Ls nm++32::Ls a)) (nw:32∉Ls w0) (lw:w0.length<=10) (n1:¬ w0="net") (n2:¬ w0="exits") (hn:iM (Ls nm)) (ha:iM (Ls a)) (q:∀ (l:Addr) (H1:Hp),H l=none->aB H H1->H1 l=some (.lst [.str nm,v])->sp [.ref l] H1 (ur D kn kp H1 "new net" nm Q) E):pZ P w K mg au eN k C [.ref d,.str x] H Q E:=by
 have b:=Gj hx nw (nD hn) (nD ha);have g:=lW hn;have la:=lW ha;have i:x.length<=100:=by rw [<-cO,hx];simp [cO];lk
 have c:eU w0 ["new net","net"] 2=(["new net","net"]:bK):=aK n2;refine ⟨d,D,kn,kp,x,w0,nm,"new net",[a],["net"],sp,[.str nm,v],rfl,da,by lk, by rw [b];rfl,vA b n1,RA,by simp,by simp,?_,?_,λy e=>?_,ln,lp,q⟩
 ·show Paired mG (eU w0 ["new net","net"] 2) [nm,a];rw [c];exact .cons (.name (by k_go) (by k_go) hn) (.cons (.name (by k_go) (by k_go) ha) .nil)
 ·show kh kn kp (eU w0 ["new net","net"] 2) [nm,a] _;rw [c];exact .cons (.other (by k_go) (by k_go) (by k_go)) (.cons (.net hp) .nil)
 ·have:y=nm\/y=a:=by simpa using e
  rcases this with rfl|rfl<;>lk
theorem apM {v':V} {a b:Str} (RA:pA P w K mg au eN k w0 ["new net","net","net"] sp) (da:fY C H d D kn kp) (ln:kn.length<900) (lp:kp.length<900) (hp:dh kn (.inr a)=some v) (hp':dh kn (.inr b)=some v') (hx:Ls x=Ls w0++32::(Ls nm++32::(Ls a++32::Ls b))) (nw:32∉Ls w0) (lw:w0.length<=10) (n1:¬ w0="net") (n2:¬ w0="exits") (hn:iM (Ls nm)) (ha:iM (Ls a)) (hb:iM (Ls b)) (q:∀ (l:Addr) (H1:Hp),H l=none->aB H H1->H1 l=some (.lst [.str nm,v,v'])->sp [.ref l] H1 (ur D kn kp H1 "new net" nm Q) E):pZ P w K mg au eN k C [.ref d,.str x] H Q E:=by
 have c:=apK hx nw (nD hn) (nD ha) (nD hb);have i:=lW hn;have la:=lW ha;have m:=lW hb;have j:x.length<=100:=by rw [<-cO,hx];simp [cO];lk
 have e:eU w0 ["new net","net","net"] 3=(["new net","net","net"]:bK):=aK n2;refine ⟨d,D,kn,kp,x,w0,nm,"new net",[a,b],["net","net"],sp,[.str nm,v,v'],rfl,da,by lk, by rw [c];rfl,vA c n1,RA,by simp,by simp,?_,?_,λy g=>?_,ln,lp,q⟩
 ·show Paired mG (eU w0 ["new net","net","net"] 3) [nm,a,b];rw [e];exact .cons (.name (by k_go) (by k_go) hn) (.cons (.name (by k_go) (by k_go) ha) (.cons (.name (by k_go) (by k_go) hb) .nil))
 ·show kh kn kp (eU w0 ["new net","net","net"] 3) [nm,a,b] _;rw [e];exact .cons (.other (by k_go) (by k_go) (by k_go)) (.cons (.net hp) (.cons (.net hp') .nil))
 ·have:y=nm\/y=a\/y=b:=by simpa using g
  rcases this with rfl|rfl|rfl<;>lk
end
end
section
open PyProof.Rows
section
variable {a₀:Array Keyed} {st:SortSt} {lo:Nat}
end
end
section
open PySem.Spec PyProof.Rows
end
section
open PySem.SeqAt
theorem Pg (p:Place->Bool):∀ (cs:aF) (ps:List Place),(∀ c∈cs,c=1)->0<=iB p cs ps
 |[],_,_=>by simp [iB]
 |_::_,[],_=>by simp [iB]
 |a::cs,q::ps,h=>by have e:=h a (by simp);have:=Pg p cs ps λc b=>h c (by simp [b]);show 0<=(if p q then a else 0)+iB p cs ps;split<;>lk
theorem aok {P:Nat->Int} (ok:bJ aj ws) (hl:cs.length=aj.toNat) (F:xY aj ws st (lQ cs) P) (one:∀ c∈st.chg,c=1) {l:Int} (l0:0<=l) (l1:l<aj) : st.bM.getD l.toNat 0<=(bC cs ws).getD l.toNat 0:=by
 have n:∀ k,k<=ws.length->∀ x,0<=x->x<aj->Vf ws (lQ cs) P k x<=(bC cs (ws.take k)).getD x.toNat 0:=λk=>by
  induction k with
  |zero =>intro _ x g _;show lQ cs x<=_;unfold lQ;rw [aQ g];exact yX _
  |succ k e =>
   intro t x g h1;have j:ws[k]?=some (bT ws k):=by simp [bT,getD,show k<ws.length by lk]
   have o:=bJ.mem ok j;obtain ⟨q,p,r,m,z⟩:=id o;have tl:(bC cs (ws.take k)).length=aj.toNat:=by rw [jE];exact hl
   rw [fZ j,Pq];have D:=F.pa k (by lk);have y:=Pg (j9 k) st.chg st.aX one;have v:=e (by lk) _ q p;have C:=e (by lk) _ r m;have B:P k<=fH (bC cs (ws.take k)) (bT ws k):=by show P k<=_+_;lk
   show (if x=(bT ws k).1 then (P k+1) / 2 else if x=(bT ws k).2 then P k / 2 else Vf ws (lQ cs) P k x)<=_;by_cases d:x=(bT ws k).1
   ·rw [aQ d,d,Z_ tl o];lk
   ·rw [aK d];by_cases i:x=(bT ws k).2
    ·rw [aQ i,i,Zw tl o];lk
    ·rw [aK i,aac tl o (by lk) (by lk)];exact e (by lk) x g h1
 have a:=F.ta l l0 l1;have b:=n ws.length (bI _) l l0 l1;rw [gq] at b;have u:=Pg (mF l) st.chg st.aX one;lk
def iW:List Place->aF
 |[]=>[]
 |.out _ n::r=>n::iW r
 |.before _ _::r=>iW r
 |.exit _::r=>iW r
theorem Py (h:cB pl=false):∀ ps:List Place,iW (ps++[pl])=iW ps
 |[]=>by cases pl<;>simp [cB] at h<;>rfl
 |q::r=>by
  have:=Py h r;cases q with
  |out l n=>show n::iW (r++[pl])=n::iW r;rw [this]
  |before k l=>exact this
  |exit l=>exact this
theorem Qx {i_:Place} (h':cB i_=false):∀ (ps:List Place) (i:Nat) (pl:Place),ps[i]?=some pl->cB pl=false->iW (ps.set i i_)=iW ps
 |[],i,pl,h,_=>by simp at h
 |q::r,0,pl,h,o=>by
  have e:q=pl:=by simpa using h
  subst e;cases q<;>simp [cB] at o<;>cases i_<;>simp [cB] at h'<;>rfl
 |q::r,i+1,pl,h,o=>by
  have:=Qx h' r i pl (by simpa using h) o;cases q with
  |out l n=>show n::iW (r.set i i_)=n::iW r;rw [this]
  |before k l=>exact this
  |exit l=>exact this
theorem Jg {l n:Int}:∀ (ps:List Place) (i:Nat) (pl:Place),ps[i]?=some pl->cB pl=false->(iW (ps.set i (.out l n))).Perm (n::iW ps)
 |[],i,pl,h,_=>by simp at h
 |q::r,0,pl,h,o=>by
  have e:q=pl:=by simpa using h
  subst e;cases q<;>simp [cB] at o<;>exact Perm.refl _
 |q::r,i+1,pl,h,o=>by
  have:=Jg (l:=l) (n:=n) r i pl (by simpa using h) o;cases q with
  |out l' a=>exact (this.cons a).trans (Perm.swap _ _ _)
  |before k l=>exact this
  |exit l=>exact this
theorem Jh:∀ (ps:List Place) (i:Nat),(iW ps).length+(gQ i ps).length=ps.length
 |[],_=>rfl
 |q::r,i=>by
  have:=Jh r (i+1);cases q with
  |out l n=>show (iW r).length+1+([]++gQ (i+1) r).length=r.length+1;simp;lk
  |before k l=>show (iW r).length+([(i:Int)]++gQ (i+1) r).length=r.length+1;simp;lk
  |exit l=>show (iW r).length+([(i:Int)]++gQ (i+1) r).length=r.length+1;simp;lk
theorem ZS (aj:Int):∀ (n i:Nat),fB aj i (replicate n 0)=[]
 |0,_=>rfl
 |n+1,i=>by rw [ju];show h_ aj i 0 (0:Int).toNat++fB aj (i+1) (replicate n 0)=[];rw [ZS aj n (i+1)];rfl
theorem aa2 (aj:Int):∀ (i:Nat) (t:aF) (l:Nat),l<t.length->0<=t.getD l 0->(fB aj i (t.set l (t.getD l 0+1))).Perm ((((i+l:Nat):Int)+aj*t.getD l 0)::fB aj i t)
 |_,[],l,h,_=>by simp at h
 |i,c::r,0,_,h=>by
  have h':0<=c:=by simpa using h
  show (h_ aj i 0 (c+1).toNat++fB aj (i+1) r).Perm (((i:Int)+aj*c)::(h_ aj i 0 c.toNat++fB aj (i+1) r));rw [show (c+1).toNat=c.toNat+1 by lk, aak,show (0:Int)+((c.toNat:Nat):Int)=c by lk, vh];exact List.perm_middle
 |i,c::r,l+1,hl,h=>by have a:=aa2 aj (i+1) r l (by simpa using hl) (by simpa using h);show (h_ aj i 0 c.toNat++fB aj (i+1) (r.set l (r.getD l 0+1))).Perm (_::(h_ aj i 0 c.toNat++fB aj (i+1) r));refine ((Perm.refl _).append a).trans ?_;rw [show i+1+l=i+(l+1) by lk];exact List.perm_middle
structure FwX (aj:Int) (st:cH) (cs:aF):Prop where
 one:∀ c∈st.chg,c=1
 sm:cs.sum=(st.aX.length:Int)
 nn:∀ l,0<=st.bM.getD l 0
 pm:(iW st.aX).Perm (fB aj 0 st.bM)
structure Go (b:Bool) (aj:Int) (ws:aP) (st:cH) (cs:aF):Prop where
 wf:Wf aj ws st
 cl:cs.length=aj.toNat
 fl:∃ P,xY aj ws st (lQ cs) P
 few:rB st
 fw:b=true->FwX aj st cs
theorem Go.start {b:Bool} (w1:1<=aj):Go b aj ws (jF aj ws) (replicate aj.toNat 0):=by
 refine ⟨alf,by simp,⟨_,ahz (by lk)⟩,rB.start aj ws,λ_=>⟨λ_ h=>(nomatch h),?_,λl=>?_,?_⟩⟩
 ·show _=(0:Int);generalize aj.toNat=n;induction n with
  |zero=>rfl
  |succ n a=>rw [ju,qD,a];rfl
 ·show 0<=(replicate aj.toNat (0:Int)).getD l 0;simp [getD,uh];split<;>simp
 ·show Perm [] (fB aj 0 (replicate aj.toNat 0));rw [ZS]
theorem Sv:∀ (cs:aF) (l:Nat) (c:Int),l<cs.length->(cs.set l (cs.getD l 0+c)).sum=cs.sum+c
 |[],l,c,h=>by simp at h
 |a::r,0,c,_=>by simp;lk
 |a::r,l+1,c,h=>by have:=Sv r l c (by simpa using h);show (a::r.set l (r.getD l 0+c)).sum=_;rw [qD,this,qD];lk
theorem Go.enter {b:Bool} {l c:Int} (ok:bJ aj ws) (G:Go b aj ws st cs) (l0:0<=l) (l1:l<aj) (hc:c=1\/c=-1) (hb:b=true->c=1) (ml:st.aX.length<400) : Go b aj ws (mO ws st l c) (cs.set l.toNat (cs.getD l.toNat 0+c)):=by
 have i:=G.cl;have g:l.toNat<cs.length:=by lk
 obtain ⟨P,F⟩:=G.fl;refine ⟨alg G.wf l0 l1 hc ml,by rw [fU];exact i,⟨P,ahy ok G.wf F (anp l0 g)⟩,G.few.enter,λe=>?_⟩;have X:=G.fw e;have j:=hb e;subst j;refine ⟨λd m=>?_,?_,X.nn,?_⟩
 ·rcases nM.mp (show d∈st.chg++[1] from m) with z|z
  ·exact X.one d z
  ·exact yU.mp z
 ·rw [Sv _ _ _ g,X.sm];show _=(((st.aX++[gD ws l 0]).length:Nat):Int);simp
 ·show (iW (st.aX++[gD ws l 0])).Perm _;rw [Py (by rcases wR ws l (fP _) with ⟨a,_⟩|⟨k,a,_⟩<;>rw [a]<;>rfl)];exact X.pm
theorem amf {xs:aF} (h:∀ c∈xs,c=1) (hi:i<xs.length):xs.getD i 0=1:=by rw [Fw,Fo hi];exact h _ (Ri hi)
theorem Go.step {b:Bool} (ok:bJ aj ws) (G:Go b aj ws st cs) (hi:st.aX[i]?=some pl):Go b aj ws (kZ aj ws st i pl) cs:=by
 obtain ⟨P,F⟩:=G.fl;refine ⟨acH ok G.wf hi,G.cl,ai2 ok G.wf F hi,G.few.step G.wf hi,λe=>?_⟩;have X:=G.fw e;have p:i<st.aX.length:=(dY.mp hi).1;have m:=G.wf.cl;have d:=amf X.one (i:=i) (by lk);have c:=G.wf.ps pl (eZ hi);cases pl with
 |out l n=>exact X
 |before k l =>
  refine ⟨X.one,?_,X.nn,?_⟩
  ·rw [rF];exact X.sm
  ·show (iW (st.aX.set i (gD ws (jq ws st k (st.chg.getD i 0)) (k+1)))).Perm _;rw [Qx (by rcases wR ws (jq ws st k (st.chg.getD i 0)) (s:=k+1) c.1 with ⟨a,_⟩|⟨g,a,_⟩<;>rw [a]<;>rfl) _ _ _ hi rfl];exact X.pm
 |exit l =>
  have o:=c.1;have p2:=c.2;have tl:=G.wf.tl;have lt:l.toNat<st.bM.length:=by lk
  refine ⟨X.one,?_,λj=>?_,?_⟩
  ·rw [rF];exact X.sm
  ·show 0<=(st.bM.set l.toNat (st.bM.getD l.toNat 0+st.chg.getD i 0)).getD j 0;rw [d,jY lt];have:=X.nn l.toNat;have:=X.nn j;split<;>lk
  ·show (iW (st.aX.set i (.out l (jR aj st l (st.chg.getD i 0))))).Perm (fB aj 0 (st.bM.set l.toNat (st.bM.getD l.toNat 0+st.chg.getD i 0)));rw [d];refine (Jg _ _ _ hi rfl).trans (Perm.trans ?_ (aa2 aj 0 st.bM l.toNat lt (X.nn _)).symm);have en:jR aj st l 1=((0+l.toNat:Nat):Int)+aj*st.bM.getD l.toNat 0:=by unfold jR;rw [aQ rfl];lk
   rw [en];exact X.pm.cons _
theorem Go.run {b:Bool} {a:cH} (ok:bJ aj ws) (r:vZ aj ws i st a):Go b aj ws st cs->Go b aj ws a cs:=by
 induction r with
 |done _ _=>exact λg=>g
 |more e o _ c=>exact λg=>c (g.step ok e)
theorem Go.rest {b:Bool} {a:cH} (ok:bJ aj ws) (r:oZ aj ws is st a):Go b aj ws st cs->Go b aj ws a cs:=by
 induction r with
 |nil=>exact λg=>g
 |cons r _ c=>exact λg=>c (g.run ok r)
theorem Fb {x t:Int} (w1:1<=aj):x / aj<(dN aj.toNat t).getD (x % aj).toNat 0↔x<t:=by
 have c:=rQ x (show aj≠0 by lk);have g:=rR x (show 0<aj by lk);have d:=J4 x aj;rw [O8 (by lk),xH c,xH (show 0<=aj by lk),rP];have e:x % aj-t=(x-t)+aj*(-(x / aj)):=by rw [BP];lk
 rw [e,zj _ _ (by lk)];have:(x-t) / aj<0↔x-t<0:=⟨λh=>by have:=Fv (a:=x-t) (b:=aj);lk, λh=>J7 h (by lk)⟩;lk
theorem ZV (ok:bJ aj ws) (w1:1<=aj) (lv:jh aj ws) (G:Go true aj ws st cs) {x:Int} (h:x∈fB aj 0 st.bM):0<=x/\x<(st.aX.length:Int):=by have c:=Ik w1 h;refine ⟨c,?_⟩;have X:=G.fw rfl;obtain ⟨P,F⟩:=G.fl;have d:=rQ x (show aj≠0 by lk);have e:=rR x (show 0<aj by lk);have a:=(Qv w1 G.wf.tl c).mp h;have b:=aok ok G.cl F X.one d e;rw [lv.come ok w1 G.cl,X.sm] at b;exact (Fb w1).mp (by lk)
def iH (n:Nat):aF:=(range n).map λk:Nat=>(k:Int)
theorem QX (n:Nat):(iH n).length=n:=by simp [iH]
theorem Jp {x:Int}:x∈iH n↔0<=x/\x<n:=by
 unfold iH;rw [fV];constructor
 ·rintro ⟨k,c,rfl⟩;have:=pL.mp c;lk
 ·rintro ⟨a,b⟩;exact ⟨x.toNat,pL.mpr (by lk),by lk⟩
theorem ahW (n:Nat):(iH n).Nodup:=by unfold iH;exact zp _ (λa b h e=>h (by lk)) List.nodup_range
theorem ajX (n:Nat):iH (n+1)=iH n++[(n:Int)]:=by unfold iH;rw [rO,cX];rfl
theorem aol (n:Nat):(iH n).Pairwise (·<=·):=by unfold iH;exact zp _ (λa b h=>by lk) RQ
theorem ac9 {b:Bool} (ok:bJ aj ws) (w1:1<=aj) (lv:jh aj ws) (G:Go b aj ws st cs) (out:∀ pl∈st.aX,cB pl=true):st.bM=bC cs ws/\st.bM=dN aj.toNat cs.sum:=by obtain ⟨P,F⟩:=G.fl;have e:=(ai3 ok G.wf G.cl F out).1;exact ⟨e,e.trans (lv.come ok w1 G.cl)⟩
theorem ahX {t:Int} {S:aF} (w1:1<=aj) (pm:S.Perm (fB aj 0 (dN aj.toNat t))) (pw:S.Pairwise (·<=·)):S=iH t.toNat:=by
 have a:=Bf aj.toNat t;refine aaZ (c:=fB aj 0 (dN aj.toNat t)) pm ?_ pw (aol _);refine (ab' (ahW _) (O2 w1 0 _ (by lk))).mpr λx=>?_;rw [Jp,ahP w1 a,Fb w1];have d:0<=x / aj↔0<=x:=⟨λh=>by
  by_cases z:x<0
  ·have:=J7 z (show 0<aj by lk);lk
  ·lk, λh=>Fv h (by lk)⟩
 rw [d];lk
def yq (t:Int):aF:=(range (-t).toNat).map λk:Nat=>t+(k:Int)
theorem ajY {t:Int} {S:aF} (w1:1<=aj) (pm:S.Perm (k_ aj 0 (dN aj.toNat t))) (pw:S.Pairwise (·<=·)):S=yq t:=by
 have i:=Bf aj.toNat t;have nd:(yq t).Nodup:=by unfold yq;exact zp _ (λa b h e=>h (by lk)) List.nodup_range
 have g:(yq t).Pairwise (·<=·):=by unfold yq;exact zp _ (λa b h=>by lk) RQ
 refine aaZ (c:=k_ aj 0 (dN aj.toNat t)) pm ?_ pw g;refine (ab' nd (ZM w1 0 _ (by lk))).mpr λx=>?_;have m:x∈yq t↔t<=x/\x<0:=by
  unfold yq;rw [fV];constructor
  ·rintro ⟨k,j,rfl⟩;have:=pL.mp j;lk
  ·rintro ⟨a,b⟩;exact ⟨(x-t).toNat,pL.mpr (by lk),by lk⟩
 rw [m,al3 w1 i];have l:=Fb (x:=x) (t:=t) w1;have d:x / aj<0↔x<0:=⟨λh=>by
  by_cases z:x<0
  ·exact z
  ·have:=Fv (show 0<=x by lk) (show 0<=aj by lk);lk, λh=>J7 h (by lk)⟩
 rw [d];lk
theorem ajZ {t g:Int} (w1:1<=aj) (hg:sX aj (dN aj.toNat t) g):uI aj (dN aj.toNat t) g.toNat=[]:=by
 unfold uI;rw [List.filter_eq_nil_iff];intro x a;have c:=Jp.mp a;have l:=Fb (x:=x) (t:=t) w1;have b:=hg.nonneg;rcases fW.mp hg.1 with e|e
 ·lk
 ·have:=(Qv (n:=g) w1 (Bf _ _) b).mp e;have:=(Fb w1).mp this;simp;exact l.mpr (by lk)
end
section
open PySem.Spec PyProof.Rows
section
def apO:V->aA->Hp->VK->Prop:=λx vs H Q=>∃ (l:Addr) (ns:aF) (k:Int),x=.ref l/\vs=[.int k]/\H l=some (.lst (ns.map V.int))/\Q (.int (ns.count k:Nat)) H
theorem amg:Vh X "list.count" apO:=by rintro ak s σ H x vs v us Q I c b ⟨l,ns,k,rfl,rfl,a,q⟩;cases c;obtain ⟨u,rfl,d⟩:=b.one;obtain ⟨t,rfl⟩:=d;obtain ⟨aJ,r,pl,e⟩:=I.list (aN a);exact count_list_ints pl.isList (intsAre_of r) ⟨.int (ns.count k:Nat),H,I.tok _,⟨_,rfl⟩,q⟩
end
end
variable {ls:aF}
section
open PySem.SeqAt PyProof.Rows
inductive aom (vs:aA) (H:Hp) (Q:VK):Prop
 |mk (t:Addr) (x:Str) (h1:vs=[.ref t]) (h2:H t=some (.tup [.str x])) (q:Q (.str x) H)
def apP:=nE aom
inductive aj0 (am:Addr) (vs:aA) (H:Hp) (Q:VK) (E:XK):Prop
 |mk (l:Addr) (v:V) (aj:Int) (ws:aP) (h1:vs=[.ref l]) (h2:H l=some (.lst [v])) (net:eF H v aj ws) (lv:jh aj ws) (nu:∀ i j,¬ LQ (pK aj ws) i j) (q:∀ H',aB H H'->Q (.str "levels") H') (e:∀ H',aB H H'->E (.ref am) none H')
def amh (am:Addr):Sp:=λvs H Q E=>aj0 am vs H Q E
inductive aj1 (vs:aA) (H:Hp) (Q:VK):Prop
 |mk (l:Addr) (v:V) (aj:Int) (ws:aP) (h1:vs=[.ref l]) (h2:H l=some (.lst [v])) (net:eF H v aj ws) (lv:jh aj ws) (q:∀ H',aB H H'->Q (.str "orders") H')
def ami:=nE aj1
inductive aj2 (am:Addr) (vs:aA) (H:Hp) (Q:VK) (E:XK):Prop
 |mk (l:Addr) (v v':V) (aj:Int) (ws:aP) (h1:vs=[.ref l]) (h2:H l=some (.lst [v,v'])) (net:eF H v aj ws) (U0:eF H v' aj ws) (q:∀ H',aB H H'->Q (.str "yes") H') (e:∀ H',aB H H'->E (.ref am) none H')
def amj (am:Addr):Sp:=λvs H Q E=>aj2 am vs H Q E
theorem aj3 (ok:bJ aj ws) (w1:1<=aj) (lv:jh aj ws):aeB aj.toNat ws:=λr hr=>by rw [<-alJ ws r hr ok];exact ((O9 (by rw [jE,hr.1];lk)).mp (lv r hr.1)).1
def d_ (aj:Int) (ls:aF):aF:=(iH aj.toNat).map λl=>(ls.count l:Int)
theorem Bs (aj:Int) (ls:aF):(d_ aj ls).length=aj.toNat:=by unfold d_;rw [bh,QX]
theorem amk (h:j<n):(iH n)[j]?=some (j:Int):=by unfold iH;rw [jP,JQ h];rfl
theorem FT (h:j<aj.toNat):(d_ aj ls)[j]?=some (ls.count (j:Int):Int):=by unfold d_;rw [jP,amk h];rfl
theorem abG (aj:Int):d_ aj []=replicate aj.toNat 0:=by
 refine Rr λj=>?_;by_cases h:j<aj.toNat
 ·rw [FT h,uh,aQ h];rfl
 ·rw [yZ (by rw [Bs];lk),yZ (by simp;lk)]
theorem aa3 {l:Int} (l0:0<=l) (l1:l<aj):d_ aj (ls++[l])=(d_ aj ls).set l.toNat ((d_ aj ls).getD l.toNat 0+1):=by
 have e:(d_ aj ls).getD l.toNat 0=(ls.count l:Int):=by rw [Fw,FT (by lk),show ((l.toNat:Nat):Int)=l by lk];rfl
 rw [e];refine Rr λj=>?_;by_cases h:j<aj.toNat
 ·rw [FT h,List.count_append];by_cases z:j=l.toNat
  ·subst z;rw [zJ (by rw [Bs];lk),show ((l.toNat:Nat):Int)=l by lk];simp
  ·rw [zK (bF z),FT h];have:List.count (j:Int) [l]=0:=List.count_eq_zero.mpr (by simp;lk);rw [this,JV]
 ·rw [yZ (by rw [Bs];lk),yZ (by rw [fU,Bs];lk)]
theorem aml (aj:Int) (ls:aF):d_ aj ls.reverse=d_ aj ls:=by unfold d_;exact xu λl _=>by rw [List.count_reverse]
theorem QZ {c:Int} (h:c∈d_ aj ls):0<=c/\c<=ls.length:=by obtain ⟨l,_,rfl⟩:=fV.mp h;have:=List.count_le_length (a:=l) (l:=ls);lk
theorem aj4 (ok:bJ aj ws) (w1:1<=aj) (lv:jh aj ws) (hl:cs.length=aj.toNat) (h0:0<=cs.sum) (h1:cs.sum<=1000):∀ n∈bC cs ws,n.natAbs<=10000:=λn e=>by
 rw [lv.come ok w1 hl] at e;unfold dN at e;obtain ⟨i,hi,rfl⟩:=fV.mp e;have k:=pL.mp hi;have g:(0:Int)<(aj.toNat:Int):=by lk
 have h1:=J4 ((0:Int)+(i:Int)-cs.sum) (aj.toNat:Int);have h2:=rQ ((0:Int)+(i:Int)-cs.sum) (show (aj.toNat:Int)≠0 by lk);have l:=rR ((0:Int)+(i:Int)-cs.sum) g;generalize ((0:Int)+(i:Int)-cs.sum) / (aj.toNat:Int)=d at *;have lo:(aj.toNat:Int)*d<=i:=by lk
 have j:(aj.toNat:Int)*d>-1001-aj.toNat:=by lk
 have a:d<=0:=by
  by_cases c:d<=0
  ·exact c
  ·have:(aj.toNat:Int)*1<=(aj.toNat:Int)*d:=Ka (by lk) (by lk);lk
 have b:-2000<d:=by
  by_cases c:-2000<d
  ·exact c
  ·have:(aj.toNat:Int)*d<=(aj.toNat:Int)*(-2000):=Ka (by lk) (by lk);have:(aj.toNat:Int)*1<=(aj.toNat:Int)*1000:=Ka (by lk) (by lk);lk
 lk
def Di (nm:Str) (cs:aF):Str:=Txt.join ⟨#[32]⟩ (ofString "exits":: nm::cs.map bL)
section
variable {eN:iT} {k:Nat} {d:Addr} {D:jt} {kp:dU} {Q:VK} {E:XK} {nm c:Str}
theorem aa4:∀ {cs:aF},(∀ c∈cs,-1<=c/\c<100)->Paired mG (replicate cs.length ("number":Str)) (cs.map bL)
 |[],_=>.nil
 |c::r,h=>.cons (.num (uc (h c iy).1 (h c iy).2).1) (aa4 λz a=>h z (fG _ a))
theorem ZW:∀ {cs:aF},(∀ c∈cs,-1<=c/\c<100)->kh kn kp (replicate cs.length ("number":Str)) (cs.map bL) (cs.map V.int)
 |[],_=>.nil
 |c::r,h=>by obtain ⟨a,b⟩:=uc (h c iy).1 (h c iy).2;have:=yL a;exact .cons (.num b (by lk)) (ZW λz d=>h z (fG _ d))
theorem aon (RA:pA P w K mg au eN k "exits" ["net","number"] Px) (da:fY C H d D kn kp) (ln:kn.length<900) (lp:kp.length<900) (hp:dh kn (.inr nm)=some v) (net:eF H v aj ws) (hn:iM (Ls nm)) (cm:∀ c∈cs,-1<=c/\c<100) (lc:cs.length=aj.toNat) (sm:∀ n∈bC cs ws,n.natAbs<=10000) (q:∀ H',aB H H'->Q (.str (Txt.join ⟨#[32]⟩ ((bC cs ws).map bL))) H'):pZ P w K mg au eN k C [.ref d,.str (Di nm cs)] H Q E:=by
 have W:=net.2.1;have R:=net.2.2.1;have N:∀ p∈ofString "exits":: nm::cs.map bL,32∉Ls p:=λp hp=>by
  rcases fW.mp hp with rfl|hp
  ·k_go
  rcases fW.mp hp with rfl|hp
  ·exact nD hn
  obtain ⟨c,g,rfl⟩:=fV.mp hp;exact Jf (uc (cm c g).1 (cm c g).2).1
 have x:Txt.split (Di nm cs) ⟨#[32]⟩=ofString "exits":: nm::cs.map bL:=by unfold Di;rw [wU];exact Bc (by simp) N
 have S:=lW hn;have u:∀ y∈cs.map bL,y.length<=61:=λy e=>by obtain ⟨c,g,rfl⟩:=fV.mp e;exact yL (uc (cm c g).1 (cm c g).2).1
 have i:∀ l:bK,(∀ y∈l,y.length<=61)->(l.map (·.length)).sum<=61*l.length:=λl=>by
  induction l with
  |nil=>intro _;simp
  |cons a r L =>intro h;have h1:=h a iy;have h2:=L λy e=>h y (fG _ e);rw [gb,qD,gw];lk
 have I:(Di nm cs).length<=5000:=by
  have a:=TV (ofString "exits":: nm::cs.map bL);have b:=i _ u;rw [bh] at b;unfold Wt at a;rw [gb,gb,qD,qD,gw,gw,bh] at a;have U:(ofString "exits").length=5:=by k_go
  show (Txt.join ⟨#[32]⟩ _).length<=_;lk
 have t:(cs.map bL).length=cs.length:=bh ..;have B:eU "exits" ["net","number"] ((cs.map bL).length+1)=("net":Str)::replicate cs.length ("number":Str):=by unfold eU;rw [aQ rfl,t];obtain ⟨m,M⟩:∃ m,cs.length=m+1:=⟨cs.length-1,by lk⟩;rw [M];rfl
 refine ⟨d,D,kn,kp,_,ofString "exits",nm,"net",cs.map bL,["number"],Px,v::cs.map V.int,rfl,da,I,by rw [x];rfl,vA x (by k_go),RA,by simp,by rw [t];lk, ?_,?_,λy e=>?_,ln,lp,λl H1 O j J=>?_⟩
 ·show Paired mG (eU "exits" ["net","number"] _) _;rw [B];exact .cons (.name (by k_go) (by k_go) hn) (aa4 cm)
 ·show kh kn kp (eU "exits" ["net","number"] _) _ _;rw [B];exact .cons (.net hp) (ZW cm)
 ·rcases fW.mp e with z|z
  ·rw [z];lk
  ·have:=u y z;lk
 ·exact ⟨l,v,aj,ws,cs,(bC cs ws).map bL,rfl,J,net.kt (cG j (bY _)),lc,Br sm,λH2 o=>.other (by k_go) (by k_go) (cG o (bY _)) (q H2 (aG j o))⟩
theorem aoo {v':V} {b:Str} (RA:pA P w K mg au eN k w0 ["net","net"] sp) (da:fY C H d D kn kp) (ln:kn.length<900) (lp:kp.length<900) (hp:dh kn (.inr nm)=some v) (hp':dh kn (.inr b)=some v') (hx:Ls x=Ls w0++32::(Ls nm++32::Ls b)) (nw:32∉Ls w0) (lw:w0.length<=10) (n1:¬ w0="net") (n2:¬ w0="exits") (hn:iM (Ls nm)) (hb:iM (Ls b)) (q:∀ (l:Addr) (H1:Hp),H l=none->aB H H1->H1 l=some (.lst [v,v'])->sp [.ref l] H1 (ur D kn kp H1 "net" nm Q) E):pZ P w K mg au eN k C [.ref d,.str x] H Q E:=by
 have a:=Gj hx nw (nD hn) (nD hb);have g:=lW hn;have j:=lW hb;have i:x.length<=100:=by rw [<-cO,hx];simp [cO];lk
 have c:eU w0 ["net","net"] 2=(["net","net"]:bK):=aK n2;refine ⟨d,D,kn,kp,x,w0,nm,"net",[b],["net"],sp,[v,v'],rfl,da,by lk, by rw [a];rfl,vA a n1,RA,by simp,by simp,?_,?_,λy e=>?_,ln,lp,q⟩
 ·show Paired mG (eU w0 ["net","net"] 2) [nm,b];rw [c];exact .cons (.name (by k_go) (by k_go) hn) (.cons (.name (by k_go) (by k_go) hb) .nil)
 ·show kh kn kp (eU w0 ["net","net"] 2) [nm,b] _;rw [c];exact .cons (.net hp) (.cons (.net hp') .nil)
 ·have:y=nm\/y=b:=by simpa using e
  rcases this with rfl|rfl<;>lk
end
end
section
open PySem.Spec PyProof.Rows
end
section
open PySem.SeqAt
theorem apQ {k:Nat} (h:k<=3):(qd k).length<=36:=by
 have:k=0\/k=1\/k=2\/k=3:=by lk
 rcases this with rfl|rfl|rfl|rfl<;>k_go
theorem aop (t:Int):mz 0 t=iH t.toNat:=by unfold mz iH;rw [show (t-0).toNat=t.toNat by lk];exact xu λk _=>rP _
end
variable {Cd:Addr}
section
open PySem.SeqAt PyProof.Rows
theorem agX {c:Int} {vs:aA} {Q:VK} {E E':XK} (h:Kw C c vs H Q E) (i:∀ u H',Q u H'->Q' u H'):Kw C c vs H Q' E':=by obtain ⟨p,v,aj,ws,L,st,cC,e,b,d,g,j,l,q⟩:=h;exact ⟨p,v,aj,ws,L,st,cC,e,b,d,g,j,l,λH' a k=>i _ _ (q H' a k)⟩
theorem ahY {vs:aA} {Q:VK} {E E':XK} (h:K7 C vs H Q E) (i:∀ u H',Q u H'->Q' u H'):K7 C vs H Q' E':=by obtain ⟨p,v,aj,ws,L,st,j,pl,e,b,c,l,g,d,q⟩:=h;exact ⟨p,v,aj,ws,L,st,j,pl,e,b,c,l,g,d,λt H' a k x=>i _ _ (q t H' a k x)⟩
theorem fY.kps {d:Addr} {D:jt} {kp:dU} (h:fY C H d D kn kp) (k:dI S H H') (n1:d∉S) (n2:D.n∉S) (n3:D.q∉S):fY C H' d D kn kp:={ h with ob:=k _ _ h.ob n1,ne:=k _ _ h.ne n2,pl:=k _ _ h.pl n3 }
theorem u9 {d:Addr} {D:jt} {kp:dU} (h:fY Cd H d D kn kp) (P:cN C H p v L st):d∉L.own p/\D.n∉L.own p/\D.q∉L.own p:=by
 obtain ⟨rs,c,_⟩:=P.pl;have b:∀ {a:Addr} {ks:dU},H a=some (.dK ks)->a∉L.own p:=λe z=>by
  rcases Sd.mp z with rfl|rfl|rfl|rfl|rfl
  ·rw [P.ob] at e;cases e
  ·rw [P.fa] at e;cases e
  ·rw [P.ta] at e;cases e
  ·rw [c] at e;cases e
  ·rw [P.ch] at e;cases e
 refine ⟨λz=>?_,b h.ne,b h.pl⟩;have e:=h.ob;rcases Sd.mp z with rfl|rfl|rfl|rfl|rfl
 ·rw [P.ob] at e;have g:m8 v L=jD D:=by
   injection e with e
   injection e
  have a:=vq v L;rw [g,mR _ (by k_go) (by k_go)] at a;cases a
 ·rw [P.fa] at e;cases e
 ·rw [P.ta] at e;cases e
 ·rw [c] at e;cases e
 ·rw [P.ch] at e;cases e
theorem Fd {d pn:Addr} {D:jt} {kp:dU} (h:fY Cd H d D kn kp) (hp:H pn=some (.lst xs)):d≠pn/\D.n≠pn/\D.q≠pn:=⟨(λz=>by have:=h.ob;rw [z,hp] at this;cases this),(λz=>by have:=h.ne;rw [z,hp] at this;cases this),(λz=>by have:=h.pl;rw [z,hp] at this;cases this)⟩
theorem En {i:Int} (h0:-1<=i) (h1:i<100):32∉Ls (bL i):=Jf (uc h0 h1).1
theorem ahZ (ok:bJ aj ws) (w1:1<=aj) (w8:aj<=8) (lw:ws.length<=41) (lv:jh aj ws) (G:Go true aj ws st cs) (ml:st.aX.length<=90) (hi:st.aX[i]?=some pl) (no:cB pl=false):∀ x∈pH (jA aj ws st i pl),32∉Ls x:=by
 have m:=G.step ok hi;have j:=step_at (aj:=aj) (ws:=ws) hi;have g:=m.wf.ps _ (eZ j);cases pl with
 |out l n=>simp [cB] at no
 |exit l =>
  have e:=G.wf.ps _ (eZ hi);have p:jR aj st l (st.chg.getD i 0)∈iW (kZ aj ws st i (.exit l)).aX:=by have:=(Jg (l:=l) (n:=jR aj st l (st.chg.getD i 0)) st.aX i _ hi rfl).mem_iff (a:=jR aj st l (st.chg.getD i 0));exact this.mpr (by simp)
  have b:=ZV ok w1 lv m ((m.fw rfl).pm.mem_iff.mp p);rw [rF] at b;intro x d;have:x=ofString "out" \/ x=bL l\/x=bL (jR aj st l (st.chg.getD i 0)):=by simpa [jA,pH] using d
  rcases this with rfl|rfl|rfl
  ·k_go
  ·exact En (by have:=e.1;lk) (by have:=e.2;lk)
  ·exact En (by lk) (by lk)
 |before k l =>
  show ∀ x∈pH (gD ws (jq ws st k (st.chg.getD i 0)) (k+1)),_;have e:=G.wf.ps _ (eZ hi);have c:match gD ws (jq ws st k (st.chg.getD i 0)) (k+1) with|.before k l=>k<ws.length/\0<=l/\l<aj|.exit l=>0<=l/\l<aj|.out _ _=>True:=g
  rcases wR ws (jq ws st k (st.chg.getD i 0)) (s:=k+1) e.1 with ⟨a,_⟩|⟨o,a,_⟩
  ·rw [a] at c ⊢;intro x d;have:x=ofString "exit" \/ x=bL (jq ws st k (st.chg.getD i 0)):=by simpa [pH] using d
   rcases this with rfl|rfl
   ·k_go
   ·exact En (by have:=c.1;lk) (by have:=c.2;lk)
  ·rw [a] at c ⊢;intro x d;have:x=ofString "before" \/ x=bL (o:Int)\/x=bL (jq ws st k (st.chg.getD i 0)):=by simpa [pH] using d
   rcases this with rfl|rfl|rfl
   ·k_go
   ·exact En (by lk) (by have:=c.1;lk)
   ·exact En (by have:=c.2.1;lk) (by have:=c.2.2;lk)
theorem aj5 (h:∀ x∈pH pl,32∉Ls x):Txt.split (Ho pl) ⟨#[32]⟩=pH pl:=by unfold Ho;rw [wU];exact Bc (by cases pl<;>simp [pH]) h
theorem aoq (h:GP pl):(Ho pl).length<=50000:=by
 have a:=FQ (adL h);have b:=TV (pH pl);unfold Wt at b;have c:(rz pl).length<=3:=by cases pl<;>simp [rz]
 have e:(pH pl).length<=3:=by cases pl<;>simp [pH]
 show (Txt.join ⟨#[32]⟩ _).length<=_;lk
inductive aj6 (P:Program) (w:World) (K:bG) (mg:dR) (au:Heap) (eN:iT) (am:Addr) (C:Addr) (vs:aA) (H:Hp) (Q:VK):Prop
 |mk (d:Addr) (D:jt) (kn kp:dU) (x:Str) (h1:vs=[.ref d,.str x]) (da:fY C H d D kn kp) (h:pZ P w K mg au eN 13 C [.ref d,.str x] H (λv H'=>(∃ y,v=.str y)/\Q v H') (λc _ H1=>c=.ref am/\∀ H',aB H1 H'->Q (.str "many") H'))
def amm (P:Program) (w:World) (K:bG) (mg:dR) (au:Heap) (eN:iT) (am:Addr) (C:Addr):=nE (aj6 P w K mg au eN am C)
inductive aj7 (Cd:Addr) (vs:aA) (H:Hp) (Q:VK):Prop
 |mk (pn d:Addr) (D:jt) (k:Nat) (h1:vs=[.ref pn,.ref d,.int (pw k)]) (k3:k<=3) (pe:wG H pn) (da:fY Cd H d D [] [])
   (q:∀ (kn:dU) (v:V) (ws:aP) (H':Hp),fY Cd H' d D kn []->kn.length<=2->dh kn (.inr "w")=some v->eF H' v (pw k) ws->ws.length<=40->jh (pw k) ws->k<=dX (pw k) ws->wG H' pn->dI [pn,D.n] H H'->Q (.bl true) H')
def amn (Cd:Addr):=nE (aj7 Cd)
inductive aj8 (C Cd:Addr) (vs:aA) (H:Hp) (Q:VK):Prop
 |mk (pn d:Addr) (D:jt) (kn kp:dU) (nm:Str) (ll:Addr) (dD:aF) (p:Addr) (v:V) (aj:Int) (ws:aP) (L:dB) (h1:vs=[.ref pn,.ref d,.str nm,.ref ll]) (pe:wG H pn) (da:fY Cd H d D kn kp) (ln:kn.length<900) (lp:kp.length<900) (hn:iM (Ls nm)) (hp:dh kp (.inr nm)=some (.ref p)) (net:eF H v aj ws) (lv:jh aj ws) (pa:cN C H p v L (jF aj ws)) (np:pn∉L.own p)
   (xl:H ll=some (.lst (dD.map V.int))) (nl:ll∉L.own p) (nn:ll≠pn) (hl:∀ l∈dD,0<=l/\l<aj) (len:dD.length<=20)
   (q:∀ (la:Addr) (ns:aF) (st:cH) (H':Hp),H la=none->cN C H' p v L st->Go true aj ws st (d_ aj dD)->st.aX.length=dD.length->H' la=some (.lst (ns.map λn=>V.str (bL n)))->ns.Perm (iW st.aX)->dI (pn::L.own p) H H'->KT H H'->Q (.ref la) H')
def amo (C Cd:Addr):=nE (aj8 C Cd)
inductive amq (C Cd:Addr) (vs:aA) (H:Hp) (Q:VK):Prop
 |mk (d:Addr) (D:jt) (kn kp:dU) (nm wg:Str) (p:Addr) (v:V) (aj:Int) (ws:aP) (L:dB) (st:cH) (cs:aF) (h1:vs=[.ref d,.str nm,.str wg,.int cs.sum]) (da:fY Cd H d D kn kp) (ln:kn.length<900) (lp:kp.length<900) (hn:iM (Ls nm)) (hp:dh kp (.inr nm)=some (.ref p)) (net:eF H v aj ws) (lv:jh aj ws) (pa:cN C H p v L st) (go:Go true aj ws st cs) (len:st.aX.length<=60) (ed:wg=iR (bC cs ws))
   (q:∀ (H':Hp),dI (L.own p) H H'->KT H H'->Q (.bl true) H')
def aor (C Cd:Addr):=nE (amq C Cd)
structure jU (C Cd:Addr) (G Hc:Hp) (d:Addr) (D:jt) (kn kp:dU) (p:Addr) (v:V) (aj:Int) (ws:aP) (L:dB) (st:cH) (cs:aF) (pn la:Addr) (ns:aF) (lo:Addr) (kd:dU):Prop where
 sk:dI (pn::L.own p) G Hc
 kt:KT G Hc
 da:fY Cd Hc d D kn kp
 pl:cN C Hc p v L st
 go:Go true aj ws st cs
 pe:wG Hc pn
 xl:Hc la=some (.lst (ns.map λn=>V.str (bL n)))
 xo:Hc lo=some (.dK kd)
 pm:ns.Perm (iW st.aX)
 od:∀ i:Nat,i<st.aX.length->((dh kd (.inl (i:Int))).isSome=true↔∃ pl,st.aX[i]?=some pl/\cB pl=true)
 nd:∀ i:Int,(st.aX.length:Int)<=i->dh kd (.inl i)=none
 ld:kd.length<=ns.length
 fa:G la=none
 fo:G lo=none
 na:la∉L.own p
 no:lo∉L.own p
 np:pn∉L.own p
 nap:la≠pn
 nop:lo≠pn
 nao:la≠lo
 gdn:D.n≠lo
 gdq:D.q≠lo
section
variable {Hc:Hp} {d:Addr} {D:jt} {kp:dU} {pn la:Addr} {lo:Addr} {kd:dU}
theorem jU.same (h:jU C Cd G Hc d D kn kp p v aj ws L st cs pn la ns lo kd) (s:aB Hc H'):jU C Cd G H' d D kn kp p v aj ws L st cs pn la ns lo kd:={ h with sk:=uG h.sk (dI.same s),kt:=cG s h.kt,da:=h.da.same s,pl:=h.pl.same s,pe:=(let ⟨_,_,_,e⟩:=h.pe;⟨_,_,_,s _ _ e⟩),xl:=s _ _ h.xl,xo:=s _ _ h.xo }
theorem jU.take (h:jU C Cd G Hc d D kn kp p v aj ws L st cs pn la ns lo kd) (i j k:Int):jU C Cd G (upd Hc pn (.lst [.int i,.int j,.int k])) d D kn kp p v aj ws L st cs pn la ns lo kd:=by
 obtain ⟨_,_,_,a⟩:=h.pe;have ks:dI [pn] Hc (upd Hc pn (.lst [.int i,.int j,.int k])):=sS (by simp);obtain ⟨c,b,e⟩:=Fd h.da a;exact { h with
  sk:=uG h.sk (sS (by simp))
  kt:=lN a h.kt
  da:=h.da.kps ks (by simpa using c) (by simpa using b) (by simpa using e)
  pl:=h.pl.keep ks (lN a (bY _)) (C_ h.np)
  pe:=⟨_,_,_,aM⟩
  xl:=(aV h.nap).trans h.xl
  xo:=(aV h.nop).trans h.xo }
theorem jU.M4 {dG:cH} {cs':aF} (h:jU C Cd G Hc d D kn kp p v aj ws L st cs pn la ns lo kd) (k:dW L Hc H') (i_:cN C H' p v L dG) (go':Go true aj ws dG cs') (pm':ns.Perm (iW dG.aX)) (od':∀ i:Nat,i<dG.aX.length->((dh kd (.inl (i:Int))).isSome=true↔∃ pl,dG.aX[i]?=some pl/\cB pl=true)) (nd':∀ i:Int,(dG.aX.length:Int)<=i->dh kd (.inl i)=none):jU C Cd G H' d D kn kp p v aj ws L dG cs' pn la ns lo kd:=by
 obtain ⟨_,_,_,g⟩:=h.pe;have ks:dI (L.own p) Hc H':=k.own;obtain ⟨c,b,e⟩:=u9 h.da h.pl;exact { h with
  sk:=uG h.sk (ks.mono λa z=>by simp [z])
  kt:=pR h.kt (dW.kt h.pl k)
  da:=h.da.kps ks c b e
  pl:=i_
  go:=go'
  pe:=⟨_,_,_,ks _ _ g h.np⟩
  xl:=ks _ _ h.xl h.na
  xo:=ks _ _ h.xo h.no
  pm:=pm'
  od:=od'
  nd:=nd' }
theorem jU.enter {l:Int} (ok:bJ aj ws) (h:jU C Cd G Hc d D kn kp p v aj ws L st cs pn la ns lo kd) (l0:0<=l) (l1:l<aj) (ml:st.aX.length<400) (i_:cN C H' p v L (mO ws st l 1)) (k:dW L Hc H'):jU C Cd G H' d D kn kp p v aj ws L (mO ws st l 1) (cs.set l.toNat (cs.getD l.toNat 0+1)) pn la ns lo kd:=by
 have b:cB (gD ws l 0)=false:=by rcases wR ws l (fP _) with ⟨a,_⟩|⟨k,a,_⟩<;>rw [a]<;>rfl
 refine h.M4 k i_ (h.go.enter ok l0 l1 (.inl rfl) (λ_=>rfl) ml) ?_ (λi hi=>?_) (λi hi=>?_)
 ·show ns.Perm (iW (st.aX++[gD ws l 0]));rw [Py b];exact h.pm
 ·have g:i<st.aX.length+1:=by simpa [mO] using hi
  show _↔∃ pl,(st.aX++[gD ws l 0])[i]?=some pl/\cB pl=true;by_cases c:i<st.aX.length
  ·rw [qJ c];exact h.od i c
  ·have e:i=st.aX.length:=by lk
   subst e;rw [h.nd _ (yX _),xV (bI _),Ru];constructor
   ·intro z;cases z
   ·rintro ⟨pl,z,o⟩;have:gD ws l 0=pl:=by simpa using z
    rw [<-this,b] at o;cases o
 ·refine h.nd i ?_;have:((st.aX++[gD ws l 0]).length:Int)<=i:=hi;rw [dJ,yO] at this;lk
theorem jU.step (ok:bJ aj ws) (h:jU C Cd G Hc d D kn kp p v aj ws L st cs pn la ns lo kd) (hi:st.aX[i]?=some pl) (no:cB pl=false) (no':cB (jA aj ws st i pl)=false) (i_:cN C H' p v L (kZ aj ws st i pl)) (k:dW L Hc H'):jU C Cd G H' d D kn kp p v aj ws L (kZ aj ws st i pl) cs pn la ns lo kd:=by
 have g:=(dY.mp hi).1;have b:(kZ aj ws st i pl).aX=st.aX.set i (jA aj ws st i pl):=by
  cases pl with
  |out l n=>simp [cB] at no
  |before k l=>rfl
  |exit l=>rfl
 refine h.M4 k i_ (h.go.step ok hi) ?_ (λj a=>?_) (λj a=>h.nd j (by rw [rF] at a;exact a))
 ·rw [b,Qx no' _ _ _ hi no];exact h.pm
 ·rw [rF] at a;rw [h.od j a,b];by_cases c:j=i
  ·subst c;rw [zJ g,hi];constructor
   ·rintro ⟨q,e,o⟩;cases e;rw [no] at o;cases o
   ·rintro ⟨q,e,o⟩;cases e;rw [no'] at o;cases o
  ·rw [zK (bF c)]
theorem jU.out {l n:Int} (ok:bJ aj ws) (h:jU C Cd G Hc d D kn kp p v aj ws L st cs pn la ns lo kd) (hi:st.aX[i]?=some pl) (no:cB pl=false) (eo:jA aj ws st i pl=.out l n) (i_:cN C H' p v L (kZ aj ws st i pl)) (k:dW L Hc H') (s2:aB H' H2) : jU C Cd G (upd (upd H2 lo (.dK (cD kd (.inl (i:Int)) (.bl true)))) la (.lst ((ns.map λn=>V.str (bL n))++[V.str (bL n)]))) d D kn kp p v aj ws L (kZ aj ws st i pl) cs pn la (ns++[n]) lo (cD kd (.inl (i:Int)) (.bl true)):=by
 obtain ⟨_,_,_,U⟩:=h.pe;have S:=(dY.mp hi).1;have O:(kZ aj ws st i pl).aX=st.aX.set i (.out l n):=by
  rw [<-eo];cases pl with
  |out l n=>simp [cB] at no
  |before k l=>rfl
  |exit l=>rfl
 have ks:dI (L.own p) Hc H':=k.own;obtain ⟨x,W,Y⟩:=u9 h.da h.pl;have kt:=dW.kt h.pl k;have m:=s2 _ _ (ks _ _ h.xo h.no);have g:=s2 _ _ (ks _ _ h.xl h.na);have t:dI [la,lo] H2 (upd (upd H2 lo (.dK (cD kd (.inl (i:Int)) (.bl true)))) la (.lst ((ns.map λn=>V.str (bL n))++[V.str (bL n)]))):=uG (sS (by simp)) (sS (by simp));have J:KT H2 (upd (upd H2 lo (.dK (cD kd (.inl (i:Int)) (.bl true)))) la (.lst ((ns.map λn=>V.str (bL n))++[V.str (bL n)]))):=λb xs e=>t b _ e (by simp;exact ⟨(λz=>by rw [z,g] at e;cases e),(λz=>by rw [z,m] at e;cases e)⟩);have I:=(h.da.kps ks x W Y).same s2;have y:D.n≠la/\D.q≠la/\d≠la:=by obtain ⟨a,b,c⟩:=Fd I g;exact ⟨b,c,a⟩
 have u:d≠lo:=λz=>by have:=I.ob;rw [z,m] at this;cases this
 have hl:(cD kd (.inl (i:Int)) (.bl true)).length<=kd.length+1:=by unfold cD;split<;>simp
 refine { h with
  sk:=λb o e N=>?_
  kt:=pR h.kt (pR (cG s2 kt) J)
  da:=I.kps t (by simp;exact ⟨y.2.2,u⟩) (by simp;exact ⟨y.1,h.gdn⟩) (by simp;exact ⟨y.2.1,h.gdq⟩)
  pl:=(i_.same s2).keep t J (λa M R=>by
   simp at R;rcases R with rfl|rfl
   ·exact h.na M
   ·exact h.no M)
  go:=h.go.step ok hi
  pe:=⟨_,_,_,t _ _ (s2 _ _ (ks _ _ U h.np)) (by simp;exact ⟨bF h.nap,bF h.nop⟩)⟩
  xl:=by rw [aM,cX];rfl
  xo:=(aV (bF h.nao)).trans aM
  pm:=?_
  od:=λj r=>?_
  nd:=λj r=>?_
  ld:=by rw [dJ,yO];have:=h.ld;lk }
 ·have x:=h.sk b o e N;have B:b∉L.own p:=λz=>N (fG _ z);refine t b o (s2 _ _ (ks b o x B)) ?_;simp;exact ⟨(λz=>by rw [z,h.fa] at e;cases e),(λz=>by rw [z,h.fo] at e;cases e)⟩
 ·rw [O];exact ((List.perm_append_singleton n ns).trans (h.pm.cons n)).trans (Jg _ _ _ hi no).symm
 ·rw [rF] at r;rw [rK,O];by_cases c:j=i
  ·subst c;rw [aQ rfl,zJ S];exact ⟨λ_=>⟨_,rfl,rfl⟩,λ_=>rfl⟩
  ·rw [aK (λz=>c (by have:=T3 z;lk)),zK (bF c)];exact h.od j r
 ·rw [rF] at r;rw [rK,aK (λz=>by have:=T3 z;lk)];exact h.nd j r
end
theorem ah0 (net:eF H v aj ws) (wf:Wf aj ws st) (few:fJ st.bM<=63) (hj:st.aX[j]?=some pl) (o:cB pl=false):GP (jA aj ws st j pl):=by
 obtain ⟨_,B,d,ok,len⟩:=net;have ps:=wf.ps pl (eZ hj);have u:j<st.aX.length:=(dY.mp hj).1;have q:=wf.cl;cases pl with
 |out l n=>simp [cB] at o
 |before k l =>
  have g:=Qh (aj:=aj) (ws:=ws) (s:=k+1) (R_ (c:=st.chg.getD j 0) ok wf ps.1).1 (R_ (c:=st.chg.getD j 0) ok wf ps.1).2;show GP (gD ws (jq ws st k (st.chg.getD j 0)) (k+1));cases e:gD ws (jq ws st k (st.chg.getD j 0)) (k+1) with
  |before p l' =>rw [e] at g;exact ⟨by have:=g.1;lk, by have:=g.2;lk⟩
  |exit l' =>rw [e] at g;show l'.natAbs<=10000;have:=g.1;have:=g.2;lk
  |out l' C=>exact absurd e aad
 |exit l =>
  show l.natAbs<=10000/\(jR aj st l (st.chg.getD j 0)).natAbs<=10000;have m:0<=l:=ps.1;have i:l<aj:=ps.2;refine ⟨by lk, ?_⟩;have b:=Cv (t:=st.bM) l.toNat;have c:=wf.cs j (by lk);unfold jR;generalize st.bM.getD l.toNat 0=z at b;have a:∀ y:Int,-70<=y->y<=70->(l+aj*y).natAbs<=10000:=λy h1 h2=>by
   have r:aj*y<=8*70:=by
    by_cases s:0<=y
    ·exact RP d h2 s (by lk)
    ·have:=ab_ (show 0<=aj by lk) (show y<=0 by lk);lk
   have x:-(8*70)<=aj*y:=by
    by_cases s:0<=y
    ·have:=Int.mul_nonneg (show 0<=aj by lk) s;lk
    ·have:=RP d (show -y<=70 by lk) (show 0<=-y by lk) (show (0:Int)<=8 by lk);rw [BP] at this;lk
   lk
  split
  ·exact a z (by lk) (by lk)
  ·exact a _ (by lk) (by lk)
theorem KQ:strOk x=true↔∀ c∈Ls x,c<0x110000:=by
 show Array.all _ _=true↔_;rw [Array.all_eq_true_iff_forall_mem];constructor
 ·intro h c a;exact jH (h c (K1.mp a))
 ·intro h c a;exact fM (h c (K1.mpr a))
theorem ac_ (t:String):strOk (ofString t)=true:=by
 rw [KQ];intro c b;rw [Str.ofString_eq_toList] at b;have a:c∈t.toList.map Char.toNat:=by simpa [Ls] using b
 obtain ⟨d,_,rfl⟩:=fV.mp a;have:=d.valid;show d.val.toNat<0x110000;rcases this with h|⟨_,h⟩
 ·have h':d.val.toNat<0xd800:=h;lk
 ·exact h
theorem aos (i:Int):strOk (bL i)=true:=ac_ _
theorem abH:∀ ys:bK,(∀ y∈ys,strOk y=true)->strOk (Str.join ⟨#[32]⟩ ys)=true
 |[],_=>by k_go
 |[y],h=>h y iy
 |x::y::r,h=>by
  rw [KQ,mJ];intro c a;rcases nM.mp a with z|z
  ·exact KQ.mp (h x iy) c z
  ·rcases fW.mp z with z|z
   ·lk
   ·exact KQ.mp (abH (y::r) λw b=>h w (fG _ b)) c z
theorem aj9 (ns:aF):strOk (iR ns)=true:=by
 unfold iR;split
 ·exact ac_ _
 ·rw [wU];exact abH _ λy a=>by obtain ⟨n,_,rfl⟩:=fV.mp a;exact aos n
structure rC (Cd:Addr) (G H:Hp) (d:Addr) (D:jt) (k:Nat) (jV:aP) (j:Nat) (kn:dU):Prop where
 ks:dI [D.n] G H
 kt:KT G H
 da:fY Cd H d D kn []
 ln:kn.length<=2
 kk:∀ kv∈kn,kv.1=.inr "v" \/ kv.1=.inr "w"
 nv:1<=j->∃ v,dh kn (.inr "v")=some v/\eF H v (pw k) jV
 nw:2<=j->∃ v us,dh kn (.inr "w")=some v/\eF H v (pw k) us/\us.length<=(if j=2 then 36 else 40)/\jh (pw k) us/\k<=dX (pw k) us/\(j<=3->k<=dX (pw k) (us.map (jJ (pw k))))
 l0:j=0->kn=[]
 l1:j=1->kn.length<=1
theorem aeF:iM (Ls (ofString "v")):=⟨by k_go,by k_go,by k_go⟩
theorem pD:iM (Ls (ofString "w")):=⟨by k_go,by k_go,by k_go⟩
theorem aqL:¬ (Sum.inr (ofString "v"):eE)=Sum.inr (ofString "w"):=by k_go
section
variable {d:Addr} {D:jt} {k:Nat} {jV:aP}
theorem rC.same (h:rC Cd G H d D k jV j kn) (s:aB H H2):rC Cd G H2 d D k jV j kn:=by
 have kt:KT H H2:=cG s (bY _);exact { h with
  ks:=uG h.ks (dI.same s)
  kt:=pR h.kt kt
  da:=h.da.same s
  nv:=λz=>let ⟨v,a,b⟩:=h.nv z;⟨v,a,b.kt kt⟩
  nw:=λz=>let ⟨v,us,a,b,c⟩:=h.nw z;⟨v,us,a,b.kt kt,c⟩ }
theorem rC.lst (h:rC Cd G H d D k jV j kn) {l:Addr} {ys zs:aA} (f:G l=none) (x:H l=some (.lst ys)):rC Cd G (upd H l (.lst zs)) d D k jV j kn:=by
 have kt:KT H (upd H l (.lst zs)):=lN x (bY _);have ks:dI [l] H (upd H l (.lst zs)):=sS (by simp);obtain ⟨i,g,m⟩:=Fd h.da x;exact { h with
  ks:=λb o e n=>(aV (λz=>by rw [z,f] at e;cases e)).trans (h.ks b o e n)
  kt:=pR h.kt kt
  da:=h.da.kps ks (by simpa using i) (by simpa using g) (by simpa using m)
  nv:=λz=>let ⟨v,a,b⟩:=h.nv z;⟨v,a,b.kt kt⟩
  nw:=λz=>let ⟨v,us,a,b,c⟩:=h.nw z;⟨v,us,a,b.kt kt,c⟩ }
theorem zH (aY:dU) (x:eE) (v:V):(cD aY x v).length<=aY.length+1:=by unfold cD;split<;>simp
theorem aj_ {aY:dU} {x:eE} (v:V) (h:(dh aY x).isSome=true):(cD aY x v).length=aY.length:=by unfold cD;rw [EY,aQ h,bh]
theorem rC.put (h:rC Cd G H d D k jV j kn) (s:aB H H2) {us:aP} (net:eF H2 v (pw k) us) (hx:(j=0/\x="v"/\us=jV)\/(1<=j/\x="w"/\us.length<=(if j+1=2 then 36 else 40)/\jh (pw k) us/\k<=dX (pw k) us/\(j+1<=3->k<=dX (pw k) (us.map (jJ (pw k)))))) : rC Cd G (upd H2 D.n (.dK (cD kn (.inr x) v))) d D k jV (j+1) (cD kn (.inr x) v):=by
 have h2:=h.same s;have t:dI [D.n] H2 (upd H2 D.n (.dK (cD kn (.inr x) v))):=sS (by simp);have l:KT H2 (upd H2 D.n (.dK (cD kn (.inr x) v))):=λb xs e=>(aV (kY e h2.da.ne (by intro z;cases z))).trans e;have pl:=zH kn (.inr x) v;have r:(cD kn (.inr x) v).length<=2:=by
  rcases hx with ⟨a,_,_⟩|⟨a,b,_⟩
  ·rw [h.l0 a] at pl ⊢;simp at pl;lk
  ·by_cases c:j=1
   ·have:=h.l1 c;lk
   ·obtain ⟨p,q,e,_⟩:=h.nw (by lk);rw [b,aj_ v (by rw [e];rfl)];exact h.ln
 refine ⟨uG h2.ks t,pR h2.kt l,⟨(aV (kY h2.da.ob h2.da.ne (by intro z;cases z))).trans h2.da.ob,aM,(aV (bF h2.da.nq)).trans h2.da.pl,h2.da.nq,by lk, h2.da.lp⟩,r,λo i=>?_,λ_=>?_,λz=>?_,λz=>absurd z (by lk),λz=>?_⟩
 ·have m:o.1=.inr x\/∃ g∈kn,g.1=o.1:=by
   unfold cD at i;split at i
   ·obtain ⟨g,h1,h2⟩:=fV.mp i;by_cases c:g.1=.inr x
    ·rw [aQ c] at h2;exact .inl (by rw [<-h2];exact c)
    ·rw [aK c] at h2;exact .inr ⟨g,h1,by rw [h2]⟩
   ·rcases nM.mp i with z|z
    ·exact .inr ⟨o,z,rfl⟩
    ·rw [yU.mp z];exact .inl rfl
  rcases m with e|⟨g,a,b⟩
  ·rcases hx with ⟨_,rfl,_⟩|⟨_,rfl,_⟩
   ·exact .inl e
   ·exact .inr e
  ·rw [<-b];exact h.kk g a
 ·rcases hx with ⟨_,rfl,rfl⟩|⟨a,rfl,_⟩
  ·exact ⟨v,by rw [rK,aQ rfl],net.kt l⟩
  ·obtain ⟨p,e,n⟩:=h2.nv a;exact ⟨p,by rw [rK,aK aqL];exact e,n.kt l⟩
 ·rcases hx with ⟨a,_,_⟩|⟨a,rfl,b,c⟩
  ·lk
  ·exact ⟨v,us,by rw [rK,aQ rfl],net.kt l,b,c⟩
 ·have:j=0:=by lk
  rw [h.l0 this] at pl ⊢;exact pl
end
theorem agb {w:Str} (h:sV aj st w ns) (e:w="counts"):ns=st.bM:=by
 cases h with
 |counts=>rfl
 |told h =>rcases h with ⟨z,_⟩|⟨z,_⟩|⟨z,_⟩<;>rw [e] at z<;>exact absurd z (by k_go)
def qW (m:Int) (x:Str):Str:=if x="stands" then iR (iH m.toNat) else "none"
theorem Pz {x ns} (ok:bJ aj ws) (w1:1<=aj) (lv:jh aj ws) (G:Go true aj ws st cs) (out:∀ pl∈st.aX,cB pl=true) (hx:x=(ofString "standing")\/x=(ofString "owed")\/x=(ofString "lacking")) (h:sV aj st x ns):iR ns=if x="standing" then iR (iH cs.sum.toNat) else "none":=by
 have b:=(ac9 ok w1 lv G out).2;have c:0<=cs.sum:=by rw [(G.fw rfl).sm];lk
 cases h with
 |counts=>rcases hx with z|z|z<;>exact absurd z (by k_go)
 |told h =>
  rw [b] at h;rcases h with ⟨rfl,p,w⟩|⟨rfl,p,w⟩|⟨rfl,g,a,rfl⟩
  ·rw [aQ rfl,ahX w1 p w]
  ·rw [aK (by k_go),ajY w1 p w];unfold yq;rw [show (-cs.sum).toNat=0 by lk];rfl
  ·rw [aK (by k_go),ajZ w1 a];rfl
theorem agc {a b c:Str} (h:strOk a=true/\strOk b=true/\strOk c=true):shaped (.list [.str a,.str b,.str c])=true:=by show (canLay0 _ && decide (PyData.depth _<=64))=true;simp [canLay0,canLayAll0,PyData.depth,depthAll,h]
theorem aj' {a b c a' b' c':Str}:noMix (.list [.str a,.str b,.str c]) (.list [.str a',.str b',.str c'])=true:=by simp [noMix,noMixAll]
theorem ah1 {a b c:Str}:PySem.Spec.same (.list [.str a,.str b,.str c]) (.list [.str a,.str b,.str c])=true:=by simp [PySem.Spec.same,PySem.Spec.sameAll]
theorem aqM {t:Int} (t0:0<=t) (t3:t<3):∃ ord:bK,ou [V.str "stands",V.str "owes",V.str "lacks"] (some t) none++ou [V.str "stands",V.str "owes",V.str "lacks"] none (some t)=ord.map V.str/\ord.length=3/\(∀ x∈ord,x="stands" \/ x="owes" \/ x="lacks")/\(∀ x:Str,(x="stands" \/ x="owes" \/ x="lacks")->x∈ord):=by
 have h:t=0\/t=1\/t=2:=by lk
 rcases h with h|h|h<;>subst h
 ·exact ⟨["stands","owes","lacks"],rfl,rfl,λx a=>by simpa using a,λx a=>by simpa using a⟩
 ·refine ⟨["owes","lacks","stands"],rfl,rfl,λx a=>?_,λx a=>?_⟩
  ·have:x="owes" \/ x="lacks" \/ x="stands":=by simpa using a
   rcases this with h|h|h
   ·exact .inr (.inl h)
   ·exact .inr (.inr h)
   ·exact .inl h
  ·rcases a with h|h|h<;>simp [h]
 ·refine ⟨["lacks","stands","owes"],rfl,rfl,λx a=>?_,λx a=>?_⟩
  ·have:x="lacks" \/ x="stands" \/ x="owes":=by simpa using a
   rcases this with h|h|h
   ·exact .inr (.inr h)
   ·exact .inl h
   ·exact .inr (.inl h)
  ·rcases a with h|h|h<;>simp [h]
end
section
open PySem.Spec PyProof.Rows
section
variable {I:Addr} {wr:jk} {G:Array GenState->Array GenState->Prop} {P:Nat->Value->Prop} {St:Nat->Shared->Prop}
abbrev wC (prog:Program) (w:World) (h:Heap) (a:Addr) (xs:bK):Prop:=h.SetOf (PySem.strKind prog w) a (λy=>decide (y∈xs)) xs.length
theorem akb (W:WalksS prog w A.in1 I fp wr G n P St) (S:Addr) (hSf:S∉fp) (xs:bK) (nd:xs.Nodup) (hn:xs.length=n) (hval:∀ i v,P i v->∃ y t,xs[i]?=some y/\v=.str y t) (hb:n+1<scanBound) : ∀ (k i:Nat) (s:Shared),n-i=k->i<=n->St i s->wC prog w s.heap S (xs.take i) ->(∀ s',Moved (S::wr) G s s'->wC prog w s'.heap S xs->R (.ok (.ret .none)) s') ->codeAny (model prog w) A (.builtin "set.update.loop" ⟨[.ref S,.ref I],[]⟩) R s:=by
 have B:S∉wr:=λh=>hSf (W.sub _ h);have a:∀ b∈wr,b∈S::wr:=λb hb=>fG _ hb;have keep:∀ {s s':Shared} {ys:bK},Moved wr G s s'->wC prog w s.heap S ys->wC prog w s'.heap S ys:=λd g=>by obtain ⟨o,es,ep,t,ho,r⟩:=g;exact ⟨o,es,ep,t,d.heap S _ B ho,r⟩
 intro k;induction k with
 |zero =>
  intro i s hk hi c g N;have C:i=n:=by lk
  subst C;refine w5 F.entry_set_update_loop ?_;rw [yQ RZ _];show wpAny _ A.in1 (pyNext (.ref I) >>= _) _ _ s;refine bf (W.done s _ _ c λs' d=>?_);rw [<-hn,gq] at g;exact cY (N s' (d.mono a) (keep d g))
 |succ k ih =>
  intro i s hk hi c g N;have u:i<n:=by lk
  refine w5 F.entry_set_update_loop ?_;rw [yQ RZ _];show wpAny _ A.in1 (pyNext (.ref I) >>= _) _ _ s;refine bf (W.item i s _ _ u c λv s' hP l d=>?_);obtain ⟨y,t,M,rfl⟩:=hval i v hP;show wpAny _ A.in1 (holding [Value.str y t] (setAdd S (.str y t)) >>= _) _ _ s';refine bf (zL ?_);unfold setAdd;refine zL (bf ((PySem.strKind prog w).pyHash (k:=y) (strKind_is ..) ?_));have ll:(xs.take i).length=i:=by rw [gV];lk
  have ny:y∉xs.take i:=λm=>by obtain ⟨j,hj⟩:=abR m;obtain ⟨jl,Y⟩:=dY.mp hj;obtain ⟨U,V⟩:=dY.mp M;rw [List.getElem_take] at Y;rw [gV] at jl;exact abU.mp nd j i (by lk) U (by lk) (by rw [Y,V])
  refine wpAny_setAddHashed_of (knd:=PySem.strKind prog w) (s:={ s' with toks:=s'.toks+1 }) (strKind_is ..) rfl (show wC prog w s'.heap S (xs.take i) from keep d g) (by rw [ll];lk) λh' p D=>?_;have J:wC prog w h' S (xs.take (i+1)):=by
   have O:xs.take (i+1)=xs.take i++[y]:=by obtain ⟨U,V⟩:=dY.mp M;rw [List.take_succ,M];rfl
   refine SetOf_congr D (λz=>?_) ?_
   ·rw [O,ug];simp
   ·rw [aK (by simpa using ny),O,dJ,yO]
  refine cY ⟨BK RZ _,ih (i+1) _ (by lk) u (W.frame _ s' _ _ l (vD _) λb hb o e=>?_) J λL x q=>?_⟩
  ·rw [p.2 b (λh:b=S=>hSf (by rw [<-h];exact hb))];exact e
  ·refine N L (Moved.trans W.gtrans ((d.mono a).then_heap (vD _) λb o hb e=>?_) x) q;rw [p.2 b (λh:b=S=>hb (by rw [h];exact iy))];exact e
theorem ac':∀ {vs:bV} {ys:bK} {i:Nat} {v:Value},StrsAre vs ys->vs[i]?=some v->∃ y t,ys[i]?=some y/\v=.str y t
 |_,_,_,_,.nil,h=>by simp at h
 |_,_,0,_,.cons y t _,h=>by simp at h;exact ⟨y,t,rfl,h.symm⟩
 |_,_,i+1,_,.cons _ _ r,h=>by obtain ⟨y,t,a,b⟩:=ac' (i:=i) r (by simpa using h);exact ⟨y,t,by simpa using a,b⟩
theorem Q0:∀ {vs:bV} {ys:bK},StrsAre vs ys->vs.length=ys.length
 |_,_,.nil=>rfl
 |_,_,.cons _ _ r=>by simp [Q0 r]
theorem akc {xs:bK} (hh:A.handled=none) (hl:s.heap.IsList l eY) (hi:StrsAre eY.toList xs) (nd:xs.Nodup) (hb:eY.size+1<scanBound) (h:∀ (h':Heap) (tk:Nat),wC prog w h' s.heap.objs.size xs->(∀ b o,s.heap.get? b=some o->h'.get? b=some o)->Q (.ref s.heap.objs.size) { s with heap:=h',toks:=tk }) : wpAny (model prog w) A (call (.type "set") [.ref l]) Q E s:=by
 obtain ⟨c,tl,U⟩:=xJ.mro;have y:=xJ.made;have hsub:=xJ.sub;refine K3 (codeAny_of_tree ?_);show wpAny _ _ (callAny (.type "set") _) _ _ _;refine cY ⟨Code.quiet_builtin _ (by k_go),w5 F.entry_type_call ?_⟩;rw [Around.under_plain (weight_type_call_type "set" [.ref l] []) rfl];have h1:=xJ.notType;have h2:=xJ.canCreate;have hct:=F.typeCall_set_1 (.ref l)
 repeat (any_goals (first|assumption|wp_step))
 refine sE (code_set_new_1 (.ref l) (E:=E) (Q₁:=λobj V=>obj=.ref s.heap.objs.size/\∃ O:Obj,V={ s with heap:=s.heap.push O }/\O.cls=.type "set"/\O.isFreed=false/\∃ led:Bool,O={ cls:=.type "set",dict:=none,data:=.set #[] 0 (.fresh 0 0 led) }) λled=>⟨rfl,_,rfl,rfl,rfl,led,rfl⟩) λr V hr=>?_
 match r,hr with
 |.error e,hr=>exact hr
 |.ok (.ret obj),⟨e1,O,e2,hOc,hOf,led,hO⟩ =>
  subst e1 e2;have N:(s.heap.push O).get? s.heap.objs.size=some O:=fQ _ hOf;have hT:Shared.TypeIs { s with heap:=s.heap.push O } (.ref s.heap.objs.size) "set":=⟨_,N,hOc⟩;have hli:=xJ.init.lookup;have hbi:=xJ.init.bind (.ref s.heap.objs.size);have M:∀ h:Heap,h.get? s.heap.objs.size=some O->wC prog w h s.heap.objs.size []:=λh e=>by subst hO;exact ⟨_,#[],0,_,e,⟨rfl,rfl,rfl⟩,rfl,(λ_ z=>(by simp at z)),(λ_=>by simp),by decide,rfl,rfl⟩
  repeat (any_goals (first|assumption|wp_step))
  refine sE (codeAny_call_builtin (R:=wants (λr s₂=>r=.none/\∃ h' tk,s₂={ s with heap:=h',toks:=tk }/\wC prog w h' s.heap.objs.size xs/\(∀ b o,s.heap.get? b=some o->h'.get? b=some o)) E) xJ.init.plain F.entry_set_init (check_set_init_1 hT ?_)) λr₂ s₂ I=>?_
  ·obtain ⟨ol,n,t,W,j⟩:=hl;obtain ⟨Y,g,x,d⟩:=ol;simp only at t j;subst t;subst j;have k:(s.heap.push O).get? l=some { cls:=.type "list",dict:=g,data:=.seq eY W,slots:=d }:=dF _ n;have hsls:=F.sub_list_set;have S:=F.sub_list_frozenset;have hne:(type "list" == type "dict")=false:=by decide
   have m:(s.heap.push O).IsList l eY:=⟨_,k,rfl,W,rfl⟩;subst hO;unfold Builtin.«set.__init__» noKeywords Builtin.Frozenset.updateFrom;generalize D:pyIter=PI
   wp_walk
   subst D;refine FW m (bf (wpAny_runValue ?_));have p:l<s.heap.objs.size:=cF n;generalize ({ cls:=.type "set",dict:=none,data:=.set #[] 0 (.fresh 0 0 led) }:Obj)=O at *;have q:l≠(s.heap.push O).objs.size:=by rw [pO];exact fO (Fg p)
   have C:s.heap.objs.size∉[(s.heap.push O).objs.size,l]:=by rw [pO];simp only [fW,tZ,JT,not_or];exact ⟨fO (CN _),vB p⟩
   have gC:xs.length=eY.size:=by rw [<-Q0 hi];simp
   refine akb ((Walks.list (by simp [hh]) _ l q eY).toS) s.heap.objs.size C xs nd gC (λi v hv=>?_) hb (eY.size-0) 0 _ (by lk) (fP _) ⟨⟨_,fQ _ rfl,rfl,rfl⟩,m.push _⟩ (M _ (dF _ N)) λs' u L=>?_
   ·exact ac' hi (by rw [Kc];exact hv)
   obtain ⟨h',g',d',B,J⟩:=s';have eg:g'=s.gens:=u.gens;have ed:d'=s.drawn:=u.drawn;have eo:J=s.os:=u.os;subst eg;subst ed;subst eo;show wpAny _ _ _ _ _ _;refine cY ?_;show wpAny _ _ (ret Value.none) _ _ _;refine cY ⟨rfl,h',B,rfl,L,λb o e=>u.heap b o ?_ (dF _ (dF _ e))⟩;have lb:=cF e;rw [pO];simp only [fW,tZ,JT,not_or];exact ⟨fO lb,fO (Fg lb)⟩
  ·match r₂,I with
   |.error e,hr=>exact hr
   |.ok (.ret r),⟨e1,h',tk,e2,a,b⟩ =>
    subst e1 e2
    repeat (any_goals (first|assumption|wp_step))
    exact h _ _ a b
end
theorem aao:∀ {ys:bK} {us:bV},bO (ys.map V.str) us->StrsAre us ys
 |[],_,.nil=>.nil
 |y::r,_,.cons ⟨t,e⟩ h=>by subst e;exact .cons y t (aao h)
inductive aot (K:bG) (vs:aA) (H:Hp) (Q:VK):Prop
 |mk (p:Addr) (ys:bK) (h1:vs=[.ref p]) (h2:dH K H p (ys.map V.str)) (h3:ys.Nodup) (h4:ys.length<=50) (h5:Q (.int ys.length) H)
def aou (K:bG) (te:TE):TE:=λσ H Q=>vU te wB σ H λvs H1=>aot K vs H1 Q
theorem akd {p1 p2 pos1 pos2:Pos} (hc:X.calm=true) (hg1:Gl X "len") (hm1:X.mg "len"=none) (hg2:Gl X "set") (hm2:X.mg "set"=none) (he:PE X e te) (s1:starEach [.Call (.Name "set" p2) [e] [] pos2] X.env=(false,eval (.Call (.Name "set" p2) [e] [] pos2) X.env)::starEach [] X.env:=by rfl) (s2:starEach [e] X.env=(false,eval e X.env)::starEach [] X.env:=by rfl) : PE X (.Call (.Name "len" p1) [.Call (.Name "set" p2) [e] [] pos2] [] pos1) (aou X.K te):=by intro ak s σ H Q I h;refine xU (qM I hg1 hm1 zu ?_ (by decide) (by decide));refine adn ?_ s1 rfl;rw [s1];show wpAny _ _ (spliced ((false,eval (.Call (.Name "set" p2) [e] [] pos2) X.env)::backTo pos1 (starEach [] X.env))) _ _ s;refine Tg ?_;refine xU (qM I hg2 hm2 ajv ?_ (by decide) (by decide));refine xR (bA (ao he aq s2 pos2 ak s σ H _ I h) λus j ⟨vs,H1,a,r,m⟩=>?_) s2 rfl;obtain ⟨p,ys,rfl,k,nd,g,q⟩:=m;obtain ⟨u,rfl,z⟩:=r.one;cases z;obtain ⟨aJ,l,pl,B⟩:=a.list k;have hi:StrsAre aJ ys:=aao l;have D:=Q0 hi;refine akc (a.ok.hd hc) pl.isList (eY:=aJ.toArray) (xs:=ys) (by simpa using hi) nd (show aJ.toArray.size+1<scanBound from Rh (show aJ.toArray.size+1<=60 by rw [gU];lk) (by decide)) λh' x c i=>?_;have d:=a.kept (t':=x) i;refine Tf ?_;obtain ⟨o,es,C,t,v,b,y,_,_,_,n,en⟩:=c;refine call_len_set v b y n (by lk) ?_;rw [en];exact ⟨.int ys.length,H1,d.tok _,⟨_,rfl⟩,q⟩
end
section
open PySem.SeqAt PyProof.Rows
theorem amr {i j:Int} (i0:-1<=i) (i1:i<100) (j0:-1<=j) (j1:j<100) (e:bL i=bL j):i=j:=by have a:=(uc i0 i1).2;rw [e,(uc j0 j1).2] at a;exact (iz a).symm
theorem ah2 (nd:ns.Nodup) (h:∀ n∈ns,0<=n/\n<100):(ns.map bL).Nodup:=by
 induction ns with
 |nil=>exact J8
 |cons a r j =>have c:=sG.mp nd;refine sG.mpr ⟨λm=>?_,j c.2 λn i=>h n (fG _ i)⟩;obtain ⟨b,d,e⟩:=fV.mp m;have k:=h a iy;have g:=h b (fG _ d);have:=amr (by lk) (by lk) (by lk) (by lk) e;subst this;exact c.1 d
theorem abI (x:Str):∀ ys:bK,x∈ys->lM (.str x) (ys.map V.str)=true
 |[],h=>by cases h
 |y::r,h=>by
  rcases fW.mp h with e|e
  ·subst e;show (lA (V.str x) (V.str x) || lM (.str x) (r.map V.str))=true;have:lA (V.str x) (V.str x)=true:=by simp [lA]
   rw [this];rfl
  ·show (lA (V.str y) (V.str x) || lM (.str x) (r.map V.str))=true;rw [abI x r e,Bool.or_true]
theorem aa5:∀ ys:bK,(ys.map V.str).all uE=true
 |[]=>rfl
 |y::r=>by rw [gb,Rf,aa5 r];rfl
theorem Q5 (h:ns≠[]):iR ns=Txt.join ⟨#[32]⟩ (ns.map bL):=aK h
theorem ams (h:cs≠[]):ofString "exits w "++iR cs=Di "w" cs:=by
 refine pU ?_;rw [Q5 h,gW];unfold Di;obtain ⟨c,r,rfl⟩:∃ c r,cs=c::r:=by
  cases cs with
  |nil=>exact absurd rfl h
  |cons c r=>exact ⟨c,r,rfl⟩
 rw [wU,wU,gb,mJ,mJ];rfl
theorem adP:iM (Ls (ofString "one")):=⟨by k_go,by k_go,by k_go⟩
theorem abJ:iM (Ls (ofString "other")):=⟨by k_go,by k_go,by k_go⟩
theorem ada:iM (Ls (ofString "twin")):=⟨by k_go,by k_go,by k_go⟩
theorem amt (h:∀ l∈ls,0<=l/\l<aj):(d_ aj ls).sum=(ls.length:Int):=by
 have a:∀ n,n<=ls.length->(d_ aj (ls.take n)).sum=(n:Int):=λn=>by
  induction n with
  |zero =>
   intro _;show (d_ aj []).sum=0;rw [abG];generalize aj.toNat=m;induction m with
   |zero=>rfl
   |succ m b=>rw [ju,qD,b];rfl
  |succ n b =>
   intro e;have c:ls[n]?=some ls[n]:=by simp [show n<ls.length by lk]
   have d:=h _ (eZ c);rw [fZ c,aa3 d.1 d.2,Sv _ _ _ (by rw [Bs];lk),b (by lk)];lk
 have:=a ls.length (bI _);rw [gq] at this;exact this
theorem ZX {m:Int} (h:i<n):(dN n ((n:Int)*m)).getD i 0=m:=by
 rw [O8 h];have e:(0:Int)+(i:Int)-(n:Int)*m=(i:Int)+(n:Int)*(-m):=by rw [BP];lk
 rw [e,zj _ _ (by lk),Fp (by lk) (by lk)];lk
theorem ah3 {k:Nat} (ok:bJ (pw k) ws) (lv:jh (pw k) ws) (dp:k<=dX (pw k) ws):¬ LQ (pK (pw k) ws) i j:=by
 rintro ⟨hi,_,b,c,_⟩;have e:=vL k;have a:i<(pw k).toNat:=by simpa [pK] using hi
 have g:qY (pK (pw k) ws) i=oX (pw k).toNat (dX (pw k) ws) ws i:=by unfold qY pK;simp [a]
 rw [g] at b c;have l:oX (pw k).toNat (dX (pw k) ws) ws i=dN (pw k).toNat (((pw k).toNat:Int)*((2 ^ (dX (pw k) ws-k):Nat):Int)):=by
  unfold oX;rw [lv.come ok e (IW ..),aiT a]
  congr 1
  have d:((pw k).toNat:Int)=((2 ^ k:Nat):Int):=by unfold pw;rw [kO]
  rw [d,<-Int.natCast_mul,<-Nat.pow_add,show k+(dX (pw k) ws-k)=dX (pw k) ws by lk]
 rw [l] at b c;rw [Bf] at b;exact c (by rw [ZX b,ZX (by lk)])
theorem abK:∀ (us:aP) (s t:aF×aF),s.1.length=t.1.length->(∀ j,s.1.getD j 0<=t.1.getD j 0)->∃ A B,(us.foldl lq s).2=s.2++A/\(us.foldl lq t).2=t.2++B/\∀ a∈A,∃ b∈B,a<=b
 |[],s,t,_,_=>⟨[],[],by simp,by simp,λ_ h=>(nomatch h)⟩
 |w::r,s,t,hl,h=>by
  have m:1+gj (s.1.getD w.1.toNat 0) (s.1.getD w.2.toNat 0)<=1+gj (t.1.getD w.1.toNat 0) (t.1.getD w.2.toNat 0):=by have h1:=h w.1.toNat;have h2:=h w.2.toNat;unfold gj;split<;>split<;>lk
  have d:∀ {x y:aF} {i:Nat} {p q:Int},x.length=y.length->(∀ j,x.getD j 0<=y.getD j 0)->p<=q->∀ j,(x.set i p).getD j 0<=(y.set i q).getD j 0:=λ{x y i p q} hl h g j=>by
   by_cases c:i<x.length
   ·rw [jY c,jY (by lk)];split
    ·exact g
    ·exact h j
   ·rw [JR (by lk),JR (by lk)];exact h j
  obtain ⟨A,B,k,n,o⟩:=abK r (lq s w) (lq t w) (by simp [lq,hl]) (d (by simp [hl]) (d hl h m) m);refine ⟨(1+gj (s.1.getD w.1.toNat 0) (s.1.getD w.2.toNat 0))::A,(1+gj (t.1.getD w.1.toNat 0) (t.1.getD w.2.toNat 0))::B,?_,?_,λa e=>?_⟩
  ·show (r.foldl lq (lq s w)).2=_;rw [k];show s.2++[_]++A=_;simp
  ·show (r.foldl lq (lq t w)).2=_;rw [n];show t.2++[_]++B=_;simp
  ·rcases fW.mp e with rfl|e
   ·exact ⟨_,iy,m⟩
   ·obtain ⟨b,u,l⟩:=o a e;exact ⟨b,fG _ u,l⟩
theorem ah4 (aj:Int) (us:aP) (j:Nat):0<=(cj aj us).1.getD j 0:=by
 have a:∀ (us:aP) (s:aF×aF),(∀ j,0<=s.1.getD j 0)->∀ j,0<=(us.foldl lq s).1.getD j 0:=λus=>by
  induction us with
  |nil=>exact λs h=>h
  |cons w r d =>
   refine λs h=>d (lq s w) λj=>?_;have m:0<=1+gj (s.1.getD w.1.toNat 0) (s.1.getD w.2.toNat 0):=by have h1:=h w.1.toNat;have h2:=h w.2.toNat;unfold gj;split<;>lk
   have st:∀ {x:aF} {i:Nat} {p:Int},(∀ j,0<=x.getD j 0)->0<=p->∀ j,0<=(x.set i p).getD j 0:=λ{x i p} h b j=>by
    by_cases c:i<x.length
    ·rw [jY c];split
     ·exact b
     ·exact h j
    ·rw [JR (by lk)];exact h j
   exact st (st h m) m j
 exact a us _ (λj=>by show 0<=(replicate aj.toNat (0:Int)).getD j 0;simp [getD,uh];split<;>simp) j
theorem aa6 {us:aP} (ok:bJ aj us):dX aj ws<=dX aj (us++ws):=by
 have m:=(Jj aj us).1;obtain ⟨A,B,g,a,i⟩:=abK ws (replicate aj.toNat 0,[]) (cj aj us) (by rw [m];simp) (λj=>by
  have z:(replicate aj.toNat (0:Int)).getD j 0=0:=by simp [getD,uh];split<;>rfl
  show (replicate aj.toNat (0:Int)).getD j 0<=_;rw [z];exact ah4 aj us j)
 have ea:(cj aj ws).2=A:=by show (ws.foldl lq _).2=A;rw [g];rfl
 have k:(cj aj (us++ws)).2=(cj aj us).2++B:=by unfold cj at a ⊢;rw [yW,a]
 have o:=I_ aj ws;have p:=I_ aj (us++ws);have n:=Gd (cj aj ws).2;have c:=Gd (cj aj (us++ws)).2;rcases n.2.2 with e|e
 ·have:=c.1;lk
 ·rw [ea] at e;obtain ⟨b,d,l⟩:=i _ e;have:=c.2.1 b (by rw [k];exact pN _ d);rw [<-ea] at l;lk
theorem abL {k:Nat} (h:k<=3):k<=dX (pw k) (iK k)/\k<=dX (pw k) ((iK k).map (jJ (pw k))):=by
 have:k=0\/k=1\/k=2\/k=3:=by lk
 rcases this with rfl|rfl|rfl|rfl<;>k_go
theorem adb {k:Nat} (h:k<=3):k<=dX (pw k) (qd k)/\k<=dX (pw k) ((qd k).map (jJ (pw k))):=by
 have:k=0\/k=1\/k=2\/k=3:=by lk
 rcases this with rfl|rfl|rfl|rfl<;>k_go
inductive amu (am:Addr) (vs:aA) (H:Hp) (Q:VK) (E:XK):Prop
 |mk (v:V) (aj:Int) (ws:aP) (h1:vs=[v]) (net:eF H v aj ws) (lv:jh aj ws) (nu:∀ i j,¬ LQ (pK aj ws) i j) (q:∀ (T:Addr) (H':Hp),H T=none->aB H H'->H' T=some (.tup [.str "levels"])->Q (.ref T) H') (e:∀ H',aB H H'->E (.ref am) none H')
def aov (am:Addr):Sp:=λvs H Q E=>amu am vs H Q E
inductive amv (am:Addr) (vs:aA) (H:Hp) (Q:VK) (E:XK):Prop
 |mk (v v':V) (aj:Int) (ws:aP) (h1:vs=[v,v']) (net:eF H v aj ws) (U0:eF H v' aj ws) (q:∀ H',aB H H'->Q .non H') (e:∀ H',aB H H'->E (.ref am) none H')
def aow (am:Addr):Sp:=λvs H Q E=>amv am vs H Q E
end
section
theorem Ng (f : H a = none) (o : HO) : ∃ H', H' = upd H a o /\ aB H H' /\ H' a = some o := ⟨_, rfl, cu f o, aM⟩
def bB (i:Nat):Stmt:=PySem.Challenge.pw_evenpass_k94_whole_from_text_to_numbers.main.body.getD i (.Pass ⟨0,0,0,0⟩)
abbrev afR:Stmt:=bB 2
abbrev aox:Stmt:=bB 3
abbrev amw:Stmt:=bB 5
abbrev aoy:Stmt:=bB 6
abbrev afS:Stmt:=bB 7
abbrev agd:Stmt:=bB 18
abbrev amx:Stmt:=bB 19
abbrev asQ:Stmt:=bB 20
abbrev asC:Stmt:=bB 21
abbrev amy:Stmt:=bB 22
abbrev afT:Stmt:=bB 25
abbrev ake:Stmt:=bB 26
abbrev Zf:Stmt:=bB 27
abbrev Y6:Stmt:=bB 28
abbrev amA:Stmt:=bB 29
abbrev afg:Stmt:=bB 31
abbrev ae7:Stmt:=bB 32
abbrev amB:Stmt:=bB 33
abbrev ah5:Stmt:=bB 37
abbrev akf:Stmt:=bB 38
abbrev agY:Stmt:=bB 39
abbrev afU:Stmt:=bB 40
abbrev agZ:Stmt:=bB 41
abbrev amC:Stmt:=bB 42
abbrev ae4:Stmt:=bB 45
abbrev ae':Stmt:=bB 46
abbrev amD:Stmt:=bB 47
abbrev ae9:Stmt:=bB 48
abbrev Q6:Stmt:=bB 49
abbrev Sw:Stmt:=bB 50
abbrev amE:Stmt:=bB 51
abbrev asD:Stmt:=bB 52
abbrev asd:Stmt:=bB 54
abbrev asa:Stmt:=bB 55
abbrev ar':Stmt:=bB 56
abbrev asF:Stmt:=bB 57
abbrev asz:Stmt:=bB 58
abbrev asA:Stmt:=bB 59
abbrev amF:Stmt:=bB 61
abbrev asq:Stmt:=bB 62
abbrev amG:Stmt:=bB 63
abbrev asB:Stmt:=bB 64
abbrev ah6:Stmt:=bB 65
abbrev asr:Stmt:=bB 66
abbrev afx:Stmt:=bB 68
abbrev aoz:Stmt:=bB 69
abbrev amH:Stmt:=bB 70
abbrev ah7:Stmt:=bB 72
abbrev agf:Stmt:=bB 73
abbrev Z0:Stmt:=jX (bB 74) 0
abbrev agg:Stmt:=jX (bB 74) 1
abbrev ar_:Stmt:=jX (bB 74) 2
abbrev afy:Stmt:=jX (bB 74) 3
abbrev agh:Stmt:=jX (bB 74) 4
abbrev ag0:Stmt:=jX (bB 74) 5
abbrev agi:Stmt:=jX (bB 74) 6
abbrev ae8:Stmt:=jX (bB 74) 7
abbrev ag1:Stmt:=jX (bB 74) 8
abbrev afV:Stmt:=jX (bB 74) 9
abbrev asi:Stmt:=jX (bB 74) 10
abbrev afW:Stmt:=jX (bB 74) 11
abbrev afh:Stmt:=jX (bB 74) 12
abbrev ag2:Stmt:=jX (bB 74) 13
abbrev afz:Stmt:=jX (bB 74) 14
abbrev ag3:Stmt:=jX (bB 74) 15
abbrev asj:Stmt:=jX (bB 74) 16
abbrev aap:Stmt:=bB 78
abbrev ag4:Stmt:=bB 79
abbrev ag5:Stmt:=bB 80
abbrev ag6:Stmt:=bB 81
abbrev Zt:Stmt:=bB 82
abbrev ah8:Stmt:=bB 83
abbrev ah9:Stmt:=bB 85
abbrev amI:Stmt:=bB 87
abbrev amJ:Stmt:=bB 91
abbrev afa:Stmt:=bB 92
abbrev afi:Stmt:=bB 93
abbrev afX:Stmt:=bB 94
abbrev afj:Stmt:=bB 95
abbrev afk:Stmt:=bB 96
abbrev ase:Stmt:=bB 97
abbrev afl:Stmt:=bB 98
abbrev asb:Stmt:=bB 99
abbrev afm:Stmt:=bB 100
abbrev asf:Stmt:=bB 101
abbrev ah_:Stmt:=bB 102
abbrev ah':Stmt:=bB 103
abbrev aia:Stmt:=bB 104
abbrev asl:Stmt:=bB 105
abbrev ag7:Stmt:=bB 106
abbrev agj:Stmt:=bB 107
abbrev agk:Stmt:=bB 108
abbrev ag8:Stmt:=bB 111
abbrev ag9:Stmt:=bB 112
abbrev asp:Stmt:=bB 113
abbrev aib:Stmt:=bB 114
abbrev agl:Stmt:=bB 115
abbrev agm:Stmt:=bB 116
abbrev aic:Stmt:=bB 117
abbrev ag':Stmt:=bB 118
abbrev aie:Stmt:=bB 120
abbrev aif:Stmt:=bB 121
abbrev akg:Stmt:=bB 122
abbrev apR:Stmt:=bB 123
abbrev ae3:Stmt:=bB 124
abbrev agn:Stmt:=bB 125
abbrev Z1:Stmt:=jX (bB 126) 0
abbrev aii:Stmt:=jX (bB 126) 1
abbrev afn:Stmt:=jX (bB 126) 2
abbrev aqN:Stmt:=bB 128
abbrev apS:Stmt:=bB 129
abbrev akh:Stmt:=bB 130
abbrev adR:Stmt:=bB 131
abbrev aoA:Stmt:=bB 132
abbrev apT:Stmt:=bB 133
abbrev apU:Stmt:=bB 134
abbrev apV:Stmt:=bB 135
abbrev aki:Stmt:=bB 136
abbrev yg:Stmt:=bB 137
end
variable {sl:ux} {dc:Value} {ks:bK}
section
open PySem.SeqAt
section
section
variable {a b:Expr} {ta tb:TE} {r:R2}
theorem bW (i:Nat) (hN:X.N.Nodup) (he:PE X e te) (hi:X.N[i]?=some x:=by rfl) (hx:vP X.env.scope x:=by first|exact Or.inl rfl|exact Bu rfl) (hs:swapsWith e (some (.Name x pos')) pos.line X.env=pure false:=by rfl) (hf:X.fn x=true\/X.env.scope.names.lookup x=some .local:=by first|exact .inl rfl|exact .inr rfl|assumption) : PS X (.Assign [.Name x pos'] e pos) (qX te (lK i)):=aoZ hN hi hx he hs hf
theorem fK (i:Nat) (hN:X.N.Nodup) (hi:X.N[i]?=some x:=by rfl) (hx:vP X.env.scope x:=by first|exact Or.inl rfl|exact Bu rfl) (hf:X.fn x=true\/X.env.scope.names.lookup x=some .local:=by first|exact .inl rfl|exact .inr rfl|assumption):PG X (.Name x pos) (lK i):=amS hN hi hx hf
theorem b_ (ha:PE X a ta) (hb:PE X b tb) (hs:R5 b:=by exact λ_ _=>rfl):PE X (.Subscript a b pos) (lO (Dq X.K) ta tb):=uD ady ha hb hs
theorem cJ (ha:PE X a ta) (hb:PE X b tb) (hs:R5 b:=by exact λ_ _=>rfl):PE X (.Subscript a b pos) (lO (GD X.K) ta tb):=uD acv ha hb hs
theorem cQ (ho:dO X (compareOp op) r) (ha:PE X a ta) (hb:PE X b tb) (hm:behindInMarks op b=false:=by exact adv _):PT X (.Compare a [op] [b] pos) (Gp (lO r ta tb)):=zy ho ha hb hm
theorem vN (ho:dO X (compareOp op) r) (ha:PE X a ta) (hb:PE X b tb) (hm:behindInMarks op b=false:=by exact adv _):PE X (.Compare a [op] [b] pos) (lO r ta tb):=Ko ho ha hb hm
theorem j6 (T:Bn X.mg) (he:PE X e te) (hg:Gl X "len":=by rfl) (hs:starEach [e] X.env=(false,eval e X.env)::starEach [] X.env:=by rfl):PE X (.Call (.Name "len" pos') [e] [] pos) (Vc (Oo X.K) (vU te wB)):=jM Zg hg T.zV zu (ao he aq hs) (he:=hs)
end
theorem eG.m {k:Nat} (r:eG k A) (h:j<=k:=by first|decide|omega):eG j A:=r.mono h
theorem zup (f:H a=none) (o:HO):∃ H',upd H a o=H'/\aB H H'/\H' a=some o:=⟨_,rfl,cu f o,aM⟩
local macro_rules|`(tactic| k_mem)=>`(tactic| (intro _ _ _ _ _ _;exact am3))
local macro_rules|`(tactic| k_all)=>`(tactic| (intro _ _ _ _ _ _;refine fK 0 ?_;dsimp only [oV];decide +kernel))
local macro_rules|`(tactic| kl_no)=>`(tactic| first|(show 0<=100000;decide)|(show 1<=100000;decide)|(show 2<=100000;decide)|(show 3<=100000;decide)|(show 4<=100000;decide)|(show 5<=100000;decide)|(show 6<=100000;decide)|(show 7<=100000;decide)|(show 8<=100000;decide))
local macro_rules|`(tactic| o_head $t)=>`(tactic| (have $(Lean.mkIdent `T):ident:=$(Lean.mkIdent `Z.T);have $(Lean.mkIdent `nd):ident:=(by decide +kernel:List.Nodup (α:=Str) $t);refine $(Lean.mkIdent `F.fn.ok) (N:=$t) ⟨rfl,rfl,rfl,$(Lean.mkIdent `nd),rfl,by decide +kernel,by decide +kernel⟩ (λ_ _ _ _ h=>by first|(cases h<;>(subst_vars;rfl;done))|(obtain ⟨_,e,_⟩:=h;subst e;rfl;done)|(obtain ⟨_,_,e,_⟩:=h;subst e;rfl;done)|(obtain ⟨_,_,_,e,_⟩:=h;subst e;rfl;done)|(obtain ⟨_,_,_,_,e,_⟩:=h;subst e;rfl;done)|(obtain ⟨_,_,_,_,_,e,_⟩:=h;subst e;rfl;done)|(obtain ⟨_,_,_,_,_,_,e,_⟩:=h;subst e;rfl;done)|(obtain ⟨e,_⟩:=h;subst e;rfl;done)|(rcases h with h|h<;>(first|(cases h<;>(subst_vars;rfl;done))|(obtain ⟨_,e,_⟩:=h;subst e;rfl;done)|(obtain ⟨_,_,e,_⟩:=h;subst e;rfl;done)|(obtain ⟨_,_,_,e,_⟩:=h;subst e;rfl;done)|(obtain ⟨_,_,_,_,e,_⟩:=h;subst e;rfl;done)|(obtain ⟨_,_,_,_,_,e,_⟩:=h;subst e;rfl;done)|(obtain ⟨_,_,_,_,_,_,e,_⟩:=h;subst e;rfl;done)|(obtain ⟨e,_⟩:=h;subst e;rfl;done)))) (λ_ $(Lean.mkIdent `A) $(Lean.mkIdent `outer) $(Lean.mkIdent `s) $(Lean.mkIdent `H) $(Lean.mkIdent `vs) $(Lean.mkIdent `Q) $(Lean.mkIdent `E) $(Lean.mkIdent `hr) $(Lean.mkIdent `h)=>?_)))
local macro_rules|`(tactic| o_head ($h,$t))=>`(tactic| (refine $h fun $(Lean.mkIdent `f) $(Lean.mkIdent `fd) $(Lean.mkIdent `F)=>?_;o_head $t))
local macro_rules|`(tactic| o_head ($t,1,1))=>`(tactic| (have $(Lean.mkIdent `T):ident:=$(Lean.mkIdent `Z.T);have $(Lean.mkIdent `nd):ident:=(by decide +kernel:List.Nodup (α:=Str) $t);refine $(Lean.mkIdent `F.fn.Vs) (N:=$t) ⟨rfl,rfl,rfl,$(Lean.mkIdent `nd),rfl,by decide +kernel,by decide +kernel⟩ (λ_ _ _ _ h=>by first|(cases h<;>(subst_vars;rfl;done))|(obtain ⟨_,e,_⟩:=h;subst e;rfl;done)|(obtain ⟨_,_,e,_⟩:=h;subst e;rfl;done)|(obtain ⟨_,_,_,e,_⟩:=h;subst e;rfl;done)|(obtain ⟨_,_,_,_,e,_⟩:=h;subst e;rfl;done)|(obtain ⟨_,_,_,_,_,e,_⟩:=h;subst e;rfl;done)|(obtain ⟨_,_,_,_,_,_,e,_⟩:=h;subst e;rfl;done)|(obtain ⟨e,_⟩:=h;subst e;rfl;done)|(rcases h with h|h<;>(first|(cases h<;>(subst_vars;rfl;done))|(obtain ⟨_,e,_⟩:=h;subst e;rfl;done)|(obtain ⟨_,_,e,_⟩:=h;subst e;rfl;done)|(obtain ⟨_,_,_,e,_⟩:=h;subst e;rfl;done)|(obtain ⟨_,_,_,_,e,_⟩:=h;subst e;rfl;done)|(obtain ⟨_,_,_,_,_,e,_⟩:=h;subst e;rfl;done)|(obtain ⟨_,_,_,_,_,_,e,_⟩:=h;subst e;rfl;done)|(obtain ⟨e,_⟩:=h;subst e;rfl;done)))) (λ_ $(Lean.mkIdent `A) $(Lean.mkIdent `outer) $(Lean.mkIdent `s) $(Lean.mkIdent `H) $(Lean.mkIdent `vs) $(Lean.mkIdent `Q) $(Lean.mkIdent `E) $(Lean.mkIdent `hr) $(Lean.mkIdent `h)=>?_)))
local macro_rules|`(tactic| o_head ($h,$t,0))=>`(tactic| (refine $h fun $(Lean.mkIdent `f) $(Lean.mkIdent `fd) $(Lean.mkIdent `F)=>?_;o_head ($t,1,1)))
abbrev adr {H:Hp} {l:Addr} (_:H l=none):=l
theorem aqO {H H':Hp} {l:Addr} {o:HO} (f:H l=none) (e:upd H l o=H'):aB H H'/\H' l=some o:=by subst e;exact ⟨cu f _,aM⟩
theorem aqP {G H H':Hp} {p:Addr} {o:HO} (k:Kp p G H) (e:upd H p o=H'):Kp p G H'/\H' p=some o:=by subst e;exact ⟨yd k Kp.upd,aM⟩
theorem nkr {H:Hp} {p:Addr}:Kp p H H:=λ_ _ e _=>e
theorem aqQ {H H':Hp} {p l:Addr} {o:HO} {xs:aA} (hp:H p=some (.lst xs)) (f:H l=none) (e:upd H l o=H'):Kp p H H'/\H' p=some (.lst xs)/\H' l=some o/\l≠p:=by subst e;exact Z9 hp f _
local macro_rules|`(tactic| w_call $H $h $f $k $q $x $n)=>`(tactic| (generalize e:upd _ (adr $f) _=$H:ident;obtain ⟨$k:ident,$q:ident,$x:ident,$n:ident⟩:=aqQ $h $f e;clear e))
local macro_rules|`(tactic| km_lay $_ $H $f $s $x)=>`(tactic| (generalize e:upd _ (adr $f) _=$H:ident;obtain ⟨$s:ident,$x:ident⟩:=aqO $f e;clear e))
local macro_rules|`(tactic| kn_lay $l $f $H $s $x)=>`(tactic| (refine ⟨aW (by kl_no),fun $l $f=>?_⟩;km_lay $l $H $f $s $x))
local macro_rules|`(tactic| wrow_args $p $H $j $k $q)=>`(tactic| (generalize e:upd _ $p _=$H:ident;obtain ⟨$k:ident,$q:ident⟩:=aqP $j e;clear e))
local macro_rules|`(tactic| row_wit1 $t)=>`(tactic| (intro _ _ _ _ _ _;exact $t))
local macro_rules|`(tactic| w_tab)=>`(tactic| (intro _ _ _ _ _ _;refine am4 $(Lean.mkIdent `K) rfl (n:=2) rfl (ji (fK 0 ?_) (ji (fK 1 ?_) qG))<;>(dsimp only [oV];decide +kernel)))
local macro_rules|`(tactic| walk_at "cm")=>`(tactic| first|exact .inr ⟨by decide,by decide⟩|exact .inl ⟨by decide,by decide⟩|exact .inl ⟨by omega,by omega⟩|exact .inr ⟨by omega,by omega⟩)
local macro_rules|`(tactic| walk_at "side")=>`(tactic| first
 |(show (0:Int)<_;first|decide|omega)
 |(show Dp _ _;walk_at "cm")
 |(show List.length _<=sizeLine;exact aW (by simp only [gw,List.length_nil]<;>omega))
 |(show Ve _ _ _ _;exact .inl ⟨rfl,_,aN (by walk_at "hh")⟩)
 |(show aem _ _;exact ⟨by decide,by decide,by decide⟩)
 |(show _/\_;exact ⟨by first|decide|omega,by first|decide|omega⟩)
 |omega)
local macro_rules|`(tactic| walk_at "rd1")=>`(tactic| first
 |refine ⟨_,rfl,?_⟩
 |refine ⟨_,_,rfl,rfl,?_⟩
 |refine ⟨_,_,_,_,rfl,rfl,aN (by assumption),by first|rfl|assumption,?_⟩
 |refine ⟨_,_,_,_,rfl,rfl,aZ (by assumption),by first|rfl|assumption,?_⟩
 |refine ⟨_,_,rfl,rfl,by walk_at "side",?_⟩
 |refine aeo.mk rfl ?_
 |refine aep.mk rfl ?_
 |refine T7.mk (by walk_at "side") ?_
 |refine And.intro rfl ?_
 |refine And.intro (by walk_at "side") ?_
 |refine Bu ⟨_,rfl,?_⟩)
local macro_rules|`(tactic| walk_at "rd")=>`(tactic| repeat walk_at "rd1")
local macro_rules|`(tactic| walk_at "ne")=>`(tactic| first
 |assumption
 |exact bF (by assumption)
 |exact ne1 (by assumption) (by walk_at "hh")
 |exact ne2 (by assumption) (by walk_at "hh")
 |exact zW (by assumption) (by walk_at "hh")
 |exact ne4 (by assumption) (by walk_at "hh"))
local macro_rules|`(tactic| walk_at "hh")=>`(tactic| first
 |assumption
 |exact aM
 |exact (aV (by walk_at "ne")).trans (by walk_at "hh")
 |exact (by assumption:aB _ _) _ _ (by walk_at "hh")
 |exact (by assumption:Kp _ _ _) _ _ (by walk_at "hh") (by walk_at "ne"))
local macro_rules|`(tactic| walk_at "fr")=>`(tactic| first
 |assumption
 |exact aqn (by assumption) (by walk_at "sm"))
local macro_rules|`(tactic| walk_at "sm")=>`(tactic| first
 |assumption
 |exact cW _
 |exact bR (by walk_at "fr") (by walk_at "sm")
 |exact asR (by assumption) (by walk_at "sm"))
local macro_rules|`(tactic| walk_at "kt")=>`(tactic| first
 |exact bY _
 |assumption
 |exact KT.new (by assumption) (by walk_at "kt")
 |exact lN (by walk_at "hh") (by walk_at "kt")
 |exact cG (by assumption) (by walk_at "kt")
 |exact KT.kp (by assumption) (by walk_at "hh") (by walk_at "kt"))
theorem afY:rW ["text"] ["text"] (gG Zt):=⟨rfl,rfl,rfl,by k_go,rfl,by k_go,by k_go⟩
theorem ago {w:Int×Int}:startswith (Mk (jB (w::ws))) ⟨#[32]⟩=true:=by unfold startswith;have:=(RM (Mk (jB (w::ws))) 32 0).mpr rfl;rw [this.2,Bool.and_true];exact fM this.1
theorem aha:rW ["net"] ["net"] (gG aap):=⟨rfl,rfl,rfl,by k_go,rfl,by k_go,by k_go⟩
def yG (w:Int×Int):Str:=empty++(" ":Str)++bL w.1++("-":Str)++bL w.2
theorem adS {w:Int×Int} (h:0<=w.1/\w.1<=9/\0<=w.2/\w.2<=9):Ls (yG w)=32::Ls (m_ w):=by unfold yG;rw [zU h.1 h.2.1,zU h.2.2.1 h.2.2.2,gW,gW,gW,gW];rfl
theorem aoB {w:Int×Int} (h:0<=w.1/\w.1<=9/\0<=w.2/\w.2<=9):(yG w).length=4:=by rw [<-cO,adS h];rfl
theorem Ep:rW ["wide","half","inner","wickets","paper"] ["wide"] (gG Q6):=⟨rfl,rfl,rfl,by k_go,rfl,by k_go,by k_go⟩
theorem abM:rW ["wide","half"] ["wide"] (gG Sw):=⟨rfl,rfl,rfl,by k_go,rfl,by k_go,by k_go⟩
theorem afA:rW ["net"] ["net"] (gG Zf):=⟨rfl,rfl,rfl,by k_go,rfl,by k_go,by k_go⟩
theorem aij {w:Int×Int} {x:Int} (hw:ws[i]?=some w) (hx:d[i]?=some x):gJ (ws.take (i+1)) (d.take (i+1))=gJ (ws.take i) (d.take i)++(if x=1 then [w] else []):=by have b:i<ws.length:=(dY.mp hw).1;have e:i<d.length:=(dY.mp hx).1;have a:ws.take (i+1)=ws.take i++[w]:=fZ hw;have ex:d.take (i+1)=d.take i++[x]:=fZ hx;unfold gJ;rw [a,ex,List.zip_append (by rw [gV,gV];lk),zq,cX];by_cases c:x=1<;>simp [c]
theorem Ie:rW ["one","other","deeper","seconds","numbers"] ["one","other"] (gG Y6):=⟨rfl,rfl,rfl,by k_go,rfl,by k_go,by k_go⟩
theorem arL (d:Nat):mz 0 ((2 ^ d:Nat):Int)=(range (2 ^ d)).map λk:Nat=>(k:Int):=by unfold mz;rw [Fl,kO];exact xu λk _=>by lk
theorem aoC (x:Int) (ns:aF):lM (.int x) (ns.map V.int)=decide (x∈ns):=by
 unfold lM;induction ns with
 |nil=>rfl
 |cons a r b =>
  rw [gb,yN,b];by_cases c:x=a
  ·simp [c,lA]
  ·simp [c,lA,bF c]
theorem aaq {G':Hp} (k:∀ t,G t=none->G' t=none):∀ {rs:aA} {M:List aF},fD G H l rs M->fD G' H l rs M
 |_,_,.nil=>.nil
 |_,_,.cons ⟨t,e,n,g,h⟩ r=>.cons ⟨t,e,n,k t g,h⟩ (aaq k r)
theorem aik (ws:aP) (d:aF):(gJ ws d).length<=ws.length:=by unfold gJ;rw [bh];refine gR (ab6 _ _) ?_;rw [List.length_zip];exact R0 _ _
theorem aoD:rW ["_law_net"] ["_law_net"] (gG adR):=⟨rfl,rfl,rfl,by k_go,rfl,by k_go,by k_go⟩
def DY (w:Int×Int):Str:=bL w.1++("-":Str)++bL w.2
theorem adT {w:Int×Int} (h:0<=w.1/\w.1<=9/\0<=w.2/\w.2<=9):DY w=m_ w:=by refine pU ?_;unfold DY;rw [zU h.1 h.2.1,zU h.2.2.1 h.2.2.2,gW,gW];rfl
theorem us1 (h:us.length=1):∃ a,us=[a]:=by
 cases us with
 |nil=>cases h
 |cons a r=>cases r with
  |nil=>exact ⟨a,rfl⟩
  |cons b r=>simp at h
theorem us2 (h:us.length=2):∃ a b,us=[a,b]:=by
 cases us with
 |nil=>cases h
 |cons x r =>obtain ⟨a,rfl⟩:=us1 (us:=r) (by simpa using h);exact ⟨x,a,rfl⟩
theorem us3 (h:us.length=3):∃ a b c,us=[a,b,c]:=by
 cases us with
 |nil=>cases h
 |cons x r =>obtain ⟨a,b,rfl⟩:=us2 (us:=r) (by simpa using h);exact ⟨x,a,b,rfl⟩
theorem us4 (h:us.length=4):∃ a b c d,us=[a,b,c,d]:=by
 cases us with
 |nil=>cases h
 |cons x r =>obtain ⟨a,b,c,rfl⟩:=us3 (us:=r) (by simpa using h);exact ⟨x,a,b,c,rfl⟩
theorem us5 (h:us.length=5):∃ a b c d e,us=[a,b,c,d,e]:=by
 cases us with
 |nil=>cases h
 |cons x r =>obtain ⟨a,b,c,d,rfl⟩:=us4 (us:=r) (by simpa using h);exact ⟨x,a,b,c,d,rfl⟩
theorem us6 (h:us.length=6):∃ a b c d e f,us=[a,b,c,d,e,f]:=by
 cases us with
 |nil=>cases h
 |cons x r =>obtain ⟨a,b,c,d,e,rfl⟩:=us5 (us:=r) (by simpa using h);exact ⟨x,a,b,c,d,e,rfl⟩
theorem us7 (h:us.length=7):∃ a b c d e f g,us=[a,b,c,d,e,f,g]:=by
 cases us with
 |nil=>cases h
 |cons x r =>obtain ⟨a,b,c,d,e,f,rfl⟩:=us6 (us:=r) (by simpa using h);exact ⟨x,a,b,c,d,e,f,rfl⟩
inductive yh:bV->bK->Prop
 |nil:yh [] []
 |cons {t:Tok} {x:Str} {vs:bV} {xs:bK}:yh vs xs->yh (.str x t::vs) (x::xs)
theorem yh.vals {xs:bK} (h:yh vs xs):bO (xs.map V.str) vs:=by
 induction h with
 |nil=>exact .nil
 |cons _ a=>exact .cons ⟨_,rfl⟩ a
theorem yh.len {xs:bK} (h:yh vs xs):vs.length=xs.length:=by
 induction h with
 |nil=>rfl
 |cons _ a=>exact je (·+1) a
local macro_rules|`(tactic| walk_at "b1")=>`(tactic| (intro _ _ _ _ _ _ u h;obtain ⟨_,e⟩:=us1 h;subst e;rfl))
local macro_rules|`(tactic| walk_at "b2")=>`(tactic| (intro _ _ _ _ _ _ u h;obtain ⟨_,_,e⟩:=us2 h;subst e;rfl))
local macro_rules|`(tactic| walk_at "b3")=>`(tactic| (intro _ _ _ _ _ _ u h;obtain ⟨_,_,_,e⟩:=us3 h;subst e;rfl))
local macro_rules|`(tactic| walk_at "b4")=>`(tactic| (intro _ _ _ _ _ _ u h;obtain ⟨_,_,_,_,e⟩:=us4 h;subst e;rfl))
local macro_rules|`(tactic| walk_at "bb")=>`(tactic| first|walk_at "b1" |walk_at "b2" |walk_at "b3" |walk_at "b4")
section
variable {q:Str} {st:Stmt} {k:Nat} {uP:Sp}
abbrev Ph (K:bG) (mg:dR) (x:Str) (st:Stmt):Prop:=∃ f fd,oW K mg x st f fd
theorem aqR {kV:Value} (X:K.In h) (G:h.Ns mainGlobals mg) (a:nsIn K mainGlobals x=some (some (.ref f))) (l:K.lookup f=some ⟨oc,od,.func (fnOf x x (kJ st) (jO st) (gG st) .none kV dc pm an cd ct),sl⟩) (c:codeIn K cd x=true) (k:keepIn K (.ref f)=true):Ph K mg x st:=⟨_,_,K6 l c k,kj X G a⟩
theorem dz (p:Ph K mg x st) (F:∀ f fd,oW K mg x st f fd->dw P w K mg au jL k f fd ps sp) (hb:∀ (kV doc pm:Value) (an:jy) (cdv ct:Value) (us:bV),us.length=ps.length->bindArgs (fnOf x x (kJ st) (jO st) (gG st) .none kV doc pm an cdv ct) ⟨us,[]⟩=pure (ps.zip us):=by walk_at "bb"):pJ P w K mg au x k ps sp:=let ⟨f,fd,h⟩:=p;h.callee (F f fd h) hb
theorem wD (p:Ph K mg x st) (F:∀ f fd,oW K mg x st f fd->dw P w K mg au (lU P w) k f fd ps sp) (hb:∀ (kV doc pm:Value) (an:jy) (cdv ct:Value) (us:bV),us.length=ps.length->bindArgs (fnOf x x (kJ st) (jO st) (gG st) .none kV doc pm an cdv ct) ⟨us,[]⟩=pure (ps.zip us):=by walk_at "bb"):rY P w K mg au x k ps sp:=let ⟨f,fd,h⟩:=p;h.Sq (F f fd h) hb
theorem rY.imp (C:rY P w K mg au x k ps sp) (h:∀ vs H Q E,uP vs H Q E->sp vs H Q E):rY P w K mg au x k ps uP :=
 let ⟨f,fd,a,b,c,d⟩:=C.ex
 ⟨f,fd,a.imp h,b,c,d⟩
theorem rY.non (C:rY P w K mg au x k ps sp) (h:∀ vs H Q E,uP vs H Q E->sp vs H Q λ_ _ _=>False):pJ P w K mg au x k ps uP :=
 let ⟨f,fd,a,b,c,d⟩:=C.ex
 ⟨f,fd,a.none.imp h,b,c,d⟩
abbrev Pm (K:bG) (mg:dR) (C:Addr) (x q:Str) (st:Stmt):Prop:=∃ f fd,vY K mg C x q st f fd
theorem aqS {kV:Value} (mg:dR) (a:findIn K (.ref C) x=some (some (.ref f))) (i:isFn K (.ref f)=true) (l:K.lookup f=some ⟨oc,od,.func (fnOf x q (kJ st) (jO st) (gG st) .none kV dc pm an cd ct),sl⟩) (c:codeIn K cd q=true) (k:keepIn K (.ref f)=true):Pm K mg C x q st:=⟨_,_,K6 l c k,a,i,k⟩
theorem pF (p:Pm K mg C x q st) (F:∀ f fd,vY K mg C x q st f fd->dw P w K mg au jL k f fd ps sp) (hb:∀ (kV doc pm:Value) (an:jy) (cdv ct:Value) (us:bV),us.length=ps.length->bindArgs (fnOf x q (kJ st) (jO st) (gG st) .none kV doc pm an cdv ct) ⟨us,[]⟩=pure (ps.zip us):=by walk_at "bb"):j7 P w K mg au C x k ps sp:=let ⟨f,fd,h⟩:=p;h.arw (F f fd h) hb
theorem arM (p:Pm K mg C x q st) (F:∀ f fd,vY K mg C x q st f fd->dw P w K mg au (lU P w) k f fd ps sp) (hb:∀ (kV doc pm:Value) (an:jy) (cdv ct:Value) (us:bV),us.length=ps.length->bindArgs (fnOf x q (kJ st) (jO st) (gG st) .none kV doc pm an cdv ct) ⟨us,[]⟩=pure (ps.zip us):=by walk_at "bb"):Dg P w K mg au C x k ps sp:=let ⟨f,fd,h⟩:=p;h.aqt (F f fd h) hb
theorem Dg.non (D:Dg P w K mg au C x k ps sp):j7 P w K mg au C x k ps (λvs H Q _=>sp vs H Q λ_ _ _=>False) :=
 let ⟨f,fd,a,b,c⟩:=D.ex
 ⟨f,fd,a.none,b,c⟩
abbrev vR (es:Array DictEntry):iT:=wz es.toList E_
abbrev Pr (K:bG) (mg:dR) (vs:iT) (w0:Str) (ks:bK) (x:Str) (st:Stmt):Prop:=∃ f fd,oW K mg x st f fd/\UW K vs w0 ks f
theorem aqT {es:Array DictEntry} {kV:Value} (X:K.In h) (G:h.Ns mainGlobals mg) (i:Nat) {r kt:Addr} {hh:Int} {ky:Value} {o1 o2:jy} {n1 n2:Nat} {s1 s2:ux} {ts:g_} (a:nsIn K mainGlobals x=some (some (.ref f))) (l:K.lookup f=some ⟨oc,od,.func (fnOf x x (kJ st) (jO st) (gG st) .none kV dc pm an cd ct),sl⟩) (c:codeIn K cd x=true) (k:keepIn K (.ref f)=true) (hi:E_[i]?=some w0) (lk9:ks.length<=9) (ex:es.toList[i]?=some ⟨hh,ky,.ref r⟩) (lr:K.lookup r=some ⟨.type "tuple",o1,.seq #[.ref kt,.ref f] n1,s1⟩) (mD:K.lookup kt=some ⟨.type "tuple",o2,.seq ts n2,s2⟩) (hs:yh ts.toList ks):Pr K mg (vR es) w0 ks x st:=⟨_,_,⟨K6 l c k,kj X G a⟩,r,kt,abB ZR ex hi,λH=>.inr ⟨_,_,_,lr,rfl,rfl,aW (by show 2<=100000;decide),.cons rfl (.cons rfl .nil)⟩,λH=>.inr ⟨_,_,_,mD,rfl,rfl,aW (show ts.size<=100000 by have:=hs.len;rw [xQ] at this;omega),hs.vals⟩⟩
theorem Dy {vs:iT} (k:Nat) (p:Pr K mg vs w0 ks x st) (F:∀ f fd,oW K mg x st f fd->dw P w K mg au (lU P w) k f fd ["things"] sp) (hk:k<=13:=by decide) (hb:∀ (kV doc pm:Value) (an:jy) (cdv ct:Value) (us:bV),us.length=(["things"]:bK).length->bindArgs (fnOf x x (kJ st) (jO st) (gG st) .none kV doc pm an cdv ct) ⟨us,[]⟩=pure ((["things"]:bK).zip us):=by walk_at "bb"):pA P w K mg au vs 13 w0 ks sp:=let ⟨f,fd,h,r⟩:=p;⟨_,r,⟨_,(F f fd h).mono hk,h.fn.binds hb,h.fn.2⟩⟩
theorem qg {vs:iT} (k:Nat) (p:Pr K mg vs w0 ks x st) (F:∀ f fd,oW K mg x st f fd->dw P w K mg au jL k f fd ["things"] sp) (hk:k<=13:=by decide) (hb:∀ (kV doc pm:Value) (an:jy) (cdv ct:Value) (us:bV),us.length=(["things"]:bK).length->bindArgs (fnOf x x (kJ st) (jO st) (gG st) .none kV doc pm an cdv ct) ⟨us,[]⟩=pure ((["things"]:bK).zip us):=by walk_at "bb"):pA P w K mg au vs 13 w0 ks sp:=Dy k p (λf fd h=>(F f fd h).up) hk hb
end
structure Ev0 (K:bG) (mg:dR) (C:Addr) (Cd:Addr) (fL:Array DictEntry):Prop where
 p1:Ph K mg "_law_take" apS
 p2:Ph K mg "_law_pen" aqN
 p3:Ph K mg "_law_wickets" akh
 p4:Ph K mg "is_whole" ah5
 p5:Ph K mg "is_lane" akf
 p6:Ph K mg "is_wicket" agY
 p7:Ph K mg "are_wickets" afU
 p8:Ph K mg "makes_net" agZ
 p9:Ph K mg "net_of" amC
 Hq:Ph K mg "is_number" ag4
 VH:Ph K mg "number_of" ag5
 VJ:Ph K mg "wicket_of" ag6
 VL:Ph K mg "wickets_of" Zt
 VN:Ph K mg "read_net" ah8
 VP:Ph K mg "show_net" aap
 VR:Ph K mg "refuse_unless_halved" ae4
 V0:Ph K mg "in_both_halves" ae'
 V1:Ph K mg "across" amD
 V2:Ph K mg "by_falling_gaps" ae9
 V3:Ph K mg "folded" Q6
 V4:Ph K mg "block" Sw
 V5:Ph K mg "rounds" amE
 V6:Ph K mg "joined" amF
 V7:Ph K mg "behind" amG
 V8:Ph K mg "mirrored" ah6
 V9:Ph K mg "let_through" afR
 V_:Ph K mg "exits" aox
 Wa:Ph K mg "layers" amw
 Wb:Ph K mg "depth" aoy
 Wc:Ph K mg "depth_power" afS
 Wg:Ph K mg "all_on_one" agd
 Wh:Ph K mg "shares" amx
 Wi:Ph K mg "uneven" amy
 Wj:Ph K mg "longer_rows" afT
 Wm:Ph K mg "rows_of" ake
 Wn:Ph K mg "first_layer" Zf
 Wo:Ph K mg "common_trials" Y6
 Wq:Ph K mg "trials" amA
 Wr:Ph K mg "falls" aoz
 Ws:Ph K mg "is_level" ah9
 Wu:Ph K mg "levels" amI
 Wv:Ph K mg "put_in_order" afx
 Ww:Ph K mg "orders" amH
 Wx:Ph K mg "one_lane_each" afg
 Wy:Ph K mg "first_that_parts" ae7
 Wz:Ph K mg "parted" amB
 WD:Ph K mg "place_on" ah7
 WK:Ph K mg "numbers_of" agf
 WL:Pm K mg C "__init__" "Play.__init__" Z0
 WM:Pm K mg C "come_in" "Play.come_in" afy
 WQ:Pm K mg C "enter" "Play.enter" agg
 WR:Pm K mg C "where" "Play.where" agh
 WT:Pm K mg C "turn" "Play.turn" ag1
 WW:Pm K mg C "pass_wicket" "Play.pass_wicket" ae8
 WX:Pm K mg C "leave" "Play.leave" agi
 WY:Pm K mg C "step" "Play.step" ag0
 W0:Pm K mg C "inside" "Play.inside" afV
 W2:Pm K mg C "counts" "Play.counts" afW
 W3:Pm K mg C "standing" "Play.standing" afh
 W4:Pm K mg C "owed" "Play.owed" ag2
 W5:Pm K mg C "lacking" "Play.lacking" afz
 W6:Pm K mg C "rest" "Play.rest" ag3
 W7:Ph K mg "spaced" amJ
 W8:Ph K mg "spaced_or_none" afa
 W9:Pr K mg (vR fL) "net" ["new net","text"] "net_by_text" afX
 W_:Pr K mg (vR fL) "folded" ["new net","number"] "net_by_folded" afj
 Xa:Pr K mg (vR fL) "rounds" ["new net","number"] "net_by_rounds" afk
 Xb:Pr K mg (vR fL) "behind" ["new net","net","net"] "net_by_behind" afl
 Xc:Pr K mg (vR fL) "mirror" ["new net","net"] "net_by_mirror" afm
 Xd:Pr K mg (vR fL) "play" ["new play","net"] "new_play" ah_
 Xe:Pr K mg (vR fL) "rest" ["play"] "say_rest" ah'
 Xf:Pr K mg (vR fL) "show" ["net"] "say_show" aia
 Xg:Pr K mg (vR fL) "exits" ["net","number"] "say_exits" ag7
 Xh:Ph K mg "verdict_words" afi
 Xi:Pr K mg (vR fL) "levels" ["net"] "say_levels" agj
 Xj:Pr K mg (vR fL) "orders" ["net"] "say_orders" agk
 Xk:Pr K mg (vR fL) "alike" ["net","net"] "say_alike" ag8
 Xl:Pr K mg (vR fL) "enter" ["play","number"] "say_enter" ag9
 Xm:Pr K mg (vR fL) "step" ["play","number"] "say_step" aib
 Xn:Pr K mg (vR fL) "counts" ["play"] "say_counts" agl
 Xo:Pr K mg (vR fL) "stands" ["play"] "say_stands" agm
 Xp:Pr K mg (vR fL) "owes" ["play"] "say_owes" aic
 Xq:Pr K mg (vR fL) "lacks" ["play"] "say_lacks" ag'
 Xr:Ph K mg "words_of" aie
 Xu:Ph K mg "kinds_of" aif
 Xv:Ph K mg "is_name" akg
 Xw:Ph K mg "fits" apR
 Xx:Ph K mg "refuse_unless_fitting" ae3
 Xy:Ph K mg "taken_from" agn
 Xz:Pm K mg Cd "__init__" "Desk.__init__" Z1
 XD:Pm K mg Cd "thing_of" "Desk.thing_of" afn
 XF:Pm K mg Cd "say" "Desk.say" aii
 XH:Ph K mg "_law_text" adR
 XJ:Ph K mg "_law_words" aoA
 XM:Ph K mg "_law_said" apT
 XQ:Ph K mg "_law_made" apU
 XR:Ph K mg "_law_gone" apV
 XS:Ph K mg "_law_at_rest" aki
structure Ev (P:Program) (w:World) (K:bG) (mg:dR) (au:Heap) (C:Addr) (Cd:Addr) (fL:Array DictEntry) (eA:Dw) (RW:Addr):Prop extends Ev0 K mg C Cd fL where
 TP:ad3 K C
 TD:ad' K Cd
 D_:ad6 K mg eA.many
 yH:adF K mg eA.pY
 Ea:aeC K mg eA
 GH:ad7 K mg
 Oz:∃ t,mg "LONGEST_NAME"=some (.int 8 t)
 Pj:∃ t,mg "MOST_LANES"=some (.int 8 t)
 Ih:∃ t,mg "MOST_WICKETS"=some (.int 40 t)
 Oj:∃ t,mg "MOST_DOUBLINGS"=some (.int 10 t)
 OD:∃ t,mg "MOST_FIGURES"=some (.int 60 t)
 Ou:∃ t,mg "SMALL_LETTERS"=some (.str "abcdefghijklmnopqrstuvwxyz" t)
 Q7:∃ t,mg "FIGURES"=some (.str "0123456789" t)
 RT:aea P w K mg RW (vR fL)
 T:Bn mg
 akj:makesIn K C=true
 akk:keepIn K (.ref C)=true
 akl:mg "Play"=some (.ref C)
 akm:makesIn K Cd=true
 akn:keepIn K (.ref Cd)=true
 ako:mg "Desk"=some (.ref Cd)
section
variable {fL:Array DictEntry} {eA:Dw} {RW:Addr} (Z:Ev P w K mg au C Cd fL eA RW)
abbrev Gc (_:Ev P w K mg au C Cd fL eA RW) (x:Str) (k:Nat) (ps:bK) (sp:Sp):Prop:=pJ P w K mg au x k ps sp
abbrev Ge (_:Ev P w K mg au C Cd fL eA RW) (x:Str) (k:Nat) (ps:bK) (sp:Sp):Prop:=rY P w K mg au x k ps sp
abbrev Gr (_:Ev P w K mg au C Cd fL eA RW) (x:Str) (ks:bK) (sp:Sp):Prop:=pA P w K mg au (vR fL) 13 x ks sp
def tU:Gc Z "_law_take" 1 ["_law_pen_here","_law_size"] ao':=by
 o_head (dz Z.p1,["_law_pen_here","_law_size","_law_found","_law_number"]);obtain ⟨p,a,b,c,n,rfl,e,d,h1,k⟩:=h;refine ⟨_,(aU (cP (cQ vQ (cJ (pv 0) aL) aL)
 (aU (bW 2 nd (bD nU (cJ (pv 0) aL) (pv 1)))
 (aU (qP (bD abj (cJ (pv 0) aL) (pv 1)) (qO (pv 0) aL pI))
 (aO (bw (pv 2)))))
 cT)
 (aU (qP (bD jQ (cJ (pv 0) aL) aL) (qO (pv 0) aL pI))
 (aU (bW 3 nd (bD nU (bD pP (bD jQ (cJ (pv 0) aL) (bD pP aL (cJ (pv 0) aL))) aL) aL))
 (aU (bW 3 nd (bD nU (bD jQ (bD pP (pv 3) (pv 3)) (bD pP aL (cJ (pv 0) aL))) aL))
 (aU (bW 3 nd (bD nU (bD pP (pv 3) (bD jQ (bD nU (pv 3) aL) (cJ (pv 0) aL))) aL))
 (aO (bw (bD nU (bD abj (pv 3) aL) (pv 1))))))))),?_⟩
 walk_at "rd";refine pB (λg=>?_) (λg=>?_)
 ·walk_at "rd";refine ⟨p,_,_,_,rfl,rfl,e,rfl,?_⟩;walk_at "rd";exact k _ _ _ _ (rQ _ (by lk)) (rR _ d)
 ·walk_at "rd";refine ⟨p,_,_,_,rfl,rfl,e,rfl,?_⟩;have i:(upd H p (HO.lst [V.int a,V.int (b+1),V.int c])) p=some (.lst [V.int a,V.int (b+1),V.int c]):=aM;walk_at "rd";exact k _ _ _ _ (rQ _ (by lk)) (rR _ d)
def Qy:Gc Z "_law_pen" 1 ["_law_script","_law_k"] (aqm K):=by
 o_head (dz Z.p2,["_law_script","_law_k","_law_cell"]);obtain ⟨a,ns,k,rfl,c,e,i,h1,q⟩:=h;refine ⟨_,(aU (bW 2 nd (bD jQ (bD pP aL (pv 1)) aL))
 (aU (cP (cQ vQ (j6 T (pv 0)) aL)
 (aU (bW 2 nd (cJ (pv 0) (bD nU (pv 1) (j6 T (pv 0)))))
 (aO (cP (cQ T8 (pv 1) (j6 T (pv 0)))
 (aO (bW 2 nd (bD jQ (bD nU (pv 2) aL) (bD pP aL (pv 1)))))
 cT)))
 cT)
 (aU (cP (cQ T8 (pv 2) (bD adp aL aL))
 (aO (bw (fj (ao (bD qR (pv 2) (bD adp aL aL)) (ao aL (ao (bD jQ (bD nU (pv 2) aL) (pv 1)) aq))))))
 cT)
 (aO (bw (fj (ao aL (ao aL (ao (bD jQ (bD nU (pv 2) aL) (bD pP aL (pv 1))) aq))))))))),?_⟩
 have d:(ns.map V.int).length=ns.length:=bh _;walk_at "rd";refine ⟨_,_,rfl,.inl c,?_⟩;walk_at "rd";refine pB (λg=>?_) (λg=>?_)
 ·have g':=jH g;rw [d] at g';walk_at "rd";refine ⟨_,_,rfl,.inl c,?_⟩;walk_at "rd";refine ⟨a,_,_,_,rfl,rfl,c,lY (rQ _ (by lk)) (by rw [d];exact rR _ (by lk)),?_⟩;walk_at "rd";refine ⟨_,_,rfl,.inl c,?_⟩;walk_at "rd";refine pB (λg=>?_) (λg=>?_)
  all_goals
   walk_at "rd";refine pB (λg=>?_) (λg=>?_)
   ·walk_at "rd";intro p b;exact q p _ _ _ b
   ·walk_at "rd";intro p b;exact q p _ _ _ b
 ·walk_at "rd";refine pB (λg=>?_) (λg=>?_)
  ·walk_at "rd";intro p b;exact q p _ _ _ b
  ·walk_at "rd";intro p b;exact q p _ _ _ b
def afZ:Gc Z "_law_wickets" 2 ["_law_pen_here","_law_wide","_law_many"] aiM:=by
 o_head (dz Z.p3,["_law_pen_here","_law_wide","_law_many","_law_found","_law_k","_law_first"]);obtain ⟨p,aj,d,rfl,⟨a0,b0,c0,o⟩,w1,w8,m0,m41,q⟩:=h;refine ⟨_,(aU (bW 3 nd (fj aq))
 (aU (jx jj rfl  (qu rfl T.lD (ao (bD pP (pv 2) (iu aiC rfl T.Le Qe (ao (vN vQ (pv 1) aL) aq))) aq)) (fK 4 nd)
 (aU (bW 5 nd (bH (tU Z) hr.m rfl (ao (pv 0) (ao (pv 1) aq))))
 (aO (kI (iV oN vo vp tV (pv 3) (ao (gZ (ao (pv 5) (ao (bD nU (bD jQ (bD jQ (pv 5) aL) (bH (tU Z) hr.m rfl (ao (pv 0) (ao (bD qR (pv 1) aL) aq)))) (pv 1)) aq))) aq))))))
 (aO (bw (pv 3))))),?_⟩
 walk_at "rd";intro l y;have k:p≠l:=cV o y;walk_at "rd";have hj:∃ j:Nat,d*(if decide (1<aj)=true then (1:Int) else 0)=(j:Int)/\(j:Int)<=d/\(0<j->1<aj):=by
  by_cases B:1<aj
  ·exact ⟨d.toNat,by rw [aQ (fM B)];lk, by lk, λ_=>B⟩
  ·exact ⟨0,by rw [aK (by simpa using B)];lk, by lk, λz=>absurd z (by lk)⟩
 obtain ⟨j,ej,jm,Y⟩:=hj;show -(2 ^ 62)<=d*(if decide (1<aj)=true then (1:Int) else 0)/\_;rw [ej];refine ⟨by lk, by lk, ?_⟩;refine Iz (n:=(j:Int).toNat) (λi σ Hc=>∃ (J M:Option V) (ws:aP),σ=[some (.ref p),some (.int aj),some (.int d),some (.ref l),J,M]/\Kp p H Hc/\wG Hc p/\m5 Hc l ws/\bJ aj ws/\ws.length=i) ⟨none,none,[],rfl,Kp.put y (Kp.refl _ _),⟨a0,b0,c0,by rw [aV k];exact o⟩,⟨[],aM,.nil⟩,bJ.nil,rfl⟩ ?_ ?_
 ·rintro i σ Hc hlt ⟨J,M,ws,rfl,kp,⟨a,b,c,O⟩,⟨rs,g,U⟩,ok,len⟩;have B:1<aj:=Y (by lk);walk_at "rd";refine ⟨p,a,b,c,aj,rfl,O,by lk, by lk, λv I C D v0 vw=>?_⟩;have hl1:(upd Hc p (HO.lst [V.int I,V.int C,V.int D])) l=some (.lst rs):=by rw [aV (bF k)];exact g
  walk_at "rd";refine ⟨p,I,C,D,aj-1,rfl,aM,by lk, by lk, λu S W R u0 uw=>?_⟩;walk_at "rd";intro t r;have x:Kp p Hc (upd (upd (upd Hc p (HO.lst [V.int I,V.int C,V.int D])) p (HO.lst [V.int S,V.int W,V.int R])) t (HO.tup [V.int v,V.int ((v+1+u) % aj)])):=yd (yd Kp.upd Kp.upd) (Kp.same (cu r _));have X3:t≠l:=λz=>by rw [z,aV (bF k),aV (bF k),g] at r;cases r
  have Hr:t≠p:=λz=>by rw [z,aM] at r;cases r
  refine ⟨l,rs,_,rfl,rfl,x l _ g (bF k),nY (by have:=U.len;lk),?_⟩;have N:(v+1+u) % aj≠v/\0<=(v+1+u) % aj/\(v+1+u) % aj<aj:=by
   refine ⟨λz=>?_,rQ _ (by lk),rR _ (by lk)⟩;by_cases hh:v+1+u<aj
   ·rw [J6 (by lk) hh] at z;lk
   ·have e2:(v+1+u) % aj=v+1+u-aj:=by rw [Int.emod_eq_emod_iff_emod_sub_eq_zero.mpr (show (v+1+u-(v+1+u-aj)) % aj=0 by rw [show v+1+u-(v+1+u-aj)=aj by lk];exact Int.emod_self)];exact J6 (by lk) (by lk)
    rw [e2] at z;lk
  refine ⟨_,_,ws++[(v,(v+1+u) % aj)],rfl,Kp.put y (yd kp x),?_,?_,ok.app (bJ.one ⟨v0,vw,N.2.1,N.2.2,bF N.1⟩),by simp [len]⟩
  ·exact ⟨S,W,R,by rw [aV k,aV (bF Hr),aM]⟩
  ·refine ⟨_,aM,?_⟩;have L:=U.kp x O;refine (L.app (.cons ⟨t,rfl,aM⟩ .nil)).mono λb xs e=>?_;rw [aV (λz=>?_)]
   ·exact e
   ·subst z;rw [x _ _ g (bF k)] at e;cases e
 ·rintro σ Hc ⟨J,M,ws,rfl,kp,pn,wl,ok,len⟩;walk_at "rd";exact q l ws Hc y kp pn wl ok (by lk)
def aar:Gc Z "is_whole" 1 ["thing"] abq:=by
 o_head (dz Z.p4,["thing"]);obtain ⟨x,rfl,h⟩:=h;refine ⟨_,(aO (bw (vI (jM Ek rfl T.Bb boot_isinstance (ao (pv 0) (ao (zx (v:=V.ty "int") (u:=.type "int") rfl T.Le (by k_go) rfl) aq))) (uo (aoX (jM Ek rfl T.Bb boot_isinstance (ao (pv 0) (ao (zx (v:=V.ty "bool") (u:=.type "bool") rfl T.ao9 (by k_go) rfl) aq)))))))),?_⟩;rcases h with ⟨i,rfl,q⟩|⟨o,q⟩
 ·exact ⟨_,rfl,_,_,_,true,rfl,jg.int i,rfl,_,rfl,cL rfl ⟨_,rfl,_,_,_,false,rfl,jg.int i,rfl,_,rfl,q⟩⟩
 ·cases o with
  |bl b =>refine ⟨_,rfl,_,_,_,true,rfl,jg.bl b,rfl,_,rfl,cL rfl ?_⟩;exact ⟨_,rfl,_,_,_,true,rfl,jg.bl b,rfl,_,rfl,q⟩
  |non=>exact ⟨_,rfl,_,_,_,false,rfl,jg.non,rfl,_,rfl,bQ (by decide) q⟩
  |str z=>exact ⟨_,rfl,_,_,_,false,rfl,jg.str z,rfl,_,rfl,bQ (by decide) q⟩
  |lst h=>exact ⟨_,rfl,_,_,_,false,rfl,jg.lst h,rfl,_,rfl,bQ (by decide) q⟩
  |tup h=>exact ⟨_,rfl,_,_,_,false,rfl,jg.tup h,rfl,_,rfl,bQ (by decide) q⟩
  |dct h=>exact ⟨_,rfl,_,_,_,false,rfl,jg.dK h,rfl,_,rfl,bQ (by decide) q⟩
def Er:Gc Z "is_whole" 1 ["thing"] aaF:=(aar Z).imp alM
def Q8:Gc Z "is_lane" 2 ["wide","thing"] ak_:=by
 o_head (dz Z.p5,["wide","thing"]);obtain ⟨aj,i,rfl,a,h1,q⟩:=h;refine ⟨_,(aO (bw (vI (bH (Er Z) hr.m rfl (ao (pv 1) aq)) (uo (abb uz adZ aL (pv 1) (pv 0)))))),_,rfl,i,rfl,_,rfl,cL rfl ⟨_,rfl,_,_,rfl,rfl,_,rfl,cL (fM a) ⟨_,rfl,_,_,rfl,rfl,?_⟩⟩⟩;have z:Q (.bl (decide (i<aj))) H:=by rw [fM h1];exact q
 exact z
def ail:Gc Z "is_wicket" 3 ["wide","thing"] ahI:=by
 o_head (dz Z.p6,["wide","thing"]);obtain ⟨aj,t,w0,rfl,a,⟨d,b,i,g,c⟩,q⟩:=h;refine ⟨_,(aU (cP (PW.pt (uy (j4 (lG (jM Ek rfl T.Bb boot_isinstance (ao (pv 1) (ao (zx (v:=V.ty "tuple") (u:=.type "tuple") rfl T.Ck (by k_go) rfl) aq))))) (vH (cQ mj (j6 T (pv 1)) aL))))
 (aO (bw pW))
 cT)
 (aO (bw (vI (bH (Q8 Z) hr.m rfl (ao (pv 0) (ao (b_ (pv 1) aL) aq))) (vI (bH (Q8 Z) hr.m rfl (ao (pv 0) (ao (b_ (pv 1) aL) aq))) (uo (vN mj (b_ (pv 1) aL) (b_ (pv 1) aL)))))))),?_⟩
 refine ⟨_,rfl,_,_,_,true,rfl,jg.tup a,rfl,_,rfl,bQ (by decide) ⟨_,rfl,t,_,rfl,.inr (aZ a),rfl,_,rfl,bQ (by simp) ⟨_,rfl,_,rfl,t,_,_,_,rfl,rfl,aZ a,rfl,aj,w0.1,rfl,d,b,_,rfl,cL rfl ⟨_,rfl,_,rfl,t,_,_,_,rfl,rfl,aZ a,rfl,aj,w0.2,rfl,i,g,_,rfl,cL rfl ⟨_,rfl,t,_,_,_,rfl,rfl,aZ a,rfl,_,rfl,t,_,_,_,rfl,rfl,aZ a,rfl,rfl,?_⟩⟩⟩⟩⟩;have z:Q (.bl (!decide (V.int w0.1=V.int w0.2))) H:=by rw [lJ (λe=>c (by injection e))];exact q
 exact z
def agp:Gc Z "are_wickets" 4 ["wide","things"] anG:=by
 o_head (dz Z.p7,["wide","things"]);obtain ⟨aj,l,ws,rfl,⟨rs,c,p⟩,ok,len,q⟩:=h;have r:=p.len;refine ⟨_,(aO (bw (vI (vN uz (j6 T (pv 1)) (Cp rfl Z.Ih)) (uo (jM (Qd rfl) rfl T.Ub boot_all (ao (iC ["thing"] [("wide",0)] rfl (Li (jZ (pv 1)) (vJ (pv 1))) (by k_all) (by k_mem) (by row_wit1 (bH (ail Z) hr.m rfl (ao (pv 1) (ao (pv 0) aq))))) aq)))))),_,rfl,l,_,rfl,(c.elim (λh=>.inl (aN h)) λh=>.inr (aZ h)),_,_,rfl,rfl,_,rfl,cL (fM (by lk)) ?_⟩;rcases c with c|c
 ·refine .inl ⟨_,rfl,l,rfl,⟨_,aN c⟩,λj k=>?_⟩;refine rE (xs:=rs) (λi ys Hc=>aB H Hc/\Hc j=some (.lst ys)/\ys=(replicate i true).map V.bl) ⟨bR k (cW H),aM,rfl⟩ (aW (by lk)) (λi ys Hc hi ⟨a,b,e⟩=>⟨aN (a _ _ c),b,by rw [e];simp⟩) ?_ ?_
  ·rintro i x ys Hc o ⟨a,b,e⟩;obtain ⟨w0,n,g,rfl,d⟩:=p.get o;refine ⟨⟨.inl rfl,.inr rfl,trivial⟩,iG ⟨_,rfl,_,rfl,aj,n,w0,rfl,a _ _ d,ok w0 (eZ g),b,bR k a,aM,?_⟩⟩;rw [e,Fq,cX];rfl
  ·rintro ys Hc ⟨a,b,rfl⟩;refine ⟨j,_,rfl,aN b,?_⟩;rw [all_true];exact q Hc a
 ·refine .inr ⟨_,rfl,l,rfl,⟨_,aZ c⟩,λj k=>?_⟩;refine yM (xs:=rs) (λi ys Hc=>aB H Hc/\Hc j=some (.lst ys)/\ys=(replicate i true).map V.bl) ⟨bR k (cW H),aM,rfl⟩ (aW (by lk)) (λi ys Hc hi ⟨a,b,e⟩=>⟨aZ (a _ _ c),b,by rw [e];simp⟩) ?_ ?_
  ·rintro i x ys Hc o ⟨a,b,e⟩;obtain ⟨w0,n,g,rfl,d⟩:=p.get o;refine ⟨⟨.inl rfl,.inr rfl,trivial⟩,iG ⟨_,rfl,_,rfl,aj,n,w0,rfl,a _ _ d,ok w0 (eZ g),b,bR k a,aM,?_⟩⟩;rw [e,Fq,cX];rfl
  ·rintro ys Hc ⟨a,b,rfl⟩;refine ⟨j,_,rfl,aN b,?_⟩;rw [all_true];exact q Hc a
def Z2:Gc Z "makes_net" 5 ["wide","wickets"] abr:=by
 o_head (dz Z.p8,["wide","wickets"]);obtain ⟨aj,l,ws,rfl,⟨rs,c,i⟩,j,k,ok,len,q⟩:=h;refine ⟨_,(aU (cP (PW.pt (uy (j4 (lG (bH (Er Z) hr.m rfl (ao (pv 0) aq)))) (vH (j4 (QC uz uz aL (pv 0) (Cp rfl Z.Pj))))))
 (aO (bw pW))
 cT)
 (aO (bw (vI (jM ajl rfl T.Bb boot_isinstance (ao (pv 1) (ao (gZ (ao (zx (v:=V.ty "list") (u:=.type "list") rfl T.zR (by k_go) rfl) (ao (zx (v:=V.ty "tuple") (u:=.type "tuple") rfl T.Ck (by k_go) rfl) aq))) aq))) (uo (bH (agp Z) hr.m rfl (ao (pv 0) (ao (pv 1) aq)))))))),?_⟩
 refine ⟨_,rfl,aj,rfl,_,rfl,bQ (by decide) ⟨_,rfl,_,_,rfl,rfl,_,rfl,cL (fM j) ⟨_,_,rfl,rfl,_,rfl,bQ (by simp;lk) ⟨_,rfl,aW (by kl_no),λe b=>?_⟩⟩⟩⟩;km_lay b H1 b a d;exact ⟨l,e,rs,_,_,true,rfl,c.elim (λh=>.inl ⟨a _ _ h,rfl⟩) (λh=>.inr ⟨a _ _ h,rfl⟩),d,rfl,_,rfl,cL rfl ⟨_,rfl,_,rfl,aj,l,ws,rfl,⟨rs,c.imp (a _ _) (a _ _),i.same a⟩,ok,len,λH2 g=>q H2 (aG a g)⟩⟩
def PB:Gc Z "makes_net" 5 ["wide","wickets"] acL:=(Z2 Z).imp makes_of
def Q9:Ge Z "net_of" 6 ["wide","wickets"] TF:=by
 refine wD Z.p9 λf fd F=>?_;have T:=Z.T;have PB:=(Z2 Z);o_head (["wide","wickets"],1,1);obtain ⟨aj,l,ws,rfl,⟨rs,o,R⟩,w1,w8,ok,len,q⟩:=h;have D:=R.len;refine ⟨_,(aU (cP (j4 (lG (bH PB hr.m rfl (ao (pv 0) (ao (pv 1) aq)))))
 (aO (Bo Z.yH.FN rfl Z.yH.Ez (ao bN aq)))
 cT)
 (aO (bw (gZ (ao (pv 0) (ao (iu Zb rfl T.Ck Il (ao (iC ["wicket"] [] rfl (Li (jZ (pv 1)) (vJ (pv 1))) (by k_all) (by k_mem) (by row_wit1 (gZ (ao (uD (Cj K rfl) (pv 0) aL (λ_ _=>rfl)) (ao (uD (Cj K rfl) (pv 0) aL (λ_ _=>rfl)) aq))))) aq)) aq)))))),?_⟩
 refine ⟨_,rfl,_,rfl,aj,l,ws,rfl,⟨rs,o,R⟩,w1,w8,ok,len,λH1 t=>⟨_,rfl,bQ (by decide) ?_⟩⟩;have step:∀ (b:Addr) (i:Nat) (x:V) (ys:aA) (Hc:Hp),H1 b=none->rs[i]?=some x->aB H1 Hc->Hc b=some (.lst ys)->ys.length<=i->dM Hc ys (ws.take i)->∃ j a0 r,x=.ref j/\Hc j=some (.tup [.int a0,.int r])/\∀ u,Hc u=none->aB Hc (upd Hc u (.tup [.int a0,.int r]))/\(upd Hc u (.tup [.int a0,.int r])) b=some (.lst ys)/\aB H1 (upd (upd Hc u (.tup [.int a0,.int r])) b (.lst (ys++[.ref u])))/\dM (upd (upd Hc u (.tup [.int a0,.int r])) b (.lst (ys++[.ref u]))) (ys++[.ref u]) (ws.take (i+1)):=λb i x ys Hc p B a e k d=>by obtain ⟨w0,j,S,rfl,L⟩:=R.get B;refine ⟨j,w0.1,w0.2,rfl,a _ _ (t _ _ L),λu y=>?_⟩;obtain ⟨H3,e_,C,x3⟩:=Ng y (HO.tup [V.int w0.1,V.int w0.2]);rw [<-e_];clear e_;have e3:=C _ _ e;refine ⟨C,e3,bR p (aG a C),?_⟩;rw [fZ S];have W:KT H3 (upd H3 b (HO.lst (ys++[V.ref u]))):=lN e3 (bY _);exact ((d.same C).kt W).app (.cons ⟨u,rfl,W _ _ x3⟩ .nil)
 have Gk:∀ (ys:aA) (Hc:Hp),aB H1 Hc->dM Hc ys (ws.take rs.length)->∀ c,Hc c=none->∀ n,(upd Hc c (.tup ys)) n=none->Q (.ref n) (upd (upd Hc c (.tup ys)) n (.tup [.int aj,.ref c])):=λys Hc a d c z n v=>by rw [D,gq] at d;have J:aB Hc (upd Hc c (HO.tup ys)):=cu z _;have Y:(upd Hc c (HO.tup ys)) c=some (.tup ys):=aM;generalize upd Hc c (HO.tup ys)=H5 at J Y v;have N:aB H5 (upd H5 n (HO.tup [V.int aj,V.ref c])):=cu v _;exact q _ _ (aG t (aG a (aG J N))) ⟨n,c,ys,rfl,aM,N _ _ Y,d.same (aG J N)⟩
 rcases o with o|o
 ·refine ⟨_,rfl,.inl ⟨_,rfl,l,rfl,⟨_,aN (t _ _ o)⟩,λb p=>?_⟩⟩;refine rE (xs:=rs) (λi ys Hc=>aB H1 Hc/\Hc b=some (.lst ys)/\ys.length<=i/\dM Hc ys (ws.take i)) ⟨bR p (cW H1),aM,fP _,.nil⟩ (aW (by lk)) (λi ys Hc hi ⟨a,e,k,d⟩=>⟨aN (a _ _ (t _ _ o)),e,k⟩) ?_ ?_
  ·rintro i x ys Hc B ⟨a,e,k,d⟩;obtain ⟨j,a0,r,rfl,g,U⟩:=step b i x ys Hc p B a e k d;refine ⟨⟨.inl rfl,trivial⟩,iG ⟨_,rfl,j,_,_,_,rfl,rfl,aZ g,rfl,_,rfl,j,_,_,_,rfl,rfl,aZ g,rfl,aW (by kl_no),λu y=>?_⟩⟩;obtain ⟨_,O,M,I⟩:=U u y;exact ⟨O,M,aM,by rw [dJ];simp;lk, I⟩
  ·rintro ys Hc ⟨a,e,k,d⟩;exact ⟨b,_,rfl,.inl ⟨aN e,λc z=>⟨aW (by kl_no),λn v=>Gk ys Hc a d c z n v⟩⟩⟩
 ·refine ⟨_,rfl,.inr ⟨_,rfl,l,rfl,⟨_,aZ (t _ _ o)⟩,λb p=>?_⟩⟩;refine yM (xs:=rs) (λi ys Hc=>aB H1 Hc/\Hc b=some (.lst ys)/\ys.length<=i/\dM Hc ys (ws.take i)) ⟨bR p (cW H1),aM,fP _,.nil⟩ (aW (by lk)) (λi ys Hc hi ⟨a,e,k,d⟩=>⟨aZ (a _ _ (t _ _ o)),e,k⟩) ?_ ?_
  ·rintro i x ys Hc B ⟨a,e,k,d⟩;obtain ⟨j,a0,r,rfl,g,U⟩:=step b i x ys Hc p B a e k d;refine ⟨⟨.inl rfl,trivial⟩,iG ⟨_,rfl,j,_,_,_,rfl,rfl,aZ g,rfl,_,rfl,j,_,_,_,rfl,rfl,aZ g,rfl,aW (by kl_no),λu y=>?_⟩⟩;obtain ⟨_,O,M,I⟩:=U u y;exact ⟨O,M,aM,by rw [dJ];simp;lk, I⟩
  ·rintro ys Hc ⟨a,e,k,d⟩;exact ⟨b,_,rfl,.inl ⟨aN e,λc z=>⟨aW (by kl_no),λn v=>Gk ys Hc a d c z n v⟩⟩⟩
def Cy:Ge Z "net_of" 6 ["wide","wickets"] acM:=(Q9 Z).imp acT
def amK:Gc Z "net_of" 6 ["wide","wickets"] TF:=(Q9 Z).non λ_ _ _ _ h=>h
def Z4:Gc Z "is_number" 1 ["word"] aby:=by
 o_head (dz Z.Hq,["word","figures"]);obtain ⟨x,rfl,len,q⟩:=h;have ed:(ofString "-")=⟨#[45]⟩:=by k_go
 refine ⟨_,(aU (bW 1 nd (qy (lG (iV qF acd ace Ze (pv 0) (ao bN aq))) (wV adK (pv 0) (xO aL) xM) (pv 0)))
 (aU (cP (PW.pt (uy (j4 (QC uz uz aL (jM Ii rfl T.zV zu (ao (pv 1) aq)) (Cp rfl Z.OD))) (vH (j4 (lG (jM (Qd rfl) rfl T.Ub boot_all (ao (iC ["sign"] [] rfl (adJ (pv 1)) (by k_all) (by k_mem) (by row_wit1 (Ko aaw (pv 0) (acW rfl Z.Q7) (by with_unfolding_all rfl)))) aq)))))))
 (aO (bw pW))
 cT)
 (aO (bw (adX (vN iU (pv 0) bN) (uo (vN mj (uD ao2 (pv 1) aL (λ_ _=>rfl)) bN))))))),?_⟩
 refine ⟨_,rfl,rfl,x,ofString "-",rfl,rfl,?_⟩;rw [ed,ahO];refine ⟨_,rfl,?_⟩;by_cases u:(Ls x).head?=some 45
 ·refine cL (fM u) ?_;have xl:1<=x.length:=by
   rw [<-cO];cases h:Ls x with
   |nil=>rw [h] at u;cases u
   |cons a b=>simp
  refine ⟨_,rfl,1,rfl,x,1,rfl,rfl,rfl,xl,aW (by lk),?_⟩;have d:Ls (wj x 1)=gk (Ls x):=by unfold gk;rw [aQ u];show (Ls x).drop 1=_;exact List.drop_one
  have Y:(wj x 1).length<=5000:=by rw [<-cO];show ((Ls x).drop 1).length<=_;rw [xW,cO];lk
  generalize wj x 1=y at d Y
  try dsimp only [lK]
  refine ⟨_,rfl,y,rfl,aW (by lk),_,_,rfl,rfl,_,rfl,?_⟩;by_cases j:(1:Int)<=(y.length:Int)
  rotate_left
  ·exact bQ (by simpa using j) ⟨_,rfl,cL rfl (q false H (cW _) (uU λz=>j (by have:=z.1;rw [<-d,cO] at this;lk)))⟩
  refine cL (fM j) ?_;by_cases p:(y.length:Int)<=60
  rotate_left
  ·exact ⟨_,_,rfl,rfl,_,rfl,cL (by simpa using p) (q false H (cW _) (uU λz=>p (by have:=z.2.1;rw [<-d,cO] at this;lk)))⟩
  refine ⟨_,_,rfl,rfl,_,rfl,bQ (by simpa using p) ⟨_,rfl,y,rfl,λC J=>?_⟩⟩;refine QM (x:=y) (λi ys Hc=>aB H Hc/\Hc C=some (.lst ys)/\ys=(((Ls y).take i).map λc=>decide (48<=c/\c<=57)).map V.bl) ⟨bR J (cW H),aM,rfl⟩ (aW (by show (Ls y).length<=_;rw [cO];lk)) (λi ys Hc ⟨g,e,S⟩=>⟨e,by rw [S,bh,bh,gV];lk⟩) ?_ ?_
  ·rintro i c ys Hc k ⟨g,e,rfl⟩;refine ⟨⟨.inl rfl,trivial⟩,iG ⟨_,rfl,_,_,rfl,rfl,?_⟩⟩;rw [ac0 c];refine ⟨e,bR J g,aM,?_⟩;have o:(Ls y)[i]?=some c:=by unfold Ls;rw [Kc];exact k
   rw [fZ o,cX,cX];rfl
  ·rintro ys Hc ⟨g,e,rfl⟩;have O:((Ls y).take y.cps.size)=Ls y:=zc (by rw [cO];exact bI _);rw [O] at e;refine ⟨C,_,rfl,aN e,?_⟩;have m:(((Ls y).map λc=>decide (48<=c/\c<=57)).all id=true)↔PySem.NumText.AllDigits (gk (Ls x)):=by
    rw [<-d,wZ];constructor
    ·intro h c k;exact jH (h _ (fV.mpr ⟨c,k,rfl⟩))
    ·intro h b U;obtain ⟨c,k,rfl⟩:=fV.mp U;exact fM (h c k)
   cases ea:((Ls y).map λc=>decide (48<=c/\c<=57)).all id with
   |false =>rw [ea] at m;refine ⟨_,rfl,cL rfl ?_⟩;exact q false Hc g (uU λz=>absurd (m.mpr z.2.2.1) (by decide))
   |true =>
    rw [ea] at m;have I:=m.mp rfl;refine ⟨_,rfl,bQ (by decide) ⟨_,rfl,rfl,_,rfl,?_⟩⟩;have t:(ofString "0")=Mk [48]:=by k_go
    have L:1<=(gk (Ls x)).length:=by rw [<-d,cO];lk
    have M:(gk (Ls x)).length<=60:=by rw [<-d,cO];lk
    by_cases l:x=Mk [48]
    ·exact cL (by rw [l,t];simp) (q true Hc g (Hj ⟨L,M,I,.inl (by rw [l];rfl)⟩))
    ·refine bQ (λz=>l (t ▸ V.str.inj (jH z))) ?_;obtain ⟨c,r,D⟩:∃ c r,Ls y=c::r:=by
      cases h:Ls y with
      |nil=>rw [<-cO,h] at j;simp at j
      |cons c r=>exact ⟨c,r,rfl⟩
     refine ⟨_,rfl,y,0,c,rfl,rfl,aW (by lk),by show jK (Ls y) 0=some c;rw [D];simp [jK,q_],rfl,?_⟩;have N:Ls x≠[48]:=λz=>l (by rw [<-wu x,z]);refine q _ Hc g ?_;have en:(V.str (⟨#[c]⟩:Str)=V.str (ofString "0"))↔c=48:=by
      rw [t];constructor
      ·intro z;have:=je Ls (V.str.inj z);exact (J3 this).1
      ·intro z;rw [z];rfl
     have B:(gk (Ls x)).head?=some c:=by rw [<-d,D];rfl
     by_cases n:c=48
     ·rw [fM (en.mpr n)];exact uU λz=>z.2.2.2.elim N λy=>y (by rw [B,n])
     ·rw [lJ (λz=>n (en.mp z))];exact Hj ⟨L,M,I,.inr (by rw [B];exact λz=>n (iz z))⟩
 ·refine bQ (by simpa using u) ⟨_,rfl,?_⟩;obtain ⟨y,W⟩:∃ y,y=x:=⟨x,rfl⟩;have d:Ls y=gk (Ls x):=by unfold gk;rw [aK u,W]
  have Y:y.length<=5000:=by rw [W];exact len
  have hy:∀ (R:V->Prop),R (.str y)->R (.str x):=λR h=>W ▸ h;refine hy (λv=>lK 1 v _ _ _) ?_
  try dsimp only [lK]
  refine ⟨_,rfl,y,rfl,aW (by lk),_,_,rfl,rfl,_,rfl,?_⟩;by_cases j:(1:Int)<=(y.length:Int)
  rotate_left
  ·exact bQ (by simpa using j) ⟨_,rfl,cL rfl (q false H (cW _) (uU λz=>j (by have:=z.1;rw [<-d,cO] at this;lk)))⟩
  refine cL (fM j) ?_;by_cases p:(y.length:Int)<=60
  rotate_left
  ·exact ⟨_,_,rfl,rfl,_,rfl,cL (by simpa using p) (q false H (cW _) (uU λz=>p (by have:=z.2.1;rw [<-d,cO] at this;lk)))⟩
  refine ⟨_,_,rfl,rfl,_,rfl,bQ (by simpa using p) ⟨_,rfl,y,rfl,λC J=>?_⟩⟩;refine QM (x:=y) (λi ys Hc=>aB H Hc/\Hc C=some (.lst ys)/\ys=(((Ls y).take i).map λc=>decide (48<=c/\c<=57)).map V.bl) ⟨bR J (cW H),aM,rfl⟩ (aW (by show (Ls y).length<=_;rw [cO];lk)) (λi ys Hc ⟨g,e,S⟩=>⟨e,by rw [S,bh,bh,gV];lk⟩) ?_ ?_
  ·rintro i c ys Hc k ⟨g,e,rfl⟩;refine ⟨⟨.inl rfl,trivial⟩,iG ⟨_,rfl,_,_,rfl,rfl,?_⟩⟩;rw [ac0 c];refine ⟨e,bR J g,aM,?_⟩;have o:(Ls y)[i]?=some c:=by unfold Ls;rw [Kc];exact k
   rw [fZ o,cX,cX];rfl
  ·rintro ys Hc ⟨g,e,rfl⟩;have O:((Ls y).take y.cps.size)=Ls y:=zc (by rw [cO];exact bI _);rw [O] at e;refine ⟨C,_,rfl,aN e,?_⟩;have m:(((Ls y).map λc=>decide (48<=c/\c<=57)).all id=true)↔PySem.NumText.AllDigits (gk (Ls x)):=by
    rw [<-d,wZ];constructor
    ·intro h c k;exact jH (h _ (fV.mpr ⟨c,k,rfl⟩))
    ·intro h b U;obtain ⟨c,k,rfl⟩:=fV.mp U;exact fM (h c k)
   cases ea:((Ls y).map λc=>decide (48<=c/\c<=57)).all id with
   |false =>rw [ea] at m;refine ⟨_,rfl,cL rfl ?_⟩;exact q false Hc g (uU λz=>absurd (m.mpr z.2.2.1) (by decide))
   |true =>
    rw [ea] at m;have I:=m.mp rfl;refine ⟨_,rfl,bQ (by decide) ⟨_,rfl,rfl,_,rfl,?_⟩⟩;have t:(ofString "0")=Mk [48]:=by k_go
    have L:1<=(gk (Ls x)).length:=by rw [<-d,cO];lk
    have M:(gk (Ls x)).length<=60:=by rw [<-d,cO];lk
    by_cases l:x=Mk [48]
    ·exact cL (by rw [l,t];simp) (q true Hc g (Hj ⟨L,M,I,.inl (by rw [l];rfl)⟩))
    ·refine bQ (λz=>l (t ▸ V.str.inj (jH z))) ?_;obtain ⟨c,r,D⟩:∃ c r,Ls y=c::r:=by
      cases h:Ls y with
      |nil=>rw [<-cO,h] at j;simp at j
      |cons c r=>exact ⟨c,r,rfl⟩
     refine ⟨_,rfl,y,0,c,rfl,rfl,aW (by lk),by show jK (Ls y) 0=some c;rw [D];simp [jK,q_],rfl,?_⟩;have N:Ls x≠[48]:=λz=>l (by rw [<-wu x,z]);refine q _ Hc g ?_;have en:(V.str (⟨#[c]⟩:Str)=V.str (ofString "0"))↔c=48:=by
      rw [t];constructor
      ·intro z;have:=je Ls (V.str.inj z);exact (J3 this).1
      ·intro z;rw [z];rfl
     have B:(gk (Ls x)).head?=some c:=by rw [<-d,D];rfl
     by_cases n:c=48
     ·rw [fM (en.mpr n)];exact uU λz=>z.2.2.2.elim N λy=>y (by rw [B,n])
     ·rw [lJ (λz=>n (en.mp z))];exact Hj ⟨L,M,I,.inr (by rw [B];exact λz=>n (iz z))⟩
def PK:Gc Z "is_number" 1 ["word"] acZ:=(Z4 Z).imp aoc
def PL:Gc Z "number_of" 2 ["word"] anU:=by
 o_head (dz Z.VH,["word"]);obtain ⟨n,rfl,a,b,q⟩:=h;refine ⟨_,(aU (cP (j4 (lG (bH (PK Z) hr.m rfl (ao (pv 0) aq))))
 (aO oK)
 cT)
 (aO (bw (iu aaW rfl T.Le Qe (ao (pv 0) aq))))),?_⟩
 exact ⟨_,rfl,n,rfl,a,b,λH1 c=>⟨_,rfl,bQ (by decide) ⟨_,rfl,_,n,rfl,apy a b,by show 1<=640;decide,q _ c⟩⟩⟩
def ain:Gc Z "wicket_of" 3 ["word"] apz:=by
 o_head (dz Z.VJ,["word","parts"]);obtain ⟨w0,rfl,a,q⟩:=h;refine ⟨_,(aU (bW 1 nd (iV qF acf acg Zr (pv 0) (ao bN aq)))
 (aO (bw (gZ (ao (bH (PL Z) hr.m rfl (ao (b_ (pv 1) aL) aq)) (ao (bH (PL Z) hr.m rfl (ao (b_ (pv 1) aL) aq)) aq)))))),?_⟩
 have j:(ofString "-")=⟨#[45]⟩:=by k_go
 refine ⟨_,rfl,rfl,m_ w0,ofString "-",rfl,rfl,rfl,aW (by kl_no),λt g=>?_⟩;rw [j,anS a];dsimp only;km_lay t H1 g i c;exact ⟨_,rfl,t,_,_,_,rfl,rfl,aZ c,rfl,w0.1,rfl,a.1,a.2.1,λH2 b=>⟨_,rfl,t,_,_,_,rfl,rfl,aZ (b _ _ c),rfl,w0.2,rfl,a.2.2.1,a.2.2.2,λk e=>⟨aW (by kl_no),λu d=>q u _ (aG i (aG b (aG e (cu d _)))) aM⟩⟩⟩
def ahb:Gc Z "wickets_of" 4 ["text"] anW:=by
 refine dz Z.VL λf fd F=>?_;have T:=Z.T;refine F.fn.ok afY (λvs H Q E h=>?_) (λM A outer s H vs Q E hr h=>?_)
 ·obtain ⟨ws,rfl,_⟩:=h;rfl
 ·obtain ⟨ws,rfl,o,len,q⟩:=h;refine ⟨_,(aU (cP (cQ iU (pv 0) bN)
  (aO (bw (fj aq)))
  cT)
  (aU (cP (j4 (lG (iV qF acd ace Ze (pv 0) (ao bN aq))))
  (aO oK)
  cT)
  (aO (bw (iC ["word"] [] rfl (jZ (iV qF Kd Ke QL (wV adK (pv 0) (xO aL) xM) (ao bN aq))) (by k_all) (by k_mem) (by row_wit1 (bH (ain Z) hr.m rfl (ao (pv 0) aq)))))))),?_⟩
  refine ⟨_,rfl,rfl,_,rfl,?_⟩;cases ws with
  |nil =>refine cL (by k_go) ?_;refine ⟨aW (by kl_no),λl g=>?_⟩;exact q l _ (cu g _) ⟨[],aM,.nil⟩
  |cons w0 r =>
   have B:(ofString " ")=⟨#[32]⟩:=by k_go
   have n:=Qu (w0::r);rw [gw] at n len;have R:(Mk (jB (w0::r))).length=4*(r.length+1):=by rw [<-cO];exact n
   refine bQ (λz=>?_) ?_
   ·have O:=jH z;have e:=je (λv=>match v with|V.str x=>x.length|_=>0) O;have S:(Mk (jB (w0::r))).length=0:=e;lk
   refine ⟨_,rfl,rfl,Mk (jB (w0::r)),ofString " ",rfl,rfl,?_⟩;rw [B,ago];refine ⟨_,rfl,bQ (by decide) ⟨_,rfl,1,rfl,Mk (jB (w0::r)),1,rfl,rfl,rfl,by lk, aW (by lk),rfl,?_⟩⟩;have J:(wj (Mk (jB (w0::r))) 1).length<=100000:=by rw [<-cO];show ((jB (w0::r)).drop 1).length<=_;rw [xW];lk
   refine ⟨_,ofString " ",rfl,rfl,rfl,J,λl g=>?_⟩;rw [B,agU o];km_lay g H1 g L p;refine ⟨l,rfl,⟨_,aN p⟩,λj u=>?_⟩;refine rE (xs:=((w0::r).map m_).map V.str) (λi ys Hc=>aB H1 Hc/\Hc j=some (.lst ys)/\dM Hc ys ((w0::r).take i)) ⟨bR u (cW H1),aM,.nil⟩ (aW (by rw [bh,bh,gw];lk)) (λi ys Hc hi ⟨d,b,a⟩=>⟨aN (d _ _ p),b,by have:=a.len;rw [gV] at this;lk⟩) ?_ ?_
   ·rintro i x ys Hc c ⟨d,b,a⟩;rw [jP,jP] at c;obtain ⟨v,I,rfl⟩:∃ v,(w0::r)[i]?=some v/\x=V.str (m_ v):=by
     cases C:(w0::r)[i]? with
     |none=>rw [C] at c;cases c
     |some v=>rw [C] at c;exact ⟨v,rfl,(iz c).symm⟩
    refine ⟨⟨.inl rfl,trivial⟩,iG ⟨_,rfl,v,rfl,o v (eZ I),λt H2 k N=>?_⟩⟩;have y:=k _ _ b;refine ⟨y,bR u (aG d k),aM,?_⟩;rw [fZ I];have D:KT H2 (upd H2 j (HO.lst (ys++[V.ref t]))):=lN y (bY _);exact ((a.same k).kt D).app (.cons ⟨t,rfl,D _ _ N⟩ .nil)
   ·rintro ys Hc ⟨d,b,a⟩;rw [bh,bh,gq] at a;exact q j Hc (aG L d) ⟨ys,b,a⟩
def akp:Gc Z "read_net" 7 ["text"] apA:=by
 refine dz Z.VN λf fd F=>?_;have T:=Z.T;have Cy:=(amK Z).imp acT;o_head ["text","parts","wide","wickets"];obtain ⟨aj,ws,rfl,i,b,ok,len,q⟩:=h;have n:=TJ b ok;have x:=QS aj ws;have p:(ofString ":")=⟨#[58]⟩:=by k_go
 refine ⟨_,(aU (cP (j4 (lG (jM Ek rfl T.Bb boot_isinstance (ao (pv 0) (ao (zx (v:=V.ty "str") (u:=.type "str") rfl T.o9 (by k_go) rfl) aq)))))
 (aO oK)
 cT)
 (aU (bW 1 nd (iV qF acf acg Zr (pv 0) (ao bN aq)))
 (aU (cP (cQ iU (b_ (pv 1) aL) bN)
 (aO oK)
 cT)
 (aU (bW 2 nd (bH (PL Z) hr.m rfl (ao (b_ (pv 1) aL) aq)))
 (aU (bW 3 nd (bH (ahb Z) hr.m rfl (ao (b_ (pv 1) aL) aq)))
 (aU (cP (j4 (lG (bH (PB Z) hr.m rfl (ao (pv 2) (ao (pv 3) aq)))))
 (aO oK)
 cT)
 (aO (bw (bH Cy hr.m rfl (ao (pv 2) (ao (pv 3) aq))))))))))),?_⟩
 refine ⟨_,rfl,_,_,_,true,rfl,jg.str _,rfl,_,rfl,bQ (by decide) ⟨_,rfl,rfl,oA aj ws,ofString ":",rfl,rfl,rfl,aW (by lk),λt r=>?_⟩⟩;rw [p,alV (by lk) (by lk)];dsimp only;km_lay t H1 r k a;exact ⟨_,rfl,t,_,_,_,rfl,rfl,aZ a,rfl,rfl,_,rfl,bQ (by k_go) ⟨_,rfl,t,_,_,_,rfl,rfl,aZ a,rfl,aj,rfl,by lk, by lk, λH2 g=>⟨_,rfl,t,_,_,_,rfl,rfl,aZ (g _ _ a),rfl,ws,rfl,n,len,λl B o d=>⟨_,rfl,_,rfl,aj,l,ws,rfl,d,i,b,ok,len,λy e=>⟨_,rfl,bQ (by decide) ⟨_,rfl,_,rfl,aj,l,ws,rfl,d.same e,i,b,ok,len,λv z j c=>q v _ (aG k (aG g (aG o (aG e j)))) c⟩⟩⟩⟩⟩⟩
def akq:Gc Z "show_net" 1 ["net"] anT:=by
 refine dz Z.VP λf fd F=>?_;have T:=Z.T;refine F.fn.ok aha (λvs H Q E h=>?_) (λJ A outer s H vs Q E hr h=>?_)
 ·obtain ⟨v,aj,ws,rfl,_⟩:=h;rfl
 ·obtain ⟨v,aj,ws,rfl,⟨n,t,rs,rfl,o,C,B⟩,O,L,ok,len,q⟩:=h;have g:=B.len;have k:=TJ L ok;have p:=Cu (n:=aj) (by lk) (by lk);refine ⟨_,(aO (bw (bD jW (bD jW (iu wQ rfl T.o9 qw (ao (b_ (pv 0) aL) aq)) bN) (iV qF Kf Kg KJ bN (ao (iC ["first","second"] [] rfl (vJ (b_ (pv 0) aL)) (by w_tab) (by k_mem) (by row_wit1 (ajw (KH bN (KH (acV (pv 0)) (KH bN (KH (acV (pv 1)) apv))))))) aq))))),_,rfl,n,_,_,_,rfl,rfl,aZ o,rfl,aj,rfl,Bh (by lk) (by lk),bL aj,":",rfl,rfl,aW (by rw [p];show 1+1<=100000;decide),rfl,_,rfl,n,_,_,_,rfl,rfl,aZ o,rfl,t,rfl,⟨_,aZ C⟩,λm u=>?_⟩;refine yM (xs:=rs) (λi ys Hc=>aB H Hc/\Hc m=some (.lst ys)/\ys=((ws.take i).map yG).map V.str) ⟨bR u (cW H),aM,rfl⟩ (aW (by lk)) (λi ys Hc hi ⟨b,a,M⟩=>⟨aZ (b _ _ C),a,by rw [M,bh,bh,gV];lk⟩) ?_ ?_
  ·rintro i x ys Hc I ⟨b,a,rfl⟩;obtain ⟨w0,D,c,rfl,j⟩:=B.get I;have f0:=k w0 (eZ c);have d:=Cu f0.1 f0.2.1;have r:=Cu f0.2.2.1 f0.2.2.2;refine ⟨D,_,rfl,aZ (b _ _ j),rfl,_,_,rfl,_,_,rfl,rfl,⟨.inl rfl,.inl rfl,trivial⟩,iG ⟨" ",rfl,aW (by rw [jc];show 0+1<=_;decide),_,rfl,w0.1,rfl,Bh f0.1 f0.2.1,bL w0.1,rfl,aW (by rw [jc,jc,d];show 0+1+1<=_;decide),"-",rfl,aW (by rw [jc,jc,jc,d];show 0+1+1+1<=_;decide),_,rfl,w0.2,rfl,Bh f0.2.2.1 f0.2.2.2,bL w0.2,rfl,aW (by rw [jc,jc,jc,jc,d,r];show 0+1+1+1+1<=_;decide),aW (by rw [jc,jc,jc,jc,d,r];show 0+1+1+1+1<=_;decide),a,bR u b,aM,?_⟩⟩;rw [fZ c,cX,cX];rfl
  ·rintro ys Hc ⟨b,a,rfl⟩;rw [g,gq] at a;have z:(ofString "")=empty:=by k_go
   have sl:=Ss yG (n:=4) ws λw l=>Td (aoB (k w l));have y:=join_none ws λw l=>adS (k w l);have N:(Txt.join empty (ws.map yG)).length=4*ws.length:=by rw [<-cO,y,Qu]
   refine ⟨ofString "",m,ws.map yG,rfl,rfl,aN a,?_,?_⟩
   ·rw [bh,z];show _+ws.length*0<=_;lk
   ·rw [z];refine ⟨_,_,rfl,rfl,aW (by rw [jc,p,N];show 1+1+4*ws.length<=100000;lk),?_⟩;have e:bL aj++(":":Str)++Txt.join empty (ws.map yG)=oA aj ws:=by refine pU ?_;rw [gW,gW,y,zU (by lk) (by lk)];rfl
    rw [e];exact q _ b
def Y0:Ge Z "refuse_unless_halved" 2 ["wide"] (alO eA.pY):=by
 refine wD Z.VR λf fd F=>?_;have T:=Z.T;have Er:=(aar Z);obtain ⟨c,b,sq⟩:=Z.GH.ex;o_head (["wide"],1,1);obtain ⟨x,rfl,h⟩:=h;refine ⟨_,(aO (cP (PW.pt (uy (j4 (lG (bH Er hr.m rfl (ao (pv 0) aq)))) (vH (zy OJ (pv 0) (Ce (v:=V.ref _) rfl b rfl) (by with_unfolding_all rfl)))))
 (aO (Bo Z.yH.FN rfl Z.yH.Ez (ao bN aq)))
 cT)),?_⟩
 have a:∀ i:Int,x=.int i->lM (.int i) [V.int 1,V.int 2,V.int 4,V.int 8]=decide (vM i):=λi _=>by rw [ug,rT];unfold vM;simp only [lM,lA,yN,List.any_nil,Rc,JF,zN];lk
 rcases h with ⟨i,rfl,hi,q⟩|⟨o|⟨i,rfl,hi⟩,q⟩
 ·refine ⟨_,rfl,_,rfl,.inl ⟨i,rfl,_,rfl,bQ (by decide) ⟨_,rfl,c,_,rfl,.inr (sq H),rfl,rfl,_,rfl,bQ ?_ q⟩⟩⟩;show ¬ (!lM (.int i) [V.int 1,V.int 2,V.int 4,V.int 8])=true;rw [a i rfl,fM hi];decide
 ·exact ⟨_,rfl,_,rfl,.inr ⟨o,_,rfl,cL (by decide) ⟨by show 1<=1000;decide,q⟩⟩⟩
 ·refine ⟨_,rfl,_,rfl,.inl ⟨i,rfl,_,rfl,bQ (by decide) ⟨_,rfl,c,_,rfl,.inr (sq H),rfl,rfl,_,rfl,cL ?_ ?_⟩⟩⟩
  ·show (!lM (.int i) [V.int 1,V.int 2,V.int 4,V.int 8])=true;rw [a i rfl,lJ hi];rfl
  ·exact ⟨by show 1<=1000;decide,q⟩
def Y5:Gc Z "in_both_halves" 1 ["wickets","half"] aaV:=by
 o_head (dz Z.V0,["wickets","half"]);obtain ⟨l,ws,k,rfl,⟨rs,g,M⟩,len,q⟩:=h;have v:=M.len;refine ⟨_,(aO (bw (bD vK (iu Ij rfl T.zR Bd (ao (pv 0) aq)) (iC ["first","second"] [("half",1)] rfl (Li (jZ (pv 0)) (vJ (pv 0))) (by w_tab) (by k_mem) (by row_wit1 (gZ (ao (bD jQ (pv 0) (pv 2)) (ao (bD jQ (pv 1) (pv 2)) aq)))))))),_,rfl,l,_,rfl,g.imp aN aZ,λp W=>?_⟩;km_lay W H1 W n U;have step:∀ (a:Addr) (i:Nat) (x:V) (ys:aA) (Hc:Hp),H1 a=none->rs[i]?=some x->aB H1 Hc->Hc a=some (.lst ys)->dM Hc ys ((ws.take i).map (kW k))->∃ e a0 o,x=.ref e/\Hc e=some (.tup [.int a0,.int o])/\∀ u,Hc u=none->(upd Hc u (.tup [.int (a0+k),.int (o+k)])) a=some (.lst ys)/\aB H1 (upd (upd Hc u (.tup [.int (a0+k),.int (o+k)])) a (.lst (ys++[.ref u])))/\dM (upd (upd Hc u (.tup [.int (a0+k),.int (o+k)])) a (.lst (ys++[.ref u]))) (ys++[.ref u]) ((ws.take (i+1)).map (kW k)):=λa i x ys Hc j t b d c=>by obtain ⟨w0,e,N,rfl,B⟩:=M.get t;refine ⟨e,w0.1,w0.2,rfl,b _ _ (n _ _ B),λu r=>?_⟩;obtain ⟨H3,e_,C,x3⟩:=Ng r (HO.tup [V.int (w0.1+k),V.int (w0.2+k)]);rw [<-e_];clear e_;have e3:=C _ _ d;refine ⟨e3,bR j (aG b C),?_⟩;rw [fZ N,cX];have R:KT H3 (upd H3 a (HO.lst (ys++[V.ref u]))):=lN e3 (bY _);exact ((c.same C).kt R).app (.cons ⟨u,rfl,R _ _ x3⟩ .nil)
 have Y:∀ (a:Addr) (ys:aA) (Hc:Hp),aB H1 Hc->dM Hc ys ((ws.take rs.length).map (kW k))->∀ lo,Hc lo=none->Q (.ref lo) (upd Hc lo (.lst (rs++ys))):=λa ys Hc b c lo fo=>by rw [v,gq] at c;have z:=aG n b;have S:aB Hc (upd Hc lo (HO.lst (rs++ys))):=cu fo _;exact q lo _ (z.free fo) (aG z S) ⟨_,aM,((M.same z).app c).same S⟩
 rcases g with g|g
 ·refine .inl ⟨_,rfl,l,rfl,⟨_,aN (n _ _ g)⟩,λa j=>?_⟩;refine rE (xs:=rs) (λi ys Hc=>aB H1 Hc/\Hc a=some (.lst ys)/\ys.length<=i/\dM Hc ys ((ws.take i).map (kW k))) ⟨bR j (cW H1),aM,fP _,.nil⟩ (aW (by lk)) (λi ys Hc hi ⟨b,d,p,c⟩=>⟨aN (b _ _ (n _ _ g)),d,p⟩) ?_ ?_
  ·rintro i x ys Hc t ⟨b,d,J,c⟩;obtain ⟨e,a0,o,rfl,m,O⟩:=step a i x ys Hc j t b d c;refine ⟨e,_,rfl,aZ m,rfl,_,_,rfl,_,_,rfl,rfl,⟨.inl rfl,.inl rfl,.inr rfl,trivial⟩,iG ⟨_,rfl,_,rfl,_,_,rfl,rfl,_,rfl,_,rfl,_,_,rfl,rfl,aW (by kl_no),λu r=>?_⟩⟩;obtain ⟨L,D,y⟩:=O u r;exact ⟨L,D,aM,by rw [dJ];simp;lk, y⟩
  ·rintro ys Hc ⟨b,d,J,c⟩;have I:=c.len;rw [bh,gV] at I;exact ⟨p,a,_,_,rfl,rfl,b _ _ U,d,aW (by lk),Y a ys Hc b c⟩
 ·refine .inr ⟨_,rfl,l,rfl,⟨_,aZ (n _ _ g)⟩,λa j=>?_⟩;refine yM (xs:=rs) (λi ys Hc=>aB H1 Hc/\Hc a=some (.lst ys)/\ys.length<=i/\dM Hc ys ((ws.take i).map (kW k))) ⟨bR j (cW H1),aM,fP _,.nil⟩ (aW (by lk)) (λi ys Hc hi ⟨b,d,p,c⟩=>⟨aZ (b _ _ (n _ _ g)),d,p⟩) ?_ ?_
  ·rintro i x ys Hc t ⟨b,d,J,c⟩;obtain ⟨e,a0,o,rfl,m,O⟩:=step a i x ys Hc j t b d c;refine ⟨e,_,rfl,aZ m,rfl,_,_,rfl,_,_,rfl,rfl,⟨.inl rfl,.inl rfl,.inr rfl,trivial⟩,iG ⟨_,rfl,_,rfl,_,_,rfl,rfl,_,rfl,_,rfl,_,_,rfl,rfl,aW (by kl_no),λu r=>?_⟩⟩;obtain ⟨L,D,y⟩:=O u r;exact ⟨L,D,aM,by rw [dJ];simp;lk, y⟩
  ·rintro ys Hc ⟨b,d,J,c⟩;have I:=c.len;rw [bh,gV] at I;exact ⟨p,a,_,_,rfl,rfl,b _ _ U,d,aW (by lk),Y a ys Hc b c⟩
def Ol:Gc Z "in_both_halves" 1 ["wickets","half"] abt:=(Y5 Z).imp alR
def ade:Gc Z "across" 1 ["wide"] alP:=by
 o_head (dz Z.V1,["wide"]);obtain ⟨aj,rfl,y,x,q⟩:=h;refine ⟨_,(aO (bw (iC ["lane"] [("wide",0)] rfl (qu rfl T.lD (ao (bD xK (pv 0) aL) aq)) (by k_all) (by k_mem) (by row_wit1 (gZ (ao (pv 0) (ao (bD qR (bD qR (pv 1) aL) (pv 0)) aq))))))),_,rfl,_,_,rfl,rfl,⟨by decide,by decide⟩,_,rfl,by lk, by lk, λb d=>?_⟩;refine tQ (n:=(aj / 2).toNat) (λi ys Hc=>aB H Hc/\Hc b=some (.lst ys)/\ys.length<=i/\dM Hc ys ((range i).map λk:Nat=>((k:Int),aj-1-(k:Int)))) ⟨bR d (cW H),aM,fP _,.nil⟩ (aW (by lk)) (λi ys Hc ⟨_,e,l,_⟩=>⟨e,l⟩) ?_ ?_
 ·rintro i ys Hc hi ⟨g,a,v,j⟩;refine ⟨⟨.inl rfl,.inr rfl,trivial⟩,iG ⟨_,rfl,_,rfl,_,_,rfl,rfl,_,rfl,_,_,rfl,rfl,aW (by kl_no),λu m=>?_⟩⟩;km_lay m t m c r;have p:=c _ _ a;refine ⟨p,bR d (aG g c),aM,by rw [dJ];simp;lk, ?_⟩;rw [rO,cX];have o:KT t (upd t b (HO.lst (ys++[V.ref u]))):=lN p (bY _);rw [rP] at r;exact ((j.same c).kt o).app (.cons ⟨u,rfl,o _ _ r⟩ .nil)
 ·rintro ys Hc ⟨g,a,v,j⟩;exact q b Hc d g ⟨ys,a,j⟩
def afb:Gc Z "by_falling_gaps" 1 ["wide"] apt:=by
 o_head (dz Z.V2,["wide","wickets","gap"]);obtain ⟨k,rfl,k2,q⟩:=h;have p1:=vL k;have ps:=FP k;have p8:=zX (k:=k+1) (by lk);refine ⟨_,(aU (bW 1 nd (fj aq))
 (aU (bW 2 nd (bD xK (pv 0) aL))
 (aU (QB jj  (cQ vQ (pv 2) aL)
 (aU (kI (iV oN Kh Kl IK (pv 1) (ao (iC ["lane"] [("gap",2)] rfl (qu rfl T.lD (ao (pv 0) aq)) (by k_all) (by row_wit1 (Ci (cQ iU (bD nU (bD xK (pv 0) (pv 1)) aL) aL))) (by row_wit1 (gZ (ao (pv 0) (ao (bD jQ (pv 0) (pv 1)) aq))))) aq)))
 (aO (Tw (i:=2) nd rfl (by k_in) aL acN))))
 (aO (bw (pv 1)))))),?_⟩
 refine ⟨aW (by kl_no),λl t=>?_⟩;km_lay t H1 t s1 x1;refine ⟨_,rfl,_,_,rfl,rfl,⟨by decide,by decide⟩,?_⟩;have e4:pw (k+1) / 4=pw k / 2:=by lk
 dsimp only;rw [e4];refine Sg (λm σ a=>∃ (ws:aP) (rs:aA),m<=k/\σ=[some (.int (pw (k+1))),some (.ref l),some (.int (pw m / 2))]/\aB H a/\a l=some (.lst rs)/\dM a rs ws/\ws++mV m (pw (k+1))=mV k (pw (k+1))/\ws.length+m*8<=16) k ⟨[],[],bI _,rfl,s1,x1,.nil,rfl,by show 0+k*8<=16;lk⟩ ?_ ?_
 ·rintro m σ a ⟨ws,rs,mk,rfl,W,D,y,R,asZ⟩;have lw:=y.len;refine ⟨_,rfl,_,_,rfl,rfl,_,rfl,?_⟩;cases m with
  |zero =>
   refine bQ (by decide) ⟨_,rfl,?_⟩;have e0:ws=mV k (pw (k+1)):=by rw [<-R];exact (nO ws).symm
   rw [e0] at y;exact q l a t W ⟨rs,D,y⟩
  |succ m =>
   have pm:=FP m;have pmp:=vL m;have pm8:=zX (k:=m) (by lk);have eg:pw (m+1) / 2=pw m:=by lk
   rw [eg];refine cL (fM (show (0:Int)<pw m by lk)) ⟨_,rfl,.inl ⟨rfl,_,aN D⟩,_,rfl,_,rfl,by lk, by lk, λL O=>?_⟩;refine tQ (n:=(pw (k+1)).toNat) (λj zs d=>aB a d/\d L=some (.lst zs)/\zs.length<=j/\dM d zs (((range j).filter λi:Nat=>decide ((i:Int) / pw m % 2=0)).map λi:Nat=>((i:Int),(i:Int)+pw m))) ⟨bR O (cW a),aM,fP _,.nil⟩ (aW (by lk)) (λj zs d ⟨_,e,x,_⟩=>⟨e,x⟩) ?_ ?_
   ·rintro j zs d hj ⟨o,g,x,r⟩;refine ⟨⟨.inl rfl,.inr rfl,trivial⟩,_,rfl,_,rfl,_,_,rfl,rfl,⟨by lk, by lk⟩,_,_,rfl,rfl,(show (0:Int)<2 by decide),rfl,_,rfl,?_⟩;rw [rO,zq,cX];by_cases c:(j:Int) / pw m % 2=0
    ·refine cL (fM (je V.int (by rw [rP];exact c))) ⟨_,rfl,_,rfl,_,rfl,_,_,rfl,rfl,aW (by kl_no),λu M=>?_⟩;km_lay M H3 M J S;have B:=J _ _ g;refine ⟨B,bR O (aG o J),aM,by rw [dJ];simp;lk, ?_⟩;have N:KT H3 (upd H3 L (HO.lst (zs++[V.ref u]))):=lN B (bY _);rw [rP] at S;have one:(([j].filter λi:Nat=>decide ((i:Int) / pw m % 2=0)).map λi:Nat=>((i:Int),(i:Int)+pw m))=[((j:Int),(j:Int)+pw m)]:=by simp [c]
     rw [one];exact ((r.same J).kt N).app (.cons ⟨u,rfl,N _ _ S⟩ .nil)
    ·refine bQ (by rw [rT];intro z;have Y:=V.int.inj z;rw [rP] at Y;exact c Y) ?_;have I:(([j].filter λi:Nat=>decide ((i:Int) / pw m % 2=0)).map λi:Nat=>((i:Int),(i:Int)+pw m))=[]:=by simp [c]
     rw [I,nO];exact ⟨o,g,by lk, r⟩
   ·rintro zs d ⟨o,g,x,r⟩;have p:=o _ _ D;refine ⟨l,L,_,_,rfl,rfl,p,g,aW (by lk),?_⟩;have U:KT d (upd d l (HO.lst (rs++zs))):=lN p (bY _);have C:=r.len;have gl:(GK (pw (k+1)) (pw m)).length<=8:=by have:zs.length<=(pw (k+1)).toNat:=x;show (GK (pw (k+1)) (pw m)).length<=8;unfold GK;rw [<-C];lk
    refine ⟨_,rfl,_,_,rfl,rfl,⟨by decide,by decide⟩,m,CN _,ws++GK (pw (k+1)) (pw m),rs++zs,by lk, rfl,bR t (aG W o),aM,((y.same o).kt U).app (r.kt U),?_,?_⟩
    ·rw [<-R,vh];rfl
    ·rw [dJ];lk
 ·rintro σ a Q1 Q2 hm ⟨v,e,h⟩;refine ⟨v,e,?_⟩;obtain ⟨i,j,e1,g,b,B,h⟩:=h;exact ⟨i,j,e1,g,b,B,hm _ _ h⟩
def aio:dw P w K mg au (lU P w) 7 f fd ["wide"] (u6 eA.pY 0):=⟨λvs H Q E h=>by rcases h with ⟨k,_,h,_⟩|⟨h,_⟩<;>exact absurd h (zm _),λA outer s H a us vs Q E _ _ _ _ h=>by rcases h with ⟨k,_,h,_⟩|⟨h,_⟩<;>exact absurd h (zm _)⟩
def aip {m:Nat} (F:oW K mg "folded" Q6 f fd) (Sx:rY P w K mg au "folded" (m+7) ["wide"] (u6 eA.pY n)):dw P w K mg au (lU P w) (m+8) f fd ["wide"] (u6 eA.pY (n+1)):=by
 have T:=Z.T;have Cy:=(Q9 Z);have Ol:=(Y5 Z);refine F.fn.Vs Ep (λvs H Q E h=>?_) (λcdv A outer s H vs Q E hr h=>?_)
 ·rcases h with ⟨k,rfl,_⟩|⟨_,x,rfl,_⟩<;>rfl
 ·refine ⟨_,(aU (kI (nG (Y0 Z) hr.m rfl (ao (pv 0) aq)))
  (aU (cP (cQ iU (pv 0) aL)
  (aO (bw (gZ (ao (nG Cy hr.m rfl (ao aL (ao (gZ aq) aq))) (ao (gZ (ao bN aq)) aq)))))
  cT)
  (aU (bW 1 Ep.nd (bD xK (pv 0) aL))
  (aU (bW 2 Ep.nd (nG Sx hr.m rfl (ao (pv 1) aq)))
  (aU (bW 3 Ep.nd (bH Ol hr.m rfl (ao (b_ (b_ (pv 2) aL) aL) (ao (pv 1) aq))))
  (aU (bW 4 Ep.nd (gZ (ao bN (ao (j6 T (pv 3)) (ao (iu (ZJ rfl) rfl T.Ck Il (ao (iu Ql rfl T.lD Io (ao (pv 1) aq)) aq)) (ao (iu (ZJ rfl) rfl T.Ck Il (ao (iu ajd rfl T.lD Io (ao (pv 1) (ao (pv 0) aq))) aq)) (ao (b_ (pv 2) aL) (ao (b_ (pv 2) aL) aq))))))))
  (aO (bw (gZ (ao (nG Cy hr.m rfl (ao (pv 0) (ao (bD vK (bD vK (pv 3) (bH (ade Z) hr.m rfl (ao (pv 0) aq))) (bH (afb Z) hr.m rfl (ao (pv 0) aq))) aq))) (ao (pv 4) aq))))))))))),?_⟩
  rcases h with ⟨k,rfl,kn,k3,q⟩|⟨_,x,rfl,hx,q⟩
  rotate_left
  ·exact ⟨_,rfl,_,rfl,.inr ⟨hx,q⟩⟩
  have hv:vM (pw k):=by
   have:k=0\/k=1\/k=2\/k=3:=by lk
   rcases this with z|z|z|z<;>subst z
   ·exact .inl rfl
   ·exact .inr (.inl rfl)
   ·exact .inr (.inr (.inl rfl))
   ·exact .inr (.inr (.inr rfl))
  refine ⟨_,rfl,_,rfl,.inl ⟨_,rfl,hv,_,rfl,rfl,_,rfl,?_⟩⟩;cases k with
  |zero =>refine cL (by decide) ?_;refine ⟨aW (by kl_no),λt0 f0=>?_⟩;obtain ⟨H0,l,s0,x0⟩:=Ng f0 (HO.tup []);rw [<-l];clear l;refine ⟨1,t0,[],rfl,⟨[],.inr x0,.nil⟩,by decide,by decide,λw hw=>(nomatch hw),by decide,λv H1 r mY=>?_⟩;refine ⟨aW (by kl_no),λt2 f2=>?_⟩;obtain ⟨H2,l,a,x2⟩:=Ng f2 (HO.tup [V.str "one"]);rw [<-l];clear l;refine ⟨aW (by kl_no),λU j=>?_⟩;have i:aB H2 (upd H2 U (HO.tup [v,V.ref t2])):=cu j _;have lC:=aG s0 (aG r a);exact q U v (.ref t2) _ (lC.free j) (aG lC i) aM (mY.kt (cG (aG a i) (bY _))) (.one (i _ _ x2))
  |succ k =>
   have ps:=FP k;have pp:=vL k;have p8:=zX k3;have bl:=(fold_all (k:=k) (by lk)).2;obtain ⟨Aj,y⟩:=fold_all (k:=k+1) k3;have fe:iK (k+1)=(iK k++(iK k).map (kW (pw k)))++jd (pw (k+1))++mV k (pw (k+1)):=rfl;have fl:(iK k++(iK k).map (kW (pw k))).length+(jd (pw (k+1))).length+(mV k (pw (k+1))).length<=24:=by rw [<-dJ,<-dJ,<-fe];exact y
   refine bQ (by rw [rT];intro z;have:=V.int.inj z;lk) ⟨_,rfl,_,_,rfl,rfl,⟨by decide,by decide⟩,?_⟩;have eh:pw (k+1) / 2=pw k:=by lk
   dsimp only;rw [eh];refine ⟨_,rfl,.inl ⟨k,rfl,by lk, by lk, λN vi pi H1 fT r t B L=>?_⟩⟩;obtain ⟨ni,ti,ri,rfl,M,S,I⟩:=id B;refine ⟨_,rfl,N,_,_,_,rfl,rfl,aZ t,rfl,ni,_,_,_,rfl,rfl,aZ M,rfl,_,rfl,ti,_,pw k,rfl,⟨ri,.inr S,I⟩,by lk, λlw H2 fw a ⟨rw2,xw,e⟩=>?_⟩;have D:=e.len;refine ⟨_,rfl,lw,_,rfl,.inl (aN xw),_,rfl,_,rfl,λr3 j=>?_⟩;km_lay j H3 j i x3;refine ⟨r3,0,pw k,rfl,x3,by decide,by decide,by lk, by lk, by lk, λt4 f4=>?_⟩;km_lay f4 H4 f4 s4 x4;refine ⟨_,rfl,_,rfl,_,_,rfl,λr5 f5=>?_⟩;km_lay f5 H5 f5 s5 x5;refine ⟨r5,pw k,pw (k+1),rfl,x5,by lk, by lk, by lk, by lk, by lk, λt6 f6=>?_⟩;km_lay f6 H6 f6 Y x6;have d:=aG i (aG s4 (aG s5 Y));have Eb:=aG a d;refine ⟨_,rfl,N,_,_,_,rfl,rfl,aZ (Eb _ _ t),rfl,_,rfl,N,_,_,_,rfl,rfl,aZ (Eb _ _ t),rfl,aW (by kl_no),λt7 f7=>?_⟩;km_lay f7 H7 f7 s7 x7;have p:=aG d s7;refine ⟨_,rfl,_,rfl,_,rfl,pw (k+1),rfl,by lk, p8,λla H8 fa C ⟨ra,xa,Hs⟩=>?_⟩;have la2:=Hs.len;refine ⟨lw,la,_,_,rfl,rfl,C _ _ (p _ _ xw),xa,aW (by lk),λlc W=>?_⟩;km_lay W H9 W s9 x9;have r9:=((e.same (aG p C)).app Hs).same s9;refine ⟨_,rfl,k,rfl,by lk, λlg Ha fg O ⟨rg,xg,Nj⟩=>?_⟩;have lg2:=Nj.len;refine ⟨lc,lg,_,_,rfl,rfl,O _ _ x9,xg,aW (by rw [dJ];lk),λlz fz=>?_⟩;km_lay lz Hb fz sb xb;have rb:=((r9.same O).app Nj).same sb;rw [<-fe] at rb;refine ⟨pw (k+1),lz,iK (k+1),rfl,⟨_,.inl xb,rb⟩,by lk, p8,Aj,by lk, λv Hc sc Mf=>?_⟩;have g:=aG C (aG s9 (aG O (aG sb sc)));refine ⟨_,rfl,aW (by kl_no),λtd o=>?_⟩;have R:aB Hc (upd Hc td (HO.tup [v,V.ref t7])):=cu o _;have qp:=aG r (aG a (aG p g));have u:=aG g R;have c:=aG s7 u;have J:=aG s5 (aG Y c);have b:=L.same (aG a (aG p u));rw [D] at x7;exact q td v (.ref t7) _ (qp.free o) (aG qp R) aM (Mf.kt (cG R (bY _))) (.VD (u _ _ x7) (J _ _ x4) (c _ _ x6) b b)
def amL (n:Nat):rY P w K mg au "folded" (n+7) ["wide"] (u6 eA.pY n):=by
 obtain ⟨_,_,F⟩:=Z.V3;induction n with
 |zero=>exact F.Sq aio (by k_dec)
 |succ n a=>exact F.Sq (aip Z F a) (by k_dec)
def Sx:Ge Z "folded" 11 ["wide"] (u6 eA.pY 4):=(amL Z 4)
def akr:dw P w K mg au jL 1 f fd ["wide"] (Gw 0):=⟨λvs H Q E ⟨k,_,h,_,_⟩=>absurd h (zm _),λA outer s H a us vs Q E _ _ _ _ ⟨k,_,h,_,_⟩=>absurd h (zm _)⟩
def aks {m:Nat} (F:oW K mg "block" Sw f fd) (TX:pJ P w K mg au "block" (m+1) ["wide"] (Gw n)):dw P w K mg au jL (m+2) f fd ["wide"] (Gw (n+1)):=by
 have T:=Z.T;refine F.fn.ok abM (λvs H Q E h=>?_) (λC A outer s H vs Q E hr h=>?_)
 ·obtain ⟨k,rfl,_⟩:=h;rfl
 ·obtain ⟨k,rfl,kn,D,q⟩:=h;refine ⟨_,(aU (cP (cQ iU (pv 0) aL)
  (aO (bw (fj aq)))
  cT)
  (aU (bW 1 abM.nd (bD xK (pv 0) aL))
  (aO (bw (bD vK (bH (ade Z) hr.m rfl (ao (pv 0) aq)) (bH (Ol Z) hr.m rfl (ao (bH TX hr.m rfl (ao (pv 1) aq)) (ao (pv 1) aq)))))))),?_⟩
  refine ⟨_,rfl,rfl,_,rfl,?_⟩;cases k with
  |zero =>refine cL (by decide) ?_;refine ⟨aW (by kl_no),λl d=>?_⟩;exact q l _ d (cu d _) ⟨[],aM,.nil⟩
  |succ k =>
   have ps:=FP k;have Y:=vL k;have v:=zX D;have O:=acO (k:=k) (by lk);refine bQ (by rw [rT];intro z;have:=V.int.inj z;lk) ⟨_,rfl,_,_,rfl,rfl,⟨by decide,by decide⟩,?_⟩;have r:pw (k+1) / 2=pw k:=by lk
   dsimp only;rw [r];refine ⟨_,rfl,pw (k+1),rfl,by lk, v,λla H1 R x ⟨M,J,o⟩=>⟨_,rfl,k,rfl,by lk, by lk, λN H2 W L b=>⟨_,rfl,N,_,pw k,rfl,b,by lk, λt i S B ⟨I,p,a⟩=>?_⟩⟩⟩;have c:=aG L B;have U:=o.len;have y:=a.len;have u:(jd (pw (k+1))).length<=4:=by unfold jd;rw [bh,BW];lk
   rw [dJ,bh] at y;refine ⟨la,t,_,_,rfl,rfl,c _ _ J,p,aW (by lk),λlo j=>?_⟩;have e:aB i (upd i lo (HO.lst (M++I))):=cu j _;have g:=aG x c;exact q lo _ (g.free j) (aG g e) ⟨_,aM,((o.same c).app a).same e⟩
def aoE (n:Nat):pJ P w K mg au "block" (n+1) ["wide"] (Gw n):=by
 obtain ⟨_,_,F⟩:=Z.V4;induction n with
 |zero=>exact F.callee akr (by k_dec)
 |succ n a=>exact F.callee (aks Z F a) (by k_dec)
def TX:Gc Z "block" 6 ["wide"] (Gw 4):=(aoE Z 4).mono (by decide)
def aoF:Ge Z "rounds" 7 ["wide"] (Qq eA.pY):=by
 o_head (wD Z.V5,["wide","wickets","left"],0);refine ⟨_,(aU (kI (nG (Y0 Z) hr.m rfl (ao (pv 0) aq)))
 (aU (bW 1 nd (fj aq))
 (aU (bW 2 nd (pv 0))
 (aU (QB PassesOwn.leaving  (cQ vQ (pv 2) aL)
 (aU (kI (iV oN Kh Kl IK (pv 1) (ao (bH (TX Z) hr.m rfl (ao (pv 0) aq)) aq)))
 (aO (Tw (i:=2) nd rfl (by k_in) aL acN))))
 (aO (bw (nG (Cy Z) hr.m rfl (ao (pv 0) (ao (pv 1) aq))))))))),?_⟩
 rcases h with ⟨k,rfl,d,q⟩|⟨x,rfl,R,q⟩
 ·obtain ⟨S,j⟩:=acP d;have N:=vL k;have J:=zX d;have D:=acO d;have hv:vM (pw k):=by
   have:k=0\/k=1\/k=2\/k=3:=by lk
   rcases this with z|z|z|z<;>subst z
   ·exact .inl rfl
   ·exact .inr (.inl rfl)
   ·exact .inr (.inr (.inl rfl))
   ·exact .inr (.inr (.inr rfl))
  refine ⟨_,rfl,_,rfl,.inl ⟨_,rfl,hv,aW (by kl_no),λl o=>?_⟩⟩;km_lay o H1 o L Y;refine ⟨_,rfl,Sg (λm σ b=>∃ ys,σ=[some (.int (pw k)),some (.ref l),some (.int (pw m))]/\m<=k/\aB H b/\b l=some (.lst ys)/\dM b ys (replicate (k-m) (iY k)).flatten) k ⟨[],rfl,bI _,L,Y,by rw [Ru];exact .nil⟩ ?_ ?_⟩
  ·rintro m σ b ⟨ys,rfl,mk,u,n,g⟩;refine ⟨_,rfl,_,_,rfl,rfl,_,rfl,?_⟩;cases m with
   |zero =>refine bQ (by decide) ?_;exact ⟨_,rfl,_,rfl,pw k,l,_,rfl,⟨ys,n,g⟩,N,J,S,j,λv H' s' r=>q v H' (aG u s') r⟩
   |succ m =>
    have ps:=FP m;have pp:=vL m;have ly:=g.len;rw [Qc] at ly;have lb':(k-(m+1))*(iY k).length<=36:=gR (RN (show k-(m+1)<=3 by lk) D) (by decide);refine cL (fM (by lk)) ⟨_,rfl,.inl ⟨rfl,_,aN n⟩,_,rfl,k,rfl,by lk, d,λlb H2 fb p ⟨t,xb,c⟩=>?_⟩;have lr:=c.len;have a:=p _ _ n;refine ⟨l,lb,_,_,rfl,rfl,a,xb,aW (by lk),_,rfl,_,_,rfl,rfl,⟨by decide,by decide⟩,m,CN _,ys++t,?_,by lk, bR o (aG u p),aM,?_⟩
    ·have C:pw (m+1) / 2=pw m:=by lk
     show [some (V.int (pw k)),some (V.ref l),some (V.int (pw (m+1) / 2))]=_;rw [C]
    ·have B:KT H2 (upd H2 l (HO.lst (ys++t))):=lN a (bY _);have e:(replicate (k-m) (iY k)).flatten=(replicate (k-(m+1)) (iY k)).flatten++iY k:=by rw [show k-m=(k-(m+1))+1 by lk, Fq,List.flatten_append];simp
     rw [e];exact ((g.same p).kt B).app (c.kt B)
  ·rintro σ b Q' U I ⟨y,f0,O,a2,W,a4,M,m1,h2⟩;exact ⟨y,f0,O,a2,W,a4,M,m1,I _ _ h2⟩
 ·exact ⟨_,rfl,_,rfl,.inr ⟨R,q⟩⟩
def aoG:Ge Z "joined" 1 ["wide","wickets"] (aly eA):=by
 o_head (wD Z.V6,["wide","wickets"],0);obtain ⟨aj,t,rs,ws,rfl,e,d,len,q⟩:=h;have g:=d.len;refine ⟨_,(aU (cP (cQ vQ (j6 T (pv 1)) (Cp rfl Z.Ih))
 (aO (Bo Z.Ea.Qp rfl Z.Ea.Iv (ao bN aq)))
 cT)
 (aO (bw (gZ (ao (pv 0) (ao (pv 1) aq)))))),?_⟩
 refine ⟨_,rfl,t,_,rfl,.inr (aZ e),_,_,rfl,rfl,_,rfl,?_⟩;rcases q with ⟨c,q⟩|⟨c,q⟩
 ·exact cL (fM (by lk)) ⟨by show 1<=1000;decide,q⟩
 ·refine bQ (by simp;lk) ⟨_,rfl,_,rfl,aW (by kl_no),λb i=>?_⟩;have a:aB H (upd H b (HO.tup [V.int aj,V.ref t])):=cu i _;exact q _ _ a ⟨b,t,rs,rfl,aM,a _ _ e,d.same a⟩
def aoH:Ge Z "behind" 2 ["one","other"] (adE eA FJ):=by
 o_head (wD Z.V7,["one","other"],0);obtain ⟨Y,V,n,p,us,ws,rfl,⟨i,M,L,rfl,a,k,g⟩,⟨l,r,B,rfl,b,u,e⟩,O,U,b1,W,o,C,S,N,q⟩:=h;have t:=g.len;have y:=e.len;refine ⟨_,(aU (cP (cQ mj (b_ (pv 0) aL) (b_ (pv 1) aL))
 (aO (Bo Z.Ea.FN rfl Z.Ea.Ez (ao bN aq)))
 cT)
 (aO (bw (nG (aoG Z) hr.m rfl (ao (b_ (pv 0) aL) (ao (bD anN (b_ (pv 0) aL) (b_ (pv 1) aL)) aq)))))),?_⟩
 refine ⟨_,rfl,i,_,_,_,rfl,rfl,aZ a,rfl,_,rfl,l,_,_,_,rfl,rfl,aZ b,rfl,rfl,_,rfl,?_⟩;unfold FJ at q;by_cases c:n=p
 ·rw [aK (λz=>z c)] at q;refine bQ (by simp [c]) ⟨_,rfl,i,_,_,_,rfl,rfl,aZ a,rfl,_,rfl,i,_,_,_,rfl,rfl,aZ a,rfl,_,rfl,l,_,_,_,rfl,rfl,aZ b,rfl,M,r,_,_,rfl,rfl,k,u,aW (by lk),λv R j D=>⟨n,v,_,us++ws,rfl,D,(g.app e).same j,by rw [dJ];lk, ?_⟩⟩;rw [dJ];by_cases d:40<us.length+ws.length
  ·rw [aQ d] at q;exact .inl ⟨d,q _ j⟩
  ·rw [aK d] at q;exact .inr ⟨by lk, λJ H' x I=>q J H' (aG j x) I⟩
 ·rw [aQ c] at q;exact cL (by simp [c]) ⟨by show 1<=1000;decide,q _ (cW _)⟩
def akt:Gc Z "mirrored" 1 ["net"] aae:=by
 o_head (dz Z.V8,["net","last"]);obtain ⟨v,aj,ws,rfl,⟨n,t,rs,rfl,k,J,C⟩,len,q⟩:=h;have g:=C.len;refine ⟨_,(aU (bW 1 nd (bD qR (b_ (pv 0) aL) aL))
 (aO (bw (gZ (ao (b_ (pv 0) aL) (ao (iu Zb rfl T.Ck Il (ao (iC ["first","second"] [("last",1)] rfl (vJ (b_ (pv 0) aL)) (by w_tab) (by k_mem) (by row_wit1 (gZ (ao (bD qR (pv 2) (pv 1)) (ao (bD qR (pv 2) (pv 0)) aq))))) aq)) aq)))))),?_⟩
 refine ⟨_,rfl,n,_,_,_,rfl,rfl,aZ k,rfl,_,_,rfl,rfl,_,rfl,n,_,_,_,rfl,rfl,aZ k,rfl,_,rfl,n,_,_,_,rfl,rfl,aZ k,rfl,t,rfl,⟨_,aZ J⟩,λl D=>?_⟩;refine yM (xs:=rs) (λi ys Hc=>aB H Hc/\Hc l=some (.lst ys)/\dM Hc ys ((ws.take i).map (jJ aj))) ⟨bR D (cW H),aM,.nil⟩ (aW (by lk)) (λi ys Hc hi ⟨c,b,d⟩=>⟨aZ (c _ _ J),b,by have:=d.len;simp at this;lk⟩) ?_ ?_
 ·rintro i x ys Hc N ⟨c,b,d⟩;obtain ⟨I,S,j,rfl,o⟩:=C.get N;refine ⟨S,_,rfl,aZ (c _ _ o),rfl,_,_,rfl,_,_,rfl,rfl,⟨.inl rfl,.inl rfl,.inr rfl,trivial⟩,iG ⟨_,rfl,_,rfl,_,_,rfl,rfl,_,rfl,_,rfl,_,_,rfl,rfl,aW (by kl_no),λu e=>?_⟩⟩;have a:u≠l:=λz=>by rw [z,b] at e;cases e
  refine ⟨by rw [aV (bF a)];exact b,bR D (aG c (cu e _)),aM,?_⟩;rw [fZ j,cX];have R:KT Hc (upd (upd Hc u (HO.tup [V.int (aj-1-I.2),V.int (aj-1-I.1)])) l (HO.lst (ys++[V.ref u]))):=lN ((aV (bF a)).trans b) (KT.new e (bY _));exact (d.kt R).app (.cons ⟨u,rfl,(aV a).trans aM⟩ .nil)
 ·rintro ys Hc ⟨c,b,d⟩;rw [g,gq] at d;refine ⟨l,_,rfl,.inl ⟨aN b,λy r=>?_⟩⟩;km_lay r L r p M;refine ⟨aW (by kl_no),λB O=>?_⟩;have m:aB L (upd L B (HO.tup [V.int aj,V.ref y])):=cu O _;exact q _ _ (aG c (aG p m)) ⟨B,y,ys,rfl,aM,m _ _ M,d.same (aG p m)⟩
def agq:Gc Z "let_through" 1 ["net","counts"] apd:=by
 o_head (dz Z.V9,["net","counts","now","odd","number","wicket","both"]);obtain ⟨v,aj,ws,c,cs,rfl,⟨n,t,rs,rfl,hn,ht,W⟩,ok,len,hc,lc,q⟩:=h;have C:=W.len;refine ⟨_,(aU (bW 2 nd (iu Ij rfl T.zR Bd (ao (pv 1) aq)))
 (aU (bW 3 nd (fj aq))
 (aU (jx jj rfl  (akY rfl T.yI (ao (b_ (pv 0) aL) aq)) (qN rfl (ji (fK 4 nd) (ji (fK 5 nd) qG)))
 (aU (bW 6 nd (bD jQ (cJ (pv 2) (b_ (pv 5) aL)) (cJ (pv 2) (b_ (pv 5) aL))))
 (aU (qP (bD xK (bD jQ (pv 6) aL) aL) (qO (pv 2) (b_ (pv 5) aL) pI))
 (aU (qP (bD xK (pv 6) aL) (qO (pv 2) (b_ (pv 5) aL) pI))
 (aO (cP (cQ iU (bD nU (pv 6) aL) aL)
 (aO (kI (iV oN vo vp tV (pv 3) (ao (pv 4) aq))))
 cT))))))
 (aO (bw (gZ (ao (pv 2) (ao (pv 3) aq)))))))),?_⟩
 refine ⟨_,rfl,c,_,rfl,.inl (aN hc),λd p=>⟨aW (by kl_no),λlo U=>?_⟩⟩;have k:H lo=none:=(cu p _).free U;have M:d≠lo:=cV aM U;refine ⟨_,rfl,n,_,_,_,rfl,rfl,aZ (by walk_at "hh"),by rfl,t,rfl,⟨rs,aZ (by walk_at "hh")⟩,?_⟩;refine Bl (xs:=rs) (λi σ Hc=>∃ N O I,σ=[some (.ref n),some (.ref c),some (.ref d),some (.ref lo),N,O,I]/\aB H Hc/\Hc d=some (.lst ((bC cs (ws.take i)).map V.int))/\Hc lo=some (.lst ((qT 0 cs (ws.take i)).map V.int))) ⟨none,none,none,rfl,by walk_at "sm",by walk_at "hh",aM⟩ (λi σ Hc _ ⟨_,_,_,_,j,_⟩=>aZ (j _ _ ht)) ?_ ?_
 ·rintro i x T σ Hc hx y ⟨N,O,I,rfl,j,u,B⟩;obtain ⟨w0,b,e,rfl,J⟩:=W.get hx;obtain ⟨Y,o2,o3,o4,o5⟩:=bJ.mem ok e;have il:i<ws.length:=(dY.mp e).1;have lth:=jE (ws.take i) cs;have D:=aiP (ws.take i) 0 cs;rw [gV] at D;have a:(upd Hc T (HO.tup [V.int i,V.ref b])) b=some (.tup [.int w0.1,.int w0.2]):=(cu y _) _ _ (j _ _ J);have o:(upd Hc T (HO.tup [V.int i,V.ref b])) d=some (.lst ((bC cs (ws.take i)).map V.int)):=(cu y _) _ _ u;have l:(upd Hc T (HO.tup [V.int i,V.ref b])) lo=some (.lst ((qT 0 cs (ws.take i)).map V.int)):=(cu y _) _ _ B;have L:aB H (upd Hc T (HO.tup [V.int i,V.ref b])):=aG j (cu y _);refine ⟨T,_,rfl,aZ aM,rfl,?_⟩;generalize upd Hc T (HO.tup [V.int i,V.ref b])=H1 at a o l L;refine ⟨_,_,rfl,_,_,rfl,rfl,_,rfl,_,rfl,b,_,_,_,rfl,rfl,aZ a,rfl,d,_,_,_,rfl,rfl,aN o,lY Y (by lk),_,rfl,_,rfl,b,_,_,_,rfl,rfl,aZ a,rfl,d,_,_,_,rfl,rfl,aN o,lY o3 (by lk),_,_,rfl,rfl,_,rfl,_,_,rfl,rfl,_,_,rfl,rfl,by walk_at "side",_,rfl,_,rfl,b,_,_,_,rfl,rfl,aZ a,rfl,d,_,w0.1,w0.1.toNat,rfl,rfl,o,sJ Y (by rw [bh];lk),_,rfl,_,_,rfl,rfl,by walk_at "side",?_⟩;have R:b≠d:=zW a o;refine ⟨_,rfl,_,rfl,b,_,_,_,rfl,rfl,aZ ((aV R).trans a),rfl,d,_,w0.2,w0.2.toNat,rfl,rfl,aM,sJ o3 (by rw [fU,bh];lk),?_⟩;rw [Km];have S:((map V.int (bC cs (ws.take i))).set w0.1.toNat (V.int (((bC cs (ws.take i)).getD w0.1.toNat 0+(bC cs (ws.take i)).getD w0.2.toNat 0+1) / 2))).set w0.2.toNat (V.int (((bC cs (ws.take i)).getD w0.1.toNat 0+(bC cs (ws.take i)).getD w0.2.toNat 0) / 2))=(bC cs (ws.take (i+1))).map V.int:=by rw [fZ e,Pq,zA,zA];rfl
  have m:=ahs (ws.take i) w0 0 cs;rw [<-fZ e,gV,tY (by lk),oM] at m;refine ⟨_,rfl,_,_,rfl,rfl,by walk_at "side",rfl,_,rfl,pB (λg=>?_) (λg=>?_)⟩
  ·have g':fH (bC cs (ws.take i)) w0 % 2=1:=Lg g;rw [aQ g'] at m;refine ⟨_,rfl,.inl ⟨rfl,_,aN (by walk_at "hh")⟩,_,rfl,lo,_,_,rfl,rfl,by walk_at "hh",nY (by rw [bh];lk),_,_,_,rfl,bR k (bR p L),?_,?_⟩
   ·rw [aV M,aM];exact je (λz=>some (HO.lst z)) S
   ·rw [aM,m,cX];rfl
  ·have g':¬ fH (bC cs (ws.take i)) w0 % 2=1:=MN g;rw [aK g',nO] at m;refine ⟨_,_,_,rfl,bR p L,?_,?_⟩
   ·rw [aM];exact je (λz=>some (HO.lst z)) S
   ·rw [aV (bF M),m];exact l
 ·rintro σ Hc ⟨N,O,I,rfl,j,u,B⟩;rw [C,gq] at u B;exact ⟨_,rfl,_,rfl,aW (by kl_no),λt9 r=>q t9 d lo _ (j.free r) p k M (aG j (cu r _)) aM ((cu r _) _ _ u) ((cu r _) _ _ B)⟩
def Gm:Gc Z "exits" 2 ["net","counts"] am':=by o_head (dz Z.V_,["net","counts"]);obtain ⟨v,aj,ws,c,cs,rfl,d,ok,len,l,e,q⟩:=h;exact ⟨_,(aO (bw (b_ (bH (agq Z) hr.m rfl (ao (pv 0) (ao (pv 1) aq))) aL))),_,rfl,_,rfl,v,aj,ws,c,cs,rfl,d,ok,len,l,e,λt a b H' r j o k g n i p=>⟨t,_,_,_,rfl,rfl,aZ n,rfl,q a H' j g i⟩⟩
def adf:Gc Z "layers" 1 ["net"] akU:=by
 o_head (dz Z.Wa,["net","reached","found","first","second","layer"]);obtain ⟨v,aj,ws,rfl,⟨n,t,rs,rfl,R,ht,cR⟩,w1,w8,ok,len,q⟩:=h;have p:=cR.len;refine ⟨_,(aU (bW 1 nd (bD Gb (fj (ao aL aq)) (b_ (pv 0) aL)))
 (aU (bW 2 nd (fj aq))
 (aU (jx jj rfl  (vJ (b_ (pv 0) aL)) (qN rfl (ji (fK 3 nd) (ji (fK 4 nd) qG)))
 (aU (bW 5 nd (bD jQ aL (jM (P0 rfl) rfl T.Gs JD (ao (cJ (pv 1) (pv 3)) (ao (cJ (pv 1) (pv 4)) aq)))))
 (aU (qP (pv 5) (qO (pv 1) (pv 3) pI))
 (aU (qP (pv 5) (qO (pv 1) (pv 4) pI))
 (aO (kI (iV oN vo vp tV (pv 2) (ao (pv 5) aq))))))))
 (aO (bw (pv 2)))))),?_⟩
 walk_at "rd";intro O f0;obtain ⟨H1,C,l,x1⟩:∃ H1,upd H O (HO.lst [V.int 0])=H1/\aB H H1/\H1 O=some (.lst [.int 0]):=⟨_,rfl,cu f0 _,aM⟩;rw [C];refine ⟨_,rfl,n,_,_,_,rfl,rfl,aZ (l _ _ R),rfl,O,aj,_,rfl,rfl,x1,by lk, by lk, aW (by show 1*aj.toNat<=100000;lk),λa W=>?_⟩;have er:(replicate aj.toNat [V.int 0]).flatten=(replicate aj.toNat (0:Int)).map V.int:=by
  generalize aj.toNat=k;induction k with
  |zero=>rfl
  |succ k ih=>rw [ju,vg,ih,ju,gb];rfl
 rw [er];obtain ⟨H2,y,U,S⟩:∃ H2,upd H1 a (HO.lst ((replicate aj.toNat (0:Int)).map V.int))=H2/\aB H1 H2/\H2 a=some (.lst ((replicate aj.toNat (0:Int)).map V.int)):=⟨_,rfl,cu W _,aM⟩;rw [y];have M:H a=none:=l.free W;walk_at "rd";intro c m;have L:a≠c:=cV S m;have J:H c=none:=(aG l U).free m;have b:=aG l U;refine ⟨_,rfl,n,_,_,_,rfl,rfl,aZ ((cu m _) _ _ (b _ _ R)),rfl,t,rfl,⟨rs,aZ ((cu m _) _ _ (b _ _ ht))⟩,?_⟩;refine acj (xs:=rs) (λi σ Hc=>∃ I B D,σ=[some (.ref n),some (.ref a),some (.ref c),I,B,D]/\aB H Hc/\Hc a=some (.lst ((cj aj (ws.take i)).1.map V.int))/\Hc c=some (.lst ((cj aj (ws.take i)).2.map V.int))) ⟨none,none,none,rfl,bR J b,by rw [aV L];exact S,aM⟩ (λi σ Hc _ ⟨_,_,_,_,e,_⟩=>aZ (e _ _ ht)) ?_ ?_
 ·rintro i x σ Hc hx ⟨I,B,D,rfl,e,o,g⟩;obtain ⟨w0,t0,d,rfl,u⟩:=cR.get hx;obtain ⟨o1,o2,o3,o4,o5⟩:=ok w0 (eZ d);have Y:ws.take (i+1)=ws.take i++[w0]:=by rw [JB,d];rfl
  have il:i<ws.length:=(dY.mp d).1;obtain ⟨ll1,r⟩:=Jj aj (ws.take i);rw [gV] at r;have N:=e _ _ u;refine ⟨t0,_,rfl,aZ N,rfl,_,_,rfl,_,_,rfl,rfl,_,rfl,_,rfl,a,_,_,_,rfl,rfl,aN o,lY o1 (by lk),_,rfl,_,rfl,a,_,_,_,rfl,rfl,aN o,lY o3 (by lk),_,_,rfl,_,_,rfl,rfl,_,rfl,_,rfl,_,rfl,a,_,w0.1,w0.1.toNat,rfl,rfl,o,sJ o1 (by rw [bh];lk),_,rfl,_,rfl,_,rfl,a,_,w0.2,w0.2.toNat,rfl,rfl,aM,sJ o3 (by rw [fU,bh];lk),?_⟩;rw [Km];have j:c≠a:=bF L;refine ⟨_,rfl,.inl ⟨rfl,_,aN (by rw [aV j];exact g)⟩,_,rfl,c,_,_,rfl,rfl,by rw [aV j];exact g,nY (by rw [bh];lk),_,_,_,rfl,bR J (bR M e),?_,?_⟩
  ·rw [aV L,aM,Y,Qg];exact je (λz=>some (HO.lst z)) (am7 _ _)
  ·rw [aM,Y,Qg];exact je (λz=>some (HO.lst z)) (am8 _ _)
 ·rintro σ Hc ⟨I,B,D,rfl,e,o,g⟩;refine ⟨_,rfl,?_⟩;rw [p,gq] at g;exact q c Hc J e g
def K9:Gc Z "depth" 2 ["net"] am9:=by o_head (dz Z.Wb,["net"]);obtain ⟨v,aj,ws,rfl,b,i,g,ok,len,q⟩:=h;refine ⟨_,(aO (bw (acy rfl rfl T.Gs (bH (adf Z) hr.m rfl (ao (pv 0) aq)) aL))),_,rfl,v,aj,ws,rfl,b,i,g,ok,len,λl H1 j c d=>⟨l,_,rfl,aN d,λe=>q 0 H1 c (λ_=>rfl) (λz=>absurd e z),λm a=>q m H1 c (λz=>?_) λ_=>a⟩⟩;rw [z] at a;exact absurd a.1 (by simp)
def Ei:Gc Z "depth_power" 3 ["net"] ane:=by
 o_head (dz Z.Wc,["net","power","level"]);obtain ⟨v,aj,ws,rfl,a,l,g,ok,len,q⟩:=h;refine ⟨_,(aU (bW 1 nd aL)
 (aU (jx jj rfl  (qu rfl T.lD (ao (bH (K9 Z) hr.m rfl (ao (pv 0) aq)) aq)) (fK 2 nd)
 (aO (Tw (i:=1) nd rfl (by k_in) aL ape)))
 (aO (bw (pv 1))))),?_⟩
 refine ⟨_,rfl,v,aj,ws,rfl,a,l,g,ok,len,λm H1 c k j=>?_⟩;have d:=Ku ok k j;have o:=acF ok;refine ⟨m,rfl,by lk, by lk, ?_⟩;refine Iz (n:=m.toNat) (λi σ Hc=>∃ b,σ=[some v,some (.int (2 ^ i)),b]/\Hc=H1) ⟨none,rfl,rfl⟩ ?_ ?_
 ·rintro i σ Hc hi ⟨b,rfl,rfl⟩;refine ⟨_,rfl,_,_,rfl,rfl,.inr ⟨by decide,by decide⟩,some (V.int (0+(i:Int))),?_,rfl⟩;rw [Int.pow_succ];rfl
 ·rintro σ Hc ⟨b,rfl,rfl⟩;refine ⟨_,rfl,?_⟩;have e:(2:Int) ^ m.toNat=whole aj ws:=by unfold whole;rw [Int.natCast_pow,d,kO];rfl
  rw [e];exact q _ c
def Pk:Gc Z "all_on_one" 1 ["wide","lane","number"] anf:=by
 o_head (dz Z.Wg,["wide","lane","number","counts"]);obtain ⟨aj,cC,n,rfl,l,j,g,m,q⟩:=h;refine ⟨_,(aU (bW 3 nd (bD Gb (fj (ao aL aq)) (pv 0)))
 (aU (qP (pv 2) (qO (pv 3) (pv 1) pI))
 (aO (bw (pv 3))))),?_⟩
 refine ⟨aW (by kl_no),λla c=>⟨_,rfl,la,aj,_,rfl,rfl,aM,by lk, by lk, aW (by show 1*aj.toNat<=100000;lk),λb d=>?_⟩⟩;have e:(replicate aj.toNat [V.int 0]).flatten=(replicate aj.toNat (0:Int)).map V.int:=by
  generalize aj.toNat=k;induction k with
  |zero=>rfl
  |succ k i=>rw [ju,vg,i,ju,gb];rfl
 rw [e];have a:H b=none:=(cu c _).free d;refine ⟨_,rfl,_,rfl,_,rfl,b,_,cC,cC.toNat,rfl,rfl,aM,sJ g (by rw [bh,vG];lk),?_⟩;rw [Km];refine ⟨_,rfl,q b _ a (bR a (bR c (cW H))) ?_⟩;rw [aM,zA];rfl
def aoI:Gc Z "shares" 4 ["net"] ak3:=by
 o_head (dz Z.Wh,["net","power"]);obtain ⟨v,aj,ws,rfl,c,D,B,ok,len,q⟩:=h;obtain ⟨n,t,rs,rfl,z,U,S⟩:=id c;refine ⟨_,(aU (bW 1 nd (bH (Ei Z) hr.m rfl (ao (pv 0) aq)))
 (aO (bw (iC ["lane"] [("net",0),("power",1)] rfl (qu rfl T.lD (ao (b_ (pv 0) aL) aq)) (by k_all) (by k_mem) (by row_wit1 (bH (Gm Z) hr.m rfl (ao (pv 1) (ao (bH (Pk Z) hr.m rfl (ao (uD (Cj K rfl) (pv 1) aL (λ_ _=>rfl)) (ao (pv 0) (ao (pv 2) aq)))) aq)))))))),?_⟩
 refine ⟨_,rfl,.ref n,aj,ws,rfl,c,D,B,ok,len,λH1 k=>⟨_,rfl,n,_,_,_,rfl,rfl,aZ (k _ _ z),rfl,aj,rfl,by lk, by lk, λl I=>?_⟩⟩;have u:H l=none:=k.free I;refine tQ (n:=aj.toNat) (λj ys Hc=>aB H Hc/\Hc l=some (.lst ys)/\fD H Hc l ys ((range j).map (oX aj.toNat (dX aj ws) ws))) ⟨bR u k,aM,.nil⟩ (aW (by lk)) (λj ys Hc ⟨_,e,r⟩=>⟨e,by have:=r.len;simp at this;lk⟩) ?_ ?_
 ·rintro j ys Hc N ⟨d,i,p⟩;refine ⟨⟨.inl rfl,.inr rfl,.inr rfl,trivial⟩,iG ⟨_,rfl,_,rfl,n,_,_,_,rfl,rfl,aZ (d _ _ z),rfl,_,rfl,_,rfl,aj,0+(j:Int),whole aj ws,rfl,D,B,by lk, by lk, λa R M g L=>⟨.ref n,aj,ws,a,_,rfl,c.kt (λb xs e=>g _ _ (d _ _ e)),ok,by lk, L,IW _ _ _,λb O C x J=>?_⟩⟩⟩;have y:H b=none:=(aG d g).free C;have o:b≠l:=bF (cV (g _ _ i) C);refine ⟨x _ _ (g _ _ i),bR u (aG d (aG g x)),aM,?_⟩;rw [ahu];refine p.more (aG g x) ?_ o y;rw [J];show some (HO.lst ((bC (vX aj.toNat ((0:Int)+(j:Int)).toNat (whole aj ws)) ws).map V.int))=_;rw [show ((0:Int)+(j:Int)).toNat=j by lk];rfl
 ·rintro ys Hc ⟨d,i,p⟩;exact q l ys Hc u d i p
def aoJ:Gc Z "uneven" 5 ["net"] ak6:=by
 o_head (dz Z.Wi,["net","lane","row","place","share"]);obtain ⟨v,aj,ws,rfl,U,w1,w8,ok,len,q1,q2⟩:=h;refine ⟨_,(aU (jx jj rfl  (Bk rfl T.yI (ao (bH (aoI Z) hr.m rfl (ao (pv 0) aq)) aq)) (qN rfl (ji (fK 1 nd) (ji (fK 2 nd) qG)))
 (aO (jx jj rfl  (Bk rfl T.yI (ao (pv 2) aq)) (qN rfl (ji (fK 3 nd) (ji (fK 4 nd) qG)))
 (aO (cP (cQ mj (pv 4) (cJ (pv 2) aL))
 (aO (bw (gZ (ao (pv 1) (ao aL (ao (pv 3) aq))))))
 cT)))))
 (aO (bw zP))),?_⟩
 refine ⟨_,rfl,v,aj,ws,rfl,U,w1,w8,ok,len,λl rs H1 fl J xl rows=>?_⟩;have lr:=rows.len;rw [Zx] at lr;have hl:=Zx aj ws;refine ⟨l,rfl,⟨_,aN xl⟩,?_⟩;refine Bl (xs:=rs) (λi σ Hc=>∃ Y W b a,σ=[some v,Y,W,b,a]/\aB H1 Hc/\∀ j,j<i->Uc (qY (pK aj ws) j)) ⟨none,none,none,none,rfl,cW _,λj hj=>absurd hj (by lk)⟩ (λi σ Hc _ ⟨_,_,_,_,_,q,_⟩=>aN (q _ _ xl)) ?_ ?_
 ·rintro i x T σ Hc n fT ⟨Y,W,b,a,rfl,q,B⟩;obtain ⟨r,t,e,rfl,X3,ftr,d⟩:=rows.get n;have hi:i<aj.toNat:=(Zy e).1;have y:=ang e;obtain ⟨_,rfl⟩:=Zy e;have lsh:=aht aj.toNat (dX aj ws) ws i;refine ⟨T,_,rfl,aZ aM,rfl,?_⟩;have O:aB H1 (upd Hc T (HO.tup [V.int i,V.ref t])):=aG q (cu fT _);generalize upd Hc T (HO.tup [V.int i,V.ref t])=H2 at O;refine ⟨_,_,rfl,_,_,rfl,rfl,?_⟩;have S:=O _ _ d;refine ⟨_,rfl,t,rfl,⟨_,aN S⟩,?_⟩;refine Bl (xs:=(oX aj.toNat (dX aj ws) ws i).map V.int) (λk σ o=>∃ b a,σ=[some v,some (.int i),some (.ref t),b,a]/\aB H1 o/\∀ x,x<k->(oX aj.toNat (dX aj ws) ws i).getD x 0=(oX aj.toNat (dX aj ws) ws i).getD 0 0) ⟨b,a,rfl,O,λx n=>absurd n (by lk)⟩ (λk σ o _ ⟨_,_,_,u,_⟩=>aN (u _ _ d)) ?_ ?_
  ·rintro k x I σ o M R ⟨b,a,rfl,u,C⟩;obtain ⟨z,L,rfl⟩:=u5 M;have kl:k<aj.toNat:=by have:=(dY.mp L).1;lk
   refine ⟨I,_,rfl,aZ aM,rfl,?_⟩;have p:aB H1 (upd o I (HO.tup [V.int k,V.int z])):=aG u (cu R _);generalize upd o I (HO.tup [V.int k,V.int z])=H3 at p;refine ⟨_,_,rfl,_,_,rfl,rfl,_,rfl,_,rfl,t,_,_,_,rfl,rfl,aN (p _ _ d),lY (i:=0) (by decide) (by lk),rfl,_,rfl,pB (λg=>?_) (λg=>?_)⟩
   ·have D:z≠(oX aj.toNat (dX aj ws) ws i).getD 0 0:=λc=>by rw [c] at g;simp at g
    refine ⟨_,rfl,_,rfl,aW (by kl_no),λT4 f4=>?_⟩;have N:H T4=none:=(aG J p).free f4;refine q2 T4 i k _ N (aG J (aG p (cu f4 _))) aM ⟨by lk, B,?_,?_,?_⟩
    ·rw [y];lk
    ·rw [y,Cm L];exact D
    ·rw [y];exact C
   ·have D:z=(oX aj.toNat (dX aj ws) ws i).getD 0 0:=by
     by_cases c:z=(oX aj.toNat (dX aj ws) ws i).getD 0 0
     ·exact c
     ·exact absurd (by simp;exact c) g
    refine ⟨_,_,rfl,p,λx n=>?_⟩;by_cases c:x<k
    ·exact C x c
    ·have:x=k:=by lk
     rw [this,Cm L];exact D
  ·rintro σ o ⟨b,a,rfl,u,C⟩;refine ⟨_,_,_,_,rfl,u,λj hj=>?_⟩;by_cases c:j<i
   ·exact B j c
   ·have:j=i:=by lk
    subst this;rw [y];intro x n;exact C x (by rw [bh];exact n)
 ·rintro σ Hc ⟨Y,W,b,a,rfl,q,B⟩;refine q1 Hc (aG J q) λi hi=>B i (by lk)
def agr:Gc Z "longer_rows" 1 ["rows","numbers"] alu:=by
 o_head (dz Z.Wj,["rows","numbers","found","row","number"]);obtain ⟨a,b,rs,M,ns,rfl,ha,rows,Y,N,hnl,L,q⟩:=h;have lr:=rows.len;refine ⟨_,(aU (bW 2 nd (fj aq))
 (aU (jx jj rfl  (jZ (pv 0)) (fK 3 nd)
 (aO (jx jj rfl  (jZ (pv 1)) (fK 4 nd)
 (aO (kI (iV oN vo vp tV (pv 2) (ao (bD vK (pv 3) (fj (ao (pv 4) aq))) aq)))))))
 (aO (bw (pv 2))))),?_⟩
 refine ⟨aW (by kl_no),λl R=>⟨_,rfl,a,rfl,⟨_,aN (by walk_at "hh")⟩,?_⟩⟩;refine uY (xs:=rs) (λi σ Hc=>∃ J d ys,σ=[some (.ref a),some (.ref b),some (.ref l),J,d]/\aB H Hc/\Hc l=some (.lst ys)/\fD H Hc l ys (sU (M.take i) ns)) ⟨none,none,[],rfl,by walk_at "sm",aM,.nil⟩ (λi σ Hc _ ⟨_,_,_,_,o,_⟩=>aN (o _ _ ha)) ?_ ?_
 ·rintro i x σ Hc hx ⟨J,d,ys,rfl,o,B,u⟩;obtain ⟨r,W,g,rfl,D⟩:=rows.get hx;have il:i<M.length:=(dY.mp g).1;have rl:=L r (eZ g);refine ⟨_,rfl,b,rfl,⟨_,aN (o _ _ Y)⟩,?_⟩;refine uY (xs:=ns.map V.int) (λj σ c=>∃ d ys,σ=[some (.ref a),some (.ref b),some (.ref l),some (.ref W),d]/\aB H c/\c l=some (.lst ys)/\fD H c l ys (sU (M.take i) ns++(ns.take j).map λn=>r++[n])) ⟨d,ys,rfl,o,B,by simpa using u⟩ (λj σ c _ ⟨_,_,_,e,_⟩=>aN (e _ _ Y)) ?_ ?_
  ·rintro j x σ c C ⟨d,ys,rfl,e,p,k⟩;obtain ⟨z,S,rfl⟩:=u5 C;have jl:j<ns.length:=(dY.mp S).1;have ly:=k.len;rw [dJ,Qk,bh,gV,gV,tY (by lk),tY (by lk)] at ly;have hm:(i+1)*ns.length<=M.length*ns.length:=ab4 _ (by lk);rw [Rt] at hm;refine ⟨_,rfl,.inl ⟨rfl,_,aN p⟩,_,rfl,_,rfl,aW (by kl_no),λv I=>⟨W,v,_,_,rfl,rfl,(cu I _) _ _ (e _ _ D),aM,aW (by rw [bh];show r.length+1<=100000;lk),λm O=>?_⟩⟩;have y:aB c (upd (upd c v (HO.lst [V.int z])) m (HO.lst (r.map V.int++[V.int z]))):=aG (cu I _) (cu O _);have U:(upd (upd c v (HO.lst [V.int z])) m (HO.lst (r.map V.int++[V.int z]))) m=some (.lst ((r++[z]).map V.int)):=by rw [aM,cX];rfl
   have t:c m=none:=(cu I _).free O;generalize upd (upd c v (HO.lst [V.int z])) m (HO.lst (r.map V.int++[V.int z]))=H2 at y U;refine ⟨l,_,_,rfl,rfl,y _ _ p,nY (by lk),_,ys++[.ref m],rfl,bR R (aG e y),aM,?_⟩;rw [fZ S,cX,<-vh];exact k.more y U (bF (cV p t)) (e.free t)
  ·rintro σ c ⟨d,ys,rfl,e,p,k⟩;refine ⟨_,_,ys,rfl,e,p,?_⟩;rw [bh,gq] at k;rw [fZ g];unfold sU at k ⊢;rw [List.flatMap_append];simpa using k
 ·rintro σ Hc ⟨J,d,ys,rfl,o,B,u⟩;rw [lr,gq] at u;exact ⟨_,rfl,q l ys Hc R o B u⟩
def abN:Gc Z "rows_of" 2 ["choices"] alv:=by
 o_head (dz Z.Wm,["choices","rows","numbers"]);obtain ⟨a,cs,C,rfl,N,rows,R,d,y,q⟩:=h;have S:=rows.len;refine ⟨_,(aU (bW 1 nd (fj (ao (fj aq) aq)))
 (aU (jx jj rfl  (jZ (pv 0)) (fK 2 nd)
 (aO (bW 1 nd (bH (agr Z) hr.m rfl (ao (pv 1) (ao (pv 2) aq))))))
 (aO (bw (pv 1))))),?_⟩
 refine ⟨aW (by kl_no),λB f0=>⟨aW (by kl_no),λp J=>?_⟩⟩;have e:B≠p:=cV aM J;have k:H p=none:=(cu f0 _).free J;refine ⟨_,rfl,a,rfl,⟨_,aN (by walk_at "hh")⟩,?_⟩;refine uY (xs:=cs) (λi σ Hc=>∃ l z ys,σ=[some (.ref a),some (.ref l),z]/\aB H Hc/\H l=none/\Hc l=some (.lst ys)/\fD H Hc l ys (j5 (C.take i))) ⟨p,none,[.ref B],rfl,by walk_at "sm",k,aM,.cons ⟨B,rfl,e,f0,(aV e).trans aM⟩ .nil⟩ (λi σ Hc _ ⟨_,_,_,_,c,_⟩=>aN (c _ _ N)) ?_ ?_
 ·rintro i x σ Hc O ⟨l,z,ys,rfl,c,I,j,g⟩;obtain ⟨r,Y,b,rfl,n⟩:=rows.get O;have il:i<C.length:=(dY.mp b).1;have L:=d (i+1) (by lk);rw [fZ b,Iu,Qk] at L;refine ⟨_,rfl,_,rfl,l,Y,ys,j5 (C.take i),r,rfl,j,g.rows,c _ _ n,L,y r (eZ b),λu hu=>?_,λl' D H' U s' o v=>?_⟩
  ·have:=((Ja (C.take i) u).mp hu).1;rw [gV] at this;lk
  refine ⟨l',_,D,rfl,aG c s',c.free U,o,?_⟩;rw [fZ b,Iu];exact vO v λr x ⟨t,M,V,W,e4⟩=>⟨t,M,V,c.free W,e4⟩
 ·rintro σ Hc ⟨l,z,ys,rfl,c,I,j,g⟩;rw [S,gq] at g;exact ⟨_,rfl,q l ys Hc I c j g⟩
def Zu:Gc Z "first_layer" 2 ["net"] anD:=by
 refine dz Z.Wn λf fd F=>?_;have T:=Z.T;refine F.fn.ok afA (λvs H Q E h=>?_) (λcdv A outer s H vs Q E hr h=>?_)
 ·obtain ⟨v,aj,ws,rfl,_⟩:=h;rfl
 ·obtain ⟨v,aj,ws,rfl,k,w1,w8,ok,len,q⟩:=h;obtain ⟨n,t,rs,rfl,U,N,M⟩:=id k;have p:=M.len;have ll:(cj aj ws).2.length=ws.length:=(Jj aj ws).2;refine ⟨_,(aO (bw (iC ["wicket","layer"] [] rfl (QH rfl T.Lf (ao (b_ (pv 0) aL) (ao (bH (adf Z) hr.m rfl (ao (pv 0) aq)) aq))) (by w_tab) (by row_wit1 (Ci (cQ iU (pv 1) aL))) (by row_wit1 (pv 0))))),_,rfl,n,_,_,_,rfl,rfl,aZ U,rfl,_,rfl,.ref n,aj,ws,rfl,k,w1,w8,ok,len,λly H1 W g j=>⟨t,ly,rfl,⟨_,aZ (g _ _ N)⟩,⟨_,aN j⟩,λl C=>?_⟩⟩;have S:H l=none:=g.free C;refine abk (xs:=rs) (ys':=(cj aj ws).2.map V.int) (by rw [bh];lk) (λi ys Hc=>aB H1 Hc/\Hc l=some (.lst ys)/\ys.length<=i/\dM Hc ys (gJ (ws.take i) ((cj aj ws).2.take i))) ⟨bR C (cW H1),aM,fP _,by simp [gJ];exact .nil⟩ (aW (by lk)) (λi ys Hc hi ⟨a,e,u,d⟩=>⟨aZ (a _ _ (g _ _ N)),aN (a _ _ j),e,u⟩) ?_ ?_
  ·rintro i x y TT ys Hc Y L O ⟨a,e,u,d⟩;obtain ⟨w0,J,D,rfl,r⟩:=M.get Y;rw [jP] at L;obtain ⟨d0,B,rfl⟩:=ab1.mp L;km_lay O R O b x3;have o:=aij D B;refine ⟨TT,_,rfl,aZ x3,rfl,_,_,rfl,_,_,rfl,rfl,⟨.inl rfl,.inl rfl,trivial⟩,?_⟩;have z:=b _ _ e;refine ⟨_,rfl,rfl,_,rfl,?_⟩;by_cases c:d0=1
   ·refine cL (by simp [c]) ?_;rw [aQ c] at o;refine ⟨_,rfl,z,bR C (aG a b),aM,by rw [dJ];simp;lk, ?_⟩;rw [o];have I:KT R (upd R l (HO.lst (ys++[V.ref J]))):=lN z (bY _);exact ((d.same b).kt I).app (.cons ⟨J,rfl,I _ _ (b _ _ (a _ _ (g _ _ r)))⟩ .nil)
   ·refine bQ (by simp [c]) ?_;rw [aK c,nO] at o;refine ⟨aG a b,z,by lk, ?_⟩;rw [o];exact d.same b
  ·rintro ys Hc ⟨a,e,u,d⟩;rw [p,gq,<-ll,gq] at d;exact q l Hc S (aG g a) ⟨ys,e,d⟩
def Y9:Ge Z "common_trials" 4 ["one","other"] (alF eA.many):=by
 refine wD Z.Wo λf fd F=>?_;have T:=Z.T;refine F.fn.Vs Ie (λvs H Q E h=>?_) (λcdv A outer s H vs Q E hr h=>?_)
 ·obtain ⟨L,I,a,b,us,ws,rfl,_⟩:=h;rfl
 ·obtain ⟨L,I,a,b,us,ws,rfl,mY,yr,R,a8,b1,b8,g,u,D,l2,qE,qQ⟩:=h;refine ⟨_,(aU (bW 2 Ie.nd (qy (cQ vQ (bH (K9 Z) hr.m rfl (ao (pv 0) aq)) (bH (K9 Z) hr.m rfl (ao (pv 1) aq))) (pv 0) (pv 1)))
  (aU (bW 3 Ie.nd (iC ["wicket"] [("other",1)] rfl (jZ (bH (Zu Z) hr.m rfl (ao (pv 0) aq))) (by k_all) (by row_wit1 (Ci (zy (apm hr.anA) (pv 0) (bH (Zu Z) hr.m rfl (ao (pv 1) aq)) (by with_unfolding_all rfl)))) (by row_wit1 (uD (Cj K rfl) (pv 0) aL (λ_ _=>rfl)))))
  (aU (cP (cQ vQ (bD pP (bH (K9 Z) hr.m rfl (ao (pv 2) aq)) (bD qR (b_ (pv 0) aL) (j6 T (pv 3)))) (Cp rfl Z.Oj))
  (aO (Bo Z.D_.Qp rfl Z.D_.Iv (ao bN aq)))
  cT)
  (aU (bW 4 Ie.nd (iu (Zm rfl) rfl T.zR Bd (ao (iu Ql rfl T.lD Io (ao (bH (Ei Z) hr.m rfl (ao (pv 2) aq)) aq)) aq)))
  (aO (bw (bH (abN Z) hr.m rfl (ao (iC ["lane"] [("numbers",4),("seconds",3)] rfl (qu rfl T.lD (ao (b_ (pv 0) aL) aq)) (by k_all) (by k_mem) (by row_wit1 (qy (zy (aho K rfl) (pv 0) (pv 2) (by with_unfolding_all rfl)) (fj (ao aL aq)) (pv 1)))) aq)))))))),?_⟩
  refine t_ (a:=qX _ _) λN hN=>?_;have go:∀ (J:V) (j:Int) (p:aP) (H2:Hp),aB H H2->eV H2 J j p->1<=j->j<=8->bJ j p->p.length<=41->dX j p=nZ a us b ws->N [some L,some I,some J,none,none] H2:=λJ j p H2 lC aeI d1 d8 y ld ed=>hN _ _ (by
   refine t_ (a:=qX _ _) λN2 hN2=>?_;have goB:∀ (l:Addr) (B:Hp),H l=none->aB H2 B->B l=some (.lst ((gY a us b ws).map V.int))->N2 [some L,some I,some J,some (.ref l),none] B:=λls B fl tG x3=>hN2 _ _ (by
    have O:=aG lC tG;obtain ⟨n1,t1,rs1,Hu,hn1,ht1,hr1⟩:=mY.kt (cG O (bY _));refine ⟨_,rfl,J,j,p,rfl,aeI.kt (cG tG (bY _)),d1,d8,y,ld,λm H4 C m0 m1=>?_⟩;have em:=Ku y m0 m1;rw [ed] at em;have tH:=aG O C;have MK:=acK (b:=b) (ws:=ws) g R;have md:nZ a us b ws<=41:=by rw [<-ed];exact gR (acF y) ld
    refine ⟨_,rfl,n1,_,_,_,Hu,rfl,aZ (C _ _ hn1),rfl,_,rfl,ls,_,rfl,.inl (aN (C _ _ x3)),_,_,rfl,rfl,_,_,rfl,rfl,.inl ⟨by lk, by lk⟩,_,_,rfl,rfl,_,rfl,?_⟩;rw [bh,em];by_cases c:10<((nZ a us b ws:Nat):Int)*(a-((gY a us b ws).length:Int))
    ·exact cL (fM c) ⟨by show 1<=1000;decide,qE c _ tH⟩
    ·refine bQ (by simpa using c) ?_;have c':((nZ a us b ws:Nat):Int)*(a-((gY a us b ws).length:Int))<=10:=by lk
     obtain ⟨d10,rb⟩:=ahH (b:=b) (ws:=ws) g c' R;have Hq:2 ^ nZ a us b ws<=1024:=gR (J0 (by decide) d10) (by decide);have wh:whole j p=((2 ^ nZ a us b ws:Nat):Int):=by unfold whole;rw [ed]
     have wb:0<=whole j p/\whole j p<=1024:=by rw [wh];exact ⟨Int.natCast_nonneg _,by exact_mod_cast Hq⟩
     refine ⟨_,rfl,J,j,p,rfl,aeI.kt (cG (aG tG C) (bY _)),d1,d8,y,ld,λH5 s5=>?_⟩;have uW:=aG tH s5;refine ⟨_,rfl,λr6 f6=>?_⟩;km_lay f6 H6 f6 s6 x6;refine ⟨r6,0,whole j p,rfl,x6,by lk, by lk, by lk, by lk, by lk, λl7 f7=>?_⟩;rw [wh,arL];km_lay f7 H7 f7 s7 x7;have s07:=aG uW (aG s6 s7);have s37:aB B H7:=aG C (aG s5 (aG s6 s7));refine ⟨_,rfl,n1,_,_,_,Hu,rfl,aZ (s37 _ _ hn1),rfl,a,rfl,by lk, by lk, λM S=>?_⟩;refine tQ (n:=a.toNat) (λi ys Hc=>aB H7 Hc/\Hc M=some (.lst ys)/\ys.length<=i/\fD H6 Hc M ys (mC i (gY a us b ws) (nZ a us b ws))) ⟨bR S (cW H7),aM,fP _,.nil⟩ (aW (by lk)) (λi ys Hc ⟨_,e,l,_⟩=>⟨e,l⟩) ?_ ?_
     ·rintro i ys Hc hi ⟨d,o,ly,q⟩;refine ⟨⟨.inl rfl,.inr rfl,.inr rfl,trivial⟩,iG ⟨_,rfl,_,rfl,ls,_,rfl,.inl (aN (d _ _ (s37 _ _ x3))),rfl,?_,_,rfl,?_⟩⟩
      ·simp [uE]
      show if lM (.int (0+(i:Int))) ((gY a us b ws).map V.int)=true then _ else _
      rw [aoC,rP,abn];by_cases ci:(i:Int)∈gY a us b ws
      ·refine cL (fM ci) ?_;rw [aQ ci];refine ⟨aW (by kl_no),λl8 Y=>?_⟩;km_lay Y H8 Y s8 x8;have e8:=s8 _ _ o;have n8:l8≠M:=λz=>by subst z;rw [o] at Y;cases Y
       exact ⟨e8,bR S (aG d s8),aM,by rw [dJ];simp;lk, (q.more s8 (w:=[0]) x8 n8 (aB.free (aG s7 d) Y))⟩
      ·refine bQ (by simpa using ci) ?_;rw [aK ci];have n7:l7≠M:=λz=>by subst z;rw [x7] at S;cases S
       exact ⟨_,rfl,o,bR S d,aM,by rw [dJ];simp;lk, (q.more (cW _) (d _ _ x7) n7 f7)⟩
     ·rintro ys Hc ⟨d,o,ly,q⟩;refine ⟨M,ys,_,rfl,o,q.rows,by simp [mC];lk, λi hi=>?_,λr hr'=>?_,λl9 rs9 H9 f9 s9 x9 rn9=>?_⟩
      ·have W:i<=a.toNat:=by simpa [mC] using hi
       rw [alC _ _ _ _ W];exact gR (rb i W) (by decide)
      ·unfold mC at hr';obtain ⟨k,_,rfl⟩:=fV.mp hr';by_cases ck:(k:Int)∈gY a us b ws
       ·rw [aQ ck];simp
       ·rw [aK ck,bh,BW];lk
      ·have qp:=aG s07 d;exact qQ c' l9 rs9 H9 (qp.free f9) (aG qp s9) x9 (aaq (λt h=>qp.free h) rn9))
   refine ⟨_,rfl,L,a,us,rfl,mY.kt (cG lC (bY _)),R,a8,g,D,λlf B ff s3 ⟨rf,xf,rrf⟩=>?_⟩;have O:=aG lC s3;have lrf:=rrf.len;refine ⟨lf,rfl,⟨_,aN xf⟩,λl hl=>?_⟩;have fl:H l=none:=O.free hl;have lfl:=aik us (cj a us).2;refine rE (xs:=rf) (λi ys Hc=>aB B Hc/\Hc l=some (.lst ys)/\ys.length<=i/\ys=((((gJ us (cj a us).2).take i).filter λw=>decide (w∈gJ ws (cj b ws).2)).map (·.2)).map V.int) ⟨bR hl (cW B),aM,fP _,rfl⟩ (aW (by lk)) (λi ys Hc hi ⟨d,o,D,_⟩=>⟨aN (d _ _ xf),o,D⟩) ?_ ?_
   ·rintro i x ys Hc hx ⟨d,o,D,q⟩;obtain ⟨w0,t0,hw0,rfl,U⟩:=rrf.get hx;refine ⟨⟨.inl rfl,.inr rfl,trivial⟩,_,rfl,_,rfl,I,b,ws,rfl,yr.kt (cG (aG O d) (bY _)),b1,b8,u,l2,λlg H4 fg C ⟨rg,xg,Nj⟩=>?_⟩;have Nk:=aG d C;have e4:=C _ _ o;have tk:(gJ us (cj a us).2).take (i+1)=(gJ us (cj a us).2).take i++[w0]:=fZ hw0;refine ⟨_,_,.tup (Nk _ _ U) (.cons (.int _) (.cons (.int _) .nil)),.lst xg (aaI Nj),ahG w0,af' _,anB w0 _,_,rfl,?_⟩;by_cases c:w0∈gJ ws (cj b ws).2
    ·refine cL (fM ((O_ _ _).mpr c)) ⟨_,rfl,t0,_,_,_,rfl,rfl,aZ (Nk _ _ U),rfl,e4,bR hl Nk,aM,by rw [dJ];simp;lk, ?_⟩;rw [tk,zq,cX,cX,q];simp [c]
    ·refine bQ (by rw [rT];exact λz=>c ((O_ _ _).mp z)) ⟨Nk,e4,by lk, ?_⟩;rw [tk,zq,cX,cX,q];simp [c]
   ·rintro ys Hc ⟨d,o,D,q⟩;rw [lrf,gq] at q;subst q;exact goB l Hc fl (aG s3 d) o)
  refine ⟨_,rfl,L,a,us,rfl,mY,R,a8,g,D,λm1 H1 s1 m10 m11=>?_⟩;have em1:=Ku g m10 m11;refine ⟨_,rfl,I,b,ws,rfl,yr.kt (cG s1 (bY _)),b1,b8,u,l2,λm2 H2 s2 m20 m21=>?_⟩;have em2:=Ku u m20 m21;have v:=aG s1 s2;refine ⟨_,_,rfl,rfl,_,rfl,?_⟩;by_cases c:dX b ws<dX a us
  ·exact cL (fM (by lk)) ⟨_,rfl,go L a us H2 v (mY.kt (cG v (bY _))) R a8 g D (by unfold nZ;rw [aQ c])⟩
  ·exact bQ (by simp;lk) ⟨_,rfl,go I b ws H2 v (yr.kt (cG v (bY _))) b1 b8 u l2 (by unfold nZ;rw [aK c])⟩
def aoK:Ge Z "trials" 5 ["net"] (alG eA.many):=by
 o_head (wD Z.Wq,["net"],0);obtain ⟨v,aj,ws,rfl,a,e,d,ok,len,i,j⟩:=h;refine ⟨_,(aO (bw (nG (Y9 Z) hr.m rfl (ao (pv 0) (ao (pv 0) aq))))),_,rfl,_,rfl,v,v,aj,aj,ws,ws,rfl,a,a,e,d,e,d,ok,ok,len,len,?_,?_⟩
 ·rw [Qo,Qn];exact λc H' s'=>i c H' s'
 ·rw [alA,Qo,Qn];exact λc l b H' g s' x r=>j (λz=>absurd c (by unfold Ue at z;lk)) l b H' g s' x r
def adU:Gc Z "falls" 1 ["values"] anx:=by
 o_head (dz Z.Wr,["values","ahead","value"]);obtain ⟨c,cs,rfl,v,D,q⟩:=h;refine ⟨_,(aU (jx jj rfl  (ana rfl T.Lf (ao (pv 0) (ao (wV Cg (pv 0) (xO aL) xM) aq))) (qN rfl (ji (fK 1 nd) (ji (fK 2 nd) qG)))
 (aO (cP (cQ vQ (pv 2) (pv 1))
 (aO (bw pW))
 cT)))
 (aO (bw pW))),?_⟩
 refine ⟨_,rfl,_,rfl,_,rfl,c,_,rfl,aN v,λp fp=>?_⟩;rw [arv];km_lay fp H1 fp d m;have b:=d _ _ v;refine ⟨c,p,rfl,⟨_,aN b⟩,⟨_,aN m⟩,?_⟩;refine ak7 (xs:=cs.map V.int) (ys:=(cs.map V.int).drop 1) (n:=cs.length-1) (by rw [bh];lk) (by rw [xW,bh];lk) (.inr (by rw [xW,bh])) (λi σ Hc=>∃ l k,σ=[some (.ref c),l,k]/\aB H1 Hc/\∀ j,j<i->cs.getD (j+1) 0<=cs.getD j 0) ⟨none,none,rfl,cW _,λj t=>absurd t (by lk)⟩ (λi σ Hc _ ⟨_,_,_,a,_⟩=>⟨aN (a _ _ b),aN (a _ _ m)⟩) ?_ ?_
 ·rintro i x y T σ Hc hi I r J ⟨l,k,rfl,a,e⟩;obtain ⟨z,o,rfl⟩:=u5 I;rw [List.getElem?_drop,Rg] at r;obtain ⟨u,C,rfl⟩:=u5 r;refine ⟨T,_,rfl,aZ aM,rfl,_,_,rfl,_,_,rfl,rfl,?_⟩;have B:aB H1 (upd Hc T (HO.tup [V.int z,V.int u])):=aG a (cu J _);refine ⟨_,rfl,_,rfl,_,_,rfl,rfl,_,rfl,pB (λg=>?_) (λg=>?_)⟩
  ·have g':z<u:=jH g;refine q false _ (aG d B) ⟨(λh=>nomatch h),λh=>?_⟩;have:=h i (by lk);rw [Cm o,Cm C] at this;lk
  ·have g':¬ z<u:=acz g;refine ⟨_,_,rfl,B,λj t=>?_⟩;by_cases c:j<i
   ·exact e j c
   ·have:j=i:=by lk
    subst this;rw [Cm o,Cm C];lk
 ·rintro σ Hc ⟨l,k,rfl,a,e⟩;exact q true Hc (aG d a) ⟨λ_ i hi=>e i (by lk),λ_=>rfl⟩
def aku:Gc Z "is_level" 2 ["counts"] anz:=by
 o_head (dz Z.Ws,["counts"]);obtain ⟨c,cs,rfl,k,pos,d,q⟩:=h;refine ⟨_,(aO (bw (vI (bH (adU Z) hr.m rfl (ao (pv 0) aq)) (uo (adX (anh (pv 0)) (uo (vN uz (bD qR (cJ (pv 0) aL) (cJ (pv 0) (adY adq aL))) aL))))))),_,rfl,c,cs,rfl,k,d,λb H1 g j=>?_⟩;have a:=g _ _ k;refine ⟨b,rfl,?_⟩;cases b with
 |false =>refine bQ (by decide) (q false H1 g ⟨(λh=>nomatch h),λh=>?_⟩);exact j.mpr ((O9 pos).mp h).1
 |true =>
  have l:=j.mp rfl;refine cL rfl ⟨_,rfl,true,.inl ⟨_,aN a,?_⟩,_,rfl,bQ (by decide) ?_⟩
  ·cases cs with
   |nil=>simp at pos
   |cons _ _=>rfl
  have e:(cs.map V.int)[(cs.map V.int).length-1]?=some (.int (cs.getD (cs.length-1) 0)):=by rw [bh,jP,Fz (show cs.length-1<cs.length by lk)];rfl
  refine ⟨_,rfl,c,_,_,_,rfl,rfl,aN a,lY (i:=0) (by decide) (by lk),_,rfl,_,rfl,c,_,_,_,rfl,rfl,aN a,ak5 e,_,_,rfl,rfl,_,_,rfl,rfl,q _ H1 g ?_⟩;rw [Fj,O9 pos];exact ⟨λh=>⟨l,h⟩,λh=>h.2⟩
def aoL:Ge Z "levels" 6 ["net"] (aov eA.many):=by
 o_head (wD Z.Wu,["net","unlike","counts"],0);obtain ⟨v,aj,ws,rfl,⟨b,y,t,ok,len⟩,N,L,I,C⟩:=h;refine ⟨_,(aU (bW 1 nd (bH (aoJ Z) hr.m rfl (ao (pv 0) aq)))
 (aU (cP (cQ acq (pv 1) zP)
 (aO (bw (gZ (ao bN (ao (bH (Pk Z) hr.m rfl (ao (b_ (pv 0) aL) (ao (b_ (pv 1) aL) (ao (bD pP aL (bH (Ei Z) hr.m rfl (ao (pv 0) aq))) aq)))) aq)))))
 cT)
 (aU (jx PassesOwn.leaving rfl  (jZ (nG (aoK Z) hr.m rfl (ao (pv 0) aq))) (fK 2 nd)
 (aO (cP (j4 (lG (bH (aku Z) hr.m rfl (ao (bH (Gm Z) hr.m rfl (ao (pv 0) (ao (pv 2) aq))) aq))))
 (aO (bw (gZ (ao bN (ao (pv 2) aq)))))
 cT)))
 (aO (bw (gZ (ao bN aq))))))),?_⟩
 refine ⟨_,rfl,v,aj,ws,rfl,b,y,t,ok,len,λH1 c ev=>?_,λT1 i k H1 fT c x1 un=>absurd un (L i k)⟩;have U:=b.kt (cG c (bY _));refine ⟨_,rfl,rfl,_,rfl,bQ (by decide) ⟨_,rfl,v,aj,ws,rfl,U,y,t,ok,len,λ_ H2 d=>C H2 (aG c d),λ_ l e H2 fl d u z=>?_⟩⟩;have q:=aG c d;refine ⟨l,rfl,⟨_,aN u⟩,?_⟩;refine uY (xs:=e) (λi σ Hc=>∃ g,σ=[some v,some .non,g]/\aB H2 Hc) ⟨none,rfl,cW _⟩ (λi σ Hc _ ⟨_,_,a⟩=>aN (a _ _ u)) ?_ ?_
 ·rintro i x σ Hc D ⟨g,rfl,a⟩;obtain ⟨r,R,j,rfl,n0,g0,O⟩:=z.get D;have o:r.length=aj.toNat:=by rw [((Ja _ r).mp (eZ j)).1,af_]
  refine ⟨_,rfl,_,rfl,v,aj,ws,R,r,rfl,b.kt (cG (aG q a) (bY _)),ok,by lk, a _ _ O,o,λla H3 fa J V=>⟨la,_,rfl,V,by rw [jE];lk, by rw [jE];lk, λB H4 M W=>?_⟩⟩;have S:B=true:=W.mpr (N r o);subst S;exact ⟨_,rfl,bQ (by decide) ⟨_,rfl,aG a (aG J M)⟩⟩
 ·rintro σ Hc ⟨g,rfl,a⟩;refine ⟨aW (by kl_no),λY p=>?_⟩;have n:=aG q a;exact I Y _ (n.free p) (aG n (cu p _)) aM
def af0:Gc Z "put_in_order" 1 ["net","values"] aqr:=by
 o_head (dz Z.Wv,["net","values","now","first","second","greater","lesser"]);obtain ⟨v,aj,ws,c,cs,rfl,⟨n,t,rs,rfl,L,I,y⟩,ok,len,C,J,q⟩:=h;have g:=y.len;refine ⟨_,(aU (bW 2 nd (iu Ij rfl T.zR Bd (ao (pv 1) aq)))
 (aU (jx jj rfl  (vJ (b_ (pv 0) aL)) (qN rfl (ji (fK 3 nd) (ji (fK 4 nd) qG)))
 (aU (bW 5 nd (jM (P0 rfl) rfl T.Gs JD (ao (cJ (pv 2) (pv 3)) (ao (cJ (pv 2) (pv 4)) aq))))
 (aU (bW 6 nd (jM (aiB rfl) rfl T.aqj PyProof.Rows.boot_min (ao (cJ (pv 2) (pv 3)) (ao (cJ (pv 2) (pv 4)) aq))))
 (aU (qP (pv 5) (qO (pv 2) (pv 3) pI))
 (aO (qP (pv 6) (qO (pv 2) (pv 4) pI)))))))
 (aO (bw (pv 2))))),?_⟩
 refine ⟨_,rfl,c,_,rfl,.inl (aN C),λa u=>⟨_,rfl,n,_,_,_,rfl,rfl,aZ (by walk_at "hh"),by rfl,t,rfl,⟨rs,aZ (by walk_at "hh")⟩,?_⟩⟩;refine acj (xs:=rs) (λi σ Hc=>∃ o l m j,σ=[some (.ref n),some (.ref c),some (.ref a),o,l,m,j]/\aB H Hc/\Hc a=some (.lst ((qZ cs (ws.take i)).map V.int))) ⟨none,none,none,none,rfl,by walk_at "sm",aM⟩ (λi σ Hc _ ⟨_,_,_,_,_,d,_⟩=>aZ (d _ _ I)) ?_ ?_
 ·rintro i x σ Hc B ⟨o,l,m,j,rfl,d,b⟩;obtain ⟨w0,z,e,rfl,k⟩:=y.get B;obtain ⟨p,O,r,M,N⟩:=bJ.mem ok e;have D:=abl (ws.take i) cs;refine ⟨z,_,rfl,aZ (d _ _ k),rfl,_,_,rfl,_,_,rfl,rfl,_,rfl,_,rfl,a,_,_,_,rfl,rfl,aN b,lY p (by lk),_,rfl,_,rfl,a,_,_,_,rfl,rfl,aN b,lY r (by lk),_,_,rfl,_,rfl,_,rfl,a,_,_,_,rfl,rfl,aN b,lY p (by lk),_,rfl,_,rfl,a,_,_,_,rfl,rfl,aN b,lY r (by lk),_,_,rfl,_,rfl,_,rfl,_,rfl,a,_,w0.1,w0.1.toNat,rfl,rfl,b,sJ p (by rw [bh];lk),_,rfl,_,rfl,_,rfl,a,_,w0.2,w0.2.toNat,rfl,rfl,aM,sJ r (by rw [fU,bh];lk),?_⟩;rw [Km];refine ⟨_,_,_,_,rfl,bR u d,?_⟩;rw [aM,fZ e,ai8,Qf,zA,zA];rfl
 ·rintro σ Hc ⟨o,l,m,j,rfl,d,b⟩;rw [g,gq] at b;exact ⟨_,rfl,q a Hc u d b⟩
def aoM:Gc Z "orders" 3 ["net"] alw:=by
 o_head (dz Z.Ww,["net","bits"]);obtain ⟨v,aj,ws,rfl,p,w1,w8,ok,len,q1,q2⟩:=h;obtain ⟨n,t,rs,rfl,hn,ht,cR⟩:=id p;refine ⟨_,(aU (jx jj rfl  (jZ (bH (abN Z) hr.m rfl (ao (bD Gb (fj (ao (fj (ao aL (ao aL aq))) aq)) (b_ (pv 0) aL)) aq))) (fK 1 nd)
 (aO (cP (j4 (lG (bH (adU Z) hr.m rfl (ao (bH (af0 Z) hr.m rfl (ao (pv 0) (ao (pv 1) aq))) aq))))
 (aO (bw (gZ (ao bN (ao (pv 1) aq)))))
 cT)))
 (aO (bw (gZ (ao bN aq))))),?_⟩
 refine ⟨aW (by kl_no),λa f0=>⟨aW (by kl_no),λB f1=>⟨_,rfl,n,_,_,_,rfl,rfl,aZ (by walk_at "hh"),by rfl,B,aj,_,rfl,rfl,aM,by lk, by lk, aW (by show 1*aj.toNat<=100000;lk),λe f2=>?_⟩⟩⟩;have er:(replicate aj.toNat [V.ref a]).flatten=replicate aj.toNat (V.ref a):=by
  generalize aj.toNat=k;induction k with
  |zero=>rfl
  |succ k U=>rw [ju,vg,U,ju];rfl
 rw [er];have x0:(upd (upd (upd H a (HO.lst [V.int 0,V.int 1])) B (HO.lst [V.ref a])) e (HO.lst (replicate aj.toNat (V.ref a)))) a=some (.lst (([0,1]:aF).map V.int)):=by show _=some (HO.lst [V.int 0,V.int 1]);walk_at "hh"
 have x2:(upd (upd (upd H a (HO.lst [V.int 0,V.int 1])) B (HO.lst [V.ref a])) e (HO.lst (replicate aj.toNat (V.ref a)))) e=some (.lst (replicate aj.toNat (V.ref a))):=aM;have W:aB H (upd (upd (upd H a (HO.lst [V.int 0,V.int 1])) B (HO.lst [V.ref a])) e (HO.lst (replicate aj.toNat (V.ref a)))):=by walk_at "sm"
 generalize upd (upd (upd H a (HO.lst [V.int 0,V.int 1])) B (HO.lst [V.ref a])) e (HO.lst (replicate aj.toNat (V.ref a)))=H2 at x0 x2 W;have Y:Rows H2 (replicate aj.toNat (V.ref a)) (replicate aj.toNat [0,1]):=by
  generalize aj.toNat=k;induction k with
  |zero=>exact .nil
  |succ k U=>rw [ju,ju];exact .cons ⟨a,rfl,x0⟩ U
 refine ⟨e,_,_,rfl,x2,Y,by rw [vG];lk, λi hi=>?_,λr hr=>?_,λl3 Yd H3 f3 s3 x3 rn=>?_⟩
 ·rw [vG] at hi;rw [aja hi,Oq];exact gR (J0 (by decide) (show i<=8 by lk)) (by decide)
 ·rw [(List.mem_replicate.mp hr).2];decide
 have lr:=rn.len;rw [Oq] at lr;have tG:=aG W s3;refine ⟨l3,rfl,⟨_,aN x3⟩,?_⟩;refine uY (xs:=Yd) (λi σ Hc=>∃ S,σ=[some (.ref n),S]/\aB H3 Hc/\∀ j r,j<i->(j5 (replicate aj.toNat [0,1]))[j]?=some r->zE (qZ r ws)) ⟨none,rfl,cW _,λj r C=>absurd C (by lk)⟩ (λi σ Hc _ ⟨_,_,d,_⟩=>aN (d _ _ x3)) ?_ ?_
 ·rintro i x σ Hc hx ⟨S,rfl,d,L⟩;obtain ⟨r,tr,q,rfl,X3,J,R⟩:=rn.get hx;have D:=(aaP aj.toNat r).mp (eZ q);have o:=d _ _ R;have l:aB H Hc:=aG tG d;refine ⟨_,rfl,_,rfl,.ref n,aj,ws,tr,r,rfl,p.kt (cG l (bY _)),ok,by lk, o,D.1,λl4 H4 f4 O x4=>⟨l4,_,rfl,x4,by rw [abl,D.1];lk, λb H5 N I=>⟨b,rfl,?_⟩⟩⟩;have y:aB H H5:=aG l (aG O N);cases b with
  |true =>
   refine bQ (by decide) ⟨_,rfl,aG d (aG O N),λj u C M=>?_⟩;by_cases c:j<i
   ·exact L j u c M
   ·have:j=i:=by lk
    subst this;rw [q] at M;cases M;exact I.mp rfl
  |false =>refine cL (by decide) ?_;refine ⟨_,rfl,aW (by kl_no),λT6 g=>?_⟩;refine q2 T6 tr r _ (y.free g) (W.free J) (aG y (cu g _)) aM ((cu g _) _ _ (N _ _ (O _ _ o))) D λz=>?_;have:=I.mpr z;cases this
 ·rintro σ Hc ⟨S,rfl,d,L⟩;have l:aB H Hc:=aG tG d;refine ⟨aW (by kl_no),λT6 g=>q1 T6 _ (l.free g) (aG l (cu g _)) aM λr D=>?_⟩;obtain ⟨j,C,ej⟩:=Jz.mp ((aaP aj.toNat r).mpr D);exact L j r (by rw [lr,<-Oq];exact C) (by simp [C,ej])
def afB:Gc Z "one_lane_each" 2 ["wide","power"] apn:=by
 o_head (dz Z.Wx,["wide","power"]);obtain ⟨aj,n,rfl,t,p,q⟩:=h;refine ⟨_,(aO (bw (iC ["lane"] [("wide",0),("power",1)] rfl (qu rfl T.lD (ao (pv 0) aq)) (by k_all) (by k_mem) (by row_wit1 (bH (Pk Z) hr.m rfl (ao (pv 1) (ao (pv 0) (ao (pv 2) aq)))))))),_,rfl,aj,rfl,by lk, by lk, λl d=>?_⟩;refine tQ (n:=aj.toNat) (λi ys Hc=>aB H Hc/\Hc l=some (.lst ys)/\fD H Hc l ys ((range i).map λi:Nat=>vX aj.toNat i n)) ⟨bR d (cW H),aM,.nil⟩ (aW (by lk)) (λi ys Hc ⟨_,e,r⟩=>⟨e,by have:=r.len;simp at this;lk⟩) ?_ ?_
 ·rintro i ys Hc hi ⟨c,b,k⟩;refine ⟨⟨.inl rfl,.inr rfl,.inr rfl,trivial⟩,iG ⟨_,rfl,_,rfl,_,rfl,aj,0+(i:Int),n,rfl,t,p,by lk, by lk, λa v g j o=>?_⟩⟩;rw [show (0+(i:Int)).toNat=i by lk] at o;have u:a≠l:=λz=>by subst z;rw [b] at g;cases g
  refine ⟨j _ _ b,bR d (aG c j),aM,?_⟩;rw [rO,cX];exact k.more j o u (c.free g)
 ·rintro ys Hc ⟨c,b,k⟩;exact q l ys Hc d c b k
def Y4:Gc Z "first_that_parts" 3 ["one","other","rows"] aga:=by
 o_head (dz Z.Wy,["one","other","rows","counts"]);obtain ⟨y,v,aj,us,ws,l,rs,M,rfl,V,O,w1,w8,e,k,L,I,B,rows,D,C,S⟩:=h;have R:=rows.len;refine ⟨_,(aU (jx jj rfl  (jZ (pv 2)) (fK 3 nd)
 (aO (cP (cQ (ao8 hr.units) (bH (Gm Z) hr.m rfl (ao (pv 0) (ao (pv 3) aq))) (bH (Gm Z) hr.m rfl (ao (pv 1) (ao (pv 3) aq))))
 (aO (bw (pv 3)))
 cT)))
 (aO (bw zP))),?_⟩
 refine ⟨_,rfl,l,rfl,⟨_,aN B⟩,?_⟩;refine uY (xs:=rs) (λi σ Hc=>∃ n,σ=[some y,some v,some (.ref l),n]/\aB H Hc/\∀ r∈M.take i,bC r us=bC r ws) ⟨none,rfl,cW _,by simp⟩ (λi σ Hc _ ⟨_,_,a,_⟩=>aN (a _ _ B)) ?_ ?_
 ·rintro i x σ Hc q ⟨n,rfl,a,all⟩;obtain ⟨r,t,b,rfl,p⟩:=rows.get q;have d:=D r (eZ b);refine ⟨_,rfl,_,rfl,y,aj,us,t,r,rfl,V.kt (cG a (bY _)),e,L,a _ _ p,d,λla H3 fa J W=>?_⟩;have j:=aG a J;refine ⟨_,rfl,_,rfl,v,aj,ws,t,r,rfl,O.kt (cG j (bY _)),k,I,j _ _ p,d,λlb Y fb u N=>?_⟩;have g:=aG j u;refine ⟨la,lb,_,_,rfl,rfl,aN (u _ _ W),aN N,_,rfl,?_⟩;by_cases c:bC r us=bC r ws
  ·refine bQ (by rw [c];simp) ⟨_,rfl,g,?_⟩;rw [fZ b];intro U o;rcases nM.mp o with z|z
   ·exact all U z
   ·rw [yU.mp z];exact c
  ·exact cL (by simpa using λz=>c z) ⟨_,rfl,S i t r Y g q b (g _ _ p) c⟩
 ·rintro σ Hc ⟨n,rfl,a,all⟩;rw [R,gq] at all;exact C Hc a all
def aoN:Ge Z "parted" 5 ["one","other"] (aow eA.many):=by
 o_head (wD Z.Wz,["one","other","power","by_shares"],0);obtain ⟨k,j,a,ws,rfl,⟨z,b,c,ok,len⟩,⟨O,_⟩,q,e⟩:=h;obtain ⟨J,t1,rs1,D,g,ht1,hr1⟩:=id z;obtain ⟨n2,t2,rs2,x,o,Al,hr2⟩:=id O;refine ⟨_,(aU (cP (cQ mj (b_ (pv 0) aL) (b_ (pv 1) aL))
 (aO (Bo Z.yH.FN rfl Z.yH.Ez (ao bN aq)))
 cT)
 (aU (bW 2 nd (jM (P0 rfl) rfl T.Gs JD (ao (bH (Ei Z) hr.m rfl (ao (pv 0) aq)) (ao (bH (Ei Z) hr.m rfl (ao (pv 1) aq)) aq))))
 (aU (bW 3 nd (bH (Y4 Z) hr.m rfl (ao (pv 0) (ao (pv 1) (ao (bH (afB Z) hr.m rfl (ao (b_ (pv 0) aL) (ao (pv 2) aq))) aq)))))
 (aU (cP (cQ acq (pv 3) zP)
 (aO (bw (pv 3)))
 cT)
 (aO (bw (bH (Y4 Z) hr.m rfl (ao (pv 0) (ao (pv 1) (ao (nG (Y9 Z) hr.m rfl (ao (pv 0) (ao (pv 1) aq))) aq)))))))))),?_⟩
 refine ⟨_,rfl,J,_,_,_,D,rfl,aZ g,rfl,_,rfl,n2,_,_,_,x,rfl,aZ o,rfl,rfl,_,rfl,bQ (by simp) ?_⟩;have C:∀ {H':Hp},aB H H'->eV H' k a ws:=λs=>z.kt (cG s (bY _));have n:∀ {H':Hp},aB H H'->eV H' j a ws:=λs=>O.kt (cG s (bY _));refine ⟨_,rfl,k,a,ws,rfl,z,b,c,ok,len,λH1 I=>⟨_,rfl,j,a,ws,rfl,n I,b,c,ok,len,λH2 s2=>?_⟩⟩;have L:=aG I s2;refine ⟨_,_,rfl,?_⟩;generalize (if whole a ws>whole a ws then whole a ws else whole a ws)=pw';refine ⟨_,rfl,_,rfl,_,rfl,J,_,_,_,D,rfl,aZ (L _ _ g),rfl,_,rfl,a,_,rfl,b,c,λl3 U H3 f3 s3 x3 W=>?_⟩;have v:=aG L s3;refine ⟨k,j,a,ws,ws,l3,U,_,rfl,C v,n v,b,c,ok,ok,by lk, by lk, x3,W.rows,λr d=>?_,λH4 M all=>?_,λi t r H4 M hi hM hx p=>absurd rfl p⟩
 ·obtain ⟨i,_,rfl⟩:=fV.mp d;exact IW _ _ _
 have l:=aG v M;refine ⟨_,rfl,rfl,_,rfl,bQ (by decide) ⟨_,rfl,_,rfl,_,rfl,_,rfl,k,j,a,a,ws,ws,rfl,C l,n l,b,c,b,c,ok,ok,len,len,λmu S u=>e S (aG l u),λnm l5 B S f5 u Y V=>?_⟩⟩;have y:=aG l u;refine ⟨k,j,a,ws,ws,l5,B,_,rfl,C y,n y,b,c,ok,ok,by lk, by lk, Y,V.rows,λr d=>?_,λR N as3=>q R (aG y N),λi t r R N hi hM hx p=>absurd rfl p⟩;rw [((Ja _ r).mp d).1];simp [mC]
def aa7:Gc Z "place_on" 1 ["net","lane","start"] aaG:=by
 o_head (dz Z.WD,["net","lane","start","number"]);obtain ⟨v,aj,ws,l,s,rfl,⟨⟨n,t,rs,rfl,m,p,o⟩,J,D,ok,len⟩,I,q⟩:=h;have r:=o.len;refine ⟨_,(aU (jx jj rfl  (aav rfl T.lD (ao (pv 2) (ao (j6 T (b_ (pv 0) aL)) aq))) (fK 3 nd)
 (aO (cP (zy Qa (pv 1) (b_ (b_ (pv 0) aL) (pv 3)) (by with_unfolding_all rfl))
 (aO (bw (gZ (ao bN (ao (pv 3) (ao (pv 1) aq))))))
 cT)))
 (aO (bw (gZ (ao bN (ao (pv 1) aq)))))),?_⟩
 refine ⟨_,rfl,_,rfl,n,_,_,_,rfl,rfl,aZ m,rfl,t,_,rfl,.inr (aZ p),_,_,rfl,⟨by lk, by lk, by lk, by lk⟩,?_⟩;refine Iz (n:=((rs.length:Int)-(s:Int)).toNat) (λi σ Hc=>∃ j,σ=[some (.ref n),some (.int l),some (.int s),j]/\Hc=H/\gD ws l s=lZ ws l (ws.length-s-i) (s+i)) ⟨none,rfl,rfl,rfl⟩ ?_ ?_
 ·rintro i σ Hc hi ⟨j,rfl,rfl,a⟩;have C:s+i<ws.length:=by lk
  have k:(s:Int)+(i:Int)=((s+i:Nat):Int):=by lk
  rw [k];obtain ⟨u,w0,y,_,c,e⟩:=acA o (i:=((s+i:Nat):Int)) (by lk) (by lk);rw [kO] at c;have x:bT ws (s+i)=w0:=by simp [bT,getD,c]
  have z:lZ ws l (ws.length-s-i) (s+i)=if j8 w0 l then .before (s+i) l else lZ ws l (ws.length-s-(i+1)) (s+(i+1)):=by rw [show ws.length-s-i=(ws.length-s-(i+1))+1 by lk];show (if j8 (bT ws (s+i)) l then _ else _)=_;rw [x];rfl
  rw [z] at a;refine ⟨_,rfl,_,rfl,n,_,_,_,rfl,rfl,aZ m,rfl,_,rfl,t,_,_,_,rfl,rfl,aZ p,y,u,_,rfl,.inr (aZ e),rfl,rfl,_,rfl,?_⟩;have B:lM (.int l) [.int w0.1,.int w0.2]=j8 w0 l:=am6 l w0.1 w0.2;show if lM (.int l) [.int w0.1,.int w0.2]=true then _ else _
  rw [B];refine pB (λg=>?_) (λg=>?_)
  ·rw [aQ g] at a;exact ⟨_,rfl,_,rfl,aW (by kl_no),λd b=>q d _ b (cu b _) (by rw [aM,a];rfl)⟩
  ·rw [aK g] at a;exact ⟨_,rfl,rfl,a⟩
 ·rintro σ Hc ⟨j,rfl,rfl,a⟩;have k:ws.length-s-((rs.length:Int)-(s:Int)).toNat=0:=by lk
  rw [k] at a;exact ⟨_,rfl,aW (by kl_no),λd b=>q d _ b (cu b _) (by rw [aM,a];rfl)⟩
def Z5:Gc Z "numbers_of" 1 ["wide","lane","low","high"] apB:=by
 o_head (dz Z.WK,["wide","lane","low","high"]);obtain ⟨aj,cC,lo,hi,rfl,x,p,⟨⟨v,t⟩,r,u⟩,q⟩:=h;refine ⟨_,(aO (bw (iC ["count"] [("lane",1),("wide",0)] rfl (aav rfl T.lD (ao (pv 2) (ao (pv 3) aq))) (by k_all) (by k_mem) (by row_wit1 (bD jQ (pv 1) (bD pP (pv 2) (pv 0))))))),_,rfl,_,rfl,lo,hi,rfl,⟨by lk, by lk, by lk, by lk⟩,λl b=>?_⟩;refine tQ (n:=(hi-lo).toNat) (λj ys a=>aB H a/\a l=some (.lst ys)/\ys=(h_ aj cC lo j).map V.int) ⟨bR b (cW _),aM,rfl⟩ (aW (by lk)) (λj ys a ⟨o,k,i⟩=>⟨k,by rw [i,bh,Eo];exact bI _⟩) ?_ ?_
 ·rintro j ys a m ⟨g,c,rfl⟩;refine ⟨⟨.inl rfl,.inr rfl,.inr rfl,trivial⟩,iG ⟨_,rfl,_,rfl,_,rfl,_,_,rfl,rfl,.inl ⟨by lk, by lk⟩,_,_,rfl,rfl,c,bR b g,aM,?_⟩⟩;rw [aak,cX];rfl
 rintro ys H1 ⟨e,d,rfl⟩;exact q l H1 b e d
def ags (F:vY K mg C "__init__" "Play.__init__" Z0 f fd):dw P w K mg au jL 1 f fd ["self","net"] (R9 C):=by
 o_head ["self","net"];obtain ⟨p,dx,v,aj,ws,rfl,W,⟨⟨n,t,rs,rfl,hn,ht,cR⟩,w1,w8,ok,len⟩,q⟩:=h;have lrs:=cR.len;refine ⟨_,(aU (zQ (pv 0) (pv 1) rfl)
 (aU (zQ (pv 0) (iC ["wicket"] [] rfl (vJ (b_ (pv 1) aL)) (by k_all) (by k_mem) (by row_wit1 (uD (Cj K rfl) (pv 0) aL (λ_ _=>rfl)))) rfl)
 (aU (zQ (pv 0) (bD Gb (fj (ao aL aq)) (b_ (pv 1) aL)) rfl)
 (aU (zQ (pv 0) (fj aq) rfl)
 (aO (zQ (pv 0) (fj aq) rfl)))))),?_⟩
 refine ⟨_,rfl,_,rfl,p,C,dx,[],rfl,W,Z.TP.cl,Z.TP.nN,(by show 0<1000;decide),?_⟩;have L:∀ b o,H b=some o->b≠p->(upd H p (HO.ins C dx (cZ "net" (V.ref n) []))) b=some o:=λb o e c=>(aV c).trans e;have u:(upd H p (HO.ins C dx (cZ "net" (V.ref n) []))) p=some (.ins C dx (cZ "net" (.ref n) [])):=aM;have R:∀ b,(upd H p (HO.ins C dx (cZ "net" (V.ref n) []))) b=none->H b=none/\b≠p:=λb e=>by
  have c:b≠p:=λz=>by rw [z,aM] at e;cases e
  rw [aV c] at e;exact ⟨e,c⟩
 generalize upd H p (HO.ins C dx (cZ "net" (V.ref n) []))=H1 at L u R;have np:n≠p:=kY hn W (by intro z;cases z);have tp:t≠p:=kY ht W (by intro z;cases z);have N:=L _ _ hn np;have J:=L _ _ ht tp;have arP:dM H1 rs ws:=cR.mono λb xs e=>L _ _ e (kY e W (by intro z;cases z));refine ⟨_,rfl,n,_,_,_,rfl,rfl,aZ N,rfl,t,rfl,⟨_,aZ J⟩,λa Y=>?_⟩;refine yM (xs:=rs) (λj ys Hc=>aB H1 Hc/\Hc a=some (.lst ys)/\ys=((ws.take j).map (·.1)).map V.int) ⟨bR Y (cW _),aM,rfl⟩ (aW (by lk)) (λj ys Hc hj ⟨U,e1,r1⟩=>⟨aZ (U _ _ J),e1,by rw [r1];simp;lk⟩) ?_ ?_
 ·rintro j x ys Hc hx ⟨U,e1,rfl⟩;obtain ⟨w0,t0,hw0,rfl,ht0⟩:=arP.get hx;refine ⟨⟨.inl rfl,trivial⟩,iG ⟨_,rfl,t0,_,_,_,rfl,rfl,aZ (U _ _ ht0),rfl,e1,bR Y U,aM,?_⟩⟩;rw [fZ hw0,cX,cX];rfl
 rintro ys H2 ⟨s2,e2,rfl⟩;rw [lrs,gq] at e2;have hp2:=s2 _ _ u;have Np:a≠p:=bF (cV u Y);refine ⟨_,rfl,p,C,dx,_,rfl,hp2,Z.TP.cl,Z.TP.nF,(by have:=qz "net" (V.ref n) [];simp at this;lk),?_⟩;have B:(upd H2 p (HO.ins C dx (cZ "facing" (V.ref a) (cZ "net" (V.ref n) [])))) a=some (.lst ((ws.map (·.1)).map V.int)):=(aV Np).trans e2;have r:(upd H2 p (HO.ins C dx (cZ "facing" (V.ref a) (cZ "net" (V.ref n) [])))) p=some (.ins C dx (cZ "facing" (.ref a) (cZ "net" (.ref n) []))):=aM;have k3:∀ b o,H1 b=some o->b≠p->(upd H2 p (HO.ins C dx (cZ "facing" (V.ref a) (cZ "net" (V.ref n) [])))) b=some o:=λb o e c=>(aV c).trans (s2 _ _ e);have Ad:∀ b,(upd H2 p (HO.ins C dx (cZ "facing" (V.ref a) (cZ "net" (V.ref n) [])))) b=none->H1 b=none:=λb e=>by
  have c:b≠p:=λz=>by rw [z,aM] at e;cases e
  rw [aV c] at e;exact s2.free e
 generalize upd H2 p (HO.ins C dx (cZ "facing" (V.ref a) (cZ "net" (V.ref n) [])))=D at B r k3 Ad;have hn3:=k3 _ _ N np;refine ⟨aW (by kl_no),λl4 f4=>⟨_,rfl,n,_,_,_,rfl,rfl,aZ ((cu f4 _) _ _ hn3),rfl,l4,aj,_,rfl,rfl,aM,by lk, by lk, aW (by show 1*aj.toNat<=100000;lk),λlt f5=>?_⟩⟩;have er:(replicate aj.toNat [V.int 0]).flatten=(replicate aj.toNat (0:Int)).map V.int:=by
  generalize aj.toNat=k;induction k with
  |zero=>rfl
  |succ k ih=>rw [ju,vg,ih,ju,gb];rfl
 rw [er];have d:aB D (upd (upd D l4 (HO.lst [V.int 0])) lt (HO.lst ((replicate aj.toNat (0:Int)).map V.int))):=aG (cu f4 _) (cu f5 _);have S:(upd (upd D l4 (HO.lst [V.int 0])) lt (HO.lst ((replicate aj.toNat (0:Int)).map V.int))) lt=some (.lst ((replicate aj.toNat (0:Int)).map V.int)):=aM;have Yg:D lt=none:=(cu f4 _).free f5;generalize upd (upd D l4 (HO.lst [V.int 0])) lt (HO.lst ((replicate aj.toNat (0:Int)).map V.int))=H5 at d S;have Hr:lt≠p:=bF (cV r Yg);have nft:a≠lt:=cV B Yg;refine ⟨_,rfl,p,C,dx,_,rfl,d _ _ r,Z.TP.cl,Z.TP.nT,(by have h1:=qz "net" (V.ref n) [];have h2:=qz "facing" (V.ref a) (cZ "net" (V.ref n) []);simp at h1;lk),aW (by kl_no),λg f6=>?_⟩;have O:g≠p:=λz=>by rw [z,aM] at f6;cases f6
 have m:H5 g=none:=by rw [aV O] at f6;exact f6
 have uV:g≠a:=λz=>by rw [z] at m;rw [d _ _ B] at m;cases m
 have M:g≠lt:=λz=>by rw [z,S] at m;cases m
 refine ⟨_,rfl,p,C,dx,_,rfl,(aV (bF O)).trans aM,Z.TP.cl,Z.TP.nP,(by have h1:=qz "net" (V.ref n) [];have h2:=qz "facing" (V.ref a) (cZ "net" (V.ref n) []);have h3:=qz "tally" (V.ref lt) (cZ "facing" (V.ref a) (cZ "net" (V.ref n) []));simp at h1;lk),aW (by kl_no),λi y=>?_⟩;have Nq:i≠p:=λz=>by rw [z,aM] at y;cases y
 have Yh:i≠g:=λz=>by rw [z,aV O,aM] at y;cases y
 have l:H5 i=none:=by rw [aV Nq,aV Yh,aV Nq] at y;exact y
 have G8:i≠a:=λz=>by rw [z] at l;rw [d _ _ B] at l;cases l
 have I:i≠lt:=λz=>by rw [z,S] at l;cases l
 refine ⟨_,rfl,p,C,dx,_,rfl,(aV (bF Nq)).trans aM,Z.TP.cl,Z.TP.nC,(by have h1:=qz "net" (V.ref n) [];have h2:=qz "facing" (V.ref a) (cZ "net" (V.ref n) []);have h3:=qz "tally" (V.ref lt) (cZ "facing" (V.ref a) (cZ "net" (V.ref n) []));have h4:=qz "places" (V.ref g) (cZ "tally" (V.ref lt) (cZ "facing" (V.ref a) (cZ "net" (V.ref n) [])));simp at h1;lk),q ⟨dx,a,lt,g,i⟩ _ (R _ Y).1 (R _ (Ad _ Yg)).1 (R _ (Ad _ (d.free m))).1 (R _ (Ad _ (d.free l))).1 ?_ λb o e c=>?_⟩
 ·refine ⟨aM,?_,?_,⟨[],?_,.nil⟩,?_,nft,bF uV,bF G8,bF M,bF I,bF Yh⟩
  ·show (upd _ p _) a=_;rw [aV Np,aV (bF G8),aV Np,aV (bF uV),aV Np];exact d _ _ B
  ·show (upd _ p _) lt=_;rw [aV Hr,aV (bF I),aV Hr,aV (bF M),aV Hr];exact S
  ·show (upd _ p _) g=_;rw [aV O,aV (bF Yh),aV O,aM]
  ·show (upd _ p _) i=_;rw [aV Nq,aM];rfl
 ·have e5:=d _ _ (k3 _ _ (L b o e c) c);rw [aV c,aV (cV e5 l),aV c,aV (cV e5 m),aV c];exact e5
def apW:Kv P w K mg au "Play" C 1 ["self","net"] (R9 C):=let ⟨_,_,F⟩:=Z.WL;⟨⟨_,_,ags Z F,F.fn.binds (by k_sub),Z.akj,F.mt.1,F.mt.2,Z.akk⟩,Z.akl⟩
def af2:j7 P w K mg au C "come_in" 3 ["self","lane","change"] (ala C):=by
 o_head (pF Z.WM,["self","lane","change"]);obtain ⟨p,v,aj,ws,L,st,cC,c,rfl,k,a,S,l0,l1,q⟩:=h;obtain ⟨n,t,rs,rfl,U,ht,cR⟩:=id k.1;refine ⟨_,(aU (cP (j4 (lG (bH (Q8 Z) hr.m rfl (ao (b_ (fX (pv 0) rfl) aL) (ao (pv 1) aq)))))
 (aO oK)
 cT)
 (aU (kI (iV oN vo vp tV (fX (pv 0) rfl) (ao (bH (aa7 Z) hr.m rfl (ao (fX (pv 0) rfl) (ao (pv 1) (ao aL aq)))) aq)))
 (aU (kI (iV oN vo vp tV (fX (pv 0) rfl) (ao (pv 2) aq)))
 (aO (bw (bD qR (j6 T (fX (pv 0) rfl)) aL)))))),?_⟩
 refine ⟨_,rfl,p,C,_,_,_,rfl,a.ob,Z.TP.cl,Z.TP.nN,vq _ _,n,_,_,_,rfl,rfl,aZ U,rfl,_,rfl,aj,cC,rfl,l0,l1,_,rfl,bQ (by decide) ?_⟩;obtain ⟨g,N,i⟩:=a.pl;have HB:=o7 i;have ml:=S.ml;refine ⟨_,rfl,p,C,_,_,_,rfl,a.ob,Z.TP.cl,Z.TP.nP,tR _ _,.inl ⟨rfl,_,aN N⟩,_,rfl,p,C,_,_,_,rfl,a.ob,Z.TP.cl,Z.TP.nN,vq _ _,_,rfl,.ref n,aj,ws,cC,0,rfl,k,fP _,λd H1 f1 x W=>?_⟩;have y:=a.same x;have j:=x _ _ N;refine ⟨L.lp,_,_,rfl,rfl,j,nY (by lk),?_⟩;obtain ⟨nf,nt,np,nc⟩:=a.MP;have u:(upd H1 L.lp (HO.lst (g++[V.ref d]))) p=some (.ins C L.dx (m8 (.ref n) L)):=(aV np).trans y.ob;have J:(upd H1 L.lp (HO.lst (g++[V.ref d]))) L.lc=some (.lst (st.chg.map V.int)):=(aV (bF a.pc)).trans y.ch;refine ⟨_,rfl,p,C,_,_,_,rfl,u,Z.TP.cl,Z.TP.nC,O7 _ _,.inl ⟨rfl,_,aN J⟩,?_⟩;have cl:=S.cl;refine ⟨_,rfl,L.lc,_,_,rfl,rfl,J,nY (by rw [bh];lk),?_⟩;have O:KT H1 (upd (upd H1 L.lp (HO.lst (g++[V.ref d]))) L.lc (HO.lst (st.chg.map V.int++[V.int c]))):=lN J (lN j (bY _));have B:cN C (upd (upd H1 L.lp (HO.lst (g++[V.ref d]))) L.lc (HO.lst (st.chg.map V.int++[V.int c]))) p (.ref n) L (mO ws st cC c):=by
  refine ⟨(aV nc).trans u,?_,?_,⟨g++[.ref d],?_,?_⟩,?_,a.ft,a.fp,a.fc,a.tp,a.tc,a.pc⟩
  ·rw [aV a.fc,aV a.fp];exact y.fa
  ·rw [aV a.tc,aV a.tp];exact y.ta
  ·rw [aV a.pc,aM]
  ·exact Paired.aez (vO i λ_ _ z=>(z.kt (cG x (bY _))).kt O) (.cons ⟨d,rfl,O _ _ W⟩ .nil)
  ·rw [aM];show _=some (HO.lst ((st.chg++[c]).map V.int));rw [cX];rfl
 have r:dW L H (upd (upd H1 L.lp (HO.lst (g++[V.ref d]))) L.lc (HO.lst (st.chg.map V.int++[V.int c]))):=λb o e h1 h2 Y h4=>by rw [aV h4,aV Y];exact x _ _ e
 generalize upd (upd H1 L.lp (HO.lst (g++[V.ref d]))) L.lc (HO.lst (st.chg.map V.int++[V.int c]))=R at B r;obtain ⟨l,M,D⟩:=B.pl;have I:=o7 D;refine ⟨_,rfl,p,C,_,_,_,rfl,B.ob,Z.TP.cl,Z.TP.nP,tR _ _,L.lp,_,rfl,.inl (aN M),_,_,rfl,rfl,?_⟩;have el:(l.length:Int)-1=(st.aX.length:Int):=by rw [I];show (((st.aX++[_]).length:Nat):Int)-1=_;rw [dJ,yO];lk
 have z:Q (.int ((l.length:Int)-1)) R:=by rw [el];exact q R B r
 exact z
def ahc:j7 P w K mg au C "enter" 4 ["self","lane"] (Kw C 1):=by o_head (pF Z.WQ,["self","lane"]);obtain ⟨p,v,aj,ws,L,st,cC,rfl,a,b,c,d,e,q⟩:=h;exact ⟨_,(aO (bw (jN (pv 0) Z.TP.cl (af2 Z) hr.m (ao (pv 1) (ao aL aq))))),_,rfl,p,_,_,rfl,b.ob,oY _ _ (by k_go) (by k_go) (by k_go) (by k_go) (by k_go),_,rfl,p,v,aj,ws,L,st,cC,1,rfl,a,b,c,d,e,q⟩
def ahd:j7 P w K mg au C "where" 2 ["self","walker"] (ani C):=by
 o_head (pF Z.WR,["self","walker"]);obtain ⟨p,v,L,st,i,pl,rfl,b,hi,q⟩:=h;obtain ⟨g,d,a⟩:=b.pl;have j:=o7 a;have k:i<st.aX.length:=(dY.mp hi).1;obtain ⟨r,c,t,rfl,e⟩:=Paired.Du a hi;refine ⟨_,(aU (cP (PW.pt (uy (j4 (lG (bH (Er Z) hr.m rfl (ao (pv 1) aq)))) (vH (j4 (QC uz adZ aL (pv 1) (j6 T (fX (pv 0) rfl)))))))
 (aO oK)
 cT)
 (aO (bw (cJ (fX (pv 0) rfl) (pv 1))))),?_⟩
 refine ⟨_,rfl,_,rfl,_,rfl,bQ (by decide) ⟨_,rfl,_,_,rfl,rfl,_,rfl,cL (fM (by lk)) ⟨_,rfl,p,C,_,_,_,rfl,b.ob,Z.TP.cl,Z.TP.nP,tR _ _,L.lp,_,rfl,.inl (aN d),_,_,rfl,rfl,_,rfl,bQ ?_ ?_⟩⟩⟩
 ·rw [fM (show (i:Int)<(g.length:Int) by lk)];decide
 exact ⟨_,rfl,p,C,_,_,_,rfl,b.ob,Z.TP.cl,Z.TP.nP,tR _ _,_,rfl,L.lp,_,_,_,rfl,rfl,aN d,oO c,q t e⟩
def aiq:j7 P w K mg au C "turn" 1 ["self","wicket"] (apg C):=by
 o_head (pF Z.WT,["self","wicket","lanes"]);obtain ⟨p,v,aj,ws,L,st,k,rfl,m,a,U,O,q⟩:=h;obtain ⟨n,t,rs,rfl,y,M,u⟩:=id m.1;have x:=u.len;obtain ⟨l,w0,J,_,d,c⟩:=acA u (i:=(k:Int)) (by lk) (by lk);rw [kO] at d;have I:bT ws k=w0:=by simp [bT,getD,d]
 refine ⟨_,(aU (bW 2 nd (b_ (b_ (fX (pv 0) rfl) aL) (pv 1)))
 (aO (qP (qy (cQ iU (cJ (fX (pv 0) rfl) (pv 1)) (b_ (pv 2) aL)) (b_ (pv 2) aL) (b_ (pv 2) aL)) (qO (fX (pv 0) rfl) (pv 1) pI)))),?_⟩
 refine ⟨_,rfl,p,C,_,_,_,rfl,a.ob,Z.TP.cl,Z.TP.nN,vq _ _,n,_,_,_,rfl,rfl,aZ y,rfl,_,rfl,t,_,_,_,rfl,rfl,aZ M,J,_,rfl,p,C,_,_,_,rfl,a.ob,Z.TP.cl,Z.TP.nF,El _ _,_,rfl,L.lf,_,_,_,rfl,rfl,aN a.fa,lY (i:=(k:Int)) (by lk) (by lk),_,rfl,l,_,_,_,rfl,rfl,aZ c,rfl,rfl,_,rfl,?_⟩;rw [kO];have r:∀ z:Int,z=sO w0 (st.iI.getD k 0)->Q .non (upd H L.lf (HO.lst ((st.iI.map V.int).set k (V.int z)))):=λz D=>by
  rw [zA];refine q _ ⟨(aV a.MP.1).trans a.ob,?_,(aV (bF a.ft)).trans a.ta,?_,(aV (bF a.fc)).trans a.ch,a.ft,a.fp,a.fc,a.tp,a.tc,a.pc⟩ λb o e h1 h2 R S=>(aV h1).trans e
  ·rw [aM,D,<-I];rfl
  ·obtain ⟨N,B,j⟩:=a.pl;exact ⟨N,(aV (bF a.fp)).trans B,vO j λ_ _ z=>z.kt (lN a.fa (bY _))⟩
 refine pB (λg=>?_) (λg=>?_)
 ·have g':=Lg g;exact ⟨_,rfl,l,_,_,_,rfl,rfl,aZ c,rfl,_,rfl,p,C,_,_,_,rfl,a.ob,Z.TP.cl,Z.TP.nF,El _ _,_,rfl,L.lf,_,(k:Int),k,rfl,rfl,a.fa,by rw [sJ (by lk) (by rw [bh];lk),kO],r w0.2 (by unfold sO;rw [aQ g'])⟩
 ·have g':=MN g;exact ⟨_,rfl,l,_,_,_,rfl,rfl,aZ c,rfl,_,rfl,p,C,_,_,_,rfl,a.ob,Z.TP.cl,Z.TP.nF,El _ _,_,rfl,L.lf,_,(k:Int),k,rfl,rfl,a.fa,by rw [sJ (by lk) (by rw [bh];lk),kO],r w0.1 (by unfold sO;rw [aK g'])⟩
def ae_:j7 P w K mg au C "pass_wicket" 2 ["self","wicket","change"] (aph C):=by
 o_head (pF Z.WW,["self","wicket","change","before","lane"]);obtain ⟨p,v,aj,ws,L,st,k,c,rfl,b,a,o,u,q⟩:=h;refine ⟨_,(aU (bW 3 nd (cJ (fX (pv 0) rfl) (pv 1)))
 (aU (kI (jN (pv 0) Z.TP.cl (aiq Z) hr.m (ao (pv 1) aq)))
 (aU (bW 4 nd (qy (cQ iU (pv 2) aL) (pv 3) (cJ (fX (pv 0) rfl) (pv 1))))
 (aO (bw (bH (aa7 Z) hr.m rfl (ao (fX (pv 0) rfl) (ao (pv 4) (ao (bD jQ (pv 1) aL) aq))))))))),?_⟩
 refine ⟨_,rfl,p,C,_,_,_,rfl,a.ob,Z.TP.cl,Z.TP.nF,El _ _,_,rfl,L.lf,_,_,_,rfl,rfl,aN a.fa,lY (i:=(k:Int)) (by lk) (by lk),_,rfl,p,_,_,rfl,a.ob,oY _ _ (by k_go) (by k_go) (by k_go) (by k_go) (by k_go),_,rfl,p,v,aj,ws,L,st,k,rfl,b,a,o,u,λH1 d r=>?_⟩;have y:=b.kt (dW.kt a r);have D:(Gv ws st k).iI.length=ws.length:=by show (st.iI.set k _).length=_;rw [fU];exact o
 have e:∀ z:Int,z=jq ws st k c->Lw (La aaG [] E0 (vU (z7 K (mX 0) "net") (vU (mX 4) (vU (lO (uO λi j=>V.int (i+j)) (mX 1) (tC (.int 1))) wB)))) { nx:=λ_ H'=>Q .non H',rt:=Q } [some (.ref p),some (.int k),some (.int c),some (.int (st.iI.getD k 0)),some (.int z)] H1:=λz x=>by refine ⟨_,rfl,p,C,_,_,_,rfl,d.ob,Z.TP.cl,Z.TP.nN,vq _ _,_,rfl,_,rfl,_,_,rfl,rfl,v,aj,ws,z,k+1,by rfl,y,by lk, λt H2 B n l=>?_⟩;rw [x] at l;exact q t H2 (d.same n) (dW.trans r (dW.same n)) l
 refine ⟨_,rfl,rfl,_,rfl,pB (λg=>?_) (λg=>?_)⟩
 ·have g':=Lg g;exact ⟨_,rfl,e _ (by unfold jq;rw [aQ g',kO])⟩
 ·have g':=MN g;refine ⟨_,rfl,p,C,_,_,_,rfl,d.ob,Z.TP.cl,Z.TP.nF,El _ _,_,rfl,L.lf,_,_,_,rfl,rfl,aN d.fa,lY (i:=(k:Int)) (by lk) (by lk),e _ ?_⟩;unfold jq;rw [aK g',kO];show (st.iI.set k _).getD k 0=_;rw [jY (by lk),aQ rfl]
def ahe:j7 P w K mg au C "leave" 1 ["self","lane","change"] (anl C):=by
 o_head (pF Z.WX,["self","lane","change","before","count"]);obtain ⟨p,v,aj,ws,L,st,l,c,rfl,d,a,tl,m,U,q⟩:=h;obtain ⟨n,t,rs,rfl,I,ht,cR⟩:=id d.1;have w1:=d.2.1;have Y:=d.2.2.1;refine ⟨_,(aU (bW 3 nd (cJ (fX (pv 0) rfl) (pv 1)))
 (aU (amT (fX (pv 0) rfl) (pv 1) ak9 (pv 2) ao0 pI)
 (aU (bW 4 nd (qy (cQ iU (pv 2) aL) (pv 3) (cJ (fX (pv 0) rfl) (pv 1))))
 (aO (bw (gZ (ao bN (ao (pv 1) (ao (bD jQ (pv 1) (bD pP (b_ (fX (pv 0) rfl) aL) (pv 4))) aq))))))))),?_⟩
 refine ⟨_,rfl,p,C,_,_,_,rfl,a.ob,Z.TP.cl,Z.TP.nT,yK _ _,_,rfl,L.lt,_,_,_,rfl,rfl,aN a.ta,lY m (by lk),?_⟩;have N:(st.bM.map V.int)[l.toNat]?=some (.int (st.bM.getD l.toNat 0)):=by rw [jP,Fz (show l.toNat<st.bM.length by lk)];rfl
 refine ⟨_,rfl,p,C,_,_,_,rfl,a.ob,Z.TP.cl,Z.TP.nT,yK _ _,_,rfl,L.lt,_,l,_,rfl,rfl,aN a.ta,m,N,_,rfl,_,_,rfl,rfl,L.lt,_,l,l.toNat,rfl,rfl,a.ta,sJ m (by rw [bh];lk),?_⟩;rw [zA];have k:cN C (upd H L.lt (HO.lst ((st.bM.set l.toNat (st.bM.getD l.toNat 0+c)).map V.int))) p (.ref n) L (Gf st l c):=by refine ⟨(aV a.MP.2.1).trans a.ob,(aV a.ft).trans a.fa,aM,?_,(aV (bF a.tc)).trans a.ch,a.ft,a.fp,a.fc,a.tp,a.tc,a.pc⟩;obtain ⟨R,J,r⟩:=a.pl;exact ⟨R,(aV (bF a.tp)).trans J,vO r λ_ _ z=>z.kt (lN a.ta (bY _))⟩
 have x:dW L H (upd H L.lt (HO.lst ((st.bM.set l.toNat (st.bM.getD l.toNat 0+c)).map V.int))):=λb o e h1 h2 S W=>(aV h2).trans e;generalize upd H L.lt (HO.lst ((st.bM.set l.toNat (st.bM.getD l.toNat 0+c)).map V.int))=H1 at k x;have u:=(dW.kt a x) _ _ I;have B:∀ z:Int,l+aj*z=jR aj st l c->Lw (aer (vU (tC (.str "out")) (vU (mX 1) (vU (lO (uO λi j=>V.int (i+j)) (mX 1) (lO (rI Dp λi j=>V.int (i*j)) (lO (Dq K) (z7 K (mX 0) "net") (tC (.int 0))) (mX 4))) wB)))) { nx:=λ_ H'=>Q .non H',rt:=Q } [some (.ref p),some (.int l),some (.int c),some (.int (st.bM.getD l.toNat 0)),some (.int z)] H1:=λz O=>by refine ⟨_,rfl,_,rfl,_,rfl,p,C,_,_,_,rfl,k.ob,Z.TP.cl,Z.TP.nN,vq _ _,n,_,_,_,rfl,rfl,aZ u,rfl,_,rfl,_,_,rfl,rfl,.inl ⟨by lk, by lk⟩,_,_,rfl,rfl,aW (by kl_no),λD y=>?_⟩;refine q D _ (k.same (cu y _)) (dW.trans x (dW.same (cu y _))) ?_;rw [aM,<-O];rfl
 refine ⟨_,rfl,rfl,_,rfl,pB (λg=>?_) (λg=>?_)⟩
 ·have g':=Lg g;exact ⟨_,rfl,B _ (by unfold jR;rw [aQ g'])⟩
 ·have g':=MN g;have M:(Gf st l c).bM.length=aj.toNat:=by show (st.bM.set _ _).length=_;rw [fU];exact tl
  refine ⟨_,rfl,p,C,_,_,_,rfl,k.ob,Z.TP.cl,Z.TP.nT,yK _ _,_,rfl,L.lt,_,_,_,rfl,rfl,aN k.ta,lY m (by lk),B _ ?_⟩;unfold jR;rw [aK g'];show l+aj*(st.bM.set l.toNat _).getD l.toNat 0=_;rw [jY (by lk),aQ rfl]
def aas:j7 P w K mg au C "step" 4 ["self","walker"] (K7 C):=by
 o_head (pF Z.WY,["self","walker","place"]);obtain ⟨p,v,aj,ws,L,st,i,pl,rfl,B,a,I,hi,no,q⟩:=h;have il:i<st.aX.length:=(dY.mp hi).1;have cl:=I.cl;have u:=I.ps pl (eZ hi);refine ⟨_,(aU (bW 2 nd (jN (pv 0) Z.TP.cl (ahd Z) hr.m (ao (pv 1) aq)))
 (aU (cP (cQ iU (b_ (pv 2) aL) bN)
 (aO oK)
 cT)
 (aU (cP (cQ iU (b_ (pv 2) aL) bN)
 (aO (qP (jN (pv 0) Z.TP.cl (ahe Z) hr.m (ao (b_ (pv 2) aL) (ao (cJ (fX (pv 0) rfl) (pv 1)) aq))) (qO (fX (pv 0) rfl) (pv 1) pI)))
 (aO (qP (jN (pv 0) Z.TP.cl (ae_ Z) hr.m (ao (b_ (pv 2) aL) (ao (cJ (fX (pv 0) rfl) (pv 1)) aq))) (qO (fX (pv 0) rfl) (pv 1) pI))))
 (aO (bw (cJ (fX (pv 0) rfl) (pv 1))))))),?_⟩
 refine ⟨_,rfl,p,_,_,rfl,a.ob,oY _ _ (by k_go) (by k_go) (by k_go) (by k_go) (by k_go),_,rfl,p,v,L,st,i,pl,rfl,a,hi,λt W=>?_⟩
 -- the new place is put
 have N:∀ (g:cH) (c:Addr) (H1:Hp),cN C H1 p v L g->dW L H H1->g.aX=st.aX->H1 c=some (.tup (rz (jA aj ws st i pl)))->kZ aj ws st i pl=GF g i (jA aj ws st i pl) ->(aej (z7 K (mX 0) "places") (mX 1) ad2) (.ref c) [some (.ref p),some (.int i),some (.ref t)] H1 (λσ2 H2=>Lw (lO (GD K) (z7 K (mX 0) "places") (mX 1)) { nx:=λ_ H'=>Q .non H',rt:=Q } σ2 H2):=λg c H1 j D e1 x es=>by
  obtain ⟨r,O,y⟩:=j.pl;have HB:=o7 y;rw [e1] at HB;refine ⟨_,rfl,p,C,_,_,_,rfl,j.ob,Z.TP.cl,Z.TP.nP,tR _ _,_,rfl,L.lp,_,(i:Int),i,rfl,rfl,O,by rw [sJ (by lk) (by lk),kO],?_⟩;have M:KT H1 (upd H1 L.lp (HO.lst (r.set i (V.ref c)))):=lN O (bY _);have J:cN C (upd H1 L.lp (HO.lst (r.set i (V.ref c)))) p v L (GF g i (jA aj ws st i pl)):=by refine ⟨(aV j.MP.2.2.1).trans j.ob,(aV a.fp).trans j.fa,(aV a.tp).trans j.ta,⟨_,aM,?_⟩,(aV (bF a.pc)).trans j.ch,a.ft,a.fp,a.fc,a.tp,a.tc,a.pc⟩;exact Paired.aey ⟨c,rfl,M _ _ x⟩ i (vO y λ_ _ z=>z.kt M)
  have U:dW L H (upd H1 L.lp (HO.lst (r.set i (V.ref c)))):=dW.trans D λb o e h1 h2 h3 h4=>(aV h3).trans e;have S:(upd H1 L.lp (HO.lst (r.set i (V.ref c)))) L.lp=some (.lst (r.set i (.ref c))):=aM;have Y:=M _ _ x;generalize upd H1 L.lp (HO.lst (r.set i (V.ref c)))=H2 at J U S Y;refine ⟨_,rfl,p,C,_,_,_,rfl,J.ob,Z.TP.cl,Z.TP.nP,tR _ _,_,rfl,L.lp,_,_,_,rfl,rfl,aN S,oO (show (r.set i (V.ref c))[i]?=some (V.ref c) by simp [show i<r.length by lk]),?_⟩;rw [<-es] at J;exact q c H2 J U Y
 have R:(st.chg.map V.int)[i]?=some (.int (st.chg.getD i 0)):=by rw [jP,Fz (show i<st.chg.length by lk)];rfl
 cases pl with
 |out l n=>exact absurd no (by simp [cB])
 |exit l =>have d:H t=some (.tup [.str "exit",.int l]):=W;refine ⟨_,rfl,t,_,_,_,rfl,rfl,aZ d,rfl,rfl,_,rfl,bQ (by decide) ?_⟩;refine ⟨_,rfl,t,_,_,_,rfl,rfl,aZ d,rfl,rfl,_,rfl,cL (by decide) ?_⟩;refine ⟨_,rfl,p,_,_,rfl,a.ob,oY _ _ (by k_go) (by k_go) (by k_go) (by k_go) (by k_go),_,rfl,t,_,_,_,rfl,rfl,aZ d,rfl,?_⟩;refine ⟨_,rfl,p,C,_,_,_,rfl,a.ob,Z.TP.cl,Z.TP.nC,O7 _ _,_,rfl,L.lc,_,_,_,rfl,rfl,aN a.ch,oO R,p,v,aj,ws,L,st,l,st.chg.getD i 0,rfl,B,a,I.tl,u.1,u.2,λc H1 j D x=>?_⟩;exact N _ c H1 j D rfl x rfl
 |before k l =>have d:H t=some (.tup [.str "before",.int k,.int l]):=W;refine ⟨_,rfl,t,_,_,_,rfl,rfl,aZ d,rfl,rfl,_,rfl,bQ (by decide) ?_⟩;refine ⟨_,rfl,t,_,_,_,rfl,rfl,aZ d,rfl,rfl,_,rfl,bQ (by decide) ?_⟩;refine ⟨_,rfl,p,_,_,rfl,a.ob,oY _ _ (by k_go) (by k_go) (by k_go) (by k_go) (by k_go),_,rfl,t,_,_,_,rfl,rfl,aZ d,rfl,?_⟩;refine ⟨_,rfl,p,C,_,_,_,rfl,a.ob,Z.TP.cl,Z.TP.nC,O7 _ _,_,rfl,L.lc,_,_,_,rfl,rfl,aN a.ch,oO R,p,v,aj,ws,L,st,k,st.chg.getD i 0,rfl,B,a,I.fl,u.1,λc H1 j D x=>?_⟩;exact N _ c H1 j D rfl x rfl
def agt:j7 P w K mg au C "inside" 1 ["self"] (ale C):=by
 o_head (pF Z.W0,["self"]);obtain ⟨p,v,L,st,rfl,B,O,q⟩:=h;obtain ⟨D,y,d⟩:=B.pl;have I:=o7 d;refine ⟨_,(aO (bw (iC ["walker","place"] [] rfl (Bk rfl T.yI (ao (fX (pv 0) rfl) aq)) (by w_tab) (by row_wit1 (Ci (cQ mj (uD (Cj K rfl) (pv 1) aL (λ_ _=>rfl)) bN))) (by row_wit1 (pv 0))))),_,rfl,p,C,_,_,_,rfl,B.ob,Z.TP.cl,Z.TP.nP,tR _ _,L.lp,rfl,⟨_,aN y⟩,λl i=>?_⟩;refine ai1 (xs:=D) (λj ys Hc=>aB H Hc/\Hc l=some (.lst ys)/\ys=(gQ 0 (st.aX.take j)).map V.int) ⟨bR i (cW _),aM,rfl⟩ (aW (by lk)) (λj ys Hc o ⟨a,b,J⟩=>⟨aN (a _ _ y),b,by rw [J,bh];have:=agG (st.aX.take j) 0;rw [gV] at this;lk⟩) ?_ ?_
 ·rintro j x n ys Hc z N ⟨a,b,rfl⟩;have R:j<D.length:=(dY.mp z).1;have o:st.aX[j]?=some st.aX[j]:=by simp [show j<st.aX.length by lk]
  obtain ⟨r,e,t,rfl,M⟩:=Paired.Du d o;rw [z] at e;cases e;have g:=af7 (st.aX.take j) st.aX[j] 0;rw [<-fZ o,gV,tY (by lk),oM] at g;have c:aB Hc (upd Hc n (HO.tup [V.int j,V.ref t])):=cu N _;refine ⟨n,_,rfl,aZ aM,rfl,_,_,rfl,_,_,rfl,rfl,⟨.inl rfl,.inl rfl,trivial⟩,?_⟩;generalize upd Hc n (HO.tup [V.int j,V.ref t])=H2 at c;have u:=c _ _ b;have m:=c _ _ (a _ _ M);generalize st.aX[j]=pl at g m;cases pl with
  |before k l' =>refine ⟨_,rfl,t,_,_,_,rfl,rfl,aZ m,rfl,rfl,_,rfl,cL (by decide) ?_⟩;refine ⟨_,rfl,u,bR i (aG a c),aM,?_⟩;rw [g,cX];rfl
  |exit l' =>refine ⟨_,rfl,t,_,_,_,rfl,rfl,aZ m,rfl,rfl,_,rfl,cL (by decide) ?_⟩;refine ⟨_,rfl,u,bR i (aG a c),aM,?_⟩;rw [g,cX];rfl
  |out l' S =>refine ⟨_,rfl,t,_,_,_,rfl,rfl,aZ m,rfl,rfl,_,rfl,bQ (by decide) ?_⟩;refine ⟨aG a c,u,?_⟩;rw [g];show _=(gQ 0 (st.aX.take j)++[]).map V.int;rw [nO]
 rintro ys Hc ⟨a,b,rfl⟩;rw [I,gq] at b;exact q l Hc i a b
def agu:j7 P w K mg au C "counts" 1 ["self"] (ai0 C):=by o_head (pF Z.W2,["self"]);obtain ⟨p,v,L,st,rfl,a,q⟩:=h;exact ⟨_,(aO (bw (iu Ij rfl T.zR Bd (ao (fX (pv 0) rfl) aq)))),_,rfl,p,C,_,_,_,rfl,a.ob,Z.TP.cl,Z.TP.nT,yK _ _,L.lt,_,rfl,.inl (aN a.ta),λl b=>q l _ b (cu b _) aM⟩
def Y_:j7 P w K mg au C "standing" 2 ["self"] (an6 C):=by
 o_head (pF Z.W3,["self","found","lane","count"]);obtain ⟨p,v,aj,ws,L,st,rfl,c,r,tl,few,q⟩:=h;obtain ⟨n,tn,rns,rfl,S,O,cR⟩:=id c.1;have w1:=c.2.1;have Y:=c.2.2.1;refine ⟨_,(aU (bW 1 nd (fj aq))
 (aU (jx jj rfl  (Bk rfl T.yI (ao (fX (pv 0) rfl) aq)) (qN rfl (ji (fK 2 nd) (ji (fK 3 nd) qG)))
 (aO (kI (iV oN Kh Kl IK (pv 1) (ao (bH (Z5 Z) hr.m rfl (ao (b_ (fX (pv 0) rfl) aL) (ao (pv 2) (ao aL (ao (pv 3) aq))))) aq)))))
 (aO (bw (jM Zj rfl T.abh ach (ao (pv 1) aq)))))),?_⟩
 refine ⟨aW (by kl_no),λg y=>?_⟩;km_lay y H0 y J x0;have N:=r.same J;refine ⟨_,rfl,p,C,_,_,_,rfl,N.ob,Z.TP.cl,Z.TP.nT,yK _ _,L.lt,rfl,⟨_,aN N.ta⟩,?_⟩;refine Bl (xs:=st.bM.map V.int) (λi σ Hc=>∃ D B,σ=[some (.ref p),some (.ref g),D,B]/\aB H Hc/\Hc g=some (.lst ((fB aj 0 (st.bM.take i)).map V.int))) ⟨none,none,rfl,J,x0⟩ (λi σ Hc _ ⟨_,_,_,b,_⟩=>aN (b _ _ r.ta)) ?_ ?_
 ·rintro i x j σ Hc U fT ⟨D,B,rfl,b,d⟩;obtain ⟨z,o,rfl⟩:=u5 U;have il:i<st.bM.length:=(dY.mp o).1;have R:=Cv (t:=st.bM) i;rw [Fw,o,RX] at R;have e:aB Hc (upd Hc j (HO.tup [V.int i,V.int z])):=cu fT _;refine ⟨j,_,rfl,aZ aM,rfl,?_⟩;generalize upd Hc j (HO.tup [V.int i,V.int z])=H1 at e;refine ⟨_,_,rfl,_,_,rfl,rfl,?_⟩;have k:=aG b e;have eX:=r.same k;have ll:=Iw aj 0 (st.bM.take i);have la:=Qw st.bM i;refine ⟨_,rfl,.inl ⟨rfl,_,aN (e _ _ d)⟩,_,rfl,p,C,_,_,_,rfl,eX.ob,Z.TP.cl,Z.TP.nN,vq _ _,n,_,_,_,rfl,rfl,aZ (k _ _ S),rfl,_,rfl,_,rfl,aj,i,0,z,rfl,w1,Y,⟨⟨by lk, by lk⟩,by lk, by lk⟩,λa H2 fa M W=>⟨g,a,_,_,rfl,rfl,M _ _ (e _ _ d),W,aW (by rw [bh,bh,Eo];lk),_,_,rfl,bR y (aG k M),?_⟩⟩;rw [aM,fZ o,ZK,cX,gV,tY (by lk),oM,Fl]
 ·rintro σ Hc ⟨D,B,rfl,b,d⟩;rw [bh,gq] at d;have ll:=Iw aj 0 st.bM;exact ⟨_,rfl,g,_,rfl,aN d,by lk, λl u I pm pw=>q l u _ (b.free I) (bR (b.free I) b) pm pw aM⟩
def air:j7 P w K mg au C "owed" 2 ["self"] (apC C):=by
 o_head (pF Z.W4,["self","found","lane","count"]);obtain ⟨p,v,aj,ws,L,st,rfl,c,r,tl,few,q⟩:=h;obtain ⟨n,tn,rns,rfl,S,O,cR⟩:=id c.1;have w1:=c.2.1;have Y:=c.2.2.1;refine ⟨_,(aU (bW 1 nd (fj aq))
 (aU (jx jj rfl  (Bk rfl T.yI (ao (fX (pv 0) rfl) aq)) (qN rfl (ji (fK 2 nd) (ji (fK 3 nd) qG)))
 (aO (kI (iV oN Kh Kl IK (pv 1) (ao (bH (Z5 Z) hr.m rfl (ao (b_ (fX (pv 0) rfl) aL) (ao (pv 2) (ao (pv 3) (ao aL aq))))) aq)))))
 (aO (bw (jM Zj rfl T.abh ach (ao (pv 1) aq)))))),?_⟩
 refine ⟨aW (by kl_no),λg y=>?_⟩;km_lay y H0 y J x0;have N:=r.same J;refine ⟨_,rfl,p,C,_,_,_,rfl,N.ob,Z.TP.cl,Z.TP.nT,yK _ _,L.lt,rfl,⟨_,aN N.ta⟩,?_⟩;refine Bl (xs:=st.bM.map V.int) (λi σ Hc=>∃ D B,σ=[some (.ref p),some (.ref g),D,B]/\aB H Hc/\Hc g=some (.lst ((k_ aj 0 (st.bM.take i)).map V.int))) ⟨none,none,rfl,J,x0⟩ (λi σ Hc _ ⟨_,_,_,b,_⟩=>aN (b _ _ r.ta)) ?_ ?_
 ·rintro i x j σ Hc U fT ⟨D,B,rfl,b,d⟩;obtain ⟨z,o,rfl⟩:=u5 U;have il:i<st.bM.length:=(dY.mp o).1;have R:=Cv (t:=st.bM) i;rw [Fw,o,RX] at R;have e:aB Hc (upd Hc j (HO.tup [V.int i,V.int z])):=cu fT _;refine ⟨j,_,rfl,aZ aM,rfl,?_⟩;generalize upd Hc j (HO.tup [V.int i,V.int z])=H1 at e;refine ⟨_,_,rfl,_,_,rfl,rfl,?_⟩;have k:=aG b e;have eX:=r.same k;have ll:=Jc aj 0 (st.bM.take i);have la:=Qw st.bM i;refine ⟨_,rfl,.inl ⟨rfl,_,aN (e _ _ d)⟩,_,rfl,p,C,_,_,_,rfl,eX.ob,Z.TP.cl,Z.TP.nN,vq _ _,n,_,_,_,rfl,rfl,aZ (k _ _ S),rfl,_,rfl,_,rfl,aj,i,z,0,rfl,w1,Y,⟨⟨by lk, by lk⟩,by lk, by lk⟩,λa H2 fa M W=>⟨g,a,_,_,rfl,rfl,M _ _ (e _ _ d),W,aW (by rw [bh,bh,Eo];lk),_,_,rfl,bR y (aG k M),?_⟩⟩;rw [aM,fZ o,aaj,cX,gV,tY (by lk),oM,Int.zero_sub]
 ·rintro σ Hc ⟨D,B,rfl,b,d⟩;rw [bh,gq] at d;have ll:=Jc aj 0 st.bM;exact ⟨_,rfl,g,_,rfl,aN d,by lk, λl u I pm pw=>q l u _ (b.free I) (bR (b.free I) b) pm pw aM⟩
def af3:j7 P w K mg au C "lacking" 3 ["self"] (apD C):=by
 o_head (pF Z.W5,["self","wide","greatest"]);obtain ⟨p,v,aj,ws,L,st,rfl,b,i,tl,d,q⟩:=h;obtain ⟨n,tn,rns,rfl,J,B,cR⟩:=id b.1;have z:=b.2.1;have O:=b.2.2.1;refine ⟨_,(aU (bW 1 nd (b_ (fX (pv 0) rfl) aL))
 (aU (bW 2 nd (acy rfl rfl T.Gs (yJ (pv 0) Z.TP.cl (Y_ Z) hr.m) aL))
 (aO (bw (iC ["number"] [("wide",1),("self",0)] rfl (qu rfl T.lD (ao (pv 2) aq)) (by k_all) (by row_wit1 (Ci (cQ T8 (bD xK (pv 0) (pv 1)) (uD (akT K rfl) (an3 K rfl (pv 2) rfl) (bD nU (pv 0) (pv 1)) (λ_ _=>rfl))))) (by row_wit1 (pv 0))))))),?_⟩
 refine ⟨_,rfl,p,C,_,_,_,rfl,i.ob,Z.TP.cl,Z.TP.nN,vq _ _,n,_,_,_,rfl,rfl,aZ J,rfl,?_⟩;dsimp only [lK];refine t_ (a:=qX _ _) λN I=>⟨_,rfl,p,_,_,rfl,i.ob,oY _ _ (by k_go) (by k_go) (by k_go) (by k_go) (by k_go),p,.ref n,aj,ws,L,st,rfl,b,i,tl,d,λa ns H1 fa r pm pw M=>?_⟩;have x:∀ g,sX aj st.bM g->N [some (.ref p),some (.int aj),some (.int g)] H1:=λg t=>I _ _ (by
  have g0:=t.nonneg;have g6:=t.lt z O tl d;refine ⟨_,rfl,_,rfl,by lk, by lk, λl o=>?_⟩;refine tQ (n:=g.toNat) (λj ys k=>aB H1 k/\k l=some (.lst ys)/\ys=(uI aj st.bM j).map V.int) ⟨bR o (cW _),aM,rfl⟩ (aW (by lk)) (λj ys k ⟨s4,e4,U⟩=>⟨e4,by rw [U,bh];exact aaY _ _ _⟩) ?_ ?_
  ·rintro j ys k hj ⟨u,y,rfl⟩;have Y:(0:Int)+(j:Int)=(j:Int):=rP _;rw [Y];have W:=rQ (j:Int) (show aj≠0 by lk);have m1:=rR (j:Int) (show 0<aj by lk);have c:=(i.same r).same u;refine ⟨⟨.inl rfl,.inr rfl,.inr rfl,trivial⟩,_,rfl,_,rfl,_,_,rfl,rfl,⟨by lk, by lk⟩,_,rfl,p,C,_,_,_,rfl,c.ob,Z.TP.cl,Z.TP.nT,yK _ _,_,rfl,_,rfl,_,_,rfl,rfl,by lk, L.lt,_,_,_,rfl,rfl,aN c.ta,lY W (by lk),_,_,rfl,rfl,_,rfl,pB (λg=>?_) (λg=>?_)⟩
   ·refine ⟨_,rfl,y,bR o u,aM,?_⟩;have g':=jH g;rw [aal,aQ g',cX];rfl
   ·refine ⟨u,y,?_⟩;have g':=acz g;rw [aal,aK g',nO]
  ·rintro ys H2 ⟨R,S,rfl⟩;exact q l g H2 (r.free o) (aG r R) t S)
 exact ⟨a,ns,rfl,aN M,λe=>x 0 (ajD pm e),λm D=>x m (al0 z pm D)⟩
def ais:j7 P w K mg au C "rest" 5 ["self"] (apj C):=by
 o_head (pF Z.W6,["self","walker"]);obtain ⟨p,v,aj,ws,L,st,rfl,I,l,wf,q⟩:=h;have ok:=I.2.2.2.1;have ml:=wf.ml;have U:∀ (m:Str),(¬ m="changes")->(¬ m="places")->(¬ m="tally")->(¬ m="facing")->(¬ m="net")->(m8 v L).lookup m=none:=λm=>oY _ _;refine ⟨_,(aO (jx jj rfl  (jZ (yJ (pv 0) Z.TP.cl (agt Z) hr.m)) (fK 1 nd)
 (aO (QB jj  (cQ mj (b_ (cJ (fX (pv 0) rfl) (pv 1)) aL) bN)
 (aO (kI (jN (pv 0) Z.TP.cl (aas Z) hr.m (ao (pv 1) aq)))))))),?_⟩
 refine ⟨_,rfl,p,_,_,rfl,l.ob,U _ (by k_go) (by k_go) (by k_go) (by k_go) (by k_go),p,v,L,st,rfl,l,by lk, λli H1 W s1 J=>?_⟩;obtain ⟨rp0,xp0,_⟩:=l.pl;have lnf:li≠L.lf:=bF (cV l.fa W);have lnt:li≠L.lt:=bF (cV l.ta W);have lnp:li≠L.lp:=bF (cV xp0 W);have lnc:li≠L.lc:=bF (cV l.ch W);refine ⟨li,rfl,⟨_,aN J⟩,uY (K:=K) (a:=li) (xs:=(gQ 0 st.aX).map V.int) (λi σ Hc=>∃ (v1:Option V) (c:cH),σ=[some (.ref p),v1]/\cN C Hc p v L c/\Wf aj ws c/\dW L H Hc/\Hc li=some (.lst ((gQ 0 st.aX).map V.int))/\c.aX.length=st.aX.length/\∀ d,oZ aj ws ((gQ 0 st.aX).drop i) c d->oZ aj ws (gQ 0 st.aX) st d) ⟨none,st,rfl,l.same s1,wf,dW.same s1,J,rfl,λd h=>h⟩ (λi σ Hc _ ⟨_,_,_,_,_,_,xl,_⟩=>aN xl) ?_ ?_⟩
 ·rintro i x σ Hc hx ⟨v1,c,rfl,Yj,M,kC,D,S,g⟩;obtain ⟨z,hz,rfl⟩:=u5 hx;obtain ⟨j,pl,ez,hj,no⟩:=ZC st.aX 0 (eZ hz);rw [oM] at ez;subst ez;have jl:j<st.aX.length:=(dY.mp hj).1;have hd:(gQ 0 st.aX).drop i=(j:Int)::(gQ 0 st.aX).drop (i+1):=by obtain ⟨il,ei⟩:=dY.mp hz;rw [<-ei];exact List.drop_eq_getElem_cons il
  have hj':c.aX[j]?=some (c.aX[j]'(by lk)):=by simp [show j<c.aX.length by lk]
  refine Sg (λm σ k=>∃ (b:cH) (pl:Place),σ=[some (.ref p),some (.int j)]/\cN C k p v L b/\Wf aj ws b/\dW L H k/\k li=some (.lst ((gQ 0 st.aX).map V.int))/\b.aX.length=st.aX.length/\b.aX[j]?=some pl/\m=L_ ws.length pl/\∀ d,vZ aj ws j b d->vZ aj ws j c d) _ ⟨c,_,rfl,Yj,M,kC,D,S,hj',rfl,λd h=>h⟩ ?_ ?_
  ·rintro m σ k ⟨b,pl,rfl,B,Y,kD,O,N,u,rfl,run⟩;obtain ⟨rp,xp,hp⟩:=B.pl;obtain ⟨r,n,t,rfl,ht⟩:=Paired.Du hp u;have ktD:KT H k:=dW.kt l kD;by_cases o:cB pl=true
   ·cases pl with
    |before k' l'=>exact absurd o (by simp [cB])
    |exit l'=>exact absurd o (by simp [cB])
    |out l' n' =>refine ⟨_,rfl,p,C,_,_,_,rfl,B.ob,Z.TP.cl,Z.TP.nP,tR _ _,_,rfl,L.lp,_,_,_,rfl,rfl,aN xp,oO n,t,_,_,_,rfl,rfl,aZ ht,rfl,rfl,_,rfl,bQ (by decide) ?_⟩;refine ⟨_,b,rfl,B,Y,kD,O,N,λd h=>g d ?_⟩;rw [hd];exact .cons (run _ (.done u o)) h
   ·have e:cB pl=false:=by simpa using o
    have Ar:∀ {R:Bool->Hp->Prop},R true k->Gp (lO rNe (lO (Dq K) (lO (GD K) (z7 K (mX 0) "places") (mX 1)) (tC (V.int 0))) (tC (V.str "out"))) [some (.ref p),some (.int j)] k R:=λhR=>by
     cases pl with
     |out l' n'=>exact absurd e (by simp [cB])
     |before k' l'=>exact ⟨_,rfl,p,C,_,_,_,rfl,B.ob,Z.TP.cl,Z.TP.nP,tR _ _,_,rfl,L.lp,_,_,_,rfl,rfl,aN xp,oO n,t,_,_,_,rfl,rfl,aZ ht,rfl,rfl,_,rfl,hR⟩
     |exit l'=>exact ⟨_,rfl,p,C,_,_,_,rfl,B.ob,Z.TP.cl,Z.TP.nP,tR _ _,_,rfl,L.lp,_,_,_,rfl,rfl,aN xp,oO n,t,_,_,_,rfl,rfl,aZ ht,rfl,rfl,_,rfl,hR⟩
    refine Ar (cL rfl ⟨_,rfl,p,_,_,rfl,B.ob,U _ (by k_go) (by k_go) (by k_go) (by k_go) (by k_go),_,rfl,p,v,aj,ws,L,b,j,pl,rfl,I.kt ktD,B,Y,u,e,λt5 H5 pa5 k5 x5=>⟨_,ai4 Y u e,_,_,rfl,pa5,acH ok Y u,dW.trans kD k5,k5 _ _ O lnf lnt lnp lnc,by rw [rF];exact N,step_at u,rfl,λd h=>run d (.more u e h)⟩⟩)
  ·rintro σ k Q' Q'' hq h;obtain ⟨y,f0,a1,b1,c1,d1,e1,f1,f2,f3,f4,f5,y2,f6,a2,b2,c2,d2,g1,g2,g3,g4,a3,b3,c3,d3,g5,g6,g7,g8,g9,k',m1,h2⟩:=h;exact ⟨y,f0,a1,b1,c1,d1,e1,f1,f2,f3,f4,f5,y2,f6,a2,b2,c2,d2,g1,g2,g3,g4,a3,b3,c3,d3,g5,g6,g7,g8,g9,k',m1,hq _ _ h2⟩
 ·rintro σ Hc ⟨v1,c,rfl,Yj,M,kC,D,S,g⟩;rw [bh,List.drop_length] at g;exact q c Hc (g _ .nil) Yj kC
def Cz:Gc Z "spaced" 1 ["things"] ama:=by
 o_head (dz Z.W7,["things"]);obtain ⟨a,xs,ys,rfl,g,pw,len,q⟩:=h;refine ⟨_,(aO (bw (iV qF Kf Kg KJ bN (ao (iC ["thing"] [] rfl (Li (jZ (pv 0)) (vJ (pv 0))) (by k_all) (by k_mem) (by row_wit1 (iu ajE rfl T.o9 qw (ao (pv 0) aq)))) aq)))),?_⟩;have D:(ofString " ")=⟨#[32]⟩:=by k_go
 have t:xs.length=ys.length:=o7 pw;have u:=FQ pw;refine ⟨rfl,?_⟩;have step:∀ (b:Addr) (i:Nat) (x:V) (zs:aA) (Hc:Hp),H b=none->xs[i]?=some x->(aB H Hc/\Hc b=some (.lst zs)/\zs=(ys.take i).map V.str)->∃ y:Str,(ZP [x] Hc λv r=>r b=some (.lst zs)/\aB H (upd r b (.lst (zs++[v])))/\(upd r b (.lst (zs++[v]))) b=some (.lst (zs++[v]))/\zs++[v]=(ys.take (i+1)).map V.str):=λb i x zs Hc j k ⟨d,c,m⟩=>by
  have C:i<ys.length:=by have:=(dY.mp k).1;lk
  have l:ys[i]?=some ys[i]:=by simp [C]
  obtain ⟨J,n,B⟩:=Paired.Du pw l;rw [k] at n;cases n;subst m;have o:∀ z:Str,ys[i]=z->Hc b=some (.lst ((ys.take i).map V.str))/\aB H (upd Hc b (.lst ((ys.take i).map V.str++[V.str z])))/\(upd Hc b (.lst ((ys.take i).map V.str++[V.str z]))) b=some (.lst ((ys.take i).map V.str++[V.str z]))/\(ys.take i).map V.str++[V.str z]=(ys.take (i+1)).map V.str:=λz I =>
   ⟨c,bR j d,aM,by rw [fZ l,cX,I];rfl⟩
  refine ⟨ys[i],?_⟩;generalize ys[i]=z at B o;cases B with
  |int h=>exact .int _ rfl (xP h) (o _ rfl)
  |str h=>exact .str _ rfl (o _ rfl)
 have e:∀ (b:Addr) (Hc:Hp),(aB H Hc/\Hc b=some (.lst (ys.map V.str)))->adI K (.str (ofString " ")) [.ref b] Hc Q:=λb Hc ⟨d,c⟩=>by rw [D];exact ⟨_,b,ys,rfl,rfl,aN c,by rw [show (⟨#[32]⟩:Str).length=1 from rfl];lk, q Hc d⟩
 rcases g with g|g
 ·refine .inl ⟨_,rfl,a,rfl,⟨_,aN g⟩,λb j=>?_⟩;refine rE (xs:=xs) (λi zs Hc=>aB H Hc/\Hc b=some (.lst zs)/\zs=(ys.take i).map V.str) ⟨bR j (cW H),aM,rfl⟩ (aW (by lk)) (λi zs Hc hi ⟨d,c,m⟩=>⟨aN (d _ _ g),c,by rw [m,bh,gV];lk⟩) ?_ ?_
  ·rintro i x zs Hc k p;obtain ⟨y,l⟩:=step b i x zs Hc j k p;exact ⟨⟨.inl rfl,trivial⟩,iG ⟨_,rfl,l⟩⟩
  ·rintro zs Hc ⟨d,c,rfl⟩;rw [t,gq] at c;exact e b Hc ⟨d,c⟩
 ·refine .inr ⟨_,rfl,a,rfl,⟨_,aZ g⟩,λb j=>?_⟩;refine yM (xs:=xs) (λi zs Hc=>aB H Hc/\Hc b=some (.lst zs)/\zs=(ys.take i).map V.str) ⟨bR j (cW H),aM,rfl⟩ (aW (by lk)) (λi zs Hc hi ⟨d,c,m⟩=>⟨aZ (d _ _ g),c,by rw [m,bh,gV];lk⟩) ?_ ?_
  ·rintro i x zs Hc k p;obtain ⟨y,l⟩:=step b i x zs Hc j k p;exact ⟨⟨.inl rfl,trivial⟩,iG ⟨_,rfl,l⟩⟩
  ·rintro zs Hc ⟨d,c,rfl⟩;rw [t,gq] at c;exact e b Hc ⟨d,c⟩
def Om:Gc Z "spaced_or_none" 2 ["numbers"] abE:=by
 o_head (dz Z.W8,["numbers"]);obtain ⟨a,ns,rfl,b,c,len,q⟩:=h;refine ⟨_,(aO (bw (qy (akH (pv 0) (λ_=>rfl)) (bH (Cz Z) hr.m rfl (ao (pv 0) aq)) bN))),_,rfl,!(ns.map V.int).isEmpty,.inl ⟨_,aN b,rfl⟩,?_⟩;cases ns with
 |nil=>exact bQ (by decide) (q H (cW _))
 |cons n r =>refine cL rfl ⟨_,rfl,a,_,_,rfl,.inl b,Br c,by rw [bh];lk, λH1 d=>?_⟩;exact q H1 d
def adV:Gr Z "net" ["new net","text"] ajR:=by o_head (qg 8 Z.W9,["things"]);obtain ⟨l,d,aj,ws,rfl,a,b,c,ok,len,q⟩:=h;exact ⟨_,(aO (bw (bH (akp Z) hr.m rfl (ao (cJ (pv 0) aL) aq)))),_,rfl,l,_,_,_,rfl,rfl,aN a,rfl,aj,ws,rfl,b,c,ok,len,q⟩
def akv:Gr Z "folded" ["new net","number"] (arK (u6 eA.pY 4)):=by o_head (Dy 12 Z.W_,["things"],0);obtain ⟨l,y,x,rfl,a,h⟩:=h;refine ⟨_,(aO (bw (b_ (nG (Sx Z) hr.m rfl (ao (cJ (pv 0) aL) aq)) aL))),_,rfl,l,_,_,_,rfl,rfl,aN a,rfl,agV h λu H' ⟨t,v,p,e,b,q⟩=>?_⟩;subst e;exact ⟨t,_,_,_,rfl,rfl,aZ b,rfl,q⟩
def akx:Gr Z "rounds" ["new net","number"] (aeE (Qq eA.pY)):=by o_head (Dy 8 Z.Xa,["things"],0);obtain ⟨l,y,x,rfl,a,h⟩:=h;exact ⟨_,(aO (bw (nG (aoF Z) hr.m rfl (ao (cJ (pv 0) aL) aq)))),_,rfl,l,_,_,_,rfl,rfl,aN a,rfl,h⟩
def aky:Gr Z "behind" ["new net","net","net"] (arJ (adE eA FJ)):=by o_head (Dy 3 Z.Xb,["things"],0);obtain ⟨l,y,x,z,rfl,a,h⟩:=h;exact ⟨_,(aO (bw (nG (aoH Z) hr.m rfl (ao (cJ (pv 0) aL) (ao (cJ (pv 0) aL) aq))))),_,rfl,l,_,_,_,rfl,rfl,aN a,rfl,_,rfl,l,_,_,_,rfl,rfl,aN a,rfl,h⟩
def akz:Gr Z "mirror" ["new net","net"] (aeE aae):=by o_head (qg 2 Z.Xc,["things"]);obtain ⟨l,y,x,rfl,a,h⟩:=h;exact ⟨_,(aO (bw (bH (akt Z) hr.m rfl (ao (cJ (pv 0) aL) aq)))),_,rfl,l,_,_,_,rfl,rfl,aN a,rfl,h⟩
def adg:Gr Z "play" ["new play","net"] (ajS C):=by o_head (qg 3 Z.Xd,["things"]);obtain ⟨l,k,v,aj,ws,rfl,j,b,q⟩:=h;exact ⟨_,(aO (bw (ak8 (apW Z) hr.m rfl (ao (cJ (pv 0) aL) aq)))),_,rfl,l,_,_,_,rfl,rfl,aN j,rfl,λx dx g d c=>an4 b x dx g d λL H2 a i e=>q x L H2 a i e⟩
def aoO:Gr Z "rest" ["play"] (ajU C):=by
 o_head (qg 6 Z.Xe,["things"]);obtain ⟨l,p,v,aj,ws,L,st,rfl,e,b,c,g,q⟩:=h;refine ⟨_,(aU (kI (yJ (cJ (pv 0) aL) Z.TP.cl (ais Z) hr.m))
 (aO (bw bN))),?_⟩
 exact ⟨_,rfl,l,_,_,_,rfl,rfl,aN e,rfl,p,_,_,rfl,c.ob,oY _ _ (by k_go) (by k_go) (by k_go) (by k_go) (by k_go),p,v,aj,ws,L,st,rfl,b,c,g,λd H' r a i=>q d H' r a i⟩
def aoP:Gr Z "show" ["net"] ajT:=by o_head (qg 2 Z.Xf,["things"]);obtain ⟨l,v,aj,ws,rfl,b,a,q⟩:=h;exact ⟨_,(aO (bw (bH (akq Z) hr.m rfl (ao (cJ (pv 0) aL) aq)))),_,rfl,l,_,_,_,rfl,rfl,aN b,rfl,v,aj,ws,rfl,a.1,a.2.1,a.2.2.1,a.2.2.2.1,a.2.2.2.2,q⟩
def amM:Gr Z "exits" ["net","number"] Px:=by
 o_head (qg 3 Z.Xg,["things","net","counts"]);obtain ⟨l,v,aj,ws,cs,ys,rfl,k,b,d,r,q⟩:=h;obtain ⟨n,t,rs,rfl,o,I,C⟩:=id b.1;refine ⟨_,(aU (bW 1 nd (cJ (pv 0) aL))
 (aU (bW 2 nd (wV Cg (pv 0) (xO aL) xM))
 (aU (cP (cQ mj (j6 T (pv 2)) (b_ (pv 1) aL))
 (aO oK)
 cT)
 (aO (bw (bH (Cz Z) hr.m rfl (ao (bH (Gm Z) hr.m rfl (ao (pv 1) (ao (pv 2) aq))) aq))))))),?_⟩
 refine ⟨_,rfl,l,_,_,_,rfl,rfl,aN k,oO (j:=0) rfl,_,rfl,_,rfl,l,_,rfl,aN k,λg i=>?_⟩;rw [ajW];km_lay i H1 i c e;have D:=b.2.1;have B:=b.2.2.1;exact ⟨_,rfl,g,_,rfl,.inl (aN e),_,rfl,n,_,_,_,rfl,rfl,aZ (c _ _ o),rfl,rfl,_,rfl,bQ (LK (je V.int (by rw [bh,d];lk))) ⟨_,rfl,_,rfl,.ref n,aj,ws,g,cs,rfl,b.1.kt (cG c (bY _)),b.2.2.2.1,by have:=b.2.2.2.2;lk, e,d,λa H2 z x u=>⟨a,_,ys,rfl,.inl u,r,by rw [bh,jE];lk, λy p=>q y (aG c (aG x p))⟩⟩⟩
def Za:Gc Z "verdict_words" 2 ["told"] apP:=by o_head (dz Z.Xh,["told"]);obtain ⟨t,x,rfl,a,q⟩:=h;exact ⟨_,(aO (bw (qy (cQ iU (j6 T (pv 0)) aL) (b_ (pv 0) aL) (bH (Cz Z) hr.m rfl (ao (bD vK (fj (ao (b_ (pv 0) aL) aq)) (b_ (pv 0) aL)) aq))))),_,rfl,t,_,rfl,.inr (aZ a),rfl,_,rfl,cL (by simp) ⟨_,rfl,t,_,_,_,rfl,rfl,aZ a,rfl,q⟩⟩
def akA:Gr Z "levels" ["net"] (amh eA.many):=by o_head (Dy 7 Z.Xi,["things"],0);obtain ⟨l,v,aj,ws,rfl,d,a,b,g,q,e⟩:=h;refine ⟨_,(aO (bw (bH (Za Z) hr.m rfl (ao (nG (aoL Z) hr.m rfl (ao (cJ (pv 0) aL) aq)) aq)))),_,rfl,l,_,_,_,rfl,rfl,aN d,rfl,v,aj,ws,rfl,a,b,g,λi H1 k j c=>?_,e⟩;exact ⟨i,_,rfl,c,q H1 j⟩
def aa8:Gr Z "orders" ["net"] ami:=by o_head (qg 4 Z.Xj,["things"]);obtain ⟨l,v,aj,ws,rfl,j,a,g,q⟩:=h;refine ⟨_,(aO (bw (bH (Za Z) hr.m rfl (ao (bH (aoM Z) hr.m rfl (ao (cJ (pv 0) aL) aq)) aq)))),_,rfl,l,_,_,_,rfl,rfl,aN j,rfl,v,aj,ws,rfl,a.1,a.2.1,a.2.2.1,a.2.2.2.1,a.2.2.2.2,λc H1 n d e _=>?_,λc k r H1 _ _ _ _ _ i b=>absurd (aj3 a.2.2.2.1 a.2.1 g r i) b⟩;exact ⟨c,_,rfl,e,q H1 d⟩
def amN:Gr Z "alike" ["net","net"] (amj eA.many):=by
 o_head (Dy 6 Z.Xk,["things","counts"],0);obtain ⟨l,v,c,aj,ws,rfl,b,a,d,q,e⟩:=h;refine ⟨_,(aU (bW 1 nd (nG (aoN Z) hr.m rfl (ao (cJ (pv 0) aL) (ao (cJ (pv 0) aL) aq))))
 (aO (bw (qy (cQ adu (pv 1) zP) bN (bH (Cz Z) hr.m rfl (ao (bD vK (fj (ao bN aq)) (pv 1)) aq)))))),?_⟩
 refine ⟨_,rfl,l,_,_,_,rfl,rfl,aN b,rfl,_,rfl,l,_,_,_,rfl,rfl,aN b,rfl,v,c,aj,ws,rfl,a,d,λH1 g=>?_,e⟩;exact ⟨_,rfl,rfl,_,rfl,cL rfl (q H1 g)⟩
def amO:Gr Z "enter" ["play","number"] (apJ C (Kw C 1)):=by o_head (qg 5 Z.Xl,["things"]);obtain ⟨l,p,x,v,L,st,rfl,a,c,h⟩:=h;exact ⟨_,(aO (bw (iu wQ rfl T.o9 qw (ao (jN (cJ (pv 0) aL) Z.TP.cl (ahc Z) hr.m (ao (cJ (pv 0) aL) aq)) aq)))),_,rfl,l,_,_,_,rfl,rfl,aN a,rfl,p,_,_,rfl,c.ob,oY _ _ (by k_go) (by k_go) (by k_go) (by k_go) (by k_go),_,rfl,l,_,_,_,rfl,rfl,aN a,rfl,agX (E':=E0) h λu H' ⟨i,e,b,q⟩=>by subst e;exact ⟨i,rfl,xP b,q⟩⟩
def aoQ:Gr Z "step" ["play","number"] (aoj C (K7 C)):=by o_head (qg 5 Z.Xm,["things"]);obtain ⟨l,p,x,v,L,st,rfl,a,c,h⟩:=h;refine ⟨_,(aO (bw (bH (Cz Z) hr.m rfl (ao (jN (cJ (pv 0) aL) Z.TP.cl (aas Z) hr.m (ao (cJ (pv 0) aL) aq)) aq)))),_,rfl,l,_,_,_,rfl,rfl,aN a,rfl,p,_,_,rfl,c.ob,oY _ _ (by k_go) (by k_go) (by k_go) (by k_go) (by k_go),_,rfl,l,_,_,_,rfl,rfl,aN a,rfl,?_⟩;exact ahY (E':=E0) h λu H' ⟨t,pl,e,d,b,q⟩=>by subst e;exact ⟨t,_,_,rfl,.inr d,adL b,by cases pl<;>simp [rz],q⟩
def akB:Gr Z "counts" ["play"] (KN C "counts"):=by
 o_head (qg 2 Z.Xn,["things"]);obtain ⟨l,p,v,aj,ws,L,st,rfl,o,b,d,tl,c,q⟩:=h;have r:=b.2.1;have k:=b.2.2.1;refine ⟨_,(aO (bw (bH (Cz Z) hr.m rfl (ao (yJ (cJ (pv 0) aL) Z.TP.cl (agu Z) hr.m) aq)))),_,rfl,l,_,_,_,rfl,rfl,aN o,rfl,p,_,_,rfl,d.ob,oY _ _ (by k_go) (by k_go) (by k_go) (by k_go) (by k_go),p,v,L,st,rfl,d,λa H1 t i j=>?_⟩;have g:=(sV.counts (aj:=aj) (st:=st)).small r k tl c;refine ⟨a,_,_,rfl,.inl j,Br g,by rw [bh];lk, λH2 n=>?_⟩;have e:Txt.join ⟨#[32]⟩ (st.bM.map bL)=iR st.bM:=by unfold iR;rw [aK (λz=>by rw [z] at tl;simp at tl;lk)]
 rw [e];exact q _ H2 (aG i n) .counts
def akC:Gr Z "stands" ["play"] (KN C "standing"):=by o_head (qg 3 Z.Xo,["things"]);obtain ⟨l,p,v,aj,ws,L,st,rfl,o,c,d,tl,b,q⟩:=h;have g:=c.2.1;have e:=c.2.2.1;refine ⟨_,(aO (bw (bH (Om Z) hr.m rfl (ao (yJ (cJ (pv 0) aL) Z.TP.cl (Y_ Z) hr.m) aq)))),_,rfl,l,_,_,_,rfl,rfl,aN o,rfl,p,_,_,rfl,d.ob,oY _ _ (by k_go) (by k_go) (by k_go) (by k_go) (by k_go),p,v,aj,ws,L,st,rfl,c,d,tl,b,λa ns H1 r j pm pw k=>?_⟩;have td:Cw aj st.bM "standing" _:=.inl ⟨rfl,pm,pw⟩;have i:=(sV.told (aj:=aj) (st:=st) td).small g e tl b;exact ⟨a,_,rfl,k,i,td.len g e tl b,λH2 n=>q _ H2 (aG j n) (.told td)⟩
def aoR:Gr Z "owes" ["play"] (KN C "owed"):=by o_head (qg 3 Z.Xp,["things"]);obtain ⟨l,p,v,aj,ws,L,st,rfl,o,c,d,tl,b,q⟩:=h;have g:=c.2.1;have e:=c.2.2.1;refine ⟨_,(aO (bw (bH (Om Z) hr.m rfl (ao (yJ (cJ (pv 0) aL) Z.TP.cl (air Z) hr.m) aq)))),_,rfl,l,_,_,_,rfl,rfl,aN o,rfl,p,_,_,rfl,d.ob,oY _ _ (by k_go) (by k_go) (by k_go) (by k_go) (by k_go),p,v,aj,ws,L,st,rfl,c,d,tl,b,λa ns H1 r j pm pw k=>?_⟩;have td:Cw aj st.bM "owed" _:=.inr (.inl ⟨rfl,pm,pw⟩);have i:=(sV.told (aj:=aj) (st:=st) td).small g e tl b;exact ⟨a,_,rfl,k,i,td.len g e tl b,λH2 n=>q _ H2 (aG j n) (.told td)⟩
def amP:Gr Z "lacks" ["play"] (KN C "lacking"):=by o_head (qg 4 Z.Xq,["things"]);obtain ⟨l,p,v,aj,ws,L,st,rfl,t,c,d,tl,b,q⟩:=h;have i:=c.2.1;have e:=c.2.2.1;refine ⟨_,(aO (bw (bH (Om Z) hr.m rfl (ao (yJ (cJ (pv 0) aL) Z.TP.cl (af3 Z) hr.m) aq)))),_,rfl,l,_,_,_,rfl,rfl,aN t,rfl,p,_,_,rfl,d.ob,oY _ _ (by k_go) (by k_go) (by k_go) (by k_go) (by k_go),p,v,aj,ws,L,st,rfl,c,d,tl,b,λa g H1 u k r n=>?_⟩;have td:Cw aj st.bM "lacking" _:=.inr (.inr ⟨rfl,g,r,rfl⟩);have j:=(sV.told (aj:=aj) (st:=st) td).small i e tl b;exact ⟨a,_,rfl,n,j,td.len i e tl b,λH2 o=>q _ H2 (aG k o) (.told td)⟩
def akD:Gc Z "words_of" 1 ["row"] (ajL (vR fL)):=by
 o_head (dz Z.Xr,["row","words"]);obtain ⟨x,w0,r,rfl,len,a,j,q⟩:=h;refine ⟨_,(aU (cP (j4 (lG (jM Ek rfl T.Bb boot_isinstance (ao (pv 0) (ao (zx (v:=V.ty "str") (u:=.type "str") rfl T.o9 (by k_go) rfl) aq)))))
 (aO oK)
 cT)
 (aU (bW 1 nd (iV qF Kd Ke QL (pv 0) (ao bN aq)))
 (aU (cP (Tv (ajy Z.RT.kd (cJ (pv 1) aL) (Ce (v:=V.ref _) rfl Z.RT.at_ rfl)) (by with_unfolding_all rfl))
 (aO oK)
 cT)
 (aO (bw (qy (cQ iU (cJ (pv 1) aL) bN) (iV qF Kd Ke ajz (pv 0) (ao bN (ao aL aq))) (pv 1))))))),?_⟩
 have i:(ofString " ")=⟨#[32]⟩:=by k_go
 refine ⟨_,rfl,_,_,_,true,rfl,jg.str _,rfl,_,rfl,bQ (by decide) ⟨_,rfl,rfl,x,ofString " ",rfl,rfl,rfl,by lk, λl d=>?_⟩⟩;rw [i,a];km_lay d H1 d e b;refine ⟨_,rfl,l,_,_,_,rfl,rfl,aN b,yp,.inr w0,rfl,_,rfl,bQ (by rw [j];decide) ⟨_,rfl,l,_,_,_,rfl,rfl,aN b,yp,rfl,_,rfl,?_⟩⟩;by_cases c:w0="net"
 ·refine cL (by rw [c];simp) ⟨_,rfl,rfl,x,ofString " ",2,rfl,rfl,rfl,by lk, by lk, by lk, λk g=>?_⟩;rw [i];refine q k _ (e.free g) (aG e (cu g _)) ?_;rw [aM];unfold xZ;rw [a,aQ (by rw [c];rfl)]
 ·refine bQ (λz=>c (V.str.inj (jH z))) ⟨_,rfl,q l H1 d e ?_⟩;rw [b];unfold xZ;rw [a,aK (show ¬ (w0::r).head?=some (ofString "net") from λz=>c (iz z))]
def akE:Gc Z "kinds_of" 1 ["words"] (aoe K (vR fL)):=by
 o_head (dz Z.Xu,["words","kinds"]);obtain ⟨l,w0,r,m,f,rfl,g,⟨a,kt,B,i,b⟩,C,J,I,q⟩:=h;refine ⟨_,(aU (bW 1 nd (b_ (acX Z.RT.kd (Ce (v:=V.ref _) rfl Z.RT.at_ rfl) (cJ (pv 0) aL) (λ_ _=>rfl)) aL))
 (aU (cP (cQ iU (cJ (pv 0) aL) bN)
 (aO (bw (bD an' (pv 1) (bD an_ (gZ (ao bN aq)) (bD qR (bD qR (j6 T (pv 0)) aL) (j6 T (pv 1)))))))
 cT)
 (aO (bw (pv 1))))),?_⟩
 refine ⟨_,rfl,l,_,_,_,rfl,rfl,aN g,yp,.inr w0,a,rfl,B,a,_,_,_,rfl,rfl,(i H).sq,rfl,_,rfl,l,_,_,_,rfl,rfl,aN g,yp,rfl,_,rfl,?_⟩;by_cases c:w0="exits"
 ·refine cL (by rw [c];simp) ⟨_,rfl,aW (by kl_no),λt d=>?_⟩;km_lay d H1 d j n;have e:=j _ _ g;refine ⟨_,rfl,l,_,rfl,.inl (aN e),_,_,rfl,rfl,_,rfl,kt,_,rfl,.inr (b H1).sq,_,_,rfl,rfl,t,_,_,rfl,rfl,n,by simp,by simp;lk, by simp;lk, λp2 H2 u k=>?_⟩;have y:((((map V.str (w0::r)).length:Nat):Int)-1-(((map V.str m).length:Nat):Int)).toNat=r.length-m.length:=by rw [bh,bh,gw];lk
  rw [y,QW] at k;refine ⟨kt,p2,_,_,rfl,rfl,b H2,k,by simpa using C,aW (by rw [bh,vG];lk),λp D o x=>q p D (aG j (aG u o)) ?_⟩;unfold eU;rw [aQ c,cX,List.map_replicate];exact x
 ·refine bQ (λz=>c (V.str.inj (jH z))) ⟨_,rfl,q kt H (cW _) ?_⟩;unfold eU;rw [aK c];exact b H
def amQ:Gc Z "is_name" 1 ["word"] al8:=by
 o_head (dz Z.Xv,["word"]);obtain ⟨y,rfl,len,q⟩:=h;refine ⟨_,(aO (bw (vI (abb uz uz aL (jM Ii rfl T.zV zu (ao (pv 0) aq)) (Cp rfl Z.Oz)) (uo (jM (Qd rfl) rfl T.Ub boot_all (ao (iC ["sign"] [] rfl (adJ (pv 0)) (by k_all) (by k_mem) (by row_wit1 (Ko aaw (pv 0) (acW rfl Z.Ou) (by with_unfolding_all rfl)))) aq)))))),_,rfl,y,rfl,aW (by lk),_,_,rfl,rfl,?_⟩;by_cases g:(1:Int)<=(y.length:Int)
 rotate_left
 ·refine ⟨_,rfl,bQ (by simpa using g) ⟨_,rfl,bQ (by decide) (q false H (cW _) (uU λz=>g (by have:=z.1;rw [cO] at this;lk)))⟩⟩
 refine ⟨_,rfl,cL (fM g) ⟨_,_,rfl,rfl,_,rfl,?_⟩⟩;by_cases j:(y.length:Int)<=8
 rotate_left
 ·exact bQ (by simpa using j) (q false H (cW _) (uU λz=>j (by have:=z.2.1;rw [cO] at this;lk)))
 refine cL (fM j) ⟨_,rfl,y,rfl,λl m=>?_⟩;refine QM (x:=y) (λi ys Hc=>aB H Hc/\Hc l=some (.lst ys)/\ys=(((Ls y).take i).map λc=>decide (97<=c/\c<=122)).map V.bl) ⟨bR m (cW H),aM,rfl⟩ (aW (by show (Ls y).length<=_;rw [cO];lk)) (λi ys Hc ⟨e,a,o⟩=>⟨a,by rw [o,bh,bh,gV];lk⟩) ?_ ?_
 ·rintro i c ys Hc d ⟨e,a,rfl⟩;refine ⟨⟨.inl rfl,trivial⟩,iG ⟨_,rfl,_,_,rfl,rfl,?_⟩⟩;rw [aod c];refine ⟨a,bR m e,aM,?_⟩;have k:(Ls y)[i]?=some c:=by unfold Ls;rw [Kc];exact d
  rw [fZ k,cX,cX];rfl
 ·rintro ys Hc ⟨e,a,rfl⟩;have n:((Ls y).take y.cps.size)=Ls y:=zc (by rw [cO];exact bI _);rw [n] at a;refine ⟨l,_,rfl,aN a,q _ Hc e ?_⟩;rw [wZ];constructor
  ·intro h;refine ⟨by rw [cO];lk, by rw [cO];lk, λc d=>jH (h _ (fV.mpr ⟨c,d,rfl⟩))⟩
  ·intro h b p;obtain ⟨c,d,rfl⟩:=fV.mp p;exact fM (h.2.2 c d)
def aqW:Gc Z "fits" 2 ["kind","word"] apG:=by
 o_head (dz Z.Xw,["kind","word"]);obtain ⟨k,x,rfl,len,q⟩:=h;have PK:=(Z4 Z);refine ⟨_,(aU (cP (cQ iU (pv 0) bN)
 (aO (bw pW))
 cT)
 (aO (bw (qy (cQ iU (pv 0) bN) (bH PK hr.m rfl (ao (pv 1) aq)) (bH (amQ Z) hr.m rfl (ao (pv 1) aq)))))),?_⟩
 refine ⟨_,rfl,rfl,_,rfl,?_⟩;by_cases c:k="text"
 ·subst c;exact cL (by simp) (q true H (cW _) (Hj .text))
 refine bQ (λz=>c (V.str.inj (jH z))) ⟨_,rfl,rfl,_,rfl,?_⟩;by_cases a:k="number"
 ·subst a;refine cL (by simp) ⟨_,rfl,x,rfl,len,λb H1 e d=>q b H1 e (d.trans ⟨λz=>.num z,λz=>?_⟩)⟩;cases z with
  |num h=>exact h
  |name i g h=>exact absurd rfl g
 ·refine bQ (λz=>a (V.str.inj (jH z))) ⟨_,rfl,x,rfl,len,λb H1 e d=>q b H1 e (d.trans ⟨λz=>.name c a z,λz=>?_⟩)⟩;cases z with
  |text=>exact absurd rfl c
  |num h=>exact absurd rfl a
  |name i g h=>exact h
def ae5:Gc Z "refuse_unless_fitting" 3 ["kinds","words"] (ajN K):=by
 o_head (dz Z.Xx,["kinds","words","kind","word"]);obtain ⟨t,l,ks,xs,rfl,u,r,z,len,le,q⟩:=h;have B:ks.length=xs.length:=o7 z;refine ⟨_,(aU (cP (cQ mj (j6 T (pv 1)) (j6 T (pv 0)))
 (aO oK)
 cT)
 (aO (jx jj rfl  (QH rfl T.Lf (ao (pv 0) (ao (pv 1) aq))) (qN rfl (ji (fK 2 nd) (ji (fK 3 nd) qG)))
 (aO (cP (j4 (lG (bH (aqW Z) hr.m rfl (ao (pv 2) (ao (pv 3) aq)))))
 (aO oK)
 cT))))),?_⟩
 refine ⟨_,rfl,l,_,rfl,.inl (aN r),_,rfl,t,_,rfl,.inr u,rfl,_,rfl,bQ (by simp [B]) ⟨_,rfl,_,rfl,t,l,rfl,⟨_,u⟩,⟨_,aN r⟩,?_⟩⟩;refine anb (xs:=ks.map V.str) (ys:=xs.map V.str) (by rw [bh,bh];exact B) (λi σ Hc=>∃ p o,σ=[some (.ref t),some (.ref l),p,o]/\aB H Hc) ⟨none,none,rfl,cW _⟩ (λi σ Hc _ ⟨_,_,_,a⟩=>⟨a.arI u,aN (a _ _ r)⟩) ?_ ?_
 ·rintro i x y j σ Hc C D L ⟨p,o,rfl,a⟩;obtain ⟨k,n,rfl⟩:=wX C;obtain ⟨e,d,rfl⟩:=wX D;have v:aB Hc (upd Hc j (HO.tup [V.str k,V.str e])):=cu L _;refine ⟨j,_,rfl,aZ aM,rfl,?_⟩;generalize upd Hc j (HO.tup [V.str k,V.str e])=H1 at v;refine ⟨_,_,rfl,_,_,rfl,rfl,_,rfl,_,rfl,k,e,rfl,le e (eZ d),λb H2 I J=>?_⟩;obtain ⟨M,c,g⟩:=Paired.Du z d;rw [n] at c;cases c;rw [J.mpr g];exact ⟨_,rfl,bQ (by decide) ⟨_,_,rfl,aG a (aG v I)⟩⟩
 ·rintro σ Hc ⟨p,o,rfl,a⟩;exact q Hc a
def Z6:Gc Z "taken_from" 1 ["shelf","name"] aog:=by
 o_head (dz Z.Xy,["shelf","name"]);obtain ⟨a,aY,x,v,rfl,b,c,q⟩:=h;refine ⟨_,(aU (cP (Tv (aaU (yc hr) (pv 1) (pv 0)) (by with_unfolding_all rfl))
 (aO oK)
 cT)
 (aO (bw (acS (yc hr) (pv 0) (pv 1) (λ_ _=>rfl))))),?_⟩
 have g:q8 H a (kV (.inr x)) (some v):=by rw [<-c];exact q8.k b
 exact ⟨_,rfl,_,rfl,a,_,rfl,g,_,rfl,bQ (by simp) ⟨_,rfl,_,rfl,a,v,rfl,g,q⟩⟩
def agv (F:vY K mg Cd "__init__" "Desk.__init__" Z1 f fd):dw P w K mg au jL 1 f fd ["self"] (ac6 Cd):=by
 o_head ["self"];obtain ⟨d,dx,rfl,k,q⟩:=h;refine ⟨_,(aU (zQ (pv 0) Jm rfl)
 (aO (zQ (pv 0) Jm rfl))),?_⟩
 intro n i;have c:d≠n:=cV k i;refine ⟨_,rfl,d,Cd,dx,[],rfl,(aV c).trans k,Z.TD.cl,Z.TD.nN,(by show 0<1000;decide),?_⟩;intro p fp;have g:p≠d:=λz=>by rw [z,aM] at fp;cases fp
 have pn:p≠n:=λz=>by rw [z,aV (bF c),aM] at fp;cases fp
 have a:H p=none:=by rw [aV g,aV pn] at fp;exact fp
 refine ⟨_,rfl,d,Cd,dx,_,rfl,(aV (bF g)).trans aM,Z.TD.cl,Z.TD.nP,(by have:=qz "nets" (V.ref n) [];simp at this;lk),q ⟨dx,n,p⟩ _ i a ⟨aM,?_,?_,bF pn,by simp,by simp⟩ λb o e j=>?_⟩
 ·show (upd _ d _) n=_;rw [aV (bF c),aV (bF pn),aV (bF c),aM]
 ·show (upd _ d _) p=_;rw [aV g,aM]
 ·rw [aV j,aV (cV e a),aV j,aV (cV e i)];exact e
def apY:Kv P w K mg au "Desk" Cd 1 ["self"] (ac6 Cd):=let ⟨_,_,F⟩:=Z.Xz;⟨⟨_,_,agv Z F,F.fn.binds (by k_dec),Z.akm,F.mt.1,F.mt.2,Z.akn⟩,Z.ako⟩
def afC:j7 P w K mg au Cd "thing_of" 2 ["self","kind","word"] (aoh Cd):=by
 o_head (pF Z.XD,["self","kind","word"]);obtain ⟨d,D,kn,kp,k,x,v,rfl,a,th,q⟩:=h;refine ⟨_,(aU (cP (cQ iU (pv 1) bN)
 (aO (bw (bH (Z6 Z) hr.m rfl (ao (fX (pv 0) rfl) (ao (pv 2) aq)))))
 cT)
 (aU (cP (cQ iU (pv 1) bN)
 (aO (bw (bH (Z6 Z) hr.m rfl (ao (fX (pv 0) rfl) (ao (pv 2) aq)))))
 cT)
 (aO (bw (qy (cQ iU (pv 1) bN) (iu aaW rfl T.Le Qe (ao (pv 2) aq)) (pv 2)))))),?_⟩
 refine ⟨_,rfl,rfl,_,rfl,?_⟩;cases th with
 |net h =>refine cL (by simp) ?_;exact ⟨_,rfl,d,Cd,_,_,_,rfl,a.ob,Z.TD.cl,Z.TD.nN,abD _,_,rfl,D.n,kn,x,v,rfl,a.ne,h,q⟩
 |play h =>refine bQ (by k_go) ?_;refine ⟨_,rfl,rfl,_,rfl,cL (by simp) ?_⟩;exact ⟨_,rfl,d,Cd,_,_,_,rfl,a.ob,Z.TD.cl,Z.TD.nP,aa1 _,_,rfl,D.q,kp,x,v,rfl,a.pl,h,q⟩
 |num h l =>refine bQ (by k_go) ?_;refine ⟨_,rfl,rfl,_,rfl,bQ (by k_go) ?_⟩;refine ⟨_,rfl,rfl,_,rfl,cL (by simp) ?_⟩;exact ⟨_,rfl,x,_,rfl,h,l,q⟩
 |other b e c =>refine bQ (λz=>b (V.str.inj (jH z))) ?_;refine ⟨_,rfl,rfl,_,rfl,bQ (λz=>e (V.str.inj (jH z))) ?_⟩;refine ⟨_,rfl,rfl,_,rfl,bQ (λz=>c (V.str.inj (jH z))) ?_⟩;exact ⟨_,rfl,q⟩
def aa9:Dg P w K mg au Cd "say" 14 ["self","row"] (pZ P w K mg au (vR fL) 13 Cd):=by
 o_head (arM Z.XF,["self","row","words","kinds","things","told"],0);obtain ⟨d,D,kn,kp,x,w0,p,N,u,kr,sp,ts,rfl,da,len,Y,hw,⟨f1,rk,cal⟩,mD,lx,fit,th,le,ln,lp,q⟩:=h;refine ⟨_,(aU (bW 2 nd (bH (akD Z) hr.m rfl (ao (pv 1) aq)))
 (aU (bW 3 nd (bH (akE Z) hr.m rfl (ao (pv 2) aq)))
 (aU (kI (bH (ae5 Z) hr.m rfl (ao (pv 3) (ao (wV Cg (pv 2) (xO aL) xM) aq))))
 (aU (ahn (i:=4) nd rfl (by k_in) ["kind","word"] [("self",0)] rfl (QH rfl T.Lf (ao (pv 3) (ao (wV Cg (pv 2) (xO aL) xM) aq))) (by w_tab) (by k_mem) (by row_wit1 (jN (pv 2) Z.TD.cl (afC Z) hr.m (ao (pv 0) (ao (pv 1) aq)))))
 (aU (bW 5 nd (ajF (k:=13) (b_ (acX Z.RT.kd (Ce (v:=V.ref _) rfl Z.RT.at_ rfl) (cJ (pv 2) aL) (λ_ _=>rfl)) aL) hr.m (ao (pv 4) aq)))
 (aU (cP (cQ iU (b_ (pv 3) aL) bN)
 (aU (Ky (yc hr) (fX (pv 0) rfl) (cJ (pv 2) aL) (pv 5) rfl)
 (aO (bw bN)))
 cT)
 (aU (cP (cQ iU (b_ (pv 3) aL) bN)
 (aU (Ky (yc hr) (fX (pv 0) rfl) (cJ (pv 2) aL) (pv 5) rfl)
 (aO (bw bN)))
 cT)
 (aO (bw (pv 5)))))))))),?_⟩
 obtain ⟨r,hsp⟩:∃ r,Txt.split x ⟨#[32]⟩=w0::r:=by
  cases e:Txt.split x ⟨#[32]⟩ with
  |nil=>rw [e] at Y;cases Y
  |cons a b=>rw [e] at Y;exact ⟨b,by rw [iz Y]⟩
 obtain ⟨ar,kt,hv,hr1,hr2⟩:=rk.ex;refine ⟨_,rfl,x,w0,r,rfl,len,hsp,by rw [hv];rfl,λl H1 fl s1 x1=>?_⟩;rw [hw] at x1;refine ⟨_,rfl,l,w0,p::u,N::kr,f1,rfl,x1,rk,by simp,by simp;lk, by rw [gw];lk, λt H2 s2 lB=>?_⟩;have x2:=s2 _ _ x1;have ct:ou (map V.str (w0::p::u)) (some 1) none=map V.str (p::u):=ajK _ _;refine ⟨_,rfl,_,rfl,1,rfl,l,_,rfl,aN x2,λl3 f3=>?_⟩;rw [ct];km_lay f3 H3 f3 s3 x3;refine ⟨t,l3,_,_,rfl,(lB.same s3).sq,x3,fit,by rw [gw];lk, le,λH4 s4=>?_⟩;have Av:=aG s3 s4;have x4:=Av _ _ x2;have O:=lB.same Av;refine ⟨_,rfl,_,rfl,1,rfl,l,_,rfl,aN x4,λl5 f5=>?_⟩;rw [ct];km_lay f5 H5 f5 s5 x5;have W:aB H H5:=aG s1 (aG s2 (aG Av s5));have I:=O.same s5;obtain ⟨Yk,MK⟩:=th.len;refine ⟨t,l5,rfl,⟨_,I.sq⟩,⟨_,aN x5⟩,λU fc=>?_⟩;refine abk (xs:=(eU w0 (N::kr) (u.length+1)).map V.str) (ys':=(p::u).map V.str) (by rw [bh,bh];exact Yk) (λi ys Hc=>aB H5 Hc/\Hc U=some (.lst ys)/\ys=ts.take i) ⟨bR fc (cW _),aM,rfl⟩ (aW (by rw [bh,Yk,gw];lk)) (λi ys Hc _ ⟨S,e1,e2⟩=>⟨(I.same S).sq,aN (S _ _ x5),e1,by rw [e2,gV];lk⟩) ?_ ?_
 ·rintro i x' y' T1 ys Hc hx hy fT ⟨S,e1,rfl⟩;obtain ⟨k1,hk1,rfl⟩:=wX hx;obtain ⟨y1,hy1,rfl⟩:=wX hy;obtain ⟨v1,hv1,ti⟩:=th.get hk1 hy1;have g:aB Hc (upd Hc T1 (HO.tup [V.str k1,V.str y1])):=cu fT _;refine ⟨T1,_,rfl,aZ aM,rfl,?_⟩;generalize upd Hc T1 (HO.tup [V.str k1,V.str y1])=o at g;refine ⟨_,_,rfl,_,_,rfl,rfl,⟨.inl rfl,.inl rfl,.inr rfl,trivial⟩,iG ?_⟩;have M:=da.same (aG W (aG S g));refine ⟨_,rfl,d,D.dx,jD D,rfl,M.ob,mR _ (by k_go) (by k_go),_,rfl,_,rfl,d,D,kn,kp,k1,y1,v1,rfl,M,ti,g _ _ e1,bR fc (aG S g),aM,?_⟩;rw [fZ hv1]
 ·rintro ys o ⟨g,e6,rfl⟩;rw [bh,Yk,<-MK,gq] at e6;have Ec:=aG s5 g;have sq6:=O.same Ec;have x6:=Ec _ _ x4;have fc0:H U=none:=W.free fc;refine ⟨_,rfl,l,_,_,_,rfl,rfl,aN x6,yp,.inr w0,ar,rfl,hv,ar,_,_,_,rfl,rfl,(hr1 o).sq,rfl,f1,_,sp,rfl,cal,_,rfl,_,q U o fc0 (aG W g) e6,λv B en=>?_⟩;have hk0:jK ((eU w0 (N::kr) (u.length+1)).map V.str) 0=some (V.str N):=by
   unfold eU;split
   ·rw [Rz];exact yp
   ·exact yp
  have M:=da.same (aG W g);have L:∀ {R:Bool->Hp->Prop} {y:Str},KT o B->R (decide (V.str N=V.str y)) B->Gp (lO rEq (lO (Dq K) (mX 3) (tC (V.int 0))) (tC (V.str y))) [some (.ref d),some (.str x),some (.ref l),some (.ref t),some (.ref U),some v] B R:=λc hR =>
   ⟨_,rfl,t,_,_,_,rfl,rfl,(sq6.kt c).sq,hk0,rfl,_,rfl,hR⟩
  cases en with
  |net e j C =>subst e;have c:KT o B:=cG j (bY _);refine L c (cL (by simp) ?_);have J:=M.same j;refine ⟨_,rfl,_,rfl,d,Cd,_,_,_,rfl,J.ob,Z.TD.cl,Z.TD.nN,abD _,_,rfl,l,_,_,_,rfl,rfl,aN (j _ _ x6),aeD,D.n,_,rfl,uJ.k (k:=.inr p) J.ne (nY (by lk)),?_⟩;exact C
  |play e j C =>subst e;have c:KT o B:=cG j (bY _);refine L c (bQ (by k_go) ?_);refine L c (cL (by simp) ?_);have J:=M.same j;refine ⟨_,rfl,_,rfl,d,Cd,_,_,_,rfl,J.ob,Z.TD.cl,Z.TD.nP,aa1 _,_,rfl,l,_,_,_,rfl,rfl,aN (j _ _ x6),aeD,D.q,_,rfl,uJ.k (k:=.inr p) J.pl (nY (by lk)),?_⟩;exact C
  |other n1 n2 c C =>refine L c (bQ (λz=>n1 (V.str.inj (jH z))) ?_);refine L c (bQ (λz=>n2 (V.str.inj (jH z))) ?_);exact ⟨_,rfl,C⟩
def qx:j7 P w K mg au Cd "say" 14 ["self","row"] (apI P w K mg au (vR fL) 13 Cd):=(aa9 Z).non
def ait:Gc Z "_law_text" 1 ["_law_net"] al6:=by
 refine dz Z.XH λf fd F=>?_;have T:=Z.T;refine F.fn.ok aoD (λvs H Q E h=>?_) (λN A outer s H vs Q E hr h=>?_)
 ·obtain ⟨n,t,aj,ws,rfl,_⟩:=h;rfl
 ·obtain ⟨n,t,aj,ws,rfl,o,⟨rs,C,B⟩,w1,R,ok,len,q⟩:=h;have g:=B.len;have k:=TJ R ok;have u:=Cu (n:=aj) (by lk) (by lk);refine ⟨_,(aO (bw (iV qF Kf Kg KJ bN (ao (bD vK (fj (ao (bD jW (iu wQ rfl T.o9 qw (ao (b_ (pv 0) aL) aq)) bN) aq)) (iC ["_law_first","_law_second"] [] rfl (jZ (b_ (pv 0) aL)) (by w_tab) (by k_mem) (by row_wit1 (bD jW (bD jW (iu (Ig K rfl) rfl T.o9 qw (ao (pv 0) aq)) bN) (iu (Ig K rfl) rfl T.o9 qw (ao (pv 1) aq)))))) aq)))),rfl,_,rfl,n,_,_,_,rfl,rfl,aZ o,rfl,aj,rfl,Bh (by lk) (by lk),bL aj,":",rfl,rfl,aW (by rw [u];show 1+1<=100000;decide),aW (by kl_no),λO y=>?_⟩;km_lay y H1 y c M;refine ⟨_,rfl,n,_,_,_,rfl,rfl,aZ (c _ _ o),rfl,t,rfl,⟨_,aN (c _ _ C)⟩,λm v=>?_⟩;refine rE (xs:=rs) (λi ys Hc=>aB H1 Hc/\Hc m=some (.lst ys)/\ys=((ws.take i).map DY).map V.str) ⟨bR v (cW H1),aM,rfl⟩ (aW (by lk)) (λi ys Hc hi ⟨a,b,W⟩=>⟨aN (a _ _ (c _ _ C)),b,by rw [W,bh,bh,gV];lk⟩) ?_ ?_
  ·rintro i x ys Hc J ⟨a,b,rfl⟩;obtain ⟨w0,I,d,rfl,j⟩:=B.get J;have f0:=k w0 (eZ d);have r:=Cu f0.1 f0.2.1;have L:=Cu f0.2.2.1 f0.2.2.2;refine ⟨I,_,rfl,aZ (a _ _ (c _ _ j)),rfl,_,_,rfl,_,_,rfl,rfl,⟨.inl rfl,.inl rfl,trivial⟩,iG ⟨_,rfl,w0.1,rfl,Bh f0.1 f0.2.1,bL w0.1,"-",rfl,rfl,aW (by rw [r];show 1+1<=100000;decide),_,rfl,w0.2,rfl,Bh f0.2.2.1 f0.2.2.2,_,bL w0.2,rfl,rfl,aW (by rw [jc,r,L];show 1+1+1<=100000;decide),b,bR v a,aM,?_⟩⟩;rw [fZ d,cX,cX];rfl
  ·rintro ys Hc ⟨a,b,rfl⟩;rw [g,gq] at b;refine ⟨O,m,_,_,rfl,rfl,a _ _ M,b,aW (by rw [bh,bh];show 1+_<=_;lk),λp D=>?_⟩;km_lay p H2 D U S;have z:(ofString " ")=⟨#[32]⟩:=by k_go
   have sl:=Ss DY (n:=3) ws λw l=>by rw [adT (k w l)];exact bI _
   have Y:=aai (x:=bL aj++(":":Str)) ws λw l=>adT (k w l);refine ⟨ofString " ",p,(bL aj++(":":Str))::ws.map DY,rfl,rfl,aN S,?_,?_⟩
   ·rw [gb,qD,gw,bh,jc,u,z];show 1+1+_+(ws.length+1)*1<=_;lk
   ·rw [z,wU];have e:Str.join ⟨#[32]⟩ ((bL aj++(":":Str))::ws.map DY)=oA aj ws:=by refine pU ?_;rw [Y,gW,zU (by lk) (by lk)];rfl
    rw [e];exact q _ (aG c (aG a U))
def Z7:Gc Z "_law_words" 1 ["_law_numbers"] abE:=by
 o_head (dz Z.XJ,["_law_numbers"]);obtain ⟨a,ns,rfl,k,n,len,q⟩:=h;refine ⟨_,(aU (cP (cQ (ao7 hr.units) (pv 0) (fj aq))
 (aO (bw bN))
 cT)
 (aO (bw (iV qF Kf Kg KJ bN (ao (iC ["_law_number"] [] rfl (jZ (pv 0)) (by k_all) (by k_mem) (by row_wit1 (iu (Ig K rfl) rfl T.o9 qw (ao (pv 0) aq)))) aq))))),?_⟩
 have y:(ofString " ")=⟨#[32]⟩:=by k_go
 have pw:=Br n;have j:=FQ pw;rw [bh] at j;refine ⟨_,rfl,aW (by kl_no),λB f0=>?_⟩;km_lay f0 l f0 d v;refine ⟨a,B,ns,[],rfl,rfl,aN (d _ _ k),aN v,_,rfl,?_⟩;by_cases c:ns=[]
 ·refine cL (fM c) ?_;have e:iR ns=ofString "none":=aQ c;have:=q l d;rw [e] at this;exact this
 refine bQ (by simpa using c) ?_;have t:iR ns=Txt.join ⟨#[32]⟩ (ns.map bL):=aK c;refine ⟨rfl,_,rfl,a,rfl,⟨_,aN (d _ _ k)⟩,λm p=>?_⟩;refine rE (xs:=ns.map V.int) (λi zs Hc=>aB l Hc/\Hc m=some (.lst zs)/\zs=((ns.take i).map bL).map V.str) ⟨bR p (cW l),aM,rfl⟩ (aW (by rw [bh];lk)) (λi zs Hc hi ⟨g,b,u⟩=>⟨aN (g _ _ (d _ _ k)),b,by rw [u,bh,bh,gV];lk⟩) ?_ ?_
 ·rintro i x zs Hc r ⟨g,b,rfl⟩;obtain ⟨z,o,rfl⟩:=u5 r;refine ⟨⟨.inl rfl,trivial⟩,iG ⟨_,rfl,z,rfl,xP (n z (eZ o)),b,bR p g,aM,?_⟩⟩;rw [fZ o,cX,cX];rfl
 ·rintro zs Hc ⟨g,b,rfl⟩;rw [bh,gq] at b;rw [y];refine ⟨_,m,ns.map bL,rfl,rfl,aN b,by rw [show (⟨#[32]⟩:Str).length=1 from rfl,bh];lk, ?_⟩;rw [<-t];exact q Hc (aG d g)
def aat:Gc Z "_law_said" 15 ["_law_desk","_law_row"] (amm P w K mg au (vR fL) eA.many Cd):=by
 o_head (dz Z.XM,["_law_desk","_law_row","_law_said_here"]);obtain ⟨d,D,kn,kp,x,rfl,b,h⟩:=h;refine ⟨_,(aU (bW 2 nd bN)
 (aU (anv rfl rfl (anu (i:=2) nd rfl (by k_in) (amd (pv 0) Z.TD.cl (aa9 Z) hr.m (ao (pv 1) aq))) rfl Z.D_.Iv (λ_=>(aO (bW 2 nd bN))))
 (aO (bw (pv 2))))),?_⟩
 refine ⟨_,rfl,d,D.dx,jD D,rfl,b.ob,mR _ (by k_go) (by k_go),_,rfl,_,_,h,λv H1 ⟨⟨y,j⟩,q⟩=>?_,λc H1 q=>?_⟩
 ·subst j;exact ⟨_,rfl,q⟩
 ·obtain ⟨e,q⟩:=q;subst e;refine ⟨Z.D_.ajg,λea a=>?_⟩;have g:aB H1 (upd H1 ea (UG ea (.ref eA.many))):=cu a _;exact ⟨_,rfl,q _ g⟩
def aiu:Gc Z "_law_made" 15 ["_law_pen_here","_law_desk","_law_wide"] (amn Cd):=by
 o_head (dz Z.XQ,["_law_pen_here","_law_desk","_law_wide","_law_wickets_here","_law_rows"]);obtain ⟨pn,d,D,k,rfl,y,⟨pa,pb,pc,hp0⟩,da,q⟩:=h;have C:=vL k;have I:=zX y;obtain ⟨Yl,nk2⟩:=uc (i:=pw k) (by lk) (by lk);have nkl:=yL Yl;refine ⟨_,(aU (bW 3 nd (bH (afZ Z) hr.m rfl (ao (pv 0) (ao (pv 2) (ao (bH (tU Z) hr.m rfl (ao (pv 0) (ao aL aq))) aq)))))
 (aU (bW 4 nd (fj (ao (bD jW bN (bH (ait Z) hr.m rfl (ao (gZ (ao (pv 2) (ao (pv 3) aq))) aq))) (ao (bD jW (bD jW (cJ (fj (ao bN (ao bN aq))) (bH (tU Z) hr.m rfl (ao (pv 0) (ao aL aq)))) bN) (iu wQ rfl T.o9 qw (ao (pv 2) aq))) aq))))
 (aU (kI (iV oN vo vp tV (pv 4) (ao bN aq)))
 (aU (cP (cQ iU (bH (tU Z) hr.m rfl (ao (pv 0) (ao aL aq))) aL)
 (aO (kI (iV oN vo vp tV (pv 4) (ao bN aq))))
 cT)
 (aO (bw (vN (adA hr.units) (iC ["_law_row"] [("_law_desk",1)] rfl (jZ (pv 4)) (by k_all) (by k_mem) (by row_wit1 (jN (pv 1) Z.TD.cl (qx Z) hr.m (ao (pv 0) aq)))) (bD Gb (fj (ao bN aq)) (j6 T (pv 4)))))))))),?_⟩
 try dsimp only [lK]
 refine t_ (a:=qX _ _) λN U=>⟨_,rfl,_,rfl,_,rfl,pn,_,_,_,4,rfl,hp0,by decide,by decide,λm a1 b1 c1 m0 m4=>?_⟩;wrow_args pn H1 nkr k1 hp1;refine ⟨pn,pw k,m,rfl,⟨_,_,_,hp1⟩,C,I,m0,by lk, λlw jV H2 f2 k2 ⟨a2,b2,c2,hp2⟩ wl Aw as4=>?_⟩;have k02:=yd k1 k2;refine U _ _ ?_;clear U N
 try dsimp only [lK]
 refine t_ (a:=qX _ _) λN U=>⟨_,rfl,_,rfl,aW (by kl_no),λtn ftn=>?_⟩;km_lay ftn H3 ftn s3 x3;refine ⟨tn,lw,pw k,jV,rfl,x3,wl.same s3,C,I,Aw,by lk, λH4 s4=>?_⟩;have nl:=QS (pw k) jV;have l6:(ofString "net v ").length=6:=by k_go
 refine ⟨_,_,rfl,rfl,aW (by rw [l6,nl];lk),aW (by kl_no),λl5 f5=>?_⟩;km_lay f5 H5 f5 s5 x5;have Ed:=aG s3 (aG s4 s5);have Ym:=Ed _ _ hp2;refine ⟨_,rfl,pn,_,_,_,2,rfl,Ym,by decide,by decide,λr a6 b6 c6 r0 r2=>?_⟩;have n5:l5≠pn:=bF (cV (s4 _ _ (s3 _ _ hp2)) f5);have k6:Kp pn H (upd H5 pn (HO.lst [V.int a6,V.int b6,V.int c6])):=yd k02 (yd (Kp.same Ed) Kp.upd);have Yn:(upd H5 pn (HO.lst [V.int a6,V.int b6,V.int c6])) pn=some (.lst [V.int a6,V.int b6,V.int c6]):=aM;have x6:(upd H5 pn (HO.lst [V.int a6,V.int b6,V.int c6])) l5=some (.lst [V.str "folded",V.str "rounds"]):=(aV n5).trans x5;generalize upd H5 pn (HO.lst [V.int a6,V.int b6,V.int c6])=H6 at k6 Yn x6;obtain ⟨fw,efw,hfw⟩:∃ fw:Str,jK [V.str "folded",V.str "rounds"] r=some (.str fw)/\(fw="folded" \/ fw="rounds"):=by
  have h:r=0\/r=1:=by lk
  rcases h with h|h<;>subst h
  ·exact ⟨_,rfl,.inl rfl⟩
  ·exact ⟨_,rfl,.inr rfl⟩
 have lfw:fw.length=6:=by rcases hfw with rfl|rfl<;>k_go
 have l3:(ofString " w ").length=3:=by k_go
 refine ⟨l5,_,_,_,rfl,rfl,aN x6,efw,_,_,rfl,rfl,aW (by rw [lfw,l3];decide),_,rfl,pw k,rfl,xP (by lk),_,_,rfl,rfl,aW (by rw [jc,lfw,l3];show _+(bL (pw k)).length<=_;lk),?_⟩;generalize er0:(ofString "net v ")++oA (pw k) jV=L;generalize er1:fw++(ofString " w ")++ofString (toString (pw k))=c;kn_lay l fr H7 s7 x7;have nr:l≠pn:=bF (cV Yn fr);have hp7:=s7 _ _ Yn;have k7:Kp pn H H7:=yd k6 (Kp.same s7);refine U _ _ ?_;clear U N;refine ⟨_,rfl,.inl ⟨rfl,_,aN x7⟩,l,_,_,rfl,rfl,x7,nY (by show 2<100000;decide),?_⟩;have x8:(upd H7 l (HO.lst ([V.str L,V.str c]++[V.str "behind w v w"]))) l=some (.lst [V.str L,V.str c,V.str "behind w v w"]):=aM;have hp8:(upd H7 l (HO.lst ([V.str L,V.str c]++[V.str "behind w v w"]))) pn=_:=(aV (bF nr)).trans hp7;have frH:H l=none:=by
  by_cases z:H l=none
  ·exact z
  ·obtain ⟨o,ho⟩:=Option.ne_none_iff_exists'.mp z;rw [k6 _ _ ho nr] at fr;cases fr
 have k8:dI [pn] H (upd H7 l (HO.lst ([V.str L,V.str c]++[V.str "behind w v w"]))):=λb o e nb=>(aV (λz=>by rw [z,frH] at e;cases e)).trans (k7 b o e (by simpa using nb));generalize upd H7 l (HO.lst ([V.str L,V.str c]++[V.str "behind w v w"]))=H8 at x8 hp8 k8
 try dsimp only [lK]
 refine adH (λσ Hc=>∃ rows:bK,σ=[some (.ref pn),some (.ref d),some (.int (pw k)),some (.ref lw),some (.ref l)]/\(rows=[L,c,"behind w v w"]\/rows=[L,c,"behind w v w","mirror w w"])/\Hc l=some (.lst (rows.map V.str))/\wG Hc pn/\dI [pn] H Hc) (λN U=>?_) ?_
 ·refine ⟨_,rfl,pn,_,_,_,2,rfl,hp8,by decide,by decide,λt a9 b9 c9 t0 t2=>?_⟩;have k9:dI [pn] H (upd H8 pn (HO.lst [V.int a9,V.int b9,V.int c9])):=uG k8 (sS (by simp));have hp9:(upd H8 pn (HO.lst [V.int a9,V.int b9,V.int c9])) pn=some (.lst [V.int a9,V.int b9,V.int c9]):=aM;have x9:(upd H8 pn (HO.lst [V.int a9,V.int b9,V.int c9])) l=some (.lst [V.str L,V.str c,V.str "behind w v w"]):=(aV nr).trans x8;generalize upd H8 pn (HO.lst [V.int a9,V.int b9,V.int c9])=H9 at k9 hp9 x9;refine ⟨rfl,_,rfl,pB (λg=>?_) (λg=>?_)⟩
  ·refine ⟨_,rfl,.inl ⟨rfl,_,aN x9⟩,l,_,_,rfl,rfl,x9,nY (by show 3<100000;decide),U _ _ ⟨_,rfl,.inr rfl,aM,⟨_,_,_,(aV (bF nr)).trans hp9⟩,λb o e nb=>(aV (λz=>by rw [z,frH] at e;cases e)).trans (k9 b o e nb)⟩⟩
  ·exact U _ _ ⟨_,rfl,.inl rfl,x9,⟨_,_,_,hp9⟩,k9⟩
 rintro σ Hc ⟨rows,rfl,Dk,xr,pe,kc⟩;have asY:rows.length<=4:=by rcases Dk with rfl|rfl<;>simp
 obtain ⟨_,_,_,hpc⟩:=id pe;obtain ⟨e1,e2,e3⟩:=Fd da hp0;have lV:=da.kps kc (by simpa using e1) (by simpa using e2) (by simpa using e3);refine ⟨_,rfl,l,rfl,⟨_,aN xr⟩,λW fc=>?_⟩;have nlr:l≠D.n:=λz=>by have:=lV.ne;rw [<-z,xr] at this;cases this
 have M00:rC Cd Hc Hc d D k jV 0 []:=⟨dI.refl _ _,bY _,lV,by simp,λ_ z=>(nomatch z),λz=>absurd z (by decide),λz=>absurd z (by decide),λ_=>rfl,λz=>absurd z (by decide)⟩;refine rE (K:=K) (a:=l) (xs:=rows.map V.str) (λj ys Hd=>∃ kn,rC Cd Hc Hd d D k jV j kn/\Hd W=some (.lst ys)/\ys=replicate j (V.str "ok")) ⟨[],M00.same (cu fc _),aM,rfl⟩ (aW (by rw [bh];lk)) (λj ys Hd _ ⟨kn,M,e,e2⟩=>⟨aN (M.ks _ _ xr (by simpa using nlr)),e,by rw [e2];simp⟩) ?_ ?_
 ·rintro j x ys H0 hx ⟨kn,B,x0,rfl⟩;obtain ⟨z,hz,rfl⟩:=wX hx;have jl:j<rows.length:=(dY.mp hz).1;refine ⟨⟨.inl rfl,.inr rfl,trivial⟩,iG ⟨_,rfl,d,D.dx,jD D,rfl,B.da.ob,mR _ (by k_go) (by k_go),_,rfl,?_⟩⟩;have HD:kn.length<900:=by have:=B.ln;lk
  have HF:([]:dU).length<900:=by decide
  have nlc:W≠D.n:=λz=>by have:=B.da.ne;rw [<-z,x0] at this;cases this
  have S:∀ {Hy:Hp} {x:Str} {v:V} {us:aP},aB H0 Hy->eF Hy v (pw k) us->((j=0/\x="v"/\us=jV)\/(1<=j/\x="w"/\us.length<=(if j+1=2 then 36 else 40)/\jh (pw k) us/\k<=dX (pw k) us/\(j+1<=3->k<=dX (pw k) (us.map (jJ (pw k)))))) ->(upd Hy D.n (HO.dK (cD kn (.inr x) v))) W=some (.lst (replicate j (V.str "ok")))/\∃ j_,rC Cd Hc (upd (upd Hy D.n (HO.dK (cD kn (.inr x) v))) W (HO.lst (replicate j (V.str "ok")++[V.str "ok"]))) d D k jV (j+1) j_/\(upd (upd Hy D.n (HO.dK (cD kn (.inr x) v))) W (HO.lst (replicate j (V.str "ok")++[V.str "ok"]))) W=some (.lst (replicate j (V.str "ok")++[V.str "ok"]))/\replicate j (V.str "ok")++[V.str "ok"]=replicate (j+1) (V.str "ok"):=λ{Hy x v us} sy ny hx=>by have xy:(upd Hy D.n (HO.dK (cD kn (.inr x) v))) W=some (.lst (replicate j (V.str "ok"))):=(aV nlc).trans (sy _ _ x0);exact ⟨xy,_,(B.put sy ny hx).lst fc xy,aM,by rw [Fq]⟩
  have hj:j=0\/j=1\/j=2\/j=3:=by lk
  rcases hj with rfl|rfl|rfl|rfl
  ·have ez:L=z:=by rcases Dk with rfl|rfl<;>simpa using hz
   rw [<-ez,<-er0];exact ac7 (adV Z) B.da HD HF (by rw [gW];rfl) aeF (by rw [nl];lk) λO H1 fl p u=>⟨O,_,pw k,jV,rfl,u,C,I,Aw,by lk, λv H2 s2 n2=>.net rfl s2 (S (aG p s2) ⟨n2,C,I,Aw,by lk⟩ (.inl ⟨rfl,rfl,rfl⟩))⟩
  ·have ez:c=z:=by rcases Dk with rfl|rfl<;>simpa using hz
   rw [<-ez,<-er1];obtain ⟨Aj,U3⟩:=fold_all y;obtain ⟨X7,_⟩:=acP y;have aeG:=apQ y;rcases hfw with rfl|rfl
   ·exact adO (akv Z) B.da HD HF (nm:="w") (by rw [gW,gW];rfl) (by k_go) (by k_go) (by k_go) (by k_go) pD Yl nk2 λO H1 fl p u=>⟨O,_,_,rfl,u,.inl ⟨k,rfl,by lk, y,λT v pv H' f s' x Y pp=>⟨T,v,pv,rfl,x,.net rfl s' (S (aG p s') ⟨Y,C,I,Aj,by lk⟩ (.inr ⟨bI _,rfl,by rw [aQ rfl];lk, alS y,(abL y).1,λ_=>(abL y).2⟩))⟩⟩⟩
   ·exact adO (akx Z) B.da HD HF (nm:="w") (by rw [gW,gW];rfl) (by k_go) (by k_go) (by k_go) (by k_go) pD Yl nk2 λO H1 fl p u=>⟨O,_,_,rfl,u,.inl ⟨k,rfl,y,λv H' s' Y=>.net rfl s' (S (aG p s') ⟨Y,C,I,X7,by lk⟩ (.inr ⟨bI _,rfl,by rw [aQ rfl];lk, anL y,(adb y).1,λ_=>(adb y).2⟩))⟩⟩
  ·have ez:(ofString "behind w v w")=z:=by rcases Dk with rfl|rfl<;>simpa using hz
   rw [<-ez];obtain ⟨vv,ev,nv⟩:=B.nv (by lk);obtain ⟨vw,us,ew,J,lu,HJ,du,dm⟩:=B.nw (bI _);rw [aQ rfl] at lu;refine apM (aky Z) B.da HD HF ev ew (nm:="w") (by k_go) (by k_go) (by k_go) (by k_go) (by k_go) pD aeF pD λO H1 fl p u=>⟨O,_,_,_,rfl,u,vv,vw,pw k,pw k,jV,us,rfl,nv.1.kt (cG p (bY _)),J.1.kt (cG p (bY _)),C,I,C,I,Aw,J.2.2.2.1,by lk, by lk, ?_⟩;have eb:FJ (pw k) jV (pw k) us=.net (pw k) (jV++us):=by unfold FJ;rw [aK (λz=>z rfl),aK (by lk)]
   rw [eb];exact λv' H' s' n'=>.net rfl s' (S (aG p s') ⟨n',C,I,Aw.app J.2.2.2.1,by rw [dJ];lk⟩ (.inr ⟨by lk, rfl,by rw [aK (by lk),dJ];lk, jh.ahead HJ,gR du (aa6 Aw),λ_=>by rw [cX];exact gR (dm (by lk)) (aa6 (Sh Aw))⟩))
  ·have ez:(ofString "mirror w w")=z:=by
    rcases Dk with rfl|rfl
    ·simp at jl
    ·simpa using hz
   rw [<-ez];obtain ⟨vw,us,ew,J,lu,HJ,du,dm⟩:=B.nw (by lk);rw [aK (by lk)] at lu;exact apL (akz Z) B.da HD HF ew (nm:="w") (by k_go) (by k_go) (by k_go) (by k_go) (by k_go) pD pD λO H1 fl p u=>⟨O,_,_,rfl,u,⟨vw,pw k,us,rfl,J.1.kt (cG p (bY _)),by lk, λv' H' s' n'=>.net rfl s' (S (aG p s') ⟨n',C,I,Sh J.2.2.2.1,by rw [bh];lk⟩ (.inr ⟨by lk, rfl,by rw [aK (by lk),bh];lk, (afM J.2.2.2.1).mpr HJ,dm (by lk),λz=>absurd z (by lk)⟩))⟩⟩
 rintro ys Hd ⟨kn,M,u,rfl⟩;rw [bh] at M u;have n3:3<=rows.length:=by rcases Dk with rfl|rfl<;>simp
 obtain ⟨vw,us,ew,J,lu,HJ,du,_⟩:=M.nw (by lk);refine ⟨aW (by kl_no),λl2 f2=>?_⟩;km_lay f2 H2' f2 s2 x2;have Nu:=s2 _ _ (M.ks _ _ xr (by simpa using nlr));refine ⟨_,rfl,l,_,rfl,.inl (aN Nu),l2,_,_,rfl,rfl,x2,by lk, by rw [bh];lk, aW (by rw [bh];show 1*_<=_;simp;lk),λl3 f3=>?_⟩;rw [bh,kO,QW];km_lay l3 H3' f3 s3' R;have wJ:=aG s2 s3';have M3:=M.same wJ;have S:Q (.bl true) H3':=by
  refine q kn vw us H3' M3.da M3.ln ew (J.kt (cG wJ (bY _))) ?_ HJ du ?_ ?_
  ·rw [aK (by lk)] at lu;exact lu
  ·exact ⟨_,_,_,M3.ks _ _ hpc (by simpa using bF e2)⟩
  ·exact uG (kc.mono (λa h=>by simp at h;simp [h])) (M3.ks.mono (λa h=>by simp at h;simp [h]))
 have y1:=wJ _ _ u;have n34:rows.length=3\/rows.length=4:=by lk
 rcases n34 with e|e
 ·rw [e] at y1 R;exact ⟨.list [.str "ok",.str "ok",.str "ok"],.list [.str "ok",.str "ok",.str "ok"],.lst y1 (.cons (.str _) (.cons (.str _) (.cons (.str _) .nil))),.lst R (.cons (.str _) (.cons (.str _) (.cons (.str _) .nil))),by k_go,by k_go,by k_go,S⟩
 ·rw [e] at y1 R;exact ⟨.list [.str "ok",.str "ok",.str "ok",.str "ok"],.list [.str "ok",.str "ok",.str "ok",.str "ok"],.lst y1 (.cons (.str _) (.cons (.str _) (.cons (.str _) (.cons (.str _) .nil)))),.lst R (.cons (.str _) (.cons (.str _) (.cons (.str _) (.cons (.str _) .nil)))),by k_go,by k_go,by k_go,S⟩
def aiv:Gc Z "_law_gone" 15 ["_law_pen_here","_law_desk","_law_name","_law_lanes"] (amo C Cd):=by
 o_head (dz Z.XR,["_law_pen_here","_law_desk","_law_name","_law_lanes","_law_left","_law_out","_law_k","_law_lane","_law_turn","_law_walker","_law_words_here"]);obtain ⟨pn,d,D,kn,kp,nm,ll,M,p,v,aj,ws,L,rfl,⟨tL,pb0,pc0,R⟩,da,ln,lp,hn,hp,B,lv,pa,np,xl,nl,nn,hl,len,q⟩:=h;have w1:=B.2.1;have w8:=B.2.2.1;have ok:=B.2.2.2.1;have lw:=B.2.2.2.2;have nml:=lW hn;refine ⟨_,(aU (bW 4 nd (fj aq))
 (aU (bW 5 nd Jm)
 (aU (jx jj rfl  (Bk rfl T.yI (ao (pv 3) aq)) (qN rfl (ji (fK 6 nd) (ji (fK 7 nd) qG)))
 (aU (cP (cQ mj (jN (pv 1) Z.TD.cl (qx Z) hr.m (ao (bD jW (bD jW (bD jW bN (pv 2)) bN) (iu wQ rfl T.o9 qw (ao (pv 7) aq))) aq)) (iu wQ rfl T.o9 qw (ao (pv 6) aq)))
 (aO (bw zP))
 cT)
 (aO (jx jj rfl  (qu rfl T.lD (ao (bH (tU Z) hr.m rfl (ao (pv 0) (ao aL aq))) aq)) (fK 8 nd)
 (aU (bW 9 nd (bH (tU Z) hr.m rfl (ao (pv 0) (ao (bD jQ (pv 6) aL) aq))))
 (aO (cP (Tv (aaU (yc hr) (pv 9) (pv 5)) (by with_unfolding_all rfl))
 (aU (bW 10 nd (iV qF Kd Ke QL (jN (pv 1) Z.TD.cl (qx Z) hr.m (ao (bD jW (bD jW (bD jW bN (pv 2)) bN) (iu wQ rfl T.o9 qw (ao (pv 9) aq))) aq)) (ao bN aq)))
 (aO (cP (cQ iU (cJ (pv 10) aL) bN)
 (aU (Ky (yc hr) (pv 5) (pv 9) pW rfl)
 (aO (kI (iV oN vo vp tV (pv 4) (ao (cJ (pv 10) aL) aq)))))
 cT)))
 cT)))))))
 (aO (bw (pv 4)))))),?_⟩
 refine ⟨aW (by kl_no),λla W=>?_⟩;km_lay W H1 W s1 x1;intro lo O;km_lay O H2 O s2 x2;have lC:=aG s1 s2;have HN:=da.same s1;have G2:jU C Cd H H2 d D kn kp p v aj ws L (jF aj ws) (d_ aj (M.take 0)) pn la [] lo []:=by refine ⟨dI.same lC,cG lC (bY _),da.same lC,pa.same lC,?_,⟨_,_,_,lC _ _ R⟩,s2 _ _ x1,x2,.nil,λi hi=>absurd hi (zm _),λ_ _=>rfl,bI _,W,s1.free O,λz=>pa.live _ z W,λz=>(pa.same s1).live _ z O,np,bF (cV R W),bF (cV (s1 _ _ R) O),cV x1 O,cV HN.ne O,cV HN.pl O⟩;show Go true aj ws (jF aj ws) (d_ aj []);rw [abG];exact Go.start w1
 refine ⟨_,rfl,ll,rfl,⟨_,aN (lC _ _ xl)⟩,?_⟩;have aqX:∀ {Hc:Hp},dI (pn::L.own p) H Hc->Hc ll=some (.lst (M.map V.int)):=λk=>k _ _ xl (by simp;exact ⟨nn,nl⟩);refine Bl (xs:=M.map V.int) (λi σ Hc=>∃ (v6 v7 v8 Y I:Option V) (st:cH) (ns:aF) (kd:dU),σ=[some (.ref pn),some (.ref d),some (.str nm),some (.ref ll),some (.ref la),some (.ref lo),v6,v7,v8,Y,I]/\jU C Cd H Hc d D kn kp p v aj ws L st (d_ aj (M.take i)) pn la ns lo kd/\st.aX.length=i) ⟨none,none,none,none,none,jF aj ws,[],[],rfl,G2,rfl⟩ (λi σ Hc _ ⟨_,_,_,_,_,_,_,_,_,g,_⟩=>aN (aqX g.sk)) ?_ ?_
 ·rintro i x T1 σ Hc hx fT ⟨v6,v7,v8,Y,I,st,ns,kd,rfl,g,Mg⟩;obtain ⟨cC,hz,rfl⟩:=u5 hx;have il:i<M.length:=(dY.mp hz).1;obtain ⟨l0,l1⟩:=hl cC (eZ hz);have sT:aB Hc (upd Hc T1 (HO.tup [V.int i,V.int cC])):=cu fT _;refine ⟨T1,_,rfl,aZ aM,rfl,?_⟩;have g1:=g.same sT;generalize upd Hc T1 (HO.tup [V.int i,V.int cC])=H3 at sT g1;refine ⟨_,_,rfl,_,_,rfl,rfl,?_⟩;obtain ⟨nt1,nt2⟩:=uc (i:=cC) (by lk) (by lk);have X3:=yL nt1;have l6:(ofString "enter ").length=6:=by k_go
  have lb:(ofString " ").length=1:=by k_go
  -- it comes in
  refine ⟨_,rfl,d,D.dx,jD D,rfl,g1.da.ob,mR _ (by k_go) (by k_go),_,rfl,_,_,rfl,rfl,aW (by rw [l6];lk),_,_,rfl,rfl,aW (by rw [jc,l6,lb];lk),_,rfl,cC,rfl,xP (by lk),_,_,rfl,rfl,aW (by rw [jc,jc,l6,lb];show _+(bL cC).length<=_;lk),adN (nm:=nm) (c:=bL cC) (amO Z) g1.da ln lp hp (by rw [gW,gW,gW,blank];show (([101,110,116,101,114,32]++Ls nm)++[32])++Ls (bL cC)=[101,110,116,101,114]++32::(Ls nm++32::Ls (bL cC));simp) (by k_go) (by k_go) (by k_go) (by k_go) hn nt1 nt2 λl4 H4 fl4 s4 x4=>?_⟩;have g4:=g1.same s4;have sm:((st.aX.length:Nat):Int).natAbs<=10000:=by lk
  refine ⟨l4,p,.int cC,v,L,st,rfl,x4,g4.pl,⟨p,v,aj,ws,L,st,cC,rfl,B.kt g4.kt,g4.pl,g4.go.wf,l0,l1,λH5 pl5 kl5=>⟨_,rfl,sm,.other (by k_go) (by k_go) (dW.kt g4.pl kl5) ?_⟩⟩⟩;have g5:=g4.enter ok l0 l1 (by lk) pl5 kl5;have U3:(mO ws st cC 1).aX.length=i+1:=by simp [mO];lk
  have ec:(d_ aj (M.take i)).set cC.toNat ((d_ aj (M.take i)).getD cC.toNat 0+1)=d_ aj (M.take (i+1)):=by rw [fZ hz,aa3 l0 l1]
  rw [ec] at g5;generalize mO ws st cC 1=st1 at g5 U3;refine ⟨_,rfl,i,rfl,xP (by lk),rfl,_,rfl,bQ (LK (by rw [Mg];rfl)) ?_⟩
  -- some go on
  obtain ⟨p1,p2,p3,Ym⟩:=id g5.pe;refine ⟨_,rfl,pn,_,_,_,6,rfl,Ym,by decide,by decide,λm a6 b6 c6 m0 m6=>?_⟩;have g6:=g5.take a6 b6 c6;generalize upd H5 pn (HO.lst [V.int a6,V.int b6,V.int c6])=H6 at g6;refine ⟨m,rfl,by lk, by lk, ?_⟩;refine Iz (n:=m.toNat) (λj σ Hd=>∃ (v8 Y I:Option V) (st:cH) (ns:aF) (kd:dU),σ=[some (.ref pn),some (.ref d),some (.str nm),some (.ref ll),some (.ref la),some (.ref lo),some (.int i),some (.int cC),v8,Y,I]/\jU C Cd H Hd d D kn kp p v aj ws L st (d_ aj (M.take (i+1))) pn la ns lo kd/\st.aX.length=i+1) ⟨v8,Y,I,st1,ns,kd,rfl,g6,U3⟩ ?_ ?_
  ·rintro j σ Hd hj ⟨w8',w9,w10,a,S,N,rfl,gd,y⟩;obtain ⟨p1,p2,p3,hpd⟩:=id gd.pe;refine ⟨_,rfl,_,rfl,_,_,rfl,rfl,pn,_,_,_,(i:Int)+1,rfl,hpd,by lk, by lk, λwk a7 b7 c7 wk0 wk1=>?_⟩;have g7:=gd.take a7 b7 c7;generalize upd Hd pn (HO.lst [V.int a7,V.int b7,V.int c7])=H7 at g7;obtain ⟨b,rfl⟩:∃ b:Nat,wk=(b:Int):=⟨wk.toNat,by lk⟩;have Yo:b<a.aX.length:=by lk
   have u:a.aX[b]?=some a.aX[b]:=by simp [Yo]
   generalize a.aX[b]=pl at u;refine ⟨_,rfl,_,rfl,lo,_,rfl,q8.k (k:=.inl (b:Int)) g7.xo,_,rfl,?_⟩;by_cases o:cB pl=true
   ·exact bQ (by rw [(gd.od b Yo).mpr ⟨pl,u,o⟩];decide) ⟨_,_,_,a,S,N,rfl,g7,y⟩
   have o':cB pl=false:=by simpa using o
   have nos:(dh N (.inl (b:Int))).isSome=false:=by
    cases e:(dh N (.inl (b:Int))).isSome with
    |false=>rfl
    |true =>obtain ⟨i_,e1,e2⟩:=(gd.od b Yo).mp e;rw [u] at e1;cases e1;exact absurd e2 o
   refine cL (by rw [nos];rfl) ?_;obtain ⟨nw1,nw2⟩:=uc (i:=(b:Int)) (by lk) (by lk);have nwl:=yL nw1;have l5:(ofString "step ").length=5:=by k_go
   refine ⟨_,rfl,d,D.dx,jD D,rfl,g7.da.ob,mR _ (by k_go) (by k_go),_,rfl,_,_,rfl,rfl,aW (by rw [l5];lk),_,_,rfl,rfl,aW (by rw [jc,l5,lb];lk),_,rfl,(b:Int),rfl,xP (by lk),_,_,rfl,rfl,aW (by rw [jc,jc,l5,lb];show _+(bL (b:Int)).length<=_;lk),adN (nm:=nm) (c:=bL (b:Int)) (aoQ Z) g7.da ln lp hp (by rw [gW,gW,gW,blank];show (([115,116,101,112,32]++Ls nm)++[32])++Ls (bL (b:Int))=[115,116,101,112]++32::(Ls nm++32::Ls (bL (b:Int)));simp) (by k_go) (by k_go) (by k_go) (by k_go) hn nw1 nw2 λl8 H8 fl8 s8 x8=>?_⟩;have t:=g7.same s8;have aeM:=B.kt t.kt;have sm2:=ah0 aeM t.go.wf (by have:=t.go.few.le;lk) u o';refine ⟨l8,p,.int b,v,L,a,rfl,x8,t.pl,⟨p,v,aj,ws,L,a,b,pl,rfl,aeM,t.pl,t.go.wf,u,o',λt9 H9 pl9 Nv x9=>⟨t9,_,rfl,x9,sm2,λAf uQ=>.other (by k_go) (by k_go) (cG uQ (dW.kt t.pl Nv)) ?_⟩⟩⟩;have wds:=ahZ ok w1 w8 lw lv t.go (by lk) u o';have spl:=aj5 wds;have lpl:=aoq sm2;refine ⟨rfl,Ho (jA aj ws a b pl),ofString " ",rfl,rfl,rfl,by lk, λHS f11=>?_⟩;km_lay f11 uR f11 DR J;rw [blank,spl] at J;have Mh:=aG uQ DR;by_cases oo:cB (jA aj ws a b pl)=true
   ·obtain ⟨l,n,eo⟩:∃ l n,jA aj ws a b pl=.out l n:=by
     cases e:jA aj ws a b pl with
     |out l n=>exact ⟨l,n,rfl⟩
     |before k l=>rw [e] at oo;simp [cB] at oo
     |exit l=>rw [e] at oo;simp [cB] at oo
    rw [eo] at J;have U4:uR HS=some (.lst [V.str "out",V.str (bL l),V.str (bL n)]):=J;refine ⟨_,rfl,HS,_,_,_,rfl,rfl,aN U4,oO (j:=0) rfl,rfl,_,rfl,cL (by simp) ?_⟩;have aeN:dI (L.own p) H8 H9:=Nv.own;have xo:=Mh _ _ (aeN _ _ t.xo t.no);have xa:=Mh _ _ (aeN _ _ t.xl t.na);have lkd:N.length<1000:=by have h1:=t.ld;have h2:=t.pm.length_eq;have h3:=Jh a.aX 0;lk
    refine ⟨_,rfl,_,rfl,lo,_,rfl,uJ.k (k:=.inl (b:Int)) xo (nY (by lk)),?_⟩;have gf:=t.out ok u o' eo pl9 Nv Mh;have x12:(upd uR lo (HO.dK (cD N (.inl (b:Int)) (.bl true)))) HS=some (.lst [V.str "out",V.str (bL l),V.str (bL n)]):=(aV (kY U4 xo (by intro z;cases z))).trans U4;have Ay:(upd uR lo (HO.dK (cD N (.inl (b:Int)) (.bl true)))) la=some (.lst (S.map λn=>V.str (bL n))):=(aV t.nao).trans xa;have lns:S.length<1000:=by have h2:=t.pm.length_eq;have h3:=Jh a.aX 0;lk
    exact ⟨_,rfl,.inl ⟨rfl,_,aN Ay⟩,_,rfl,HS,_,_,_,rfl,rfl,aN x12,oO (j:=2) rfl,la,_,_,rfl,rfl,Ay,nY (by rw [bh];lk),_,_,_,kZ aj ws a b pl,S++[n],_,rfl,gf,by rw [rF];exact y⟩
   ·have U:cB (jA aj ws a b pl)=false:=by simpa using oo
    have gf:=(t.step ok u o' U pl9 Nv).same Mh;obtain ⟨w0,r,ew,nw0⟩:∃ w0 r,pH (jA aj ws a b pl)=w0::r/\¬ w0="out":=by
     cases e:jA aj ws a b pl with
     |out l n=>rw [e] at U;simp [cB] at U
     |before k l=>exact ⟨_,_,rfl,by k_go⟩
     |exit l=>exact ⟨_,_,rfl,by k_go⟩
    rw [ew] at J;exact ⟨_,rfl,HS,_,_,_,rfl,rfl,aN J,yp,rfl,_,rfl,bQ (by simp;exact nw0) ⟨_,_,_,kZ aj ws a b pl,S,N,rfl,gf,by rw [rF];exact y⟩⟩
  ·rintro σ Hd ⟨w8',w9,w10,a,S,N,rfl,gd,y⟩;exact ⟨_,_,_,_,_,a,S,N,rfl,gd,y⟩
 ·rintro σ Hc ⟨v6,v7,v8,Y,I,st,ns,kd,rfl,g,Mg⟩;rw [bh] at Mg;have gg:=g.go;rw [bh,gq] at gg;exact ⟨_,rfl,q la ns st Hc W g.pl gg Mg g.xl g.pm g.sk g.kt⟩
def af4:Gc Z "_law_at_rest" 15 ["_law_desk","_law_name","_law_due","_law_many"] (aor C Cd):=by
 o_head (dz Z.XS,["_law_desk","_law_name","_law_due","_law_many","_law_words_here","_law_told","_law_turn","_law_word"]);obtain ⟨d,D,kn,kp,nm,wg,p,v,aj,ws,L,st0,cs,rfl,da,ln,lp,Y,hp,B,lv,tL,Yp,len,ed,q⟩:=h;have w1:=B.2.1;have ok:=B.2.2.2.1;have nml:=lW Y;refine ⟨_,(aU (cP (PW.pt (uy (cQ mj (jN (pv 0) Z.TD.cl (qx Z) hr.m (ao (bD jW bN (pv 1)) aq)) bN) (vH (cQ mj (jN (pv 0) Z.TD.cl (qx Z) hr.m (ao (bD jW bN (pv 1)) aq)) (pv 2)))))
 (aO (bw pW))
 cT)
 (aU (bW 4 nd (fj (ao bN (ao bN (ao bN aq)))))
 (aU (bW 5 nd Jm)
 (aU (bW 6 nd (bD nU (jM Ii rfl T.zV zu (ao (pv 1) aq)) aL))
 (aU (jx jj rfl  (jZ (bD vK (wV Cg (pv 4) (xO (pv 6)) xM) (wV Cg (pv 4) xM (xO (pv 6))))) (fK 7 nd)
 (aO (Ky (yc hr) (pv 5) (pv 7) (jN (pv 0) Z.TD.cl (qx Z) hr.m (ao (bD jW (bD jW (pv 7) bN) (pv 1)) aq)) rfl)))
 (aO (bw (vN (adA hr.units) (iC ["_law_word"] [("_law_told",5)] rfl (jZ (pv 4)) (by k_all) (by k_mem) (by row_wit1 (acS (yc hr) (pv 1) (pv 0) (λ_ _=>rfl)))) (fj (ao (bH (Z7 Z) hr.m rfl (ao (iu (Zm rfl) rfl T.zR Bd (ao (iu Ql rfl T.lD Io (ao (pv 3) aq)) aq)) aq)) (ao bN (ao bN aq)))))))))))),?_⟩
 have l5:(ofString "rest ").length=5:=by k_go
 have l7:(ofString "counts ").length=7:=by k_go
 -- all M out
 refine ⟨_,rfl,d,D.dx,jD D,rfl,da.ob,mR _ (by k_go) (by k_go),_,rfl,_,_,rfl,rfl,aW (by rw [l5];lk),Gx (nm:=nm) (aoO Z) da ln lp hp (by rw [gW];rfl) (by k_go) (by k_go) (by k_go) (by k_go) Y λl1 H1 X5 s1 x1=>⟨l1,p,v,aj,ws,L,st0,rfl,x1,B.kt (cG s1 (bY _)),tL.same s1,Yp.wf,λst H2 S oJ Yq=>.other (by k_go) (by k_go) (dW.kt (tL.same s1) Yq) ?_⟩⟩;have M:=Yp.rest ok S;have e:=S.all;have ks2:dI (L.own p) H H2:=uG (dI.same s1) Yq.own;have mH:KT H H2:=pR (cG s1 (bY _)) (dW.kt (tL.same s1) Yq);obtain ⟨e1,e2,e3⟩:=u9 da tL;have Yr:=da.kps ks2 e1 e2 e3;have tl:=M.wf.tl;have I:fJ st.bM<=63:=by have:=M.few.le;rw [S.len] at this;lk
 have sB:∀ {Hc:Hp},aB H2 Hc->eF Hc v aj ws:=λt=>B.kt (cG t mH);refine ⟨rfl,_,rfl,bQ (by simp) ?_⟩
 -- the counts
 refine ⟨_,rfl,d,D.dx,jD D,rfl,Yr.ob,mR _ (by k_go) (by k_go),_,rfl,_,_,rfl,rfl,aW (by rw [l7];lk),Gx (nm:=nm) (akB Z) Yr ln lp hp (by rw [gW];rfl) (by k_go) (by k_go) (by k_go) (by k_go) Y λl3 H3 Vj s3 x3=>⟨l3,p,v,aj,ws,L,st,rfl,x3,sB s3,oJ.same s3,tl,I,λns H4 s4 R=>.other (by k_go) (by k_go) (cG s4 (bY _)) ?_⟩⟩;have en:=agb R rfl;have et:=(ac9 ok w1 lv M e).1;refine ⟨_,rfl,rfl,_,rfl,bQ (LK (by rw [ed,en,et])) ?_⟩;have Av:=aG s3 s4
 -- the words
 refine ⟨aW (by kl_no),λU fw=>?_⟩;km_lay fw H5 fw s5 x5;intro lt ft;km_lay ft H6 ft s6 x6;have Ed:=aG Av s5;refine ⟨_,rfl,nm,rfl,aW (by lk),_,_,rfl,rfl,by decide,?_⟩;obtain ⟨t,et3⟩:∃ t:Int,t=((nm.length:Nat):Int) % 3:=⟨_,rfl⟩;have t0:0<=t:=by lk
 have t3:t<3:=by lk
 rw [<-et3];refine ⟨_,rfl,_,rfl,t,rfl,U,_,rfl,aN (s6 _ _ x5),λl7' f7=>?_⟩;km_lay f7 H7 f7 s7 x7;refine ⟨_,rfl,_,rfl,t,rfl,U,_,rfl,aN (s7 _ _ (s6 _ _ x5)),λl8 f8=>?_⟩;km_lay f8 H8 f8 s8 x8;obtain ⟨l,eo,ol,ho,oh⟩:=aqM t0 t3;refine ⟨l7',l8,_,_,rfl,rfl,s8 _ _ x7,x8,aW (by rw [<-dJ,eo,bh];lk),λl9 f9=>?_⟩;rw [eo];km_lay f9 H9 f9 s9 x9;have s69:=aG s7 (aG s8 s9);have s59:=aG s6 s69;have n9:l9≠lt:=bF (cV (s8 _ _ (s7 _ _ x6)) f9);refine ⟨l9,rfl,⟨_,aN x9⟩,uY (K:=K) (a:=l9) (xs:=l.map V.str) (λi σ Hc=>∃ (v7:Option V) (kd:dU),σ=[some (.ref d),some (.str nm),some (.str wg),some (.int cs.sum),some (.ref U),some (.ref lt),some (.int t),v7]/\aB H5 Hc/\Hc lt=some (.dK kd)/\Hc l9=some (.lst (l.map V.str))/\kd.length<=i/\∀ x∈l.take i,dh kd (.inr x)=some (.str (qW cs.sum x))) ⟨none,[],rfl,s59,s69 _ _ x6,x9,bI _,λx J=>(by simp at J)⟩ (λi σ Hc _ ⟨_,_,_,_,_,x,_⟩=>aN x) ?_ ?_⟩
 ·rintro i x σ Hc J ⟨v7,kd,rfl,sc,xt,xc,mD,hk⟩;obtain ⟨z,hz,rfl⟩:=wX J;have il:i<l.length:=(dY.mp hz).1;have hz':=ho z (eZ hz);have zl:z.length<=6:=by rcases hz' with rfl|rfl|rfl<;>k_go
  have lb:(ofString " ").length=1:=by k_go
  have O:=aG Ed sc;have lV:=Yr.same O;have cU:∀ {y:Str} {o:Hp},y=qW cs.sum z->aB Hc o->∃ (v7:Option V) (Ys:dU),([some (.ref d),some (.str nm),some (.str wg),some (.int cs.sum),some (.ref U),some (.ref lt),some (.int t),some (.str z)]:St)=[some (.ref d),some (.str nm),some (.str wg),some (.int cs.sum),some (.ref U),some (.ref lt),some (.int t),v7]/\aB H5 (upd o lt (.dK (cD kd (.inr z) (.str y))))/\(upd o lt (.dK (cD kd (.inr z) (.str y)))) lt=some (.dK Ys)/\(upd o lt (.dK (cD kd (.inr z) (.str y)))) l9=some (.lst (l.map V.str))/\Ys.length<=i+1/\∀ x∈l.take (i+1),dh Ys (.inr x)=some (.str (qW cs.sum x)):=λ{y o} u N=>by
   refine ⟨_,_,rfl,bR ft (aG sc N),aM,(aV n9).trans (N _ _ xc),?_,λx J=>?_⟩
   ·have:=zH kd (.inr z) (.str y);lk
   ·rw [rK];by_cases c:x=z
    ·subst c;rw [aQ rfl,u]
    ·rw [aK (λh=>c (K_ h))];rw [fZ hz] at J;rcases nM.mp J with h|h
     ·exact hk x h
     ·exact absurd (yU.mp h) c
  refine ⟨_,rfl,d,D.dx,jD D,rfl,lV.ob,mR _ (by k_go) (by k_go),_,rfl,_,_,rfl,rfl,aW (by rw [lb];lk),_,rfl,_,_,rfl,rfl,aW (by rw [jc,lb];lk),?_⟩;have W:Ls (z++ofString " "++nm)=Ls z++32::Ls nm:=by rw [gW,gW,blank];show (_++[32])++_=_;simp
  have kb:kd.length<900:=by lk
  rcases hz' with rfl|rfl|rfl
  ·refine Gx (nm:=nm) (akC Z) lV ln lp hp W (by k_go) (by k_go) (by k_go) (by k_go) Y λla Ha fla g xa=>⟨la,p,v,aj,ws,L,st,rfl,xa,sB (aG O g),oJ.same (aG O g),tl,I,λns Hb r R=>.other (by k_go) (by k_go) (cG r (bY _)) ?_⟩;have u:=Pz ok w1 lv M e (.inl rfl) R;rw [aQ rfl] at u;exact ⟨_,rfl,_,rfl,lt,_,rfl,uJ.k (k:=.inr "stands") (r _ _ (g _ _ xt)) (nY (by lk)),cU (by rw [u];rfl) (aG g r)⟩
  ·refine Gx (nm:=nm) (aoR Z) lV ln lp hp W (by k_go) (by k_go) (by k_go) (by k_go) Y λla Ha fla g xa=>⟨la,p,v,aj,ws,L,st,rfl,xa,sB (aG O g),oJ.same (aG O g),tl,I,λns Hb r R=>.other (by k_go) (by k_go) (cG r (bY _)) ?_⟩;have u:=Pz ok w1 lv M e (.inr (.inl rfl)) R;rw [aK (by k_go)] at u;exact ⟨_,rfl,_,rfl,lt,_,rfl,uJ.k (k:=.inr "owes") (r _ _ (g _ _ xt)) (nY (by lk)),cU (by rw [u];exact (aK (by k_go)).symm) (aG g r)⟩
  ·refine Gx (nm:=nm) (amP Z) lV ln lp hp W (by k_go) (by k_go) (by k_go) (by k_go) Y λla Ha fla g xa=>⟨la,p,v,aj,ws,L,st,rfl,xa,sB (aG O g),oJ.same (aG O g),tl,I,λns Hb r R=>.other (by k_go) (by k_go) (cG r (bY _)) ?_⟩;have u:=Pz ok w1 lv M e (.inr (.inr rfl)) R;rw [aK (by k_go)] at u;exact ⟨_,rfl,_,rfl,lt,_,rfl,uJ.k (k:=.inr "lacks") (r _ _ (g _ _ xt)) (nY (by lk)),cU (by rw [u];exact (aK (by k_go)).symm) (aG g r)⟩
 rintro σ Hc ⟨v7,kd,rfl,sc,xt,xc,mD,hk⟩;rw [bh,gq] at hk;have xw:=sc _ _ x5;refine ⟨_,rfl,U,rfl,⟨_,aN xw⟩,λlr fr=>?_⟩;refine rE (K:=K) (a:=U) (xs:=([("stands":Str),"owes","lacks"]).map V.str) (λj ys o=>aB Hc o/\o lr=some (.lst ys)/\ys=(([("stands":Str),"owes","lacks"]).take j).map λx=>V.str (qW cs.sum x)) ⟨bR fr (cW _),aM,rfl⟩ (aW (by kl_no)) (λj ys o _ ⟨a1,a2,a3⟩=>⟨aN (a1 _ _ xw),a2,by rw [a3,bh,gV];exact R0 _ _⟩) ?_ ?_
 ·rintro j x ys o J ⟨N,xd,rfl⟩;obtain ⟨z,hz,rfl⟩:=wX J;refine ⟨⟨.inl rfl,.inr rfl,trivial⟩,iG ?_⟩;have hv:=hk z (oh z (by have:=eZ hz;simpa using this));have dg:q8 o lt (.str z) (some (.str (qW cs.sum z))):=by have:=q8.k (k:=.inr z) (N _ _ xt);rw [hv] at this;exact this
  refine ⟨_,rfl,_,rfl,lt,_,rfl,dg,xd,bR fr N,aM,?_⟩;rw [fZ hz,cX];rfl
 rintro ys o ⟨N,xd,rfl⟩;have s0:0<=cs.sum:=by rw [(M.fw rfl).sm];lk
 have sN:cs.sum<=60:=by rw [(Yp.fw rfl).sm];lk
 refine ⟨_,rfl,_,rfl,λr1 tK=>?_⟩;km_lay tK He tK sr1 xr1;refine ⟨r1,0,_,rfl,xr1,by decide,by decide,by lk, by lk, by lk, λr2 Ef=>?_⟩;km_lay Ef Hf Ef sr2 Nu;rw [aop] at Nu;refine ⟨r2,iH cs.sum.toNat,rfl,Nu,λn hn'=>?_,by rw [QX];lk, λHg sg=>?_⟩
 ·have:=Jp.mp hn';lk
 refine ⟨aW (by kl_no),λl10 f10=>?_⟩;km_lay f10 Hh f10 uQ x10;have Yt:=aG sr1 (aG sr2 (aG sg uQ));have a1:qW cs.sum "stands"=iR (iH cs.sum.toNat):=aQ rfl;have a2:qW cs.sum "owes"="none":=aK (by k_go);have a3:qW cs.sum "lacks"="none":=aK (by k_go);have y1:Hh lr=some (.lst [V.str (iR (iH cs.sum.toNat)),V.str "none",V.str "none"]):=by have:=Yt _ _ xd;rw [show (([("stands":Str),"owes","lacks"]).take (([("stands":Str),"owes","lacks"]).map V.str).length).map (λx=>V.str (qW cs.sum x))=[V.str (qW cs.sum "stands"),V.str (qW cs.sum "owes"),V.str (qW cs.sum "lacks")] from rfl,a1,a2,a3] at this;exact this
 have sh:=agc (a:=iR (iH cs.sum.toNat)) (b:="none") (c:="none") ⟨aj9 _,by k_go,by k_go⟩;have cU:Q (.bl true) Hh:=q Hh (uG ks2 (dI.same (aG Ed (aG sc (aG N Yt))))) (cG (aG Ed (aG sc (aG N Yt))) mH);refine ⟨_,_,.lst y1 (.cons (.str _) (.cons (.str _) (.cons (.str _) .nil))),.lst x10 (.cons (.str _) (.cons (.str _) (.cons (.str _) .nil))),sh,sh,aj',?_⟩;have z:Q (.bl (PySem.Spec.same (.list [.str (iR (iH cs.sum.toNat)),.str "none",.str "none"]) (.list [.str (iR (iH cs.sum.toNat)),.str "none",.str "none"]))) Hh:=by rw [ah1];exact cU
 exact z
def apZ (F:oW K mg "law" yg f fd):dw P w K mg au jL 16 f fd ["_law_script"] (Lh K):=by
 o_head ["_law_script","_law_pen_here","_law_desk","_law_wide","_law_lanes","_law_came","_law_due","_law_text_here","_law_name","_law_some","_law_left"];obtain ⟨sa,ns,rfl,hS,h63,q⟩:=h;refine ⟨_,(aU (bW 1 nd (bH (Qy Z) hr.m rfl (ao (pv 0) (ao aL aq))))
 (aU (bW 2 nd (ajH (apY Z) hr.m rfl))
 (aU (bW 3 nd (cJ (fj (ao aL (ao aL (ao aL (ao aL aq))))) (bH (tU Z) hr.m rfl (ao (pv 1) (ao aL aq)))))
 (aU (cP (PW.pt (uy (j4 (lG (bH (aiu Z) hr.m rfl (ao (pv 1) (ao (pv 2) (ao (pv 3) aq)))))) (uy (cQ mj (jN (pv 2) Z.TD.cl (qx Z) hr.m (ao bN aq)) bN) (vH (cQ mj (jN (pv 2) Z.TD.cl (qx Z) hr.m (ao bN aq)) bN)))))
 (aO (bw pW))
 cT)
 (aU (bW 1 nd (bH (Qy Z) hr.m rfl (ao (pv 0) (ao aL aq))))
 (aU (bW 4 nd (iC ["_law_k"] [("_law_pen_here",1),("_law_wide",3)] rfl (qu rfl T.lD (ao (bH (tU Z) hr.m rfl (ao (pv 1) (ao aL aq))) aq)) (by k_all) (by k_mem) (by row_wit1 (bH (tU Z) hr.m rfl (ao (pv 1) (ao (pv 2) aq))))))
 (aU (bW 5 nd (bH (Z7 Z) hr.m rfl (ao (iC ["_law_lane"] [("_law_lanes",4)] rfl (qu rfl T.lD (ao (pv 3) aq)) (by k_all) (by k_mem) (by row_wit1 (bmK K rfl (iV oN PySem.F.slot_list_count PySem.F.type_list_count amg (pv 1) (ao (pv 0) aq))))) aq)))
 (aU (bW 6 nd (jN (pv 2) Z.TD.cl (qx Z) hr.m (ao (bD jW bN (pv 5)) aq)))
 (aU (bW 7 nd (jN (pv 2) Z.TD.cl (qx Z) hr.m (ao bN aq)))
 (aU (cP (PW.pt (uy (cQ mj (jN (pv 2) Z.TD.cl (qx Z) hr.m (ao (bD jW bN (pv 7)) aq)) bN) (vH (zy OJ (bH (aat Z) hr.m rfl (ao (pv 2) (ao bN aq))) (fj (ao bN (ao bN aq))) (by with_unfolding_all rfl)))))
 (aO (bw pW))
 cT)
 (aU (jx jj rfl  (jZ (fj (ao (gZ (ao bN (ao (pv 4) aq))) (ao (gZ (ao bN (ao (agH (pv 4) (adY adq aL)) aq))) aq)))) (qN rfl (ji (fK 8 nd) (ji (fK 9 nd) qG)))
 (aU (bW 10 nd (bH (aiv Z) hr.m rfl (ao (bH (Qy Z) hr.m rfl (ao (pv 0) (ao (bD jQ aL (jM Ii rfl T.zV zu (ao (pv 8) aq))) aq))) (ao (pv 2) (ao (pv 8) (ao (pv 9) aq))))))
 (aU (cP (PW.pt (uy (cQ adu (pv 10) zP) (vH (cQ mj (akd rfl rfl T.zV rfl T.aqk (pv 10)) (j6 T (pv 10))))))
 (aO (bw pW))
 cT)
 (aU (cP (cQ (apf hr.units) (iC ["_law_word"] [("_law_lanes",4)] rfl (jZ (pv 10)) (by k_all) (by row_wit1 (Ci (zy (afI K rfl) (pv 0) (iC ["_law_number"] [] rfl (qu rfl T.lD (ao (jM (afJ K rfl) rfl T.zV zu (ao (pv 1) aq)) aq)) (by k_all) (by k_mem) (by row_wit1 (iu (Ig K rfl) rfl T.o9 qw (ao (pv 0) aq)))) (by with_unfolding_all rfl)))) (by row_wit1 (pv 0))) (fj aq))
 (aO (bw pW))
 cT)
 (aO (cP (j4 (lG (bH (af4 Z) hr.m rfl (ao (pv 2) (ao (pv 8) (ao (pv 6) (ao (j6 T (pv 4)) aq)))))))
 (aO (bw pW))
 cT))))))
 (aO (bw (vI (Ko Qa (bH (aat Z) hr.m rfl (ao (pv 2) (ao bN aq))) (fj (ao bN (ao bN aq))) (by with_unfolding_all rfl)) (uo (vN iU (jN (pv 2) Z.TD.cl (qx Z) hr.m (ao bN aq)) bN)))))))))))))))),?_⟩
 refine ⟨_,rfl,sa,ns,0,rfl,hS,h63,by lk, by lk, λp0 a0 b0 c0 f0=>?_⟩;km_lay f0 H0 f0 s0 x0
 -- the as5
 intro d dx fd Hl ndx;refine ⟨d,dx,rfl,aM,λD H1 fn fq HN k1=>⟨rfl,?_⟩⟩;have out:∀ {b:Addr},(upd (upd H0 dx (.own d)) d (.ins Cd dx [])) b=none->H0 b=none:=λ{b} e=>by
  have a1:b≠d:=λz=>by rw [z,aM] at e;cases e
  have a2:b≠dx:=λz=>by rw [z,aV ndx,aM] at e;cases e
  rw [aV a1,aV a2] at e;exact e
 have fn1:H0 D.n=none:=out fn;have fq1:H0 D.q=none:=out fq;have s1:aB H0 H1:=λb o e=>k1 b o ((aV (cV e fd)).trans ((aV (cV e Hl)).trans e)) (cV e fd);clear k1 fn fq out;have s01:=aG s0 s1;have fnH:H D.n=none:=s0.free fn1;have fqH:H D.q=none:=s0.free fq1
 -- so aj
 refine ⟨aW (by kl_no),λl0 fl0=>?_⟩;have hp1:=s1 _ _ x0;obtain ⟨k2,hp2,x2,n2⟩:=Z9 hp1 fl0 (.lst [V.int 1,V.int 2,V.int 4,V.int 8]);have s12:aB H1 (upd H1 l0 (HO.lst [V.int 1,V.int 2,V.int 4,V.int 8])):=cu fl0 _;generalize upd H1 l0 (HO.lst [V.int 1,V.int 2,V.int 4,V.int 8])=H2 at k2 hp2 x2 s12;refine ⟨_,rfl,p0,_,_,_,4,rfl,hp2,by decide,by decide,λv a3 b3 c3 v0 v4'=>?_⟩;have s3:aB H (upd H2 p0 (.lst [.int a3,.int b3,.int c3])):=bR f0 (aG s01 s12);have Yu:fY Cd (upd H2 p0 (.lst [.int a3,.int b3,.int c3])) d D [] []:=by obtain ⟨e1,e2,e3⟩:=Fd (HN.same s12) hp2;exact (HN.same s12).kps (S:=[p0]) (sS (by simp)) (by simpa using e1) (by simpa using e2) (by simpa using e3)
 have hp3:(upd H2 p0 (.lst [.int a3,.int b3,.int c3])) p0=some (.lst [.int a3,.int b3,.int c3]):=aM;have x3:(upd H2 p0 (.lst [.int a3,.int b3,.int c3])) l0=some (.lst [V.int 1,V.int 2,V.int 4,V.int 8]):=(aV n2).trans x2;generalize upd H2 p0 (HO.lst [V.int a3,V.int b3,V.int c3])=H3 at s3 Yu hp3 x3;have ez:jK [V.int 1,V.int 2,V.int 4,V.int 8] v=some (.int (pw v.toNat))/\v.toNat<=3:=by
  have wc:v=0\/v=1\/v=2\/v=3:=by lk
  rcases wc with h|h|h|h<;>subst h<;>exact ⟨rfl,by decide⟩
 obtain ⟨ez,Yv⟩:=ez;generalize v.toNat=k at ez Yv;have w1:=vL k;have w8:=zX Yv;refine ⟨l0,_,_,_,rfl,rfl,aN x3,ez,?_⟩
 try dsimp only [lK]
 refine t_ λN I=>⟨_,rfl,_,rfl,_,rfl,p0,d,D,k,rfl,Yv,⟨_,_,_,hp3⟩,Yu,λkn B ws H4 Nx ln4 HW Dz l40 lv dp pe4 ks4=>?_⟩;have ok:=Dz.2.2.2.1;have s4:aB H H4:=ks4.old s3 (λb hb=>by
  simp at hb;rcases hb with rfl|rfl
  ·exact f0
  ·exact fnH)
 refine ⟨_,rfl,bQ (by decide) ?_⟩;have HX:kn.length<900:=by lk
 -- two plays
 refine ⟨_,rfl,d,D.dx,jD D,rfl,Nx.ob,mR _ (by k_go) (by k_go),abF (nm:="one") (a:="w") (adg Z) Nx HX (by decide) HW (by k_go) adP pD λl5 H5 yE s5 x5=>⟨l5,_,B,pw k,ws,rfl,x5,Dz.kt (cG s5 (bY _)),λr L1 H6 tK A_ s6=>.play rfl s6 ?_⟩⟩;have Ny:=aG s5 s6;have W:=Nx.same Ny;obtain ⟨o1,o2,o3⟩:=u9 W A_;have kq7:dI [D.q] H6 (upd H6 D.q (HO.dK (cD [] (.inr "one") (.ref r)))):=sS (by simp);have qt:KT H6 (upd H6 D.q (HO.dK (cD [] (.inr "one") (.ref r)))):=λb xs e=>(aV (kY e W.pl (by intro z;cases z))).trans e;have tM:fY Cd (upd H6 D.q (HO.dK (cD [] (.inr "one") (.ref r)))) d D kn (cD [] (.inr "one") (.ref r)):=⟨(aV (kY W.ob W.pl (by intro z;cases z))).trans W.ob,(aV W.nq).trans W.ne,aM,W.nq,W.ln,by have:=zH [] (.inr (ofString "one")) (V.ref r);simp at this;lk⟩;have Nz:=A_.keep kq7 qt (C_ o3);have s7:aB H (upd H6 D.q (HO.dK (cD [] (.inr "one") (.ref r)))):=bR fqH (aG s4 Ny);have Mi:=(Dz.kt (cG Ny (bY _))).kt qt;have arS:∀ b∈L1.own r,H b=none:=λb hb=>(aG s4 s5).free (tK b hb);generalize upd H6 D.q (HO.dK (cD [] (.inr "one") (.ref r)))=H7 at tM Nz s7 Mi;refine ⟨rfl,_,rfl,bQ (by simp) ⟨_,rfl,d,D.dx,jD D,rfl,tM.ob,mR _ (by k_go) (by k_go),abF (nm:="other") (a:="w") (adg Z) tM HX (by have:=zH [] (.inr (ofString "one")) (V.ref r);simp at this;lk) HW (by k_go) abJ pD λl8 H8 fl8 s8 x8=>⟨l8,_,B,pw k,ws,rfl,x8,Mi.kt (cG s8 (bY _)),λp2 wN H9 Ef wK s9=>.play rfl s9 ?_⟩⟩⟩;have HY:=aG s8 s9;have U:=tM.same HY;have U5:=Nz.same HY;obtain ⟨q1,q2,q3⟩:=u9 U wK;obtain ⟨r1,r2,r3⟩:=u9 U U5;have dj:Dj (L1.own r) (wN.own p2):=λb hb hb2=>(Nz.same s8).live b hb (Ef b hb2);have kq:dI [D.q] H9 (upd H9 D.q (HO.dK (cD (cD [] (.inr "one") (.ref r)) (.inr "other") (.ref p2)))):=sS (by simp);have kt:KT H9 (upd H9 D.q (HO.dK (cD (cD [] (.inr "one") (.ref r)) (.inr "other") (.ref p2)))):=λb xs e=>(aV (kY e U.pl (by intro z;cases z))).trans e;obtain ⟨kp,H_⟩:∃ kp:dU,kp=cD (cD [] (.inr (ofString "one")) (V.ref r)) (.inr (ofString "other")) (.ref p2):=⟨_,rfl⟩;have lkp:kp.length<=2:=by rw [H_];have:=zH (cD [] (.inr (ofString "one")) (V.ref r)) (.inr (ofString "other")) (.ref p2);have:=zH [] (.inr (ofString "one")) (V.ref r);simp at this;lk
 have v1:dh kp (.inr (ofString "one"))=some (.ref r):=by rw [H_,rK,aK (by k_go),rK,aQ rfl]
 have v2:dh kp (.inr (ofString "other"))=some (.ref p2):=by rw [H_,rK,aQ rfl]
 have DG:fY Cd (upd H9 D.q (HO.dK (cD (cD [] (.inr "one") (.ref r)) (.inr "other") (.ref p2)))) d D kn kp:=⟨(aV (kY U.ob U.pl (by intro z;cases z))).trans U.ob,(aV U.nq).trans U.ne,by rw [aM,H_],U.nq,U.ln,by lk⟩;have eX:=U5.keep kq kt (C_ r3);have oJ:=wK.keep kq kt (C_ q3);have uQ:aB H (upd H9 D.q (HO.dK (cD (cD [] (.inr "one") (.ref r)) (.inr "other") (.ref p2)))):=bR fqH (aG s7 HY);have Gy:=(Mi.kt (cG HY (bY _))).kt kt;have arT:∀ b∈wN.own p2,H b=none:=λb hb=>(aG s7 s8).free (Ef b hb);generalize upd H9 D.q (HO.dK (cD (cD [] (.inr "one") (.ref r)) (.inr "other") (.ref p2)))=Af at DG eX oJ uQ Gy;clear kq kt U5 wK U HY s8 s9 x8 tM Nz Mi s7 kq7 qt W A_ Ny s5 s6 x5 x3 hp3 Yu s3 q1 q2 q3 r1 r2 r3 o1 o2 o3 H_ tK Ef;refine ⟨rfl,_,rfl,bQ (by simp) (I _ _ ?_)⟩;clear I N
 -- the g
 refine ⟨_,rfl,sa,ns,1,rfl,uQ.seq hS,h63,by lk, by lk, λpn a11 b11 c11 f11=>?_⟩;km_lay f11 uR f11 DR aeO
 try dsimp only [lK]
 refine t_ λN I=>⟨_,rfl,pn,_,_,_,21,rfl,aeO,by decide,by decide,λm a12 NK c12 m0 m21=>?_⟩;have Mj:aB Af (upd uR pn (HO.lst [V.int a12,V.int NK,V.int c12])):=bR f11 DR;have Ml:(upd uR pn (HO.lst [V.int a12,V.int NK,V.int c12])) pn=some (.lst [V.int a12,V.int NK,V.int c12]):=aM;generalize upd uR pn (HO.lst [V.int a12,V.int NK,V.int c12])=H12 at Mj Ml;refine ⟨m,rfl,by lk, by lk, λu Yw=>?_⟩;have Yx:u≠pn:=bF (cV Ml Yw);have Mp:Af u=none:=Mj.free Yw;refine tQ (n:=m.toNat) (λj ys Hc=>aB Af Hc/\wG Hc pn/\Hc u=some (.lst ys)/\∃ ls:aF,ys=ls.map V.int/\ls.length=j/\∀ l∈ls,0<=l/\l<pw k) ⟨bR Mp Mj,⟨_,_,_,(aV (bF Yx)).trans Ml⟩,aM,[],rfl,rfl,λ_ z=>(nomatch z)⟩ (aW (by lk)) (λj ys Hc ⟨_,_,e1,ls,e2,e3,_⟩=>⟨e1,by rw [e2,bh];lk⟩) ?_ ?_
 ·rintro j ys Hc hj ⟨sc,⟨t1,t2,t3,hpc⟩,xc,ls,rfl,lls,hls⟩;refine ⟨⟨.inl rfl,.inr rfl,.inr rfl,trivial⟩,iG ⟨_,rfl,_,rfl,pn,_,_,_,pw k,rfl,hpc,by lk, by lk, λl a13 b13 c13 l0' l1'=>⟨(aV Yx).trans xc,bR Mp (bR f11 sc),⟨_,_,_,(aV (bF Yx)).trans aM⟩,aM,ls++[l],by rw [cX];rfl,by rw [dJ,yO,lls],λz hz=>?_⟩⟩⟩;rcases nM.mp hz with h|h
  ·exact hls z h
  ·rw [yU.mp h];exact ⟨l0',l1'⟩
 rintro ys H13 ⟨wJ,_,Ay,g,rfl,llen,hl⟩;refine I _ _ ?_;clear I N;have l20:g.length<=20:=by lk
 clear Mj Ml DR aeO Yw;have e11:u∉L1.own r:=λz=>eX.live _ z Mp;have Vm:u∉wN.own p2:=λz=>oJ.live _ z Mp
 try dsimp only [lK]
 refine t_ (a:=qX _ _) λN I=>⟨_,rfl,pw k,rfl,by lk, by lk, λlc flc=>?_⟩;refine tQ (n:=(pw k).toNat) (λj ys Hc=>aB H13 Hc/\Hc lc=some (.lst ys)/\ys=((d_ (pw k) g).take j).map V.int) ⟨bR flc (cW _),aM,rfl⟩ (aW (by lk)) (λj ys Hc ⟨_,e1,e2⟩=>⟨e1,by rw [e2,bh,gV];exact R0 _ _⟩) ?_ ?_
 ·rintro j ys Hc hj ⟨sc,xc,rfl⟩;rw [show (0:Int)+(j:Int)=(j:Int) from rP _];refine ⟨⟨.inl rfl,.inr rfl,trivial⟩,iG ⟨_,rfl,.inl ⟨rfl,_,aN (sc _ _ Ay)⟩,_,rfl,u,g,_,rfl,rfl,sc _ _ Ay,xc,bR flc sc,aM,?_⟩⟩;rw [fZ (FT (aj:=pw k) (ls:=g) hj),cX];rfl
 rintro ys H14 ⟨s14,x14,rfl⟩;have cl:=Bs (pw k) g;rw [<-cl,gq] at x14;have uM:d_ (pw k) g≠[]:=λz=>by rw [z] at cl;simp at cl;lk
 refine ⟨lc,d_ (pw k) g,rfl,x14,λc hc=>by have:=QZ hc;lk, by lk, λH15 s15=>?_⟩;have Uj:=aG s14 s15;have Uk:=aG wJ Uj;have U6:=DG.same Uk;have aeb:=Gy.kt (cG Uk (bY _));refine I _ _ ?_;clear I N
 try dsimp only [lK]
 refine t_ (a:=qX _ _) λN I=>?_;have lw8:(ofString "exits w ").length=8:=by k_go
 have lwn:(iR (d_ (pw k) g)).length<=90000:=by rw [Q5 uM];have b1:=FQ (Br (ns:=d_ (pw k) g) λc hc=>by have:=QZ hc;lk);have b2:=TV ((d_ (pw k) g).map bL);unfold Wt at b2;rw [bh] at b1 b2;show (Txt.join ⟨#[32]⟩ _).length<=_;lk
 refine ⟨_,rfl,d,D.dx,jD D,rfl,U6.ob,mR _ (by k_go) (by k_go),_,rfl,_,_,rfl,rfl,aW (by rw [lw8];lk),?_⟩;rw [ams uM];have csum:(d_ (pw k) g).sum=(g.length:Int):=amt hl;have lsm:=aj4 ok w1 lv cl (by lk) (by lk);refine aon (nm:="w") (amM Z) U6 HX (by lk) HW aeb pD (λc hc=>by have:=QZ hc;lk) cl lsm λH16 Eb=>?_;have tne:bC (d_ (pw k) g) ws≠[]:=λz=>by have:=je List.length z;rw [jE,cl] at this;simp at this;lk
 rw [<-Q5 tne];have Ul:=aG Uk Eb;refine I _ _ ?_;clear I N
 try dsimp only [lK]
 refine t_ (a:=qX _ _) λN I=>?_;have U7:=DG.same Ul;have aec:=Gy.kt (cG Ul (bY _));refine ⟨_,rfl,d,D.dx,jD D,rfl,U7.ob,mR _ (by k_go) (by k_go),Lq (nm:="w") (aoP Z) U7 HX (by lk) HW (by k_go) (by k_go) (by k_go) (by k_go) (by k_go) pD λl17 H17 as6 NP x17=>⟨l17,B,pw k,ws,rfl,x17,aec.kt (cG NP (bY _)),λH18 NQ=>.other (by k_go) (by k_go) (cG NQ (bY _)) ?_⟩⟩;have aed:=aG Ul (aG NP NQ);have aeP:=DG.same aed;refine I _ _ ?_;clear I N
 try dsimp only [lK]
 refine adH (λσ Hc=>σ=[some (.ref sa),some (.ref pn),some (.ref d),some (.int (pw k)),some (.ref u),some (.str (iR (d_ (pw k) g))),some (.str (iR (bC (d_ (pw k) g) ws))),some (.str (oA (pw k) ws)),none,none,none]/\∃ t:dU,t.length<=3/\dh t (.inr (ofString "w"))=some B/\fY Cd Hc d D t kp/\cN C Hc r B L1 (jF (pw k) ws)/\cN C Hc p2 B wN (jF (pw k) ws)/\aB H Hc/\eF Hc B (pw k) ws/\Hc u=some (.lst (g.map V.int))) (λN I=>?_) ?_
 ·have l9:(ofString "net twin ").length=9:=by k_go
  have nl:=QS (pw k) ws;refine ⟨_,rfl,d,D.dx,jD D,rfl,aeP.ob,mR _ (by k_go) (by k_go),_,rfl,_,_,rfl,rfl,aW (by rw [l9,nl];lk),ac7 (nm:="twin") (txt:=oA (pw k) ws) (adV Z) aeP HX (by lk) (by rw [gW];rfl) ada (by rw [nl];lk) λl19 H19 as7 Yy x19=>⟨l19,_,pw k,ws,rfl,x19,w1,w8,ok,l40,λO wO NT nt=>.net rfl NT ?_⟩⟩;have zY:=aG aed (aG Yy NT);have R:=DG.same zY;obtain ⟨u1,u2,u3⟩:=u9 R (eX.same zY);obtain ⟨y1,y2,y3⟩:=u9 R (oJ.same zY);have aeQ:dI [D.n] wO (upd wO D.n (HO.dK (cD kn (.inr "twin") O))):=sS (by simp);have Mq:KT wO (upd wO D.n (HO.dK (cD kn (.inr "twin") O))):=λb xs e=>(aV (kY e R.ne (by intro z;cases z))).trans e;obtain ⟨t,NZ⟩:∃ t:dU,t=cD kn (.inr (ofString "twin")) O:=⟨_,rfl⟩;have lkn:t.length<=3:=by rw [NZ];have:=zH kn (.inr (ofString "twin")) O;lk
  have M:dh t (.inr (ofString "w"))=some B:=by rw [NZ,rK,aK (by k_go)];exact HW
  have ht':dh t (.inr (ofString "twin"))=some O:=by rw [NZ,rK,aQ rfl]
  have Mr:fY Cd (upd wO D.n (HO.dK (cD kn (.inr "twin") O))) d D t kp:=⟨(aV (kY R.ob R.ne (by intro z;cases z))).trans R.ob,by rw [aM,NZ],(aV (bF R.nq)).trans R.pl,R.nq,by lk, R.lp⟩;have aeR:=(eX.same zY).keep aeQ Mq (C_ u2);have aeS:=(oJ.same zY).keep aeQ Mq (C_ y2);have s21:aB H (upd wO D.n (HO.dK (cD kn (.inr "twin") O))):=bR fnH (aG uQ zY);have Um:=(Gy.kt (cG zY (bY _))).kt Mq;have aeT:eF (upd wO D.n (HO.dK (cD kn (.inr "twin") O))) O (pw k) ws:=⟨nt.kt Mq,w1,w8,ok,by lk⟩;have aeU:(upd wO D.n (HO.dK (cD kn (.inr "twin") O))) u=some (.lst (g.map V.int)):=(aV (λz=>by have:=R.ne;rw [<-z,(aG Uj (aG Eb (aG NP (aG NQ (aG Yy NT))))) _ _ Ay] at this;cases this)).trans ((aG Uj (aG Eb (aG NP (aG NQ (aG Yy NT))))) _ _ Ay);generalize upd wO D.n (HO.dK (cD kn (.inr "twin") O))=H21 at Mr aeR aeS s21 Um aeT aeU;refine ⟨rfl,_,rfl,bQ (by simp) ?_⟩
  -- the two alike
  have yes:∀ {y:Str} {Hx:Hp},(y="yes" \/ y="many")->(!lM (.str y) [V.str "yes",V.str "many"])=false:=λhy=>by rcases hy with rfl|rfl<;>k_go
  have done:∀ {Hx:Hp},aB H21 Hx->N [some (.ref sa),some (.ref pn),some (.ref d),some (.int (pw k)),some (.ref u),some (.str (iR (d_ (pw k) g))),some (.str (iR (bC (d_ (pw k) g) ws))),some (.str (oA (pw k) ws)),none,none,none] Hx:=λJ=>I _ _ ⟨rfl,t,lkn,M,Mr.same J,aeR.same J,aeS.same J,aG s21 J,Um.kt (cG J (bY _)),J _ _ aeU⟩;refine ⟨_,rfl,d,D,t,kp,_,rfl,Mr,aoo (nm:="w") (b:="twin") (amN Z) Mr (by lk) (by lk) M ht' (by k_go) (by k_go) (by k_go) (by k_go) (by k_go) pD ada λl22 H22 as8 N5 x22=>⟨l22,B,O,pw k,ws,rfl,x22,Um.kt (cG N5 (bY _)),aeT.kt (cG N5 (bY _)),λH23 tG=>.other (by k_go) (by k_go) (cG tG (bY _)) ⟨⟨_,rfl⟩,?_⟩,λH23 tG=>⟨rfl,λH24 Av=>?_⟩⟩⟩
  ·refine ⟨aW (by kl_no),λYz YB=>⟨Yz,_,rfl,.inl (aN aM),rfl,rfl,_,rfl,bQ (by k_go) (done (aG N5 (aG tG (cu YB _))))⟩⟩
  ·refine ⟨aW (by kl_no),λYz YB=>⟨Yz,_,rfl,.inl (aN aM),rfl,rfl,_,rfl,bQ (by k_go) (done (aG N5 (aG tG (aG Av (cu YB _)))))⟩⟩
 rintro σ H30 ⟨rfl,t,lkn,M,arU,A_,wK,s30,aee,aeV⟩;clear DG Gy aec U7 U6 aeb eX oJ Nx Dz
 -- fH,one behind the other
 refine ⟨_,rfl,aW (by kl_no),λt1 ft1=>?_⟩;km_lay ft1 H31 ft1 Eh x31;refine ⟨_,rfl,_,rfl,u,_,rfl,rfl,aN (Eh _ _ aeV),λlr N6=>?_⟩;rw [<-List.map_reverse];km_lay N6 H32 N6 s32 x32;refine ⟨aW (by kl_no),λt2 ft2=>?_⟩;km_lay ft2 H33 ft2 s33 x33;refine ⟨aW (by kl_no),λlt flt=>?_⟩;km_lay flt H34 flt N7 x34;have Lr:=aG s32 s33;have zZ:=aG Eh (aG Lr N7);have g1:lr∉L1.own r:=λz=>(A_.same Eh).live _ z N6;have g2:lr∉wN.own p2:=λz=>(wK.same Eh).live _ z N6;have g3:lt∉L1.own r:=λz=>(A_.same (aG Eh Lr)).live _ z flt;have g4:lt∉wN.own p2:=λz=>(wK.same (aG Eh Lr)).live _ z flt;refine ⟨lt,rfl,⟨_,aN x34⟩,uY (K:=K) (a:=lt) (xs:=[V.ref t1,V.ref t2]) (λi σ Hc=>∃ (v8 v9 v10:Option V),σ=[some (.ref sa),some (.ref pn),some (.ref d),some (.int (pw k)),some (.ref u),some (.str (iR (d_ (pw k) g))),some (.str (iR (bC (d_ (pw k) g) ws))),some (.str (oA (pw k) ws)),v8,v9,v10]/\aB H Hc/\KT H34 Hc/\fY Cd Hc d D t kp/\(i=0->cN C Hc r B L1 (jF (pw k) ws))/\(i<=1->cN C Hc p2 B wN (jF (pw k) ws))/\Hc u=some (.lst (g.map V.int))/\Hc lr=some (.lst (g.reverse.map V.int))/\Hc lt=some (.lst [V.ref t1,V.ref t2])) ⟨none,none,none,rfl,aG s30 zZ,bY _,arU.same zZ,λ_=>A_.same zZ,λ_=>wK.same zZ,zZ _ _ aeV,(aG s33 N7) _ _ x32,x34⟩ (λi σ Hc _ ⟨_,_,_,_,_,_,_,_,_,_,_,x⟩=>aN x) ?_ ?_⟩
 ·rintro i x σ Hc hx ⟨v8,v9,v10,rfl,sc,ktc,Y,arV,hp2',N8,xlr,xlt⟩;have Mf:=aee.kt (pR (cG zZ (bY _)) ktc);obtain ⟨nm,p,L,lx,ls,T1,ex,hT,hnm,nml,hv,pa,fr,xl,ecs,lls,hls,n1,n2,n3,n4,alt⟩:∃ (nm:Str) (p:Addr) (L:dB) (lx:Addr) (ls:aF) (T1:Addr),x=.ref T1/\H34 T1=some (.tup [.str nm,.ref lx])/\iM (Ls nm)/\nm.length<=5/\dh kp (.inr nm)=some (.ref p)/\cN C Hc p B L (jF (pw k) ws)/\(∀ b∈L.own p,H b=none)/\Hc lx=some (.lst (ls.map V.int))/\d_ (pw k) ls=d_ (pw k) g/\ls.length=g.length/\(∀ l∈ls,0<=l/\l<pw k)/\lx∉L.own p/\u∉L.own p/\lr∉L.own p/\lt∉L.own p/\(i=0->Dj (wN.own p2) (L.own p)):=by
   have il:i<2:=(dY.mp hx).1;have hi:i=0\/i=1:=by lk
   rcases hi with rfl|rfl
   ·exact ⟨"one",r,L1,u,g,t1,(iz hx).symm,(aG Lr N7) _ _ x31,adP,by k_go,v1,arV rfl,arS,N8,rfl,rfl,hl,e11,e11,g1,g3,λ_=>dj.symm⟩
   ·exact ⟨"other",p2,wN,lr,g.reverse,t2,(iz hx).symm,N7 _ _ x33,abJ,by k_go,v2,hp2' (bI _),arT,xlr,aml _ _,List.length_reverse,λl h=>hl l (List.mem_reverse.mp h),g2,Vm,g2,g4,λz=>absurd z (by decide)⟩
  subst ex;refine ⟨T1,_,rfl,aZ (ktc _ _ hT),rfl,_,_,rfl,_,_,rfl,rfl,_,rfl,_,rfl,nm,rfl,aW (by lk),_,_,rfl,rfl,sa,ns,2+(nm.length:Int),rfl,sc.seq hS,h63,by lk, by lk, λpq ea eb ec Ia=>?_⟩;km_lay Ia H40 Ia Ib x40;have U8:KT Hc H40:=cG Ib (bY _);refine ⟨_,rfl,_,rfl,_,rfl,pq,d,D,t,kp,nm,lx,ls,p,B,pw k,ws,L,rfl,⟨_,_,_,x40⟩,Y.same Ib,by lk, by lk, hnm,hv,Mf.kt U8,lv,pa.same Ib,λz=>pa.live _ z Ia,Ib _ _ xl,n1,cV xl Ia,hls,by lk, λla Ba st N_ fla arW GQ aqY xla aeW arX aeX=>?_⟩;rw [ecs] at GQ
  -- what is kept
  have DK:∀ b o,Hc b=some o->b∉L.own p->N_ b=some o:=λb o e nb=>arX b o (Ib b o e) (by simp;exact ⟨cV e Ia,nb⟩);obtain ⟨o1,o2,o3⟩:=u9 Y pa;have arY:fY Cd N_ d D t kp:={ Y with ob:=DK _ _ Y.ob o1,ne:=DK _ _ Y.ne o2,pl:=DK _ _ Y.pl o3 };have aqZ:=(Mf.kt U8).kt aeX
  -- the numbers apart
  have pmS:=aeW.trans (GQ.fw rfl).pm;have as9:=GQ.wf.tl;have arZ:Ba.Nodup:=pmS.nodup_iff.mpr (O2 w1 0 st.bM (by lk));have bd:∀ n∈Ba,0<=n/\n<(g.length:Int):=λn hn=>by have:=ZV ok w1 lv GQ (pmS.mem_iff.mp hn);rw [aqY,lls] at this;exact this
  have as_:Ba.length<=20:=by have h2:=aeW.length_eq;have h3:=Jh st.aX 0;lk
  have Ms:N_ la=some (.lst ((Ba.map bL).map V.str)):=by rw [xq];exact xla
  have ndS:(Ba.map bL).Nodup:=ah2 arZ λn hn=>by have:=bd n hn;lk
  refine ⟨_,rfl,rfl,_,rfl,bQ (by simp) ⟨_,rfl,la,Ba.map bL,rfl,aN Ms,ndS,by rw [bh];lk, _,rfl,la,_,rfl,.inl (aN Ms),rfl,_,rfl,bQ (LK (by simp)) ⟨_,rfl,la,rfl,⟨_,aN Ms⟩,λlf flf=>?_⟩⟩⟩;refine rE (K:=K) (a:=la) (xs:=(Ba.map bL).map V.str) (λj ys Hd=>aB N_ Hd/\Hd lf=some (.lst ys)/\ys=[]) ⟨bR flf (cW _),aM,rfl⟩ (aW (by rw [bh,bh];lk)) (λj ys Hd _ ⟨a1,a2,a3⟩=>⟨aN (a1 _ _ Ms),a2,by rw [a3];exact fP _⟩) ?_ ?_
  ·rintro j x ys Hd hx' ⟨sd,xd,rfl⟩;obtain ⟨z,hz,rfl⟩:=wX hx';obtain ⟨n,hn,rfl⟩:=fV.mp (eZ hz);have bn:=bd n hn;have ar0:=sd _ _ (DK _ _ N8 n2);refine ⟨⟨.inl rfl,.inr rfl,trivial⟩,_,rfl,_,rfl,u,_,rfl,.inl (aN ar0),(g.length:Int),(by simp),by lk, by lk, λli Am=>?_⟩;refine tQ (n:=g.length) (λj2 zs He=>aB Hd He/\He li=some (.lst zs)/\zs=((iH j2).map bL).map V.str) ⟨bR Am (cW _),aM,rfl⟩ (aW (by lk)) (λj2 zs He ⟨_,a2,a3⟩=>⟨a2,by rw [a3,bh,bh,QX];exact bI _⟩) ?_ ?_
   ·rintro j2 zs He hj2 ⟨se,xe,rfl⟩;rw [show (0:Int)+(j2:Int)=(j2:Int) from rP _];refine ⟨⟨.inl rfl,trivial⟩,iG ⟨_,rfl,(j2:Int),rfl,xP (by lk),xe,bR Am se,aM,?_⟩⟩;rw [ajX,cX,cX];rfl
   rintro zs He ⟨se,xe,rfl⟩;have em:lM (.str (bL n)) (((iH g.length).map bL).map V.str)=true:=abI _ _ (fV.mpr ⟨n,Jp.mpr bn,rfl⟩);exact ⟨li,_,rfl,.inl (aN xe),rfl,aa5 _,_,rfl,bQ (by show ¬ ((!lM (.str (bL n)) (((iH g.length).map bL).map V.str))=true);rw [em];decide) ⟨aG sd se,se _ _ xd,rfl⟩⟩
  rintro ys H42 ⟨s42,x42,rfl⟩;refine ⟨aW (by kl_no),λl43 f43=>?_⟩;km_lay f43 H43 f43 s43 x43;refine ⟨.list [],.list [],.lst (s43 _ _ x42) .nil,.lst x43 .nil,by k_go,by k_go,by k_go,_,rfl,bQ (by k_go) ?_⟩;have Dl:=aG s42 s43
  -- at rest
  refine ⟨_,rfl,_,rfl,_,rfl,_,rfl,u,_,rfl,.inl (aN (Dl _ _ (DK _ _ N8 n2))),d,D,t,kp,nm,_,p,B,pw k,ws,L,st,d_ (pw k) g,(by rw [csum,bh];rfl),arY.same Dl,by lk, by lk, hnm,hv,aqZ.kt (cG Dl (bY _)),lv,arW.same Dl,GQ,by lk, rfl,λH45 ar3 ar4=>⟨_,rfl,bQ (by decide) ?_⟩⟩;have kk:∀ b o,Hc b=some o->b∉L.own p->H45 b=some o:=λb o e nb=>ar3 b o (Dl b o (DK b o e nb)) nb;have ktE:KT Hc H45:=pR U8 (pR aeX (pR (cG Dl (bY _)) ar4));refine ⟨_,_,_,rfl,λb o e=>kk b o (sc b o e) (λz=>by rw [fr b z] at e;cases e),pR ktc ktE,{ Y with ob:=kk _ _ Y.ob o1,ne:=kk _ _ Y.ne o2,pl:=kk _ _ Y.pl o3 },λz=>absurd z (by lk),λz=>?_,kk _ _ N8 n2,kk _ _ xlr n3,kk _ _ xlt n4⟩;have i0:i=0:=by lk
  exact (hp2' (by lk)).keep (S:=L.own p) (λb o e nb=>kk b o e nb) ktE (alt i0)
 rintro σ H50 ⟨v8,v9,v10,rfl,s50,ar5,DN,_,_,_,_,_⟩;have Uo:=aee.kt (pR (cG zZ (bY _)) ar5);refine ⟨_,rfl,d,D,t,kp,_,rfl,DN,Lq (nm:="w") (akA Z) DN (by lk) (by lk) M (by k_go) (by k_go) (by k_go) (by k_go) (by k_go) pD λl51 H51 ata YC x51=>⟨l51,B,pw k,ws,rfl,x51,Uo.kt (cG YC (bY _)),lv,λ_ _=>ah3 ok lv dp,λH52 Oa=>.other (by k_go) (by k_go) (cG Oa (bY _)) ⟨⟨_,rfl⟩,?_⟩,λH52 Oa=>⟨rfl,λH53 s53=>?_⟩⟩⟩
 ·refine ⟨aW (by kl_no),λYD YF=>⟨YD,_,rfl,.inl (aN aM),rfl,rfl,_,rfl,cL (by k_go) ?_⟩⟩;have J:=aG YC (aG Oa (cu YF (HO.lst [V.str "levels",V.str "many"])));exact ⟨_,rfl,d,D.dx,jD D,rfl,(DN.same J).ob,mR _ (by k_go) (by k_go),Lq (nm:="w") (aa8 Z) (DN.same J) (by lk) (by lk) M (by k_go) (by k_go) (by k_go) (by k_go) (by k_go) pD λYG H55 ar6 YH x55=>⟨YG,B,pw k,ws,rfl,x55,Uo.kt (cG (aG J YH) (bY _)),lv,λH56 Ec=>.other (by k_go) (by k_go) (cG Ec (bY _)) ⟨rfl,q _⟩⟩⟩
 ·refine ⟨aW (by kl_no),λYD YF=>⟨YD,_,rfl,.inl (aN aM),rfl,rfl,_,rfl,cL (by k_go) ?_⟩⟩;have J:=aG YC (aG Oa (aG s53 (cu YF (HO.lst [V.str "levels",V.str "many"]))));exact ⟨_,rfl,d,D.dx,jD D,rfl,(DN.same J).ob,mR _ (by k_go) (by k_go),Lq (nm:="w") (aa8 Z) (DN.same J) (by lk) (by lk) M (by k_go) (by k_go) (by k_go) (by k_go) (by k_go) pD λYG H55 ar6 YH x55=>⟨YG,B,pw k,ws,rfl,x55,Uo.kt (cG (aG J YH) (bY _)),lv,λH56 Ec=>.other (by k_go) (by k_go) (cG Ec (bY _)) ⟨rfl,q _⟩⟩⟩
end
def zbn:bK:=["len","max","min","int","bool","list","tuple","str","dict","range","isinstance","all","any","enumerate","sum","abs","sorted","reversed","zip","ord","repr","set","divmod","ValueError","KeyError"]
theorem all_mk {l:PySem.W.OpenLaw} {fa:Addr} (X:K.In h) (G:h.Ns mainGlobals mg) (hfa:mg "law"=some (.ref fa)) (aC:nsIn K mainGlobals "Play"=some (some (.ref C))) (pg:plainGet K C empty=true) (hd:hasDictIn K C=true) (po:plainOver K C=true) (sa:findIn K (.ref C) "__setattr__"=some (some (.builtin "object.__setattr__"))) (mk:makesIn K C=true) (kc:keepIn K (.ref C)=true) (Uq:findIn K (.ref C) "net"=some none) (Q_:findIn K (.ref C) "facing"=some none) (Sy:findIn K (.ref C) "tally"=some none) (Ra:findIn K (.ref C) "places"=some none) (Qz:findIn K (.ref C) "changes"=some none) (YJ:nsIn K mainGlobals "Desk"=some (some (.ref Cd))) (YK:plainGet K Cd empty=true) (hdd:hasDictIn K Cd=true) (YL:plainOver K Cd=true) (YM:findIn K (.ref Cd) "__setattr__"=some (some (.builtin "object.__setattr__"))) (YQ:makesIn K Cd=true) (YS:keepIn K (.ref Cd)=true) (TY:findIn K (.ref Cd) "nets"=some none) (SJ:findIn K (.ref Cd) "plays"=some none) {Dc:Addr} (KR:nsIn K mainGlobals "TooMany"=some (some (.ref Dc))) (KY:excIn K Dc Ah "ValueError.__new__"=true) (SM:exmOne K (.ref Dc) (.ref Dc)=some true) {ud:Addr} (Jq:nsIn K mainGlobals "NoNet"=some (some (.ref ud))) (Jr:excIn K ud Ah "ValueError.__new__"=true) {aH:Addr} {odH:jy} {nH:Nat} {slH:ux} {tH1 tH2 tH3 tH4:Tok} (gH:nsIn K mainGlobals "HALVED_WIDES"=some (some (.ref aH))) (lH:K.lookup aH=some ⟨.type "tuple",odH,.seq #[.int 1 tH1,.int 2 tH2,.int 4 tH3,.int 8 tH4] nH,slH⟩) {afD:Tok} (Ov:nsIn K mainGlobals "LONGEST_NAME"=some (some (.int 8 afD))) {agw:Tok} (O4:nsIn K mainGlobals "MOST_LANES"=some (some (.int 8 agw))) {afE:Tok} (Ow:nsIn K mainGlobals "MOST_WICKETS"=some (some (.int 40 afE))) {afc:Tok} (Oi:nsIn K mainGlobals "MOST_DOUBLINGS"=some (some (.int 10 afc))) {afF:Tok} (Ox:nsIn K mainGlobals "MOST_FIGURES"=some (some (.int 60 afF))) {aq0:Tok} (Ur:nsIn K mainGlobals "SMALL_LETTERS"=some (some (.str "abcdefghijklmnopqrstuvwxyz" aq0))) {aq1:Tok} (Us:nsIn K mainGlobals "FIGURES"=some (some (.str "0123456789" aq1))) {RW:Addr} {fL:Array DictEntry} {epR:Nat} (aR:nsIn K mainGlobals "ROWS"=some (some (.ref RW))) (lR:K.lookup RW=some ⟨.type "dict",none,.dict fL epR,#[]⟩) (hR:Bq w fL.toList E_) (nR:(RW == sysModules)=false) (E:Ev0 K mg C Cd fL) {YT:Addr} {ar7 aeY:jy} {ar8:ux} {ar9 aeZ ae0 ae1 U9 ae2:Value} (Og:nsIn K mainGlobals "law"=some (some (.ref YT))) (YW:K.lookup YT=some ⟨ar9,ar7,.func (fnOf "law" "law" (kJ yg) (jO yg) (gG yg) .none aeZ ae0 ae1 aeY U9 ae2),ar8⟩) (YX:codeIn K U9 "law"=true) (YZ:keepIn K (.ref YT)=true) (zz:∀ x∈zbn,nsIn K mainGlobals x=some none) : ∃ fd:FuncData,(∀ (s:Shared) (v:Value),BindsTo s fd ⟨[v],[]⟩ [("_law_script",v)])/\∀ au:Heap,K.In au->au.Ns mainGlobals mg->dw l.prog w K mg au jL 16 fa fd ["_law_script"] (Lh K):=by
 have e:=hfa.symm.trans (kj X G Og);cases e;have TP:ad3 K C:=⟨⟨pg,hd,po,sa⟩,Uq,Q_,Sy,Ra,Qz⟩;have b:ad' K Cd:=⟨⟨YK,hdd,YL,YM⟩,TY,SJ⟩;have m:ad6 K mg Dc:=⟨KY,kj X G KR,SM⟩;have j:adF K mg ud:=⟨Jr,kj X G Jq⟩;have q:aeC K mg ⟨ud,ud,ud,ud,Dc,ud,ud,ud⟩:=⟨Jr,KY,kj X G Jq,kj X G KR⟩;have p:ad7 K mg:=⟨aH,kj X G gH,λH=>.inr ⟨_,_,_,lH,rfl,rfl,aW (by show 4<=100000;decide),.cons ⟨tH1,rfl⟩ (.cons ⟨tH2,rfl⟩ (.cons ⟨tH3,rfl⟩ (.cons ⟨tH4,rfl⟩ .nil)))⟩⟩;have o:∃ t,mg "LONGEST_NAME"=some (.int 8 t):=⟨_,kj X G Ov⟩;have n:∃ t,mg "MOST_LANES"=some (.int 8 t):=⟨_,kj X G O4⟩;have c:∃ t,mg "MOST_WICKETS"=some (.int 40 t):=⟨_,kj X G Ow⟩;have g:∃ t,mg "MOST_DOUBLINGS"=some (.int 10 t):=⟨_,kj X G Oi⟩;have d:∃ t,mg "MOST_FIGURES"=some (.int 60 t):=⟨_,kj X G Ox⟩;have i:∃ t,mg "SMALL_LETTERS"=some (.str "abcdefghijklmnopqrstuvwxyz" t):=⟨_,kj X G Ur⟩;have r:∃ t,mg "FIGURES"=some (.str "0123456789" t):=⟨_,kj X G Us⟩;have k:aea l.prog w K mg RW (wz fL.toList E_):=⟨al4 lR hR ZR nR,kj X G aR⟩;have a:oW K mg "law" yg _ _:=⟨K6 YW YX YZ,kj X G Og⟩;have T:Bn mg:=by constructor<;>exact PySem.W.mg_none_of X G (zz _ (by k_go))
 exact ⟨fnOf "law" "law" (kJ yg) (jO yg) (gG yg) .none aeZ ae0 ae1 aeY U9 ae2,λs v=>.of_eq rfl,λau _ _=>apZ ⟨E,TP,b,m,j,q,p,o,n,c,g,d,i,r,k,T,mk,kc,(kj X G aC),YQ,YS,(kj X G YJ)⟩ a⟩
theorem walk {l:PySem.W.OpenLaw} {q:Program} {d:DefRec} {K:Params->bG} (hn:l.most=some 63) (hdf:d.params.defaults=[]) (hY:∀ (w:World) (h:Heap),YP w h->(K w.params).In h) (F:∀ (w:World) (mg:dR) (fa:Addr) (h:Heap),(K w.params).In h->h.Ns mainGlobals mg->mg d.name=some (.ref fa) ->∃ fd:FuncData,(∀ (s:Shared) (u:Value),BindsTo s fd ⟨[u],[]⟩ [("_law_script",u)])/\∀ au:Heap,(K w.params).In au->au.Ns mainGlobals mg->dw l.prog w (K w.params) mg au jL 16 fa fd ["_law_script"] (Lh (K w.params))) : PySem.W.WalkO q loose XP YP l.row.toRowW d [] (λf vs=>PySem.call f vs):=L2.am2 (n:=63) (k:=16) (x:="_law_script") (CX:=λ_=>jL) (sp:=λw=>Lh (K w.params)) hn (by decide) hdf ⟨rfl,by decide,by decide,rfl⟩ hY F (λ_ _ a ns c _ b=>⟨a,ns,rfl,b,c,λ_=>rfl⟩) λ_ _ _ _ _ z=>z
end
end
end L2
end
local macro_rules|`(tactic| o_head $n:num)=>`(tactic| (refine' L2.aqT $(Lean.mkIdent `KX) $(Lean.mkIdent `G) $n ?a ?l ?c ?k rfl (by decide) ?gx ?gy ?gz ?gs;(case a|l|c|k=>k_is);(case gx=>exact rfl);(case gy|gz=>k_is);(case gs=>repeat constructor)))
open PySem PySem.W PyProof.Rows
set_option maxRecDepth 100000 in
set_option maxHeartbeats 0 in
theorem PySem.Challenge.cw_evenpass_k94_whole_from_text_to_numbers_holds : PySem.Challenge.rw_evenpass_k94_whole_from_text_to_numbers.Holds := by
 w_on;o_law;k_head;(case hw=>w_witness2)
 k_fill
 refine L2.walk (l:=PySem.Challenge.rw_evenpass_k94_whole_from_text_to_numbers) rfl rfl (λw h Y=>PySem.W.km_in_of Y) ?F
 case F =>
  intro w mg fa h KX G hmg
  refine' L2.all_mk KX G hmg ?aC ?pg ?hd ?po ?sa ?mk ?kc ?Uq ?Q_ ?Sy ?Ra ?Qz ?YJ ?YK ?hdd ?YL ?YM ?YQ ?YS ?TY ?SJ ?KR ?KY ?SM ?Jq ?Jr ?gH ?lH ?Ov ?O4 ?Ow ?Oi ?Ox ?Ur ?Us ?aR ?lR ?hR ?nR ⟨?p1,?p2,?p3,?p4,?p5,?p6,?p7,?p8,?p9,?Hq,?VH,?VJ,?VL,?VN,?VP,?VR,?V0,?V1,?V2,?V3,?V4,?V5,?V6,?V7,?V8,?V9,?V_,?Wa,?Wb,?Wc,?Wg,?Wh,?Wi,?Wj,?Wm,?Wn,?Wo,?Wq,?Wr,?Ws,?Wu,?Wv,?Ww,?Wx,?Wy,?Wz,?WD,?WK,?WL,?WM,?WQ,?WR,?WT,?WW,?WX,?WY,?W0,?W2,?W3,?W4,?W5,?W6,?W7,?W8,?W9,?W_,?Xa,?Xb,?Xc,?Xd,?Xe,?Xf,?Xg,?Xh,?Xi,?Xj,?Xk,?Xl,?Xm,?Xn,?Xo,?Xp,?Xq,?Xr,?Xu,?Xv,?Xw,?Xx,?Xy,?Xz,?XD,?XF,?XH,?XJ,?XM,?XQ,?XR,?XS⟩ ?Og ?YW ?YX ?YZ ?zz
  (case aC|pg|hd|po|sa|mk|kc|Uq|Q_|Sy|Ra|Qz=>k_is)
  (case YJ|YK|hdd|YL|YM|YQ|YS|TY|SJ=>k_is)
  (case KR=>k_is);(case KY=>k_exc);(case SM=>kernel_rfl)
  (case Jq=>k_is);(case Jr=>k_exc)
  (case gH|lH=>k_is)
  (case Ov=>k_is)
  (case O4=>k_is)
  (case Ow=>k_is)
  (case Oi=>k_is)
  (case Ox=>k_is)
  (case Ur=>k_is)
  (case Us=>k_is)
  (case aR|lR=>k_is);(case hR=>repeat (first|exact trivial|refine ⟨⟨_,rfl⟩,rfl,?_⟩));(case nR=>rfl)
  (case Og|YW|YX|YZ=>k_is)
  (case zz=>unfold L2.zbn;(repeat refine List.forall_mem_cons.2 ⟨by k_is,?_⟩);exact List.forall_mem_nil _)
  case p1|p2|p3|p4|p5|p6|p7|p8|p9|Hq|VH|VJ|VL|VN|VP|VR|V0|V1|V2|V3|V4|V5|V6|V7|V8|V9|V_|Wa|Wb|Wc|Wg|Wh|Wi|Wj|Wm|Wn|Wo|Wq|Wr|Ws|Wu|Wv|Ww|Wx|Wy|Wz|WD|WK|W7|W8|Xh|Xr|Xu|Xv|Xw|Xx|Xy|XH|XJ|XM|XQ|XR|XS=>refine' L2.aqR KX G ?a ?l ?c ?k;(case a|l|c|k=>k_is)
  case WL|WM|WQ|WR|WT|WW|WX|WY|W0|W2|W3|W4|W5|W6|Xz|XD|XF=>refine' L2.aqS mg ?a ?i ?l ?c ?k;(case a|i|l|c|k=>k_is)
  case W9=>o_head 0
  case W_=>o_head 1
  case Xa=>o_head 2
  case Xb=>o_head 4
  case Xc=>o_head 6
  case Xd=>o_head 8
  case Xe=>o_head 9
  case Xf=>o_head 10
  case Xg=>o_head 12
  case Xi=>o_head 13
  case Xj=>o_head 14
  case Xk=>o_head 17
  case Xl=>o_head 18
  case Xm=>o_head 20
  case Xn=>o_head 21
  case Xo=>o_head 22
  case Xp=>o_head 23
  case Xq=>o_head 24
