import PyProof.Rows.All
import Wide.All
import OpenK.AllK
import Wide.FinOn
import Lean
import PyProof.EqAt
import PyProof.EqKinds
import PyProof.TupleCall
import KE.KRevSl
import KE.KTryMore
import PySem.Challenge.RW_evenpass_k23_numbers_that_stand_and_lack
set_option Elab.async false
set_option linter.all false
set_option maxRecDepth 100000
set_option maxHeartbeats 4000000
namespace PySem.W.Fast
def tw16149936943699306022:=0
def tw7886254478482868072:=0
def tw2692212056386649138:=0
def tw11269995598026228418:=0
def tw9475288570042329261:=0
def tw1997229047045696248:=0
def tw14961904630589354376:=0
def tw9882681353968976088:=0
def tw6141450337941138720:=0
def tw7911181722759557766:=0
def tw10949873370987485545:=0
def tw8774397404491134901:=0
def tw1147269863981810099:=0
def tw11427366533078223742:=0
def tw4065402546573701443:=0
def tw7413474521626928274:=0
def tw3567524488219443293:=0
def tw16427809080870964919:=0
def tw302460030871137129:=0
def tw17515995654234336999:=0
def tw16203446452688121796:=0
def tw2259368835791273892:=0
def tw1307058653105643240:=0
def tw3295925876325797391:=0
def tw9008247871671058530:=0
def tw18180977933440238334:=0
def tw5175683620634451162:=0
def tw8815892478970465386:=0
def tw15169618804716538242:=0
def tw9551833453294551625:=0
def tw16999330924956132956:=0
def tw13576687577293061370:=0
def tw15307500580963078916:=0
def tw2456609893308401590:=0
def tw16116033625289956256:=0
def tw15996718525952991394:=0
def tw11515479003475806017:=0
def tw8957409823137163181:=0
def tw8475740180204773142:=0
def tw14028570341424427203:=0
def tw7587764596006455933:=0
def tw13228312740283461138:=0
def tw4996799582156770759:=0
def tw16238164049591664426:=0
def tw17539045115455261775:=0
def tw3478274314950805452:=0
def tw16742241964308561611:=0
def tw7769574978933629462:=0
def tw3530855510511583409:=0
def tw17750294994992373198:=0
def tw3068388137843531971:=0
def tw13368032488574202665:=0
def tw6231959324547295543:=0
def tw14401777601701707156:=0
def tw7627891734610335502:=0
def tw15483832902518193931:=0
def tw12083081077849723892:=0
def tw15560207573847605514:=0
def tw10222853090061224610:=0
def tw12451839388388448094:=0
def tw4317209056689772048:=0
def tw2640324794732120148:=0
def tw17732835799059941692:=0
def tw15747898713194441972:=0
def tw14136814758523332506:=0
def tw6479719868404832486:=0
def tw717577452394234875:=0
def tw11837562816034100463:=0
def tw2054572817859407765:=0
def tw14322148569312129456:=0
def tw17272790042479836:=0
def tw18278205366412644903:=0
def tw8848300538719739814:=0
def tw1705588015653580222:=0
def tw13555928806402038045:=0
def tw15174074589880625212:=0
def tw4956642693281512537:=0
def tw14428376424852121420:=0
def tw3138223987534140563:=0
def tw17945616584619790719:=0
def tw18414899585694124156:=0
def tw16680508745345239155:=0
def tw6892830769425555901:=0
def tw13615189771605353256:=0
def tw15265868616718008792:=0
def tw735222129579246832:=0
def tw12587636310734514435:=0
def tw18212574482940632541:=0
def tw7468053897601214620:=0
def tw6878120824248453238:=0
def tw16214503345670123159:=0
def tw17894902070398450371:=0
def tw13757218109330742154:=0
def tw7946572496999990422:=0
def tw16387906156451829620:=0
def tw1362111068134422595:=0
def tw13602302434898996740:=0
def tw1611636829094535158:=0
def tw4557089622431885725:=0
def tw13569356059993006256:=0
def tw11536083523640940683:=0
def tw13994445965987750184:=0
def tw17596993142718136221:=0
def tw17486366390097766837:=0
def tw8257758477886500591:=0
def tw14641948683708974558:=0
def tw9389176113022649420:=0
def tw8523197174073315791:=0
def tw8592822200908960681:=0
def tw4749840041534678114:=0
def tw13832281313408032127:=0
def tw18359255389324631229:=0
def tw3743571316913187730:=0
def tw12612028757400227634:=0
def tw13542099871592306293:=0
def tw6047533792452355008:=0
def tw16773427501167159063:=0
def tw8597581032096370698:=0
def tw2804858094110017186:=0
def tw142643864125266060:=0
def tw17860912176077091616:=0
def tw3285591607816085509:=0
def tw733190683521524567:=0
def tw11384693152479317513:=0
def tw5048505152770763052:=0
def tw5344370651720729653:=0
def tw17346891443662201046:=0
def tw15308432825244377859:=0
def tw10096170352419950101:=0
def tw11259436616192479672:=0
def tw11099989105524662656:=0
def tw12706549278014793033:=0
def tw9511516696259334187:=0
def tw533718740449109189:=0
def tw4595375811533731041:=0
def tw16762993445813144978:=0
def tw18178177792741388154:=0
def tw11939129978647996740:=0
def tw3504824578831073156:=0
def tw5531694077581381581:=0
def tw17983420799028558196:=0
def tw17845874750706000115:=0
def tw12251528289438335238:=0
def tw15786020715727178340:=0
def tw6393841071219245932:=0
def tw16465981155047906005:=0
def tw13653475374939965017:=0
def tw6028404887231985312:=0
def tw7023550765650076430:=0
def tw1340940675890849609:=0
def tw18032982043448530755:=0
def tw9081132304658740069:=0
def tw16237930751254641116:=0
def tw3720073250786072678:=0
def tw12357669087465276397:=0
def tw6335848542440254006:=0
def tw7180108490691589473:=0
def tw16155420846840428675:=0
def tw1027952417053790263:=0
def tw12233842501218579970:=0
def tw6711375970269592289:=0
def tw13399962083461226259:=0
def tw17602595533961560194:=0
def tw3587140851782266555:=0
def tw6617176986570699644:=0
def tw16784284486253932289:=0
def tw11624564270767261760:=0
def tw16027968309307077092:=0
def tw17464922382350299791:=0
def tw4961608968824568354:=0
def tw13323753126586349913:=0
def tw14564169642194774301:=0
def tw14826773931240191337:=0
def tw15672173209281553944:=0
def tw3467578229094349004:=0
def tw18334184075824970080:=0
def tw9930080245810022701:=0
def tw11521270134538237038:=0
def tw7013326714725588602:=0
def tw12775198121614573996:=0
def tw11308218976638459620:=0
def tw9158154365143965781:=0
def tw393846884487441141:=0
def tw10845430886799437532:=0
def tw16369211820831323015:=0
def tw15406559908114785025:=0
def tw11518517841074714358:=0
def tw18231855992005764076:=0
def tw15853464757495055770:=0
def tw15367091875309313005:=0
def tw17180402407215042398:=0
def tw7055575060725708465:=0
def tw143393622499562547:=0
def tw16306447907307027268:=0
def tw9208946594465694361:=0
def tw8466516839498098274:=0
def tw18390434128749555373:=0
def tw5961428170706112053:=0
def tw12473637907176762496:=0
def tw599877865427404688:=0
def tw12194477439376306244:=0
def tw345673801651822740:=0
def tw4812560011262859651:=0
def tw6147701986545844781:=0
def tw6362350892319165007:=0
def tw2484658966959899073:=0
def tw16484335517120157299:=0
def tw10326194319044694052:=0
def tw12883729325935640872:=0
def tw2596902589604793630:=0
def tw15498930489776381109:=0
def tw5350433586077657529:=0
def tw7867002779078110444:=0
def tw16304942037737417181:=0
def tw447865611082980948:=0
def tw1744586798539499969:=0
def tw1794301452944133221:=0
def tw8388229934366984468:=0
def tw5947669175434942627:=0
def tw17951971098225956782:=0
def tw8086772762498550549:=0
def tw7729926609135553865:=0
def tw11589994651152101229:=0
def tw1407137321245156422:=0
def tw6493921550646072009:=0
def tw11353480335455805479:=0
def tw1942624884917823941:=0
def tw14556005003037539087:=0
def tw11132940290096864791:=0
def tw16052447834035430647:=0
def tw11507803998317400979:=0
def tw12212087067377885447:=0
def tw18016900358049426088:=0
def tw6771420821340796835:=0
def tw9005180941639705689:=0
def tw1722657959196938388:=0
def tw14202265691303057850:=0
def tw11787150963346730507:=0
def tw14391913523746748446:=0
def tw3343846894593225477:=0
def tw8644503698097851659:=0
def tw9297016478846946098:=0
def tw3096943637038965215:=0
def tw9585121231664442332:=0
def tw792372171153690260:=0
def tw18330244177052247780:=0
def tw8938890793291077461:=0
def tw17851957004072171813:=0
def tw2187238683554361195:=0
def tw9153087161348664855:=0
def tw14317922921390334869:=0
def tw18353626421894758741:=0
def tw14667811750733950805:=0
def tw2956038423215976071:=0
def tw5720977596895162810:=0
def tw12958267781404250991:=0
def tw7426113363134744517:=0
def tw366690001154733463:=0
def tw3431907456116132639:=0
def tw11007484807266964113:=0
def tw5728696586711701651:=0
def tw3073180197201064860:=0
def tw5103557912047345240:=0
def tw8900290783928794881:=0
def tw1669716141894768792:=0
def tw10421437569129279282:=0
def tw8182009863386577316:=0
def tw14978609778407472196:=0
def tw6526783817309694238:=0
def tw16198234274412735506:=0
def tw15660384817343436082:=0
def tw172438533539399615:=0
def tw7134775152516242813:=0
def tw5351620797004767811:=0
def tw6230231615281961118:=0
def tw6351352422042886178:=0
def tw3909792018622676581:=0
def tw12812180316898762779:=0
def tw17656118187986048588:=0
def tw4396144012493796088:=0
def tw17699963387651293817:=0
def tw9799453211256576350:=0
def tw14662954960684007131:=0
def tw5983415077204357221:=0
def tw6265725373360749483:=0
def tw2525333576504820032:=0
def tw2535267407147251920:=0
def tw3768799372386966955:=0
def tw12857297943919209073:=0
def tw11557673423304558029:=0
def tw449496162430145734:=0
def tw508722587360719403:=0
def tw3783917271504953568:=0
def tw16163093386269878998:=0
def tw10420537495406207444:=0
def tw4288990444759446873:=0
def tw14800585006741044560:=0
def tw17191929581376992885:=0
def tw10620753160713711089:=0
def tw17165180182909510158:=0
def tw6877968481255866293:=0
def tw9086218391055137800:=0
def tw16109345233265964395:=0
def tw12843291377295912272:=0
def tw4193668844978686292:=0
def tw12816456153272669236:=0
def tw16255322795899206302:=0
def tw16028750084022129395:=0
def tw18019035435222293872:=0
def tw15450027631834268791:=0
def tw15496045288286212971:=0
def tw8529185689658377269:=0
def tw8576604171754728544:=0
def tw11569745722456283004:=0
def tw15303548773327947273:=0
def tw16826384660678291141:=0
def tw6218057373207500166:=0
def tw8655948327895042563:=0
def tw13816024594349297656:=0
def tw7111199919498513982:=0
def tw3132496638729538637:=0
def tw12354640784509059408:=0
def tw1807294383094234004:=0
def tw10496353708165283483:=0
def tw16577421919952270159:=0
def tw18428435133507596499:=0
def tw14157389520501043753:=0
def tw2747963628897151017:=0
def tw3753052598992157202:=0
def tw6455292676597766961:=0
def tw8578590789425540616:=0
def tw14310383980609123875:=0
def tw2387853042939898975:=0
def tw3896721261608722837:=0
def tw15894641579865969335:=0
def tw10001652237218230256:=0
def tw11908707253504562357:=0
def tw7819225872909043247:=0
def tw16123006851358836102:=0
def tw17600167839977711555:=0
def tw6156041570554117758:=0
def tw1377659281746799612:=0
def tw8482605191850933888:=0
def tw14725395317474117961:=0
def tw14884855461975798269:=0
def tw13913461457693787597:=0
def tw4019911997974816387:=0
def tw10409648518704396570:=0
def tw13950297743560574912:=0
def tw101745353919100125:=0
def tw703203984184784774:=0
def tw16612036885084209042:=0
def tw4661941968420319648:=0
def tw8614083696297502796:=0
def tw9183842570621513237:=0
def tw2012411904429606880:=0
def tw14473060918441607335:=0
def tw754204388847993115:=0
def tw17060437976587515904:=0
def tw14800857051965739045:=0
def tw6331447038691353178:=0
def tw7489153500296057382:=0
def tw8325999903986548859:=0
def tw12935638483893444232:=0
def tw12004618288936819331:=0
def tw14797413257799348250:=0
def tw16757910064506944516:=0
def tw1416436752193978894:=0
def tw4591681120668216728:=0
end PySem.W.Fast


namespace L2
open PySem PySem.Spec PyProof.Rows

abbrev Key := Sum Int Str
def keyIs : Key → Value → Bool
  | .inl k, v => Value.isInt k v
  | .inr x, v => Value.isStrOf x v
def keyH (w : World) : Key → Int
  | .inl k => hashInt k
  | .inr x => hashStr w x
theorem keyIs_shape : ∀ {k : Key} {v : Value}, keyIs k v = true → (∃ i t, k = Sum.inl i ∧ v = Value.int i t) ∨ (∃ x t, k = Sum.inr x ∧ v = Value.str x t)
  | .inl i, v, h => by
    obtain ⟨t, e⟩ := Value.isInt_shape (k := i) (v := v) h
    exact .inl ⟨i, t, rfl, e⟩
  | .inr x, v, h => by
    obtain ⟨t, e⟩ := Value.isStrOf_shape (x := x) (v := v) h
    exact .inr ⟨x, t, rfl, e⟩
theorem keyIs_int (i : Int) (t : Tok) : keyIs (.inl i) (.int i t) = true := by simp [keyIs, Value.isInt]
theorem keyIs_str (x : Str) (t : Tok) : keyIs (.inr x) (.str x t) = true := by simp [keyIs, Value.isStrOf]
theorem key_ll (a b : Int) : decide ((Sum.inl a : Key) = Sum.inl b) = (a == b) := by
  by_cases e : a = b
  · subst e; simp
  · have h : ¬ (Sum.inl a : Key) = Sum.inl b := fun q => e (Sum.inl.inj q)
    rw [decide_eq_false h]
    exact (beq_eq_false_iff_ne.mpr e).symm
theorem key_rr (a b : Str) : decide ((Sum.inr a : Key) = Sum.inr b) = decide (a = b) := by
  by_cases e : a = b
  · subst e; simp
  · have h : ¬ (Sum.inr a : Key) = Sum.inr b := fun q => e (Sum.inr.inj q)
    rw [decide_eq_false h, decide_eq_false e]
theorem key_lr (a : Int) (b : Str) : decide ((Sum.inl a : Key) = Sum.inr b) = false := decide_eq_false (fun q => nomatch q)
theorem key_rl (a : Str) (b : Int) : decide ((Sum.inr a : Key) = Sum.inl b) = false := decide_eq_false (fun q => nomatch q)

def mixKind (prog : Program) (w : World) : PySem.KeyKind prog w Key where
  is := keyIs
  hash := keyH w
  inj := fun v a b ha hb => by
    rcases keyIs_shape ha with ⟨i, t, rfl, rfl⟩ | ⟨x, t, rfl, rfl⟩
    · rcases keyIs_shape hb with ⟨j, u, rfl, e⟩ | ⟨y, u, rfl, e⟩
      · injection e with e1 _; rw [e1]
      · exact nomatch e
    · rcases keyIs_shape hb with ⟨j, u, rfl, e⟩ | ⟨y, u, rfl, e⟩
      · exact nomatch e
      · injection e with e1 _; rw [e1]
  byValue := fun k v h => by
    rcases keyIs_shape h with ⟨i, t, rfl, rfl⟩ | ⟨x, t, rfl, rfl⟩ <;> rfl
  pyHash := fun hv h => by
    rcases keyIs_shape hv with ⟨i, t, rfl, rfl⟩ | ⟨x, t, rfl, rfl⟩
    · exact wpAny_pyHash_int h
    · exact wpAny_pyHash_str h
  eqBool := fun hu hv h => by
    rcases keyIs_shape hu with ⟨i, t, rfl, rfl⟩ | ⟨x, t, rfl, rfl⟩
    · rcases keyIs_shape hv with ⟨j, u, rfl, rfl⟩ | ⟨y, u, rfl, rfl⟩
      · rw [key_ll] at h; exact wpAny_eqBool_int h
      · rw [key_lr] at h; exact SeqAt.EqAt.int_str i t y u _ _ _ _ h
    · rcases keyIs_shape hv with ⟨j, u, rfl, rfl⟩ | ⟨y, u, rfl, rfl⟩
      · rw [key_rl] at h; exact SeqAt.EqAt.str_int x t j u _ _ _ _ h
      · rw [key_rr] at h; exact wpAny_eqBool_str h
  «strs» := fun k x t v h => by
    rcases keyIs_shape h with ⟨i, u, rfl, e⟩ | ⟨y, u, rfl, e⟩
    · exact nomatch e
    · injection e with e1 _
      subst e1
      cases v <;> rfl

theorem mixKind_int (prog : Program) (w : World) (i : Int) (t : Tok) : (mixKind prog w).is (.inl i) (.int i t) = true := keyIs_int i t
theorem mixKind_str (prog : Program) (w : World) (x : Str) (t : Tok) : (mixKind prog w).is (.inr x) (.str x t) = true := keyIs_str x t
end L2

namespace L2
open PySem PySem.Spec PyProof.Rows

inductive V where
  | non | bl (b : Bool) | int (i : Int) | str (x : Str) | byt (b : Array UInt8) | flt (b : UInt64) | ref (a : Addr) | ty (n : String)
  deriving DecidableEq

def RelV : V → Value → Prop
  | .non, u => u = Value.none
  | .bl b, u => u = Value.bool b
  | .int i, u => ∃ t, u = Value.int i t
  | .str x, u => ∃ t, u = Value.str x t
  | .byt b, u => ∃ t, u = Value.bytes b t
  | .flt b, u => ∃ t, u = Value.float b t
  | .ref a, u => u = Value.ref a
  | .ty n, u => u = Value.type n

abbrev Vals : List V → List Value → Prop := Paired RelV
theorem Vals.length {xs : List V} {us : List Value} (r : Vals xs us) : xs.length = us.length := Paired.length r
theorem Vals.get : ∀ {xs : List V} {us : List Value} {i : Nat} {x : V}, Vals xs us → xs[i]? = some x → ∃ u, us[i]? = some u ∧ RelV x u
  | _, _, _, _, .nil, e => by simp at e
  | _, _, 0, _, .cons r _, e => by simp at e; subst e; exact ⟨_, rfl, r⟩
  | _, _, i + 1, x, .cons _ t, e => by
    obtain ⟨u, h1, h2⟩ := Vals.get (i := i) (x := x) t (by simpa using e)
    exact ⟨u, by simpa using h1, h2⟩
theorem Vals.set {x : V} {u : Value} (r : RelV x u) : ∀ {xs : List V} {us : List Value} (i : Nat), Vals xs us → Vals (xs.set i x) (us.set i u)
  | _, _, _, .nil => .nil
  | _, _, 0, .cons _ t => .cons r t
  | _, _, i + 1, .cons q t => .cons q (Vals.set r i t)
theorem Vals.append : ∀ {xs ys : List V} {us ws : List Value}, Vals xs us → Vals ys ws → Vals (xs ++ ys) (us ++ ws)
  | _, _, _, _, .nil, s => s
  | _, _, _, _, .cons r t, s => .cons r (Vals.append t s)
theorem Vals.take : ∀ {xs : List V} {us : List Value} (n : Nat), Vals xs us → Vals (xs.take n) (us.take n)
  | _, _, 0, _ => .nil
  | _, _, _ + 1, .nil => .nil
  | _, _, n + 1, .cons r t => .cons r (Vals.take n t)
theorem Vals.drop : ∀ {xs : List V} {us : List Value} (n : Nat), Vals xs us → Vals (xs.drop n) (us.drop n)
  | _, _, 0, r => r
  | _, _, _ + 1, .nil => .nil
  | _, _, n + 1, .cons _ t => Vals.drop n t
def RelO : Option V → Option Value → Prop
  | some v, some u => RelV v u
  | none, none => True
  | _, _ => False
def KV {κ : Type} : List (κ × V) → List (κ × Value) → Prop := Paired fun (p : κ × V) (q : κ × Value) => p.1 = q.1 ∧ RelV p.2 q.2

def kV : Key → V
  | .inl i => .int i
  | .inr x => .str x

inductive HO where
    | lst (xs : List V)
    | tup (xs : List V)
    | dK (kvs : List (Key × V)) | dT (kvs : List (List Key × V))
    | set (S : Int → Bool) (n : Nat)
    | ins (C dx : Addr) (fs : List (Str × V))
    | own (x : Addr)
    | xd (fs : List (Str × V))
    | met (f x : Addr)
    | rng (lo hi : Int)
    | frz (o : Obj) (u : HO)
    | tbl (q : Str × Int × Int)
    | ext (φ : Heap → Prop)

abbrev Hp := Addr → Option HO
def upd (H : Hp) (a : Addr) (o : HO) : Hp := fun b => if b = a then some o else H b
theorem upd_same {H : Hp} {a : Addr} {o : HO} : upd H a o a = some o := by unfold upd; rw [if_pos rfl]
theorem upd_ne {H : Hp} {a b : Addr} {o : HO} (h : b ≠ a) : upd H a o b = H b := by unfold upd; rw [if_neg h]
theorem ne_of {H : Hp} {a b : Addr} {o u : HO} (h : H a = some o) (h' : H b = some u) (d : o ≠ u) : a ≠ b := by
  intro e; subst e; rw [h] at h'; exact d (Option.some.inj h')
theorem ne_of_none {H : Hp} {a b : Addr} {o : HO} (h : H a = some o) (h' : H b = none) : a ≠ b := by
  intro e; subst e; rw [h] at h'; cases h'

def IsTupD (h : Heap) (a : Addr) (items : Array Value) : Prop := ∃ o, h.get? a = some o ∧ o.cls = .type "tuple" ∧ ∃ n, o.data = .seq items n ∧ o.dict = none
theorem IsTupD.tup {h : Heap} {a : Addr} {items : Array Value} (x : IsTupD h a items) : IsTup h a items := let ⟨o, e, c, n, d, _⟩ := x; ⟨o, e, c, n, d⟩
theorem IsTupD.lt {h : Heap} {a : Addr} {items : Array Value} (x : IsTupD h a items) : a < h.objs.size := let ⟨_, e, _⟩ := x; Heap.lt_size e
theorem IsTupD.new (h : Heap) (items : Array Value) : IsTupD (h.push { cls := .type "tuple", data := .seq items }) h.objs.size items := ⟨_, Heap.get?_push_size _ rfl, rfl, _, rfl, rfl⟩
section
variable (P : Program) (w : World)
def ObjOk (H : Hp) (h : Heap) (a : Addr) : HO → Prop
  | .lst xs => xs.length ≤ sizeLine ∧ ∃ (its : List Value) (n : Nat), Vals xs its ∧ h.get? a = some { cls := .type "list", data := .seq its.toArray n }
  | .tup xs => xs.length ≤ sizeLine ∧ ∃ its : List Value, Vals xs its ∧ IsTupD h a its.toArray
  | .dK kvs => kvs.length ≤ sizeLine ∧ (a == sysModules) = false ∧ ∃ vs, KV kvs vs ∧ h.DictOf (mixKind P w) a vs
  | .dT kvs => kvs.length ≤ sizeLine ∧ (a == sysModules) = false ∧ ∃ xs : List (List Key × Addr × Value),
      Paired (fun (p : List Key × V) (q : List Key × Addr × Value) => p.1 = q.1 ∧ H q.2.1 = some (.tup (p.1.map kV)) ∧ RelV p.2 q.2.2) kvs xs ∧
      ∃ o es ep, h.get? a = some o ∧ o.ExactDict ∧ o.data = .dict es ep ∧ es.toList = xs.map (entryOfKey (tupleKind (mixKind P w))) ∧ (xs.map (·.1)).Nodup
  | .set S n => h.SetOf (intKind P w) a S n
  | .ins C dx fs => H dx = some (.own a) ∧ fs.length ≤ 1000 ∧ dx ≠ a ∧ h.get? a = some (PySem.W.instObj C dx) ∧
      ∃ mA, h.Ns1 dx mA ∧ (∀ f, RelO (fs.lookup f) (mA f)) ∧ PySem.Within mA (fs.map (·.1))
  | .own _ => ∃ o, h.get? a = some o
  | .xd fs => ∃ mA, h.Ns1 a mA ∧ ∀ f, RelO (fs.lookup f) (mA f)
  | .rng lo hi => ∃ t u v, h.get? a = some { cls := .type "range", data := .fields #[.int lo t, .int hi u, .int 1 v] }
  | .frz o u => h.get? a = some o ∧ ObjOk H h a u
  | .tbl q => h.get? a = some { cls := .none, data := .fields #[] } ∨ ∃ c, h.get? a = some { cls := .none, data := .fields #[rawInt q.2.1, rawInt q.2.2, .ref c] } ∧ H c = some (.own a) ∧ h.CodeRec (.ref c) q.1
  | .met f x => h.get? a = some (PySem.W.methodObj (.ref f) (.ref x))
  | .ext φ => φ h ∧ (∃ o, h.get? a = some o) ∧ ∀ h1 h2 : Heap, φ h1 → (∀ o, h1.get? a = some o → h2.get? a = some o) → φ h2
def HOk (H : Hp) (h : Heap) : Prop := ∀ a o, H a = some o → ObjOk P w H h a o
end

section
variable {P : Program} {w : World} {H H' : Hp} {h h' : Heap} {a : Addr} {o : HO}
theorem ObjOk.lt (x : ObjOk P w H h a o) : a < h.objs.size := by
  cases o with
  | lst xs => obtain ⟨_, _, _, _, e⟩ := x; exact Heap.lt_size e
  | tup xs => obtain ⟨_, _, _, p⟩ := x; exact p.lt
  | dK kvs => obtain ⟨_, _, _, _, o, _, _, e, _⟩ := x; exact Heap.lt_size e
  | dT kvs => obtain ⟨_, _, _, _, o, _, _, e, _⟩ := x; exact Heap.lt_size e
  | set S n => obtain ⟨o, _, _, _, e, _⟩ := x; exact Heap.lt_size e
  | ins C dx fs => obtain ⟨_, _, _, e, _⟩ := x; exact Heap.lt_size e
  | own y => obtain ⟨_, e⟩ := x; exact Heap.lt_size e
  | xd fs => obtain ⟨_, ⟨_, _, _, e, _⟩, _⟩ := x; exact Heap.lt_size e
  | rng lo hi => obtain ⟨_, _, _, e⟩ := x; exact Heap.lt_size e
  | frz ob u => obtain ⟨e, _⟩ := x; exact Heap.lt_size e
  | tbl q =>
    rcases (show h.get? a = some { cls := .none, data := .fields #[] } ∨ ∃ c, h.get? a = some { cls := .none, data := .fields #[rawInt q.2.1, rawInt q.2.2, .ref c] } ∧ H c = some (.own a) ∧ h.CodeRec (.ref c) q.1 from x) with e | ⟨_, e, _⟩
    · exact Heap.lt_size e
    · exact Heap.lt_size e
  | met f y => exact Heap.lt_size (show h.get? a = some _ from x)
  | ext φ => obtain ⟨_, ⟨_, e⟩, _⟩ := x; exact Heap.lt_size e
theorem Paired.mapP {α β : Type} {F G : α → β → Prop} : ∀ {l₁ : List α} {l₂ : List β}, Paired F l₁ l₂ → (∀ a b, F a b → G a b) → Paired G l₁ l₂
  | _, _, .nil, _ => .nil
  | _, _, .cons r t, f => .cons (f _ _ r) (Paired.mapP t f)
theorem ObjOk.stay (x : ObjOk P w H h a o) (k : ∀ b u, (b = a ∨ H b = some (.own a)) → h.get? b = some u → h'.get? b = some u)
    (ho : ∀ b, H b = some (.own a) → H' b = some (.own a)) (ht : ∀ b xs, H b = some (.tup xs) → H' b = some (.tup xs)) : ObjOk P w H' h' a o := by
  induction o with
  | lst xs => obtain ⟨z, its, n, r, e⟩ := x; exact ⟨z, its, n, r, k _ _ (.inl rfl) e⟩
  | tup xs => obtain ⟨z, its, r, ob, e, c⟩ := x; exact ⟨z, its, r, ob, k _ _ (.inl rfl) e, c⟩
  | dK kvs => obtain ⟨z, y, vs, r, ob, es, ep, e, c⟩ := x; exact ⟨z, y, vs, r, ob, es, ep, k _ _ (.inl rfl) e, c⟩
  | dT kvs =>
    obtain ⟨z, y, xs, r, ob, es, ep, e, c⟩ := x
    exact ⟨z, y, xs, Paired.mapP r fun p q z => ⟨z.1, ht _ _ z.2.1, z.2.2⟩, ob, es, ep, k _ _ (.inl rfl) e, c⟩
  | set S n => obtain ⟨ob, es, ep, t, e, c⟩ := x; exact ⟨ob, es, ep, t, k _ _ (.inl rfl) e, c⟩
  | ins C dx fs =>
    obtain ⟨d, z, ne, e, mA, ⟨od, es, ep, e2, c⟩, r⟩ := x
    exact ⟨ho _ d, z, ne, k _ _ (.inl rfl) e, mA, ⟨od, es, ep, k _ _ (.inr d) e2, c⟩, r⟩
  | own y => obtain ⟨ob, e⟩ := x; exact ⟨ob, k _ _ (.inl rfl) e⟩
  | xd fs => obtain ⟨mA, ⟨od, es, ep, e, c⟩, r⟩ := x; exact ⟨mA, ⟨od, es, ep, k _ _ (.inl rfl) e, c⟩, r⟩
  | rng lo hi => obtain ⟨t, u, v, e⟩ := x; exact ⟨t, u, v, k _ _ (.inl rfl) e⟩
  | frz ob u ih => obtain ⟨e, q⟩ := x; exact ⟨k _ _ (.inl rfl) e, ih q⟩
  | tbl q =>
    rcases (show h.get? a = some { cls := .none, data := .fields #[] } ∨ ∃ c, h.get? a = some { cls := .none, data := .fields #[rawInt q.2.1, rawInt q.2.2, .ref c] } ∧ H c = some (.own a) ∧ h.CodeRec (.ref c) q.1 from x) with e | ⟨c, e, hc, c0, oc, vs, t, ec, hoc, rest⟩
    · exact .inl (k a _ (.inl rfl) e)
    · cases ec
      exact .inr ⟨c, k a _ (.inl rfl) e, ho c hc, c, oc, vs, t, rfl, k c _ (.inr hc) hoc, rest⟩
  | met f y =>
    have e : h.get? a = some (PySem.W.methodObj (.ref f) (.ref y)) := x
    show h'.get? a = some (PySem.W.methodObj (.ref f) (.ref y))
    exact k a _ (.inl rfl) e
  | ext φ => obtain ⟨p, ⟨o, e⟩, st⟩ := x; exact ⟨st _ _ p fun o q => k _ _ (.inl rfl) q, ⟨o, k _ _ (.inl rfl) e⟩, st⟩
theorem HOk.lt (x : HOk P w H h) (e : H a = some o) : a < h.objs.size := (x a o e).lt
theorem HOk.fresh (x : HOk P w H h) (e : h.objs.size ≤ a) : H a = none := by
  cases q : H a with
  | none => rfl
  | some u => exact absurd (Nat.lt_of_lt_of_le (x.lt q) e) (Nat.lt_irrefl _)
theorem HOk.kept (x : HOk P w H h) (k : ∀ b u, h.get? b = some u → h'.get? b = some u) : HOk P w H h' := fun a o e =>
  (x a o e).stay (fun b u _ q => k b u q) (fun _ q => q) fun _ _ q => q
theorem HOk.laid (x : HOk P w H h) (k : ∀ b u, h.get? b = some u → h'.get? b = some u) (hp : h.objs.size ≤ a) (new : ObjOk P w (upd H a o) h' a o) : HOk P w (upd H a o) h' := fun b u e => by
  have hn := x.fresh hp
  by_cases hb : b = a
  · subst hb; rw [upd_same] at e; cases e; exact new
  · rw [upd_ne hb] at e
    exact (x b u e).stay (fun c v _ q => k c v q) (fun c q => by rw [upd_ne (ne_of_none q hn)]; exact q) fun c xs q => by rw [upd_ne (ne_of_none q hn)]; exact q
end

def Rd (H : Hp) (a : Addr) (u : HO) : Prop := H a = some u ∨ ∃ o, H a = some (.frz o u)
theorem Rd.ok {P : Program} {w : World} {H : Hp} {h : Heap} {a : Addr} {u : HO} (r : Rd H a u) (x : HOk P w H h) : ObjOk P w H h a u := by
  rcases r with r | ⟨o, r⟩
  · exact x a u r
  · obtain ⟨_, q⟩ := x a _ r
    exact q
def Mut : Option HO → Prop
  | some (.lst _) => True
  | some (.dK _) => True
  | some (.dT _) => True
  | some (.set _ _) => True
  | some (.ins _ _ _) => True
  | some (.ext _) => True
  | _ => False
section
variable {P : Program} {w : World} {H : Hp} {h h' : Heap} {x e : Addr} {o' : HO}
theorem HOk.write (ok : HOk P w H h) (mu : Mut (H x)) (he : e = x ∨ H e = some (.own x)) (k : ∀ b u, b ≠ e → h.get? b = some u → h'.get? b = some u) (heo : ∃ u, h'.get? e = some u)
    (new : ObjOk P w (upd H x o') h' x o') : HOk P w (upd H x o') h' := fun b u q => by
  have nown : ∀ c y, H c = some (.own y) → c ≠ x := fun c y r z => by subst z; rw [r] at mu; exact mu
  have ntup : ∀ c xs, H c = some (.tup xs) → c ≠ x := fun c xs r z => by subst z; rw [r] at mu; exact mu
  by_cases hb : b = x
  · subst hb; rw [upd_same] at q; cases q; exact new
  · rw [upd_ne hb] at q
    by_cases hbe : b = e
    · have q' : H b = some (.own x) := by
        rcases he with z | z
        · exact absurd (hbe.trans z) hb
        · rw [hbe]; exact z
      rw [q] at q'; cases q'
      obtain ⟨v, hv⟩ := heo
      exact ⟨v, by rw [hbe]; exact hv⟩
    · refine (ok b u q).stay (fun c v hc r => k c v ?_ r) (fun c r => by rw [upd_ne (nown c b r)]; exact r) fun c xs r => by rw [upd_ne (ntup c xs r)]; exact r
      rcases hc with rfl | hc
      · exact hbe
      · rintro rfl
        rcases he with z | z
        · exact nown c b hc z
        · rw [hc] at z; cases z; exact hb rfl
end

structure Un (fs ex : List Addr) (H H' : Hp) (h h' : Heap) : Prop where
  keep : ∀ b o, h.get? b = some o → H b = none → b ∉ fs → b ∉ ex → h'.get? b = some o
  slot : ∀ b o, h.get? b = some o → H b = none → b ∈ fs → b ∉ ex → ∃ sl, h'.get? b = some { o with slots := sl }
  free : ∀ b o, h.get? b = some o → H b = none → b ∉ ex → H' b = none
  there : ∀ b o, h.get? b = some o → b ∉ ex → ∃ o', h'.get? b = some o'
  tups : ∀ b xs, H b = some (.tup xs) → H' b = some (.tup xs)
  frzs : ∀ b o u, H b = some (.frz o u) → H' b = some (.frz o u)
  tbls : ∀ b ps, H b = some (.tbl ps) → H' b = some (.tbl ps) ∧ ∀ c o, H c = some (.own b) → h.get? c = some o → H' c = some (.own b) ∧ h'.get? c = some o
section
variable {fs fs' ex ex' : List Addr} {H H1 H2 : Hp} {h h1 h2 h' : Heap} {a x e : Addr} {o : HO}
theorem Un.any (u : Un fs ex H H1 h h1) {b : Addr} {ob : Obj} (q : h.get? b = some ob) (n : H b = none) (hx : b ∉ ex) : ∃ sl, h1.get? b = some { ob with slots := sl } := by
  by_cases hb : b ∈ fs
  · exact u.slot b ob q n hb hx
  · exact ⟨ob.slots, u.keep b ob q n hb hx⟩
theorem Un.kept (k : ∀ b u, h.get? b = some u → h'.get? b = some u) : Un fs ex H H h h' :=
  ⟨fun b ob q _ _ _ => k b ob q, fun b ob q _ _ _ => ⟨ob.slots, k b ob q⟩, fun _ _ _ n _ => n, fun b ob q _ => ⟨ob, k b ob q⟩, fun _ _ q => q, fun _ _ _ q => q, fun _ _ q => ⟨q, fun c o e x => ⟨e, k c o x⟩⟩⟩
theorem Un.refl : Un fs ex H H h h := Un.kept fun _ _ q => q
theorem Un.laid (k : ∀ b u, h.get? b = some u → h'.get? b = some u) (hp : h.objs.size ≤ a) (hn : H a = none) : Un fs ex H (upd H a o) h h' where
  keep := fun b u q _ _ _ => k b u q
  slot := fun b u q _ _ _ => ⟨u.slots, k b u q⟩
  free := fun b u q n _ => by rw [upd_ne (Nat.ne_of_lt (Nat.lt_of_lt_of_le (Heap.lt_size q) hp))]; exact n
  there := fun b u q _ => ⟨u, k b u q⟩
  tups := fun b xs q => by rw [upd_ne (ne_of_none q hn)]; exact q
  frzs := fun b u xs q => by rw [upd_ne (ne_of_none q hn)]; exact q
  tbls := fun b ps q => ⟨by rw [upd_ne (ne_of_none q hn)]; exact q, fun c u e x => ⟨by rw [upd_ne (ne_of_none e hn)]; exact e, k c u x⟩⟩
theorem Un.write (mu : Mut (H x)) (he : e = x ∨ H e = some (.own x)) (k : ∀ b u, b ≠ e → h.get? b = some u → h'.get? b = some u) (heo : ∃ u, h'.get? e = some u) : Un fs ex H (upd H x o) h h' := by
  have hx : ∀ b, H b = none → b ≠ x := fun b n z => by subst z; rw [n] at mu; exact mu
  have hb : ∀ b, H b = none → b ≠ e := fun b n z => by
    subst z
    rcases he with r | r
    · exact hx b n r
    · rw [n] at r; cases r
  have hm : ∀ b u, H b = some u → ¬ Mut (some u) → b ≠ x := fun b u q nm z => by subst z; rw [q] at mu; exact nm mu
  refine ⟨fun b u q n _ _ => k b u (hb b n) q, fun b u q n _ _ => ⟨u.slots, k b u (hb b n) q⟩, fun b u q n _ => by rw [upd_ne (hx b n)]; exact n, fun b u q _ => ?_,
    fun b xs q => by rw [upd_ne (hm b _ q fun z => z)]; exact q, fun b u xs q => by rw [upd_ne (hm b _ q fun z => z)]; exact q, fun b ps q => ⟨by rw [upd_ne (hm b _ q fun z => z)]; exact q, fun c u hc x => ⟨by rw [upd_ne (hm c _ hc fun z => z)]; exact hc, k c u (fun z => he.elim (fun r => hm c _ hc (fun z => z) (z.trans r)) fun r => by rw [← z, hc] at r; cases r; rw [q] at mu; exact mu) x⟩⟩⟩
  by_cases hbe : b = e
  · subst hbe; exact heo
  · exact ⟨u, k b u hbe q⟩
end

def trk (h : Heap) (H : Hp) : List Addr := (List.range h.objs.size).filter fun a => (H a).isSome
def hidT (h : Heap) (H : Hp) : Heap := PySem.W.hideAll h (trk h H)
theorem hidT_size (h : Heap) (H : Hp) : (hidT h H).objs.size = h.objs.size := PySem.W.hideAll_size _ _
theorem hidT_get {h : Heap} {H : Hp} {b : Addr} {o : Obj} (e : h.get? b = some o) (n : H b = none) : (hidT h H).get? b = some o :=
  PySem.W.hideAll_get _ e fun hm => by
    have q : (H b).isSome = true := (List.mem_filter.mp hm).2
    rw [n] at q; simp at q
theorem of_hidT {h : Heap} {H : Hp} {b : Addr} {o : Obj} (e : (hidT h H).get? b = some o) : h.get? b = some o ∧ H b = none := by
  have e' : h.get? b = some o := PySem.W.of_hideAll (trk h H) e
  refine ⟨e', ?_⟩
  cases q : H b with
  | none => rfl
  | some x =>
    have hm : b ∈ trk h H := List.mem_filter.mpr ⟨List.mem_range.mpr (Heap.lt_size e'), by simp [q]⟩
    have z : (hidT h H).get? b = none := PySem.W.hideAll_none (trk h H) hm
    rw [z] at e; cases e

def allNews (g h : Heap) (L : Addr) : List (Addr × Obj) := (List.range h.objs.size).filterMap fun a => if a = L ∨ (g.get? a).isSome = true then none else (h.get? a).map fun o => (a, o)
def rest (g h : Heap) (L d : Addr) : List (Addr × Obj) := (allNews g h L).filter fun p => decide (p.1 ≠ d)
end L2

namespace L2
open PySem PySem.Spec PyProof.Rows

structure Mod (K : PySem.W.Frag) (mg : Str → Option Value) (base : Heap) : Prop where
  kin : K.In base
  glob : base.Ns mainGlobals mg
  blt : ∃ mb, base.Ns builtinsNs mb ∧ ∀ x : Str, x ≠ "__name__" → mb x = bootBuiltins x
  nolimit : base.NoLimit

structure Cx where
  prog : Program
  w : World
  K : PySem.W.Frag
  mg : Str → Option Value
  base : Heap
  A : Around
  N : List Str
  s₀ : Shared
  H₀ : Hp
  env : Env
  outer : List Env
  stack : List Env
  ex : List Addr
  fn : Str → Bool
  calm : Bool
  pn : List (Addr × Obj)
  xe : Value → Shared → Prop
def frs (l : List Env) : List Addr := l.filterMap (·.frame)
abbrev Cx.fs (X : Cx) : List Addr := frs X.outer

def Vis (sc : Scope) (x : Str) : Prop := sc.names.lookup x = some .local ∨ sc.names.lookup x = some .cell ∨ sc.names.lookup x = some .free
def Loc (sc : Scope) (x : Str) : Prop := sc.names.lookup x = some .local ∨ sc.names.lookup x = some .cell
def Look (env : Env) (h : Heap) (m : Str → Option Value) (x : Str) (u : Value) : Prop :=
  (env.kindOf x = some .local ∧ m x = some u) ∨ ((env.kindOf x = some .cell ∨ env.kindOf x = some .free) ∧ ∃ c, env.cells.lookup x = some c ∧ h.IsCell c (some u))

structure Cx.Ok (X : Cx) : Prop where
  mod : Mod X.K X.mg X.base
  kind : X.env.scope.kind = .function
  glob : X.env.globals = mainGlobals
  blt : X.env.builtins = builtinsNs
  above : X.s₀.heap.objs.size ≤ X.env.locals
  inj : ∀ x y c, X.env.cells.lookup x = some c → X.env.cells.lookup y = some c → x = y
  has : ∀ x, (X.env.kindOf x = some .cell ∨ X.env.kindOf x = some .free) → ∃ c, X.env.cells.lookup x = some c
  cab : ∀ x c, X.fn x = true → X.env.cells.lookup x = some c → X.s₀.heap.objs.size ≤ c
  hd : X.calm = true → X.A.handled = none
  frames : X.A.frames = some X.stack
  stk : X.stack = X.outer ∨ (X.stack = X.env :: X.outer ∧ X.env.frame = some X.env.locals)
  exf : ∀ b ∈ X.ex, b ≠ X.env.locals ∧ ∀ x c, X.env.cells.lookup x = some c → c ≠ b
  bs : ∀ b o, X.base.get? b = some o → X.s₀.heap.get? b = some o ∧ X.H₀ b = none
  bsz : X.base.objs.size ≤ X.s₀.heap.objs.size
  noex : ∀ b o, X.base.get? b = some o → b ∉ X.ex
  exfs : ∀ b ∈ X.ex, b ∉ X.fs
  funs : X.s₀.heap.FunFrames X.base X.outer
  frf : ∀ b ∈ X.fs, X.H₀ b = none

structure Inv (X : Cx) (pins : List (Addr × Obj)) (σ : List (Option V)) (H : Hp) (s : Shared) : Prop where
  ok : X.Ok
  os : s.os = X.s₀.os
  bare : AllBare s.gens
  base : Un X.fs X.ex X.H₀ H X.s₀.heap s.heap
  loc : ∃ m, s.heap.Ns X.env.locals m ∧ ∀ (i : Nat) (x : Str) (v : V), X.N[i]? = some x → σ[i]? = some (some v) → Vis X.env.scope x → ∃ u, RelV v u ∧ Look X.env s.heap m x u
  cell : ∀ x c, X.env.cells.lookup x = some c → ∃ v, s.heap.IsCell c v
  free : H X.env.locals = none
  freeC : ∀ x c, X.env.cells.lookup x = some c → H c = none
  pin : ∀ p ∈ X.pn ++ pins, s.heap.get? p.1 = some p.2 ∧ H p.1 = none ∧ p.1 ≠ X.env.locals ∧ p.1 ∉ X.fs ∧ ∀ v, p.2.data ≠ .cell v
  hok : HOk X.prog X.w H s.heap
  len : σ.length = X.N.length

section
variable {X : Cx} {pins : List (Addr × Obj)} {σ : List (Option V)} {H H' : Hp} {s : Shared} {h' : Heap}

theorem Cx.Ok.nofr (ok : X.Ok) {b : Addr} {o : Obj} (e : X.base.get? b = some o) : b ∉ X.fs := fun hb => by
  have := (ok.funs.mem hb).1
  rw [e] at this; cases this
theorem Inv.bs (I : Inv X pins σ H s) : ∀ b o, X.base.get? b = some o → s.heap.get? b = some o ∧ H b = none := fun b o e =>
  ⟨I.base.keep b o (I.ok.bs b o e).1 (I.ok.bs b o e).2 (I.ok.nofr e) (I.ok.noex b o e), I.base.free b o (I.ok.bs b o e).1 (I.ok.bs b o e).2 (I.ok.noex b o e)⟩
theorem Inv.bk (I : Inv X pins σ H s) : ∀ b o, X.base.get? b = some o → s.heap.get? b = some o := fun b o e => (I.bs b o e).1
theorem Inv.mod (I : Inv X pins σ H s) : Mod X.K X.mg X.base := I.ok.mod
theorem Inv.kIn (I : Inv X pins σ H s) : X.K.In s.heap := I.ok.mod.kin.keeps I.bk
theorem Inv.fr (I : Inv X pins σ H s) : ∃ m, Fr X.base X.env.locals s.heap m :=
  let ⟨m, hn, _⟩ := I.loc
  ⟨m, hn, I.bk, Nat.le_trans I.ok.bsz I.ok.above⟩
theorem Inv.lt (I : Inv X pins σ H s) : X.env.locals < s.heap.objs.size := let ⟨_, hn, _⟩ := I.loc; hn.lt
theorem Inv.sz (I : Inv X pins σ H s) : X.s₀.heap.objs.size ≤ s.heap.objs.size := Nat.le_trans I.ok.above (Nat.le_of_lt I.lt)
theorem Inv.nofs (I : Inv X pins σ H s) {a : Addr} (h : s.heap.objs.size ≤ a) : a ∉ X.fs := fun hb => by
  obtain ⟨_, o, ho, _⟩ := I.ok.funs.mem hb
  exact absurd (Nat.lt_of_lt_of_le (Heap.lt_size ho) (Nat.le_trans I.sz h)) (Nat.lt_irrefl _)
theorem Inv.cne (I : Inv X pins σ H s) : ∀ x c, X.env.cells.lookup x = some c → c ≠ X.env.locals := fun x c e z => by
  obtain ⟨v, o, ho, hd⟩ := I.cell x c e
  obtain ⟨m, ⟨o', es, ep, ho', hd', _⟩, _⟩ := I.loc
  rw [z, ho'] at ho; cases ho; rw [hd'] at hd; cases hd
theorem Inv.funs (I : Inv X pins σ H s) : s.heap.FunFrames X.base X.outer := by
  have all : ∀ (l : List Env), (∀ b ∈ frs l, b ∈ X.fs) → X.s₀.heap.FunFrames X.base l → s.heap.FunFrames X.base l := by
    intro l
    induction l with
    | nil => intro _ _; trivial
    | cons env r ih =>
      intro hs hl
      obtain ⟨hk, ⟨L, o, hf, hn, ho, hd⟩, hr⟩ := hl
      have hL : L ∈ X.fs := hs L (by unfold frs; rw [List.filterMap_cons, hf]; exact List.mem_cons_self)
      obtain ⟨sl, e⟩ := I.base.slot L o ho (I.ok.frf L hL) hL fun z => I.ok.exfs L z hL
      exact ⟨hk, ⟨L, _, hf, hn, e, hd⟩, ih (fun b hb => hs b (by unfold frs; rw [List.filterMap_cons, hf]; exact List.mem_cons_of_mem _ hb)) hr⟩
  exact all X.outer (fun _ hb => hb) I.ok.funs

theorem Inv.stack (I : Inv X pins σ H s) : s.heap.FunFrames X.base X.stack := by
  rcases I.ok.stk with e | ⟨e, hf⟩
  · rw [e]; exact I.funs
  · rw [e]
    obtain ⟨m, hn, _⟩ := I.loc
    refine .cons (by rw [I.ok.kind]; decide) hf hn ?_ I.funs
    exact Heap.get?_none_of_le (Nat.le_trans I.ok.bsz I.ok.above)
theorem Inv.stkSub (I : Inv X pins σ H s) : ∀ b ∈ frs X.stack, b ∈ X.env.locals :: X.fs := fun b hb => by
  rcases I.ok.stk with e | ⟨e, hf⟩
  · rw [e] at hb; exact List.mem_cons_of_mem _ hb
  · rw [e] at hb
    unfold frs at hb
    rw [List.filterMap_cons, hf] at hb
    exact hb
theorem Inv.stkFree (I : Inv X pins σ H s) : ∀ b ∈ frs X.stack, H b = none := fun b hb => by
  rcases List.mem_cons.mp (I.stkSub b hb) with e | hb
  · rw [e]; exact I.free
  · obtain ⟨_, o, ho, _⟩ := I.ok.funs.mem hb
    exact I.base.free b o ho (I.ok.frf b hb) fun z => I.ok.exfs b z hb

theorem Inv.step {g' : Array GenState} {t' : Nat} {d' : Drawn} {ch : List Addr} (I : Inv X pins σ H s)
    (hch : ∀ b ∈ ch, (b ∈ X.ex ∨ X.s₀.heap.objs.size ≤ b) ∧ b ≠ X.env.locals ∧ (∀ x c, X.env.cells.lookup x = some c → c ≠ b) ∧ ∀ p ∈ X.pn ++ pins, p.1 ≠ b)
    (keep : ∀ b o, b ≠ X.env.locals → b ∉ X.fs → b ∉ ch → s.heap.get? b = some o → H b = none → h'.get? b = some o)
    (slot : ∀ b o, b ≠ X.env.locals → b ∈ X.fs → b ∉ ch → s.heap.get? b = some o → H b = none → ∃ sl, h'.get? b = some { o with slots := sl }) (free : ∀ b o, b ∉ ch → s.heap.get? b = some o → H b = none → H' b = none)
    (there : ∀ b o, b ∉ ch → s.heap.get? b = some o → ∃ o', h'.get? b = some o')
    (tups : ∀ b xs, H b = some (.tup xs) → H' b = some (.tup xs)) (frzs : ∀ b o u, H b = some (.frz o u) → H' b = some (.frz o u)) (tbls : ∀ b ps, H b = some (.tbl ps) → H' b = some (.tbl ps) ∧ ∀ c o, H c = some (.own b) → s.heap.get? c = some o → H' c = some (.own b) ∧ h'.get? c = some o)
    (ns : ∀ m, s.heap.Ns X.env.locals m → h'.Ns X.env.locals m) (hok : HOk X.prog X.w H' h') (hg : AllBare g') :
    Inv X pins σ H' { s with heap := h', gens := g', drawn := d', toks := t' } := by
  have neL : ∀ b o, X.s₀.heap.get? b = some o → b ≠ X.env.locals := fun b o e => Nat.ne_of_lt (Nat.lt_of_lt_of_le (Heap.lt_size e) I.ok.above)
  have neC : ∀ b o, X.s₀.heap.get? b = some o → b ∉ X.ex → b ∉ ch := fun b o e hx hb => by
    rcases (hch b hb).1 with z | z
    · exact hx z
    · exact absurd (Nat.lt_of_lt_of_le (Heap.lt_size e) z) (Nat.lt_irrefl _)
  have cellK : ∀ x c, X.env.cells.lookup x = some c → ∀ v, s.heap.IsCell c v → h'.IsCell c v := fun x c e v ⟨o, ho, hd⟩ => by
    have nch : c ∉ ch := fun z => (hch c z).2.2.1 x c e rfl
    by_cases hc : c ∈ X.fs
    · obtain ⟨sl, q⟩ := slot c o (I.cne x c e) hc nch ho (I.freeC x c e)
      exact ⟨_, q, hd⟩
    · exact ⟨o, keep c o (I.cne x c e) hc nch ho (I.freeC x c e), hd⟩
  refine ⟨I.ok, I.os, hg, ⟨fun b o e n hb hx => ?_, fun b o e n hb hx => ?_, fun b o e n hx => ?_, fun b o e hx => ?_, fun b xs e => tups b xs (I.base.tups b xs e), fun b o xs e => frzs b o xs (I.base.frzs b o xs e), fun b ps e => ?_⟩, ?_, fun x c e => ?_, ?_, fun x c e => ?_, fun p hp => ?_, hok, I.len⟩
  · exact keep b o (neL b o e) hb (neC b o e hx) (I.base.keep b o e n hb hx) (I.base.free b o e n hx)
  · obtain ⟨sl, e1⟩ := I.base.slot b o e n hb hx
    obtain ⟨sl', e2⟩ := slot b _ (neL b o e) hb (neC b o e hx) e1 (I.base.free b o e n hx)
    exact ⟨sl', e2⟩
  · obtain ⟨o', e1⟩ := I.base.there b o e hx
    exact free b o' (neC b o e hx) e1 (I.base.free b o e n hx)
  · obtain ⟨o', e1⟩ := I.base.there b o e hx
    exact there b o' (neC b o e hx) e1
  · exact ⟨(tbls b ps (I.base.tbls b ps e).1).1, fun c o e1 x => let z := (I.base.tbls b ps e).2 c o e1 x; (tbls b ps (I.base.tbls b ps e).1).2 c o z.1 z.2⟩
  · obtain ⟨m, hn, hl⟩ := I.loc
    refine ⟨m, ns m hn, fun i x v e1 e2 e3 => ?_⟩
    obtain ⟨u, r, l⟩ := hl i x v e1 e2 e3
    refine ⟨u, r, ?_⟩
    rcases l with l | ⟨k, c, e, z⟩
    · exact .inl l
    · exact .inr ⟨k, c, e, cellK x c e _ z⟩
  · obtain ⟨v, z⟩ := I.cell x c e
    exact ⟨v, cellK x c e v z⟩
  · obtain ⟨m, ⟨o, _, _, ho, _⟩, _⟩ := I.loc
    exact free _ o (fun z => (hch _ z).2.1 rfl) ho I.free
  · obtain ⟨v, o, ho, hd⟩ := I.cell x c e
    exact free c o (fun z => (hch c z).2.2.1 x c e rfl) ho (I.freeC x c e)
  · obtain ⟨e, n, ne, nf, d⟩ := I.pin p hp
    have nch : p.1 ∉ ch := fun z => (hch p.1 z).2.2.2 p hp rfl
    exact ⟨keep p.1 p.2 ne nf nch e n, free p.1 p.2 nch e n, ne, nf, d⟩
theorem Inv.un {t' : Nat} (I : Inv X pins σ H s) (u : Un X.fs [] H H' s.heap h') (hok : HOk X.prog X.w H' h') : Inv X pins σ H' { s with heap := h', toks := t' } := by
  obtain ⟨m, ⟨o, es, ep, ho, r⟩, _⟩ := id I.loc
  obtain ⟨sl, hL⟩ := u.any ho I.free (by simp)
  exact I.step (g' := s.gens) (d' := s.drawn) (ch := []) (fun _ z => nomatch z) (fun b o _ hb _ e n => u.keep b o e n hb (by simp)) (fun b o _ hb _ e n => u.slot b o e n hb (by simp)) (fun b o _ e n => u.free b o e n (by simp)) (fun b o _ e => u.there b o e (by simp)) u.tups u.frzs u.tbls (fun m' hm => by
    obtain ⟨o', es', ep', ho', r'⟩ := hm
    rw [ho] at ho'; cases ho'
    exact ⟨_, es', ep', hL, r'⟩) hok I.bare
theorem Inv.call {g' : Array GenState} {t' : Nat} {d' : Drawn} {ch : List Addr} (I : Inv X pins σ H s) (u : Un (frs X.stack) ch H H' s.heap h') (hok : HOk X.prog X.w H' h') (hg : AllBare g')
    (hch : ∀ b ∈ ch, (b ∈ X.ex ∨ X.s₀.heap.objs.size ≤ b) ∧ b ≠ X.env.locals ∧ (∀ x c, X.env.cells.lookup x = some c → c ≠ b) ∧ ∀ p ∈ X.pn ++ pins, p.1 ≠ b) :
    Inv X pins σ H' { s with heap := h', gens := g', drawn := d', toks := t' } := by
  obtain ⟨m, ⟨o, es, ep, ho, r⟩, _⟩ := id I.loc
  obtain ⟨sl, hL⟩ := u.any ho I.free fun z => (hch _ z).2.1 rfl
  exact I.step (ch := ch) hch (fun b o hL hb hc e n => u.keep b o e n (fun z => (List.mem_cons.mp (I.stkSub b z)).elim hL hb) hc) (fun b o _ _ hc e n => u.any e n hc) (fun b o hc e n => u.free b o e n hc) (fun b o hc e => u.there b o e hc) u.tups u.frzs u.tbls (fun m' hm => by
    obtain ⟨o', es', ep', ho', r'⟩ := hm
    rw [ho] at ho'; cases ho'
    exact ⟨_, es', ep', hL, r'⟩) hok hg
theorem Inv.turned {t' : Nat} {it : Addr} (I : Inv X pins σ H s) (k : ∀ b o, b ≠ it → s.heap.get? b = some o → h'.get? b = some o) (hn : H it = none) (hL : it ≠ X.env.locals)
    (h1 : it ∈ X.ex ∨ X.s₀.heap.objs.size ≤ it) (h2 : ∀ x c, X.env.cells.lookup x = some c → c ≠ it) (h3 : ∀ p ∈ X.pn ++ pins, p.1 ≠ it) : Inv X pins σ H { s with heap := h', toks := t' } := by
  have nit : ∀ b u, H b = some u → b ≠ it := fun b u e z => by rw [z, hn] at e; cases e
  refine I.step (g' := s.gens) (d' := s.drawn) (ch := [it]) (fun b hb => ?_) (fun b o _ _ hc e _ => k b o (fun z => hc (by simp [z])) e) (fun b o _ _ hc e _ => ⟨o.slots, k b o (fun z => hc (by simp [z])) e⟩) (fun _ _ _ _ n => n)
    (fun b o hc e => ⟨o, k b o (fun z => hc (by simp [z])) e⟩) (fun _ _ e => e) (fun _ _ _ e => e) (fun b ps e => ⟨e, fun c o ec x => ⟨ec, k c o (nit c _ ec) x⟩⟩) (fun m hm => ?_) (fun b u e => ?_) I.bare
  · have e : b = it := by simpa using hb
    subst e
    exact ⟨h1, hL, h2, h3⟩
  · obtain ⟨o, es, ep, ho, r⟩ := hm
    exact ⟨o, es, ep, k _ o (Ne.symm hL) ho, r⟩
  · refine (I.hok b u e).stay (fun c v hc q => k c v ?_ q) (fun _ q => q) fun _ _ q => q
    rcases hc with z | z
    · rw [z]; exact nit b u e
    · exact nit c _ z
theorem Inv.tok (I : Inv X pins σ H s) (t : Nat) : Inv X pins σ H { s with toks := t } := I.un (h' := s.heap) (t' := t) Un.refl I.hok
theorem Inv.kept {t' : Nat} (I : Inv X pins σ H s) (k : ∀ b u, s.heap.get? b = some u → h'.get? b = some u) : Inv X pins σ H { s with heap := h', toks := t' } := I.un (Un.kept k) (I.hok.kept k)
theorem Inv.laid {a : Addr} {o : HO} {t' : Nat} (I : Inv X pins σ H s) (k : ∀ b u, s.heap.get? b = some u → h'.get? b = some u) (hp : s.heap.objs.size ≤ a) (new : ObjOk X.prog X.w (upd H a o) h' a o) :
    Inv X pins σ (upd H a o) { s with heap := h', toks := t' } := I.un (Un.laid k hp (I.hok.fresh hp)) (I.hok.laid k hp new)
theorem Inv.write {x e : Addr} {o : HO} {t' : Nat} (I : Inv X pins σ H s) (mu : Mut (H x)) (he : e = x ∨ H e = some (.own x)) (k : ∀ b u, b ≠ e → s.heap.get? b = some u → h'.get? b = some u) (heo : ∃ u, h'.get? e = some u)
    (new : ObjOk X.prog X.w (upd H x o) h' x o) : Inv X pins σ (upd H x o) { s with heap := h', toks := t' } := I.un (Un.write mu he k heo) (I.hok.write mu he k heo new)
theorem Inv.weak {σ' : List (Option V)} (I : Inv X pins σ H s) (hl : σ'.length = σ.length) (w : ∀ (i : Nat) v, σ'[i]? = some (some v) → σ[i]? = some (some v)) : Inv X pins σ' H s :=
  ⟨I.ok, I.os, I.bare, I.base, let ⟨m, hn, hl'⟩ := I.loc; ⟨m, hn, fun i x v e1 e2 e3 => hl' i x v e1 (w i v e2) e3⟩, I.cell, I.free, I.freeC, I.pin, I.hok, hl.trans I.len⟩
theorem Inv.pins_of {pins' : List (Addr × Obj)} (I : Inv X pins σ H s) (h : ∀ p ∈ pins', s.heap.get? p.1 = some p.2 ∧ H p.1 = none ∧ p.1 ≠ X.env.locals ∧ p.1 ∉ X.fs ∧ ∀ v, p.2.data ≠ .cell v) : Inv X pins' σ H s :=
  ⟨I.ok, I.os, I.bare, I.base, I.loc, I.cell, I.free, I.freeC, fun p hp => (List.mem_append.mp hp).elim (fun z => I.pin p (List.mem_append_left _ z)) (h p), I.hok, I.len⟩

theorem nodup_ix {N : List Str} (hN : N.Nodup) {i j : Nat} {x : Str} (a : N[i]? = some x) (b : N[j]? = some x) : i = j := by
  obtain ⟨h1, e1⟩ := List.getElem?_eq_some_iff.mp a
  obtain ⟨h2, e2⟩ := List.getElem?_eq_some_iff.mp b
  exact (List.getElem_inj hN).mp (e1.trans e2.symm)

theorem store_ok2 {M : Model} {A : Around} {E : Value → Shared → Prop} {i : Nat} {x : Str} {v : V} {u : Value} {Q : Unit → Shared → Prop} (I : Inv X pins σ H s) (hN : X.N.Nodup) (hi : X.N[i]? = some x) (hx : Loc X.env.scope x) (r : RelV v u)
    (h : ∀ s', Inv X pins (σ.set i (some v)) H s' → (∃ a, Heap.SameBut a s.heap s'.heap ∧ (a = X.env.locals ∨ X.env.cells.lookup x = some a)) → Q () s') (hf : X.fn x = true ∨ X.env.scope.names.lookup x = some .local := by first | exact .inl rfl | exact .inr rfl | assumption) : wpAny M A (storeName X.env x u) Q E s := by
  obtain ⟨m, hn, hl⟩ := id I.loc
  have hcls : (X.env.scope.kind == .class || (X.env.scope.kind == .module && X.env.locals != X.env.globals)) = false := by rw [I.ok.kind]; rfl
  have hiσ : i < σ.length := by rw [I.len]; exact (List.getElem?_eq_some_iff.mp hi).1
  have cne := I.cne
  have tracked : ∀ {a : Addr} {h' : Heap}, (∃ o, s.heap.get? a = some o ∧ H a = none) → Heap.SameBut a s.heap h' → HOk X.prog X.w H h' := fun {a h'} ha hs b ob e => by
    obtain ⟨_, _, hfree⟩ := ha
    refine (I.hok b ob e).stay (fun c w' hc q => (hs.2 c ?_).trans q) (fun _ q => q) fun _ _ q => q
    rintro rfl
    rcases hc with rfl | hc
    · rw [hfree] at e; cases e
    · rw [hfree] at hc; cases hc
  rcases hx with hk | hk
  · refine wpAny_storeName_local hk hn (fun h' hn' hs => ?_) hcls
    obtain ⟨oL, _, _, hoL, _⟩ := id hn
    refine h _ ⟨I.ok, I.os, I.bare, ⟨fun b o e n hb hx => ?_, fun b o e n hb hx => ?_, I.base.free, fun b o e hx => ?_, I.base.tups, I.base.frzs, fun b ps e => ⟨(I.base.tbls b ps e).1, fun d o e1 x1 => let z := (I.base.tbls b ps e).2 d o e1 x1; ⟨z.1, (hs.2 d (ne_of_none z.1 I.free)).trans z.2⟩⟩⟩, ⟨_, hn', fun j y v' e1 e2 e3 => ?_⟩, fun y c e => ?_, I.free, I.freeC, fun p hp => ?_, tracked ⟨oL, hoL, I.free⟩ hs, by simpa using I.len⟩ ⟨_, hs, .inl rfl⟩
    · exact (hs.2 b (Nat.ne_of_lt (Nat.lt_of_lt_of_le (Heap.lt_size e) I.ok.above))).trans (I.base.keep b o e n hb hx)
    · obtain ⟨sl, e1⟩ := I.base.slot b o e n hb hx
      exact ⟨sl, (hs.2 b (Nat.ne_of_lt (Nat.lt_of_lt_of_le (Heap.lt_size e) I.ok.above))).trans e1⟩
    · obtain ⟨o', e1⟩ := I.base.there b o e hx
      exact ⟨o', (hs.2 b (Nat.ne_of_lt (Nat.lt_of_lt_of_le (Heap.lt_size e) I.ok.above))).trans e1⟩
    · by_cases hj : j = i
      · subst hj
        rw [hi] at e1; cases e1
        rw [List.getElem?_set_self hiσ] at e2
        cases e2
        exact ⟨u, r, .inl ⟨hk, by simp⟩⟩
      · rw [List.getElem?_set_ne (Ne.symm hj)] at e2
        obtain ⟨u', r', q⟩ := hl j y v' e1 e2 e3
        refine ⟨u', r', ?_⟩
        rcases q with ⟨k, e⟩ | ⟨k, c, e, z⟩
        · refine .inl ⟨k, ?_⟩
          have : y ≠ x := fun e => hj (nodup_ix hN e1 (e ▸ hi))
          simp [this, e]
        · exact .inr ⟨k, c, e, z.sameBut hs (cne y c e)⟩
    · obtain ⟨w', z⟩ := I.cell y c e
      exact ⟨w', z.sameBut hs (cne y c e)⟩
    · obtain ⟨e, n, ne, nf, d⟩ := I.pin p hp
      exact ⟨(hs.2 p.1 ne).trans e, n, ne, nf, d⟩
  · have hfn : X.fn x = true := by
      rcases hf with z | z
      · exact z
      · rw [z] at hk; cases hk
    obtain ⟨c, hc⟩ := I.ok.has x (.inl hk)
    obtain ⟨w', z⟩ := I.cell x c hc
    refine wpAny_storeName_cell I.ok.kind hk hc z (fun h' hc' hs => ?_)
    obtain ⟨oc, hoc, hocd⟩ := id z
    refine h { s with heap := h' } ⟨I.ok, I.os, I.bare, ⟨fun b o e n hb hx => ?_, fun b o e n hb hx => ?_, I.base.free, fun b o e hx => ?_, I.base.tups, I.base.frzs, fun b ps e => ⟨(I.base.tbls b ps e).1, fun d o e1 x1 => let z := (I.base.tbls b ps e).2 d o e1 x1; ⟨z.1, (hs.2 d (ne_of_none z.1 (I.freeC x c hc))).trans z.2⟩⟩⟩, ⟨m, hn.sameBut hs (Ne.symm (cne x c hc)), fun j y v' e1 e2 e3 => ?_⟩, fun y c' e => ?_, I.free, I.freeC, fun p hp => ?_, tracked ⟨oc, hoc, I.freeC x c hc⟩ hs, by simpa using I.len⟩ ⟨c, hs, .inr hc⟩
    · exact (hs.2 b (Nat.ne_of_lt (Nat.lt_of_lt_of_le (Heap.lt_size e) (I.ok.cab x c hfn hc)))).trans (I.base.keep b o e n hb hx)
    · obtain ⟨sl, e1⟩ := I.base.slot b o e n hb hx
      exact ⟨sl, (hs.2 b (Nat.ne_of_lt (Nat.lt_of_lt_of_le (Heap.lt_size e) (I.ok.cab x c hfn hc)))).trans e1⟩
    · obtain ⟨o', e1⟩ := I.base.there b o e hx
      exact ⟨o', (hs.2 b (Nat.ne_of_lt (Nat.lt_of_lt_of_le (Heap.lt_size e) (I.ok.cab x c hfn hc)))).trans e1⟩
    · by_cases hj : j = i
      · subst hj
        rw [hi] at e1; cases e1
        rw [List.getElem?_set_self hiσ] at e2
        cases e2
        exact ⟨u, r, .inr ⟨.inl hk, c, hc, hc'⟩⟩
      · rw [List.getElem?_set_ne (Ne.symm hj)] at e2
        obtain ⟨u', r', q⟩ := hl j y v' e1 e2 e3
        refine ⟨u', r', ?_⟩
        rcases q with q | ⟨k, c', e, z'⟩
        · exact .inl q
        · refine .inr ⟨k, c', e, z'.sameBut hs ?_⟩
          rintro rfl
          exact hj (nodup_ix hN e1 (I.ok.inj _ _ _ e hc ▸ hi))
    · by_cases hcc : c' = c
      · subst hcc; exact ⟨_, hc'⟩
      · obtain ⟨w2, z2⟩ := I.cell y c' e
        exact ⟨w2, z2.sameBut hs hcc⟩
    · obtain ⟨e, n, ne, nf, d⟩ := I.pin p hp
      refine ⟨(hs.2 p.1 ?_).trans e, n, ne, nf, d⟩
      intro q
      rw [q, hoc] at e
      have q' : oc = p.2 := Option.some.inj e
      exact d w' (by rw [← q']; exact hocd)
theorem store_ok {M : Model} {A : Around} {E : Value → Shared → Prop} {i : Nat} {x : Str} {v : V} {u : Value} {Q : Unit → Shared → Prop} (I : Inv X pins σ H s) (hN : X.N.Nodup) (hi : X.N[i]? = some x) (hx : Loc X.env.scope x) (r : RelV v u)
    (h : ∀ s', Inv X pins (σ.set i (some v)) H s' → Q () s') (hf : X.fn x = true ∨ X.env.scope.names.lookup x = some .local := by first | exact .inl rfl | exact .inr rfl | assumption) : wpAny M A (storeName X.env x u) Q E s :=
  store_ok2 I hN hi hx r (fun s' I' _ => h s' I') hf
theorem Inv.call' {s' : Shared} {ch : List Addr} (I : Inv X pins σ H s) (ho : s'.os = s.os) (u : Un (frs X.stack) ch H H' s.heap s'.heap) (hok : HOk X.prog X.w H' s'.heap) (hg : AllBare s'.gens)
    (hch : ∀ b ∈ ch, (b ∈ X.ex ∨ X.s₀.heap.objs.size ≤ b) ∧ b ≠ X.env.locals ∧ (∀ x c, X.env.cells.lookup x = some c → c ≠ b) ∧ ∀ p ∈ X.pn ++ pins, p.1 ≠ b) : Inv X pins σ H' s' := by
  obtain ⟨h', g', d', t', o'⟩ := s'
  have e : o' = s.os := ho
  subst e
  exact I.call (g' := g') (t' := t') (d' := d') u hok hg hch
end

abbrev XK := Value → Option Addr → Hp → Prop
abbrev St := List (Option V)
abbrev VK := V → Hp → Prop
abbrev TE := St → Hp → VK → Prop
abbrev TT := St → Hp → (Bool → Hp → Prop) → Prop
abbrev TA := St → Hp → (List V → Hp → Prop) → Prop
structure Ends where
  nx : St → Hp → Prop
  rt : VK
  bk : St → Hp → Prop := fun _ _ => False
  ct : St → Hp → Prop := fun _ _ => False
abbrev TS := Ends → St → Hp → Prop

def EP (X : Cx) (pins : List (Addr × Obj)) (σ : St) (Q : VK) (u : Value) (s' : Shared) : Prop := ∃ v H', Inv X pins σ H' s' ∧ RelV v u ∧ Q v H'
def TP (X : Cx) (pins : List (Addr × Obj)) (σ : St) (Q : Bool → Hp → Prop) (b : Bool) (s' : Shared) : Prop := ∃ H', Inv X pins σ H' s' ∧ Q b H'
def AP (X : Cx) (pins : List (Addr × Obj)) (σ : St) (Q : List V → Hp → Prop) (us : List Value) (s' : Shared) : Prop := ∃ vs H', Inv X pins σ H' s' ∧ Vals vs us ∧ Q vs H'
def SP (X : Cx) (pins : List (Addr × Obj)) (D : Ends) (f : Flow) (s' : Shared) : Prop :=
  match f with
  | .next => ∃ σ' H', Inv X pins σ' H' s' ∧ D.nx σ' H'
  | .brk => ∃ σ' H', Inv X pins σ' H' s' ∧ D.bk σ' H'
  | .cont => ∃ σ' H', Inv X pins σ' H' s' ∧ D.ct σ' H'
  | .ret u => ∃ v σ' H', Inv X pins σ' H' s' ∧ RelV v u ∧ D.rt v H'

def PE (X : Cx) (e : Expr) (t : TE) : Prop :=
  ∀ (pins : List (Addr × Obj)) (s : Shared) (σ : St) (H : Hp) (Q : VK), Inv X pins σ H s → t σ H Q → wpAny (model X.prog X.w) X.A (eval e X.env) (EP X pins σ Q) X.xe s
def PT (X : Cx) (e : Expr) (t : TT) : Prop :=
  ∀ (pins : List (Addr × Obj)) (s : Shared) (σ : St) (H : Hp) (Q : Bool → Hp → Prop), Inv X pins σ H s → t σ H Q → wpAny (model X.prog X.w) X.A (isTrue e X.env (eval e X.env)) (TP X pins σ Q) X.xe s
def PW (X : Cx) (e : Expr) (t : TT) : Prop :=
  ∀ (whole : Sem Value) (pins : List (Addr × Obj)) (s : Shared) (σ : St) (H : Hp) (Q : Bool → Hp → Prop), Inv X pins σ H s → t σ H Q → wpAny (model X.prog X.w) X.A (isTrue e X.env whole) (TP X pins σ Q) X.xe s
theorem PW.pt {X : Cx} {e : Expr} {t : TT} (h : PW X e t) : PT X e t := h _
def PA (X : Cx) (es : List Expr) (t : TA) : Prop :=
  ∀ (pos : Pos) (pins : List (Addr × Obj)) (s : Shared) (σ : St) (H : Hp) (Q : List V → Hp → Prop), Inv X pins σ H s → t σ H Q → wpAny (model X.prog X.w) X.A (spliced (backTo pos (starEach es X.env))) (AP X pins σ Q) X.xe s
def PS (X : Cx) (st : Stmt) (t : TS) : Prop :=
  ∀ (pins : List (Addr × Obj)) (s : Shared) (σ : St) (H : Hp) (D : Ends), Inv X pins σ H s → t D σ H → wpAny (model X.prog X.w) X.A (exec st X.env) (SP X pins D) X.xe s
def PSs (X : Cx) (st : List Stmt) (t : TS) : Prop :=
  ∀ (pins : List (Addr × Obj)) (s : Shared) (σ : St) (H : Hp) (D : Ends), Inv X pins σ H s → t D σ H → wpAny (model X.prog X.w) X.A (execs st X.env) (SP X pins D) X.xe s
theorem thn {α : Type} {t : Sem α} {Q Q' : α → Shared → Prop} {M : Model} {A : Around} {E : Value → Shared → Prop} {s : Shared} (h : wpAny M A t Q E s) (hQ : ∀ a s, Q a s → Q' a s) : wpAny M A t Q' E s := wpAny_mono h hQ fun _ _ x => x
end L2

namespace L2
open PySem PySem.Spec PyProof.Rows
section
variable {X : Cx}

inductive TVar (i : Nat) (σ : St) (H : Hp) (Q : VK) : Prop
  | mk (v : V) (e : σ[i]? = some (some v)) (q : Q v H) : TVar i σ H Q
def tVar (i : Nat) : TE := TVar i
def tC (v : V) : TE := fun _ H Q => Q v H
theorem pe_var {i : Nat} {x : Str} {pos : Pos} (hN : X.N[i]? = some x) (hv : Vis X.env.scope x) (hd : (x == ("__debug__" : Str)) = false := by decide) (hcd : (x == ("__classdict__" : Str)) = false := by decide) : PE X (.Name x pos) (tVar i) := by
  intro pins s σ H Q I h
  obtain ⟨v, e, h⟩ := h
  obtain ⟨m, hn, hl⟩ := I.loc
  obtain ⟨u, r, l⟩ := hl i x v hN e hv
  have fin : EP X pins σ Q u s := ⟨v, H, I, r, h⟩
  rcases l with ⟨hk, hm⟩ | ⟨hk, c, hc, hcell⟩
  · exact wpAny_Name (wpAny_loadName_local I.ok.kind hk hn hm fin) hd
  · rcases hk with hk | hk
    · exact wpAny_Name (wpAny_loadName_cell I.ok.kind hk hc hcell fin) hd
    · exact wpAny_Name (wpAny_loadName_free I.ok.kind hk hc hcell fin hcd) hd
theorem pe_int {i j pos} : PE X (.Constant (.int i) j pos) (tC (.int i)) := fun _ _ _ H _ I h => wpAny_Constant_int ⟨.int i, H, I.tok _, ⟨_, rfl⟩, h⟩
theorem pe_bl {b j pos} : PE X (.Constant (.bool b) j pos) (tC (.bl b)) := fun _ _ _ H _ I h => Constant_bool ⟨.bl b, H, I, rfl, h⟩
theorem pe_str {x j pos} : PE X (.Constant (.str x) j pos) (tC (.str x)) := fun _ _ _ H _ I h => Calls.Constant_str ⟨.str x, H, I.tok _, ⟨_, rfl⟩, h⟩

def Gl (X : Cx) (x : Str) : Prop := X.env.kindOf x = some .globalImplicit
theorem ld_glob {E : Value → Shared → Prop} {pins : List (Addr × Obj)} {s : Shared} {σ : St} {H : Hp} {x : Str} {u : Value} {pos : Pos} {Q : Value → Shared → Prop} (I : Inv X pins σ H s) (hg : Gl X x) (hm : X.mg x = some u) (h : Q u s)
    (hd : (x == ("__debug__" : Str)) = false := by decide) : wpAny (model X.prog X.w) X.A (eval (.Name x pos) X.env) Q E s :=
  Calls.Name_function_global I.ok.kind hg (Calls.loadGlobal_global (by rw [I.ok.glob]; exact I.mod.glob.keeps I.bk) hm h) hd
theorem ld_blt {E : Value → Shared → Prop} {pins : List (Addr × Obj)} {s : Shared} {σ : St} {H : Hp} {x : Str} {u : Value} {pos : Pos} {Q : Value → Shared → Prop} (I : Inv X pins σ H s) (hg : Gl X x) (hm : X.mg x = none) (hv : bootBuiltins x = some u) (h : Q u s)
    (hn : x ≠ "__name__" := by decide) (hd : (x == ("__debug__" : Str)) = false := by decide) : wpAny (model X.prog X.w) X.A (eval (.Name x pos) X.env) Q E s := by
  obtain ⟨mb, h1, h2⟩ := I.mod.blt
  exact Calls.Name_function_global I.ok.kind hg (Calls.loadGlobal_builtin (by rw [I.ok.glob]; exact I.mod.glob.keeps I.bk) hm (by rw [I.ok.blt]; exact h1.keeps I.bk) ((h2 x hn).trans hv) h) hd
theorem pe_bltn {x : Str} {v : V} {u : Value} {pos : Pos} (hg : Gl X x) (hm : X.mg x = none) (hv : bootBuiltins x = some u) (r : RelV v u) (hn : x ≠ "__name__" := by decide) (hd : (x == ("__debug__" : Str)) = false := by decide) : PE X (.Name x pos) (tC v) :=
  fun _ _ _ H _ I h => ld_blt I hg hm hv ⟨v, H, I, r, h⟩ hn hd

inductive OfBl (x : V) (H : Hp) (Q : Bool → Hp → Prop) : Prop
  | mk (c : Bool) (e : x = .bl c) (q : Q c H) : OfBl x H Q
inductive OfI (x : V) (H : Hp) (Q : Int → Hp → Prop) : Prop
  | mk (i : Int) (e : x = .int i) (q : Q i H) : OfI x H Q
inductive NewOb (n : Nat) (o : HO) (H : Hp) (Q : VK) : Prop
  | mk (l : n ≤ sizeLine) (q : ∀ p, H p = none → Q (.ref p) (upd H p o)) : NewOb n o H Q
variable {a b : Expr} {ta tb : TE} {pos : Pos}
def tB (t : TE) : TT := fun σ H Q => t σ H fun x H1 => OfBl x H1 Q
theorem pt_val {e : Expr} {t : TE} (h : PE X e t) (he : ∀ whole, isTrue e X.env whole = (do let v ← whole; standAt e.pos; holding [v] (truthy v)) := by intro _; rfl) : PT X e (tB t) := by
  intro pins s σ H Q I hw
  refine isTrue_plain (thn (h pins s σ H _ I hw) fun v s1 ⟨x, H1, I1, r1, q1⟩ => ?_) (he _)
  obtain ⟨d, rfl, q⟩ := q1
  cases r1
  exact wpAny_truthy_bool ⟨H1, I1, q⟩

variable {tA tB' : TT} {rest : List Expr}
def tAnd (t u : TT) : TT := fun σ H Q => t σ H fun c H1 => if c = true then u σ H1 Q else Q false H1
def tOr (t u : TT) : TT := fun σ H Q => t σ H fun c H1 => if c = true then Q true H1 else u σ H1 Q
def tNot (t : TT) : TT := fun σ H Q => t σ H fun c H1 => Q (!c) H1
theorem pw_and1 (ha : PT X a tA) : PW X (.BoolOp .And [a] pos) tA := by
  intro wh pins s σ H Q I h
  refine isTrue_and (thn (ha pins s σ H Q I h) fun c s1 e => ?_)
  cases c with
  | true => exact isTrue_and_nil e
  | false => exact e
theorem pw_or1 (ha : PT X a tA) : PW X (.BoolOp .Or [a] pos) tA := by
  intro wh pins s σ H Q I h
  refine isTrue_or (thn (ha pins s σ H Q I h) fun c s1 e => ?_)
  cases c with
  | false => exact isTrue_or_nil e
  | true => exact e
theorem pw_and (ha : PT X a tA) (hb : PW X (.BoolOp .And (b :: rest) pos) tB') : PW X (.BoolOp .And (a :: b :: rest) pos) (tAnd tA tB') := by
  intro wh pins s σ H Q I h
  refine isTrue_and (thn (ha pins s σ H _ I h) fun c s1 ⟨H1, I1, q1⟩ => ?_)
  cases c with
  | true => exact hb wh pins s1 σ H1 Q I1 q1
  | false => exact ⟨H1, I1, q1⟩
theorem pw_or (ha : PT X a tA) (hb : PW X (.BoolOp .Or (b :: rest) pos) tB') : PW X (.BoolOp .Or (a :: b :: rest) pos) (tOr tA tB') := by
  intro wh pins s σ H Q I h
  refine isTrue_or (thn (ha pins s σ H _ I h) fun c s1 ⟨H1, I1, q1⟩ => ?_)
  cases c with
  | true => exact ⟨H1, I1, q1⟩
  | false => exact hb wh pins s1 σ H1 Q I1 q1
theorem pt_not (ha : PT X a tA) : PT X (.UnaryOp .Not a pos) (tNot tA) := by
  intro pins s σ H Q I h
  exact isTrue_not (ha pins s σ H (fun c H1 => Q (!c) H1) I h)
def tAndV (ta tb : TE) : TE := fun σ H Q => ta σ H fun x H1 => OfBl x H1 fun c H1 => if c = true then tb σ H1 Q else Q (.bl false) H1
def tNotV (ta : TE) : TE := fun σ H Q => ta σ H fun x H1 => OfBl x H1 fun c H1 => Q (.bl (!c)) H1
theorem pe_one {op} {t : TE} (h : PE X a t) : PE X (.BoolOp op [a] pos) t := fun pins s σ H Q I hw => BoolOp_one (h pins s σ H Q I hw)
theorem pe_and (ha : PE X a ta) (hb : PE X (.BoolOp .And (b :: rest) pos) tb) : PE X (.BoolOp .And (a :: b :: rest) pos) (tAndV ta tb) := by
  intro pins s σ H Q I h
  refine BoolOp_and (thn (ha pins s σ H _ I h) fun v s1 ⟨x, H1, I1, r1, q1⟩ => ?_)
  obtain ⟨c, rfl, q1⟩ := q1
  cases r1
  refine wpAny_truthy_bool ?_
  cases c with
  | true => exact hb pins s1 σ H1 Q I1 q1
  | false => exact ⟨.bl false, H1, I1, rfl, q1⟩
theorem pe_not (ha : PE X a ta) : PE X (.UnaryOp .Not a pos) (tNotV ta) := by
  intro pins s σ H Q I h
  refine UnaryOp_ (thn (ha pins s σ H _ I h) fun v s1 ⟨x, H1, I1, r1, q1⟩ => ?_)
  obtain ⟨c, rfl, q1⟩ := q1
  cases r1
  exact not_of (wpAny_truthy_bool ⟨.bl (!c), H1, I1, rfl, q1⟩)
def tIf (t : TT) (ta tb : TE) : TE := fun σ H Q => t σ H fun c H1 => if c = true then ta σ H1 Q else tb σ H1 Q
theorem pe_ifExp {c : Expr} (hc : PT X c tA) (ha : PE X a ta) (hb : PE X b tb) : PE X (.IfExp c a b pos) (tIf tA ta tb) := by
  intro pins s σ H Q I h
  refine wpAny_IfExp (thn (hc pins s σ H _ I h) fun d s1 ⟨H1, I1, q1⟩ => ?_)
  cases d with
  | true => exact ha pins s1 σ H1 Q I1 q1
  | false => exact hb pins s1 σ H1 Q I1 q1
end
end L2

namespace L2
open PySem PySem.Spec PyProof.Rows

def SqL (K : PySem.W.Frag) (H : Hp) (a : Addr) (xs : List V) : Prop :=
  Rd H a (.lst xs) ∨
    ∃ (o : Obj) (its : Array Value) (n : Nat), K.lookup a = some o ∧ o.cls = .type "list" ∧ o.dict = none ∧ o.data = .seq its n ∧ its.size ≤ sizeLine ∧ Vals xs its.toList
def SqT (K : PySem.W.Frag) (H : Hp) (a : Addr) (xs : List V) : Prop :=
  Rd H a (.tup xs) ∨
    ∃ (o : Obj) (its : Array Value) (n : Nat), K.lookup a = some o ∧ o.cls = .type "tuple" ∧ o.data = .seq its n ∧ its.size ≤ sizeLine ∧ Vals xs its.toList
def absV : Value → Option V
  | .none => some .non
  | .bool b => some (.bl b)
  | .int i _ => some (.int i)
  | .str x _ => some (.str x)
  | .bytes b _ => some (.byt b)
  | .float b _ => some (.flt b)
  | .ref a => some (.ref a)
  | .type n => some (.ty n)
  | _ => none
theorem RelV.abs {x : V} {u : Value} (r : RelV x u) : absV u = some x := by
  cases x with
  | non => cases r; rfl
  | bl _ => cases r; rfl
  | int _ => obtain ⟨t, rfl⟩ := r; rfl
  | str _ => obtain ⟨t, rfl⟩ := r; rfl
  | byt _ => obtain ⟨t, rfl⟩ := r; rfl
  | flt _ => obtain ⟨t, rfl⟩ := r; rfl
  | ref _ => cases r; rfl
  | ty _ => cases r; rfl
theorem RelV.inj {x y : V} {u : Value} (r : RelV x u) (q : RelV y u) : x = y := Option.some.inj (r.abs.symm.trans q.abs)
theorem Vals.inj : ∀ {xs ys : List V} {us : List Value}, Vals xs us → Vals ys us → xs = ys
  | _, _, _, .nil, .nil => rfl
  | _, _, _, .cons r t, .cons r' t' => by rw [r.inj r', Vals.inj t t']
section
variable {X : Cx} {pins : List (Addr × Obj)} {σ : St} {H : Hp} {s : Shared} {a : Addr} {xs ys : List V}
theorem SqL.of {K : PySem.W.Frag} (h : H a = some (.lst xs)) : SqL K H a xs := .inl (.inl h)
theorem SqT.of {K : PySem.W.Frag} (h : H a = some (.tup xs)) : SqT K H a xs := .inl (.inl h)
theorem Inv.list (I : Inv X pins σ H s) (h : SqL X.K H a xs) : ∃ its : List Value, Vals xs its ∧ PlainL s.heap a its.toArray ∧ xs.length ≤ sizeLine := by
  rcases h with h | ⟨o, its, n, hk, hc, hd, hs, hz, r⟩
  · obtain ⟨z, its, n, r, e⟩ := h.ok I.hok
    exact ⟨its, r, ⟨_, n, e, rfl, rfl, rfl⟩, z⟩
  · refine ⟨its.toList, r, ⟨o, n, I.kIn a o hk, hc, hd, by simpa using hs⟩, ?_⟩
    have e := r.length
    simp only [Array.length_toList] at e
    (first | lia | omega)
theorem Inv.tuple (I : Inv X pins σ H s) (h : SqT X.K H a xs) : ∃ its : List Value, Vals xs its ∧ IsTup s.heap a its.toArray ∧ xs.length ≤ sizeLine := by
  rcases h with h | ⟨o, its, n, hk, hc, hs, hz, r⟩
  · obtain ⟨z, its, r, p⟩ := h.ok I.hok
    exact ⟨its, r, p.tup, z⟩
  · refine ⟨its.toList, r, ⟨o, I.kIn a o hk, hc, n, by simpa using hs⟩, ?_⟩
    have e := r.length
    simp only [Array.length_toList] at e
    (first | lia | omega)
theorem Inv.list_inj (I : Inv X pins σ H s) (h : SqL X.K H a xs) (h' : SqL X.K H a ys) : xs = ys := by
  obtain ⟨its, r, ⟨o, n, e, _, _, d⟩, _⟩ := I.list h
  obtain ⟨its', r', ⟨o', n', e', _, _, d'⟩, _⟩ := I.list h'
  rw [e] at e'; cases e'
  rw [d] at d'
  injection d' with d1 _
  have : its = its' := by simpa using congrArg Array.toList d1
  subst this
  exact r.inj r'
theorem Inv.tuple_inj (I : Inv X pins σ H s) (h : SqT X.K H a xs) (h' : SqT X.K H a ys) : xs = ys := by
  obtain ⟨its, r, ⟨o, e, _, n, d⟩, _⟩ := I.tuple h
  obtain ⟨its', r', ⟨o', e', _, n', d'⟩, _⟩ := I.tuple h'
  rw [e] at e'; cases e'
  rw [d] at d'
  injection d' with d1 _
  have : its = its' := by simpa using congrArg Array.toList d1
  subst this
  exact r.inj r'
end

abbrev Cx.wish (X : Cx) (E : Value → Shared → Prop) : Cx := { X with xe := E }
abbrev Cx.nox (X : Cx) : Cx := X.wish fun _ _ => False
theorem Cx.Ok.wish {X : Cx} (ok : X.Ok) (E : Value → Shared → Prop) : (X.wish E).Ok :=
  ⟨ok.mod, ok.kind, ok.glob, ok.blt, ok.above, ok.inj, ok.has, ok.cab, ok.hd, ok.frames, ok.stk, ok.exf, ok.bs, ok.bsz, ok.noex, ok.exfs, ok.funs, ok.frf⟩
theorem Cx.Ok.unwish {X : Cx} {E : Value → Shared → Prop} (ok : (X.wish E).Ok) : X.Ok :=
  ⟨ok.mod, ok.kind, ok.glob, ok.blt, ok.above, ok.inj, ok.has, ok.cab, ok.hd, ok.frames, ok.stk, ok.exf, ok.bs, ok.bsz, ok.noex, ok.exfs, ok.funs, ok.frf⟩
section
variable {X : Cx} {pins : List (Addr × Obj)} {σ : St} {H : Hp} {s : Shared} {E : Value → Shared → Prop}
theorem Inv.wish (I : Inv X pins σ H s) (E : Value → Shared → Prop) : Inv (X.wish E) pins σ H s := ⟨I.ok.wish E, I.os, I.bare, I.base, I.loc, I.cell, I.free, I.freeC, I.pin, I.hok, I.len⟩
theorem Inv.unwish (I : Inv (X.wish E) pins σ H s) : Inv X pins σ H s := ⟨I.ok.unwish, I.os, I.bare, I.base, I.loc, I.cell, I.free, I.freeC, I.pin, I.hok, I.len⟩
theorem SP.unwish {D : Ends} {f : Flow} {s' : Shared} (h : SP (X.wish E) pins D f s') : SP X pins D f s' := by
  cases f with
  | next => obtain ⟨σ', H', I, q⟩ := h; exact ⟨σ', H', I.unwish, q⟩
  | brk => obtain ⟨σ', H', I, q⟩ := h; exact ⟨σ', H', I.unwish, q⟩
  | cont => obtain ⟨σ', H', I, q⟩ := h; exact ⟨σ', H', I.unwish, q⟩
  | ret u => obtain ⟨v, σ', H', I, r, q⟩ := h; exact ⟨v, σ', H', I.unwish, r, q⟩
theorem PSs.nox {st : List Stmt} {t : TS} (h : PSs X.nox st t) : PSs X st t := fun pins s σ H D I hw =>
  wpAny_mono (h pins s σ H D (I.wish _) hw) (fun _ _ q => q.unwish) fun _ _ z => False.elim z
end

section
variable {X : Cx} {st : Stmt} {rest : List Stmt} {t u : TS} {e : Expr} {te : TE} {pos : Pos}
def tNext : TS := fun D σ H => D.nx σ H
def tSeq (t u : TS) : TS := fun D σ H => t { D with nx := u D } σ H
theorem pss_nil : PSs X [] tNext := fun _ _ σ H _ I h => wpAny_execs_nil ⟨σ, H, I, h⟩
theorem pss_cons (h1 : PS X st t) (h2 : PSs X rest u) : PSs X (st :: rest) (tSeq t u) := by
  intro pins s σ H D I h
  refine wpAny_execs_cons (thn (h1 pins s σ H { D with nx := u D } I h) fun f s1 q => ?_)
  cases f with
  | next =>
    obtain ⟨σ', H', I', q⟩ := q
    exact h2 pins s1 σ' H' D I' q
  | ret v => exact q
  | brk => exact q
  | cont => exact q
theorem pss_one (h1 : PS X st t) : PSs X [st] t := by
  intro pins s σ H D I h
  refine wpAny_execs_cons (thn (h1 pins s σ H D I h) fun f s1 q => ?_)
  cases f with
  | next => exact wpAny_execs_nil q
  | ret v => exact q
  | brk => exact q
  | cont => exact q
theorem Inv.quiet {pins : List (Addr × Obj)} {σ : St} {H : Hp} {s : Shared} (I : Inv X pins σ H s) : interactive X.env = false := by simp [interactive, I.ok.kind]
def tDrop (te : TE) : TS := fun D σ H => te σ H fun _ H1 => D.nx σ H1
theorem ps_expr (he : PE X e te) (hs : swapsWith e none pos.line X.env = pure false := by rfl) : PS X (.Expr e pos) (tDrop te) := by
  intro pins s σ H D I h
  exact wpAny_Expr_any (thn (he pins s σ H _ I h) fun v s1 ⟨x, H1, I1, r1, q1⟩ => ⟨σ, H1, I1, q1⟩) I.quiet hs
def tRet (te : TE) : TS := fun D σ H => te σ H D.rt
theorem ps_ret (he : PE X e te) : PS X (.Return (some e) pos) (tRet te) := by
  intro pins s σ H D I h
  exact wpAny_Return_some (thn (he pins s σ H _ I h) fun v s1 ⟨x, H1, I1, r1, q1⟩ => ⟨x, σ, H1, I1, r1, q1⟩)
def tIfS (c : TT) (t u : TS) : TS := fun D σ H => c σ H fun b H1 => if b = true then t D σ H1 else u D σ H1
theorem ps_if {c : Expr} {a b : List Stmt} {tc : TT} (hc : PT X c tc) (ha : PSs X a t) (hb : PSs X b u) : PS X (.If c a b pos) (tIfS tc t u) := by
  intro pins s σ H D I h
  refine wpAny_If (thn (hc pins s σ H _ I h) fun d s1 ⟨H1, I1, q1⟩ => ?_)
  cases d with
  | true => exact ha pins s1 σ H1 D I1 q1
  | false => exact hb pins s1 σ H1 D I1 q1
def tNever : TS := fun _ _ _ => False
theorem ps_never : PS X st tNever := fun _ _ _ _ _ _ h => h.elim
end

abbrev TG := V → St → Hp → (St → Hp → Prop) → Prop
abbrev TGs := List V → St → Hp → (St → Hp → Prop) → Prop
def PG (X : Cx) (target : Expr) (t : TG) : Prop :=
  ∀ (pins : List (Addr × Obj)) (s : Shared) (σ : St) (H : Hp) (v : V) (u : Value) (Q : St → Hp → Prop), Inv X pins σ H s → RelV v u → t v σ H Q →
    wpAny (model X.prog X.w) X.A (assign target X.env u) (fun _ s' => ∃ σ' H', Inv X pins σ' H' s' ∧ Q σ' H') X.xe s
def PGs (X : Cx) (ts : List Expr) (t : TGs) : Prop :=
  ∀ (pins : List (Addr × Obj)) (s : Shared) (σ : St) (H : Hp) (vs : List V) (us : List Value) (Q : St → Hp → Prop), Inv X pins σ H s → Vals vs us → t vs σ H Q →
    wpAny (model X.prog X.w) X.A (assignInOrder ((assignEach ts X.env).map (·.2)) us) (fun _ s' => ∃ σ' H', Inv X pins σ' H' s' ∧ Q σ' H') X.xe s
abbrev TSet := V → V → V → Hp → (Hp → Prop) → Prop
def PSet (X : Cx) (t : TSet) : Prop :=
  ∀ (pins : List (Addr × Obj)) (s : Shared) (σ : St) (H : Hp) (o i v : V) (ov iv u : Value) (Q : Hp → Prop), Inv X pins σ H s → RelV o ov → RelV i iv → RelV v u → t o i v H Q →
    wpAny (model X.prog X.w) X.A (setItem ov iv u) (fun _ s' => ∃ H', Inv X pins σ H' s' ∧ Q H') X.xe s
abbrev TIp := V → V → Hp → VK → Prop
def PIp (X : Cx) (op : Operator) (t : TIp) : Prop :=
  ∀ (pins : List (Addr × Obj)) (s : Shared) (σ : St) (H : Hp) (x y : V) (v u : Value) (Q : VK), Inv X pins σ H s → RelV x v → RelV y u → t x y H Q →
    wpAny (model X.prog X.w) X.A (inplaceOp op v u) (EP X pins σ Q) X.xe s
section
variable {X : Cx} {pos : Pos}
def gName (i : Nat) : TG := fun v σ H Q => Q (σ.set i (some v)) H
theorem pg_name {i : Nat} {x : Str} (hN : X.N.Nodup) (hi : X.N[i]? = some x) (hx : Loc X.env.scope x) (hf : X.fn x = true ∨ X.env.scope.names.lookup x = some .local := by first | exact .inl rfl | exact .inr rfl | assumption) : PG X (.Name x pos) (gName i) := by
  intro pins s σ H v u Q I r h
  exact wpAny_assign_Name (store_ok I hN hi hx r (fun s' I' => ⟨_, H, I', h⟩) hf)
def gNil : TGs := fun vs σ H Q => vs = [] ∧ Q σ H
def gCons (t : TG) (u : TGs) : TGs := fun vs σ H Q => ∃ v r, vs = v :: r ∧ t v σ H fun σ' H' => u r σ' H' Q
theorem pgs_nil : PGs X [] gNil := by
  intro pins s σ H vs us Q I r h
  obtain ⟨e, h⟩ := h
  subst e
  cases r
  exact assignInOrder_nil ⟨σ, H, I, h⟩
theorem pgs_cons {e : Expr} {es : List Expr} {t : TG} {u : TGs} (h1 : PG X e t) (h2 : PGs X es u)
    (hs : (assignEach (e :: es) X.env).map (·.2) = assign e X.env :: (assignEach es X.env).map (·.2) := by rfl) : PGs X (e :: es) (gCons t u) := by
  intro pins s σ H vs us Q I r h
  obtain ⟨v, vr, e1, h⟩ := h
  subst e1
  cases r with
  | cons r rr =>
    rw [hs]
    refine assignInOrder_cons (thn (h1 pins s σ H _ _ _ I r h) fun _ s1 ⟨σ1, H1, I1, q1⟩ => ?_)
    exact h2 pins s1 σ1 H1 _ _ Q I1 rr q1
def gTup (K : PySem.W.Frag) (n : Nat) (t : TGs) : TG := fun v σ H Q => ∃ a xs, v = .ref a ∧ SqT K H a xs ∧ xs.length = n ∧ t xs σ H Q
theorem pg_tup {es : List Expr} {k : Nat} {t : TGs} {n : Nat} (hc : X.calm = true) (h : PGs X es t)
    (hn : (assignEach es X.env).length = n := by rfl) (hst : (assignEach es X.env).findIdx? (·.1) = none := by rfl) : PG X (.Tuple es k pos) (gTup X.K n t) := by
  intro pins s σ H v u Q I r hw
  obtain ⟨a, xs, e1, hq, hl, hw⟩ := hw
  subst e1
  cases r
  obtain ⟨its, rv, ht, hz⟩ := I.tuple hq
  refine assign_Tuple_tuple (I.ok.hd hc) ht (by simp [hn, ← hl, rv.length]) hst fun h' hx => ?_
  have I1 : Inv X pins σ H { s with heap := h' } := I.kept (t' := s.toks) fun b o e => hx b o (Nat.ne_of_lt (Heap.lt_size e)) e
  exact h pins _ σ H xs _ Q I1 (by simpa using rv) hw
def gSub (to ti : TE) (t : TSet) : TG := fun v σ H Q => to σ H fun o H1 => ti σ H1 fun i H2 => t o i v H2 fun H3 => Q σ H3
theorem pg_sub {o i : Expr} {to ti : TE} {t : TSet} (ho : PE X o to) (hi : PE X i ti) (hs : PSet X t)
    (ha : ∀ v, assign (.Subscript o i pos) X.env v = (do
      let ov ← holding [v] (eval o X.env)
      let iv ← holding [v, ov] (eval i X.env)
      standAt pos
      holding [v, ov, iv] (setItem ov iv v)
      release [v, ov, iv] []) := by intro _; rfl) : PG X (.Subscript o i pos) (gSub to ti t) := by
  intro pins s σ H v u Q I r h
  rw [ha]
  refine wpAny_bind (wpAny_holding (thn (ho pins s σ H _ I h) fun ov s1 ⟨x, H1, I1, r1, q1⟩ => ?_))
  refine wpAny_bind (wpAny_holding (thn (hi pins s1 σ H1 _ I1 q1) fun iv s2 ⟨y, H2, I2, r2, q2⟩ => ?_))
  refine wpAny_bind (wpAny_standAt (wpAny_bind (wpAny_holding (thn (hs pins s2 σ H2 x y v ov iv u _ I2 r1 r2 r q2) fun _ s3 ⟨H3, I3, q3⟩ => ?_))))
  exact wpAny_release ⟨σ, H3, I3, q3⟩
def tAsg (te : TE) (g : TG) : TS := fun D σ H => te σ H fun x H1 => g x σ H1 D.nx
theorem ps_asg {tg e : Expr} {te : TE} {g : TG} (he : PE X e te) (hg : PG X tg g) (hs : swapsWithSole [tg] e pos.line X.env = pure false := by rfl) (hw : swappedStores [tg] e X.env = pure none := by rfl)
    (h1 : (assignEach [tg] X.env).map (·.2) = [assign tg X.env] := by rfl) : PS X (.Assign [tg] e pos) (tAsg te g) := by
  intro pins s σ H D I h
  refine wpAny_Assign_stores (thn (he pins s σ H _ I h) fun v s1 ⟨x, H1, I1, r1, q1⟩ => ?_) hs hw
  rw [h1]
  exact thn (hg pins s1 σ H1 x v _ I1 r1 q1) fun _ s2 q => q
theorem ps_set {i : Nat} {x : Str} {e : Expr} {te : TE} {pos' : Pos} (hN : X.N.Nodup) (hi : X.N[i]? = some x) (hx : Loc X.env.scope x) (he : PE X e te) (hs : swapsWith e (some (.Name x pos')) pos.line X.env = pure false := by rfl) (hf : X.fn x = true ∨ X.env.scope.names.lookup x = some .local := by first | exact .inl rfl | exact .inr rfl | assumption) :
    PS X (.Assign [.Name x pos'] e pos) (tAsg te (gName i)) := by
  intro pins s σ H D I h
  refine wpAny_Assign_Name (thn (he pins s σ H _ I h) fun v s1 ⟨y, H1, I1, r1, q1⟩ => ?_) hs
  exact store_ok I1 hN hi hx r1 (fun s2 I2 => ⟨_, H1, I2, q1⟩) hf
def tAugS (to ti te : TE) (tget : V → V → Hp → VK → Prop) (tip : TIp) (tset : TSet) : TS := fun D σ H => to σ H fun o H1 => ti σ H1 fun i H2 => tget o i H2 fun x H3 => te σ H3 fun y H4 => tip x y H4 fun z H5 => tset o i z H5 fun H6 => D.nx σ H6
def PGet (X : Cx) (t : V → V → Hp → VK → Prop) : Prop :=
  ∀ (pins : List (Addr × Obj)) (s : Shared) (σ : St) (H : Hp) (o i : V) (ov iv : Value) (Q : VK), Inv X pins σ H s → RelV o ov → RelV i iv → t o i H Q →
    wpAny (model X.prog X.w) X.A (getItem ov iv) (EP X pins σ Q) X.xe s
theorem ps_augS {o i e : Expr} {to ti te : TE} {tget : V → V → Hp → VK → Prop} {tip : TIp} {tset : TSet} {op : Operator} {tpos : Pos} (ho : PE X o to) (hi : PE X i ti) (hg : PGet X tget) (he : PE X e te) (hp : PIp X op tip) (hs : PSet X tset)
    (ha : ∀ ov iv new, augStore i ov iv new = (do holding [new, ov, iv] (setItem ov iv new); release [new, ov, iv] []; pure .next) := by intros; rfl) : PS X (.AugAssign (.Subscript o i tpos) op e pos) (tAugS to ti te tget tip tset) := by
  intro pins s σ H D I h
  refine wpAny_AugAssign_SubscriptAny (thn (ho pins s σ H _ I h) fun ov s1 ⟨x1, H1, I1, r1, q1⟩ => ?_) ha
  refine thn (hi pins s1 σ H1 _ I1 q1) fun iv s2 ⟨x2, H2, I2, r2, q2⟩ => ?_
  refine thn (hg pins s2 σ H2 x1 x2 ov iv _ I2 r1 r2 q2) fun old s3 ⟨x3, H3, I3, r3, q3⟩ => ?_
  refine thn (he pins s3 σ H3 _ I3 q3) fun v s4 ⟨x4, H4, I4, r4, q4⟩ => ?_
  refine thn (hp pins s4 σ H4 x3 x4 old v _ I4 r3 r4 q4) fun new s5 ⟨x5, H5, I5, r5, q5⟩ => ?_
  exact thn (hs pins s5 σ H5 x1 x2 x5 ov iv new _ I5 r1 r2 r5 q5) fun _ s6 ⟨H6, I6, q6⟩ => ⟨σ, H6, I6, q6⟩
def ipI (f : Int → Int → Int) : TIp := fun x y H Q => ∃ i j, x = .int i ∧ y = .int j ∧ Q (.int (f i j)) H
theorem ip_add : PIp X .Add (ipI fun i j => i + j) := by
  intro pins s σ H x y v u Q I r1 r2 h
  obtain ⟨i, j, e1, e2, q⟩ := h
  subst e1; subst e2
  obtain ⟨t, rfl⟩ := r1
  obtain ⟨t', rfl⟩ := r2
  exact iadd_int ⟨.int _, H, I.tok _, ⟨_, rfl⟩, q⟩
end

section
variable {X : Cx} {pos : Pos}
def tWhile (c : TT) (tb : TS) : TS := fun D σ H => ∃ W : Nat → St → Hp → Prop, (∃ m, W m σ H) ∧ ∀ m σ H, W m σ H →
  c σ H fun b H1 => if b = true then ∃ N : St → Hp → Prop, (∀ σ' H', N σ' H' → ∃ m', m' < m ∧ W m' σ' H') ∧ tb { D with nx := N, ct := N, bk := D.nx } σ H1 else D.nx σ H1
theorem ps_while {c : Expr} {body : List Stmt} {tc : TT} {tb : TS} (hp : PassesOwn (model X.prog X.w) X.A X.env X.xe) (hc : PT X c tc) (hb : PSs X body tb) : PS X (.While c body [] pos) (tWhile tc tb) := by
  intro pins s σ H D I h
  obtain ⟨W, ⟨m0, w0⟩, turn⟩ := h
  refine wpAny_While (codeAny_whileLoop (fun n s' => ∃ σ' H', Inv X pins σ' H' s' ∧ W n σ' H') ?_ m0 ⟨σ, H, I, w0⟩)
  rintro n s1 ⟨σ1, H1, I1, w1⟩
  refine wpAny_passesOwn hp (thn (hc pins s1 σ1 H1 _ I1 (turn n σ1 H1 w1)) fun b s2 ⟨H2, I2, q2⟩ => ?_)
  cases b with
  | true =>
    obtain ⟨N, hN, q2⟩ := q2
    rw [if_pos rfl]
    refine wpAny_passesOwn hp (thn (hb pins s2 σ1 H2 _ I2 q2) fun f s3 q3 => ?_)
    cases f with
    | next =>
      obtain ⟨σ3, H3, I3, n3⟩ := q3
      obtain ⟨m', hm, w3⟩ := hN σ3 H3 n3
      exact ⟨m', hm, σ3, H3, I3, w3⟩
    | cont =>
      obtain ⟨σ3, H3, I3, n3⟩ := q3
      obtain ⟨m', hm, w3⟩ := hN σ3 H3 n3
      exact ⟨m', hm, σ3, H3, I3, w3⟩
    | brk => exact q3
    | ret v => exact q3
  | false =>
    rw [if_neg Bool.false_ne_true]
    exact wpAny_execs_nil ⟨σ1, H2, I2, q2⟩
end

structure It where
  go : Nat → Hp → Prop
  yld : Nat → Hp → V → Hp → Prop
  stop : Nat → Hp → Prop
def FpOk (X : Cx) (pins : List (Addr × Obj)) (H : Hp) (b : Addr) : Prop :=
  H b = none ∧ b ≠ X.env.locals ∧ b ∉ X.fs ∧ (b ∈ X.ex ∨ X.s₀.heap.objs.size ≤ b) ∧ (∀ x c, X.env.cells.lookup x = some c → c ≠ b) ∧ ∀ p ∈ X.pn ++ pins, p.1 ≠ b
theorem Inv.fpOk {X : Cx} {pins : List (Addr × Obj)} {σ : St} {H H' : Hp} {s : Shared} {b : Addr} (I : Inv X pins σ H s) (hb : s.heap.objs.size ≤ b) (hn : H' b = none) : FpOk X pins H' b := by
  refine ⟨hn, Nat.ne_of_gt (Nat.lt_of_lt_of_le I.lt hb), I.nofs hb, .inr (Nat.le_trans I.sz hb), fun x c e z => ?_, fun p hp z => ?_⟩
  · obtain ⟨v, q⟩ := I.cell x c e
    exact absurd (Nat.lt_of_lt_of_le q.lt (by rw [z]; exact hb)) (Nat.lt_irrefl _)
  · exact absurd (Nat.lt_of_lt_of_le (Heap.lt_size (I.pin p hp).1) (by rw [z]; exact hb)) (Nat.lt_irrefl _)
structure Turn (P : Program) (w : World) (K : PySem.W.Frag) (tg : Expr) (J : It) (fp : List Addr) (it : Addr) (tn : Nat → Heap → Prop) : Prop where
  mem : it ∈ fp
  obj : ∀ i h, tn i h → ∀ b ∈ fp, ∃ o, h.get? b = some o ∧ ∀ v, o.data ≠ .cell v
  keep : ∀ i h h', tn i h → (∀ b ∈ fp, ∀ o, h.get? b = some o → h'.get? b = some o) → tn i h'
  item : ∀ (X : Cx), X.prog = P → X.w = w → X.K = K → X.calm = true → ∀ (i : Nat) (pins : List (Addr × Obj)) (s : Shared) (σ : St) (H : Hp) (E : Value → Shared → Prop), Inv X pins σ H s → (∀ b ∈ fp, FpOk X pins H b) → tn i s.heap → J.go i H →
    wpAny (model P w) X.A (pyNext (.ref it)) (fun r s1 => ∃ u, r = some u ∧
      wpAny (model P w) X.A (letOwnedTupleGo tg (.ref it) u) (fun _ s2 => ∃ x H', Inv X pins σ H' s2 ∧ RelV x u ∧ J.yld i H x H' ∧ tn (i + 1) s2.heap ∧ ∀ b ∈ fp, H' b = none) E s1) E s
  done : ∀ (X : Cx), X.prog = P → X.w = w → X.K = K → X.calm = true → ∀ (i : Nat) (pins : List (Addr × Obj)) (s : Shared) (σ : St) (H : Hp) (E : Value → Shared → Prop), Inv X pins σ H s → (∀ b ∈ fp, FpOk X pins H b) → tn i s.heap → J.stop i H →
    wpAny (model P w) X.A (pyNext (.ref it)) (fun r s1 => r = none ∧ Inv X pins σ H s1) E s
  self : ∀ (A : Around) (i : Nat) (s : Shared) (Q : Value → Shared → Prop) (E : Value → Shared → Prop), tn i s.heap → Q (.ref it) s → wpAny (model P w) A (pyIter (.ref it)) Q E s
abbrev TI := St → Hp → (It → Hp → Prop) → Prop
def PIE (X : Cx) (pins : List (Addr × Obj)) (σ : St) (tg : Expr) (R : It → Hp → Prop) (itv : Value) (s2 : Shared) : Prop :=
  ∃ (it : Addr) (fp : List Addr) (tn : Nat → Heap → Prop) (J : It) (H' : Hp), itv = .ref it ∧ Inv X pins σ H' s2 ∧ Turn X.prog X.w X.K tg J fp it tn ∧ tn 0 s2.heap ∧ (∀ b ∈ fp, FpOk X pins H' b) ∧ R J H'
def PI (X : Cx) (tg iter : Expr) (wi : TI) : Prop :=
  ∀ (pins : List (Addr × Obj)) (s : Shared) (σ : St) (H : Hp) (R : It → Hp → Prop), Inv X pins σ H s → wi σ H R →
    wpAny (model X.prog X.w) X.A (eval iter X.env) (fun v s1 => wpAny (model X.prog X.w) X.A (pyIter v) (PIE X pins σ tg R) X.xe s1) X.xe s

theorem go_of {M : Model} {A : Around} {E : Value → Shared → Prop} {s : Shared} {tg : Expr} {it : Addr} {u : Value} {o : Obj} {n : String} {vs : Array Value} {Q : Unit → Shared → Prop} (ho : s.heap.get? it = some o) (hc : o.cls = .type n) (hd : o.data = .fields vs)
    (hn : ["enumerate", "zip", "dict_itemiterator", "dict_reverseitemiterator", "odict_iterator", "itertools.zip_longest", "itertools.pairwise"].contains n = false) (hQ : Q () s) : wpAny M A (letOwnedTupleGo tg (.ref it) u) Q E s := by
  unfold letOwnedTupleGo
  cases tg <;> first
    | exact wpAny_pure hQ
    | (cases u <;> first
        | exact wpAny_pure hQ
        | (refine wpAny_bind (wpAny_load ho ?_)
           rw [hc, hd]
           show wpAny M A (if (["enumerate", "zip", "dict_itemiterator", "dict_reverseitemiterator", "odict_iterator", "itertools.zip_longest", "itertools.pairwise"].contains n && vs[0]? == some (rawInt _)) = true then _ else _) Q E s
           rw [if_neg (by intro h; rw [hn, Bool.false_and] at h; cases h)]
           exact wpAny_pure hQ))

def Itl (K : PySem.W.Frag) (a : Addr) : It :=
  ⟨fun i H => ∃ xs x, SqL K H a xs ∧ xs[i]? = some x, fun i H x H' => H' = H ∧ ∀ xs, SqL K H a xs → xs[i]? = some x, fun i H => ∃ xs, SqL K H a xs ∧ xs.length ≤ i⟩
def Itt (K : PySem.W.Frag) (a : Addr) : It :=
  ⟨fun i H => ∃ xs x, SqT K H a xs ∧ xs[i]? = some x, fun i H x H' => H' = H ∧ ∀ xs, SqT K H a xs → xs[i]? = some x, fun i H => ∃ xs, SqT K H a xs ∧ xs.length ≤ i⟩
def Itr (lo : Int) (n : Nat) : It := ⟨fun i _ => i < n, fun i H x H' => H' = H ∧ x = .int (lo + i), fun i _ => n ≤ i⟩
theorem turn_list {P : Program} {w : World} {K : PySem.W.Frag} {tg : Expr} (a it : Addr) : Turn P w K tg (Itl K a) [it] it (fun i h => h.IsListIter it a i) where
  mem := by simp
  obj := fun i h st b hb => by
    have e : b = it := by simpa using hb
    subst e
    obtain ⟨o, e, c, d⟩ := st
    exact ⟨o, e, fun v z => by rw [d] at z; cases z⟩
  keep := fun i h h' st k => st.at fun o e => k it (by simp) o e
  item := by
    intro X hP hw hK hc i pins s σ H E I hf st hg
    subst hP hw hK
    obtain ⟨xs, x, hq, hx⟩ := hg
    obtain ⟨its, rv, p, hz⟩ := I.list hq
    obtain ⟨u, hu, ru⟩ := rv.get hx
    obtain ⟨f0, f1, f2, f3, f4, f5⟩ := hf it (by simp)
    refine wpAny_pyNext_list_item st p.isList (x := u) (by simpa using hu) fun h' st' sb => ?_
    have I1 : Inv X pins σ H { s with heap := h' } := I.turned (t' := s.toks) (fun b o hb e => (sb.2 b hb).trans e) f0 f1 f3 f4 f5
    obtain ⟨o, e, c, d⟩ := id st'
    exact ⟨u, rfl, go_of (s := { s with heap := h' }) e c d (by decide) ⟨x, H, I1, ru, ⟨rfl, fun ys hy => by rw [I.list_inj hy hq]; exact hx⟩, st', fun b hb => (hf b hb).1⟩⟩
  done := by
    intro X hP hw hK hc i pins s σ H E I hf st hg
    subst hP hw hK
    obtain ⟨xs, hq, hx⟩ := hg
    obtain ⟨its, rv, p, hz⟩ := I.list hq
    obtain ⟨f0, f1, f2, f3, f4, f5⟩ := hf it (by simp)
    have hl := rv.length
    exact wpAny_pyNext_list_end (I.ok.hd hc) st p.isList (by simp; (first | lia | omega)) fun h' eb => ⟨rfl, I.turned (t' := s.toks) (fun b o hb e => eb b o hb e) f0 f1 f3 f4 f5⟩
  self := fun _ _ _ _ _ st h => wpAny_pyIter_listiter st h
theorem turn_tuple {P : Program} {w : World} {K : PySem.W.Frag} {tg : Expr} (a it : Addr) : Turn P w K tg (Itt K a) [it] it (fun i h => h.IsTupleIter it a i) where
  mem := by simp
  obj := fun i h st b hb => by
    have e : b = it := by simpa using hb
    subst e
    obtain ⟨o, e, c, d⟩ := st
    exact ⟨o, e, fun v z => by rw [d] at z; cases z⟩
  keep := fun i h h' st k => st.at fun o e => k it (by simp) o e
  item := by
    intro X hP hw hK hc i pins s σ H E I hf st hg
    subst hP hw hK
    obtain ⟨xs, x, hq, hx⟩ := hg
    obtain ⟨its, rv, p, hz⟩ := I.tuple hq
    obtain ⟨u, hu, ru⟩ := rv.get hx
    obtain ⟨f0, f1, f2, f3, f4, f5⟩ := hf it (by simp)
    refine wpAny_pyNext_tuple_item st (show s.heap.IsTuple a its.toArray from p) (x := u) (by simpa using hu) fun h' st' sb => ?_
    have I1 : Inv X pins σ H { s with heap := h' } := I.turned (t' := s.toks) (fun b o hb e => (sb.2 b hb).trans e) f0 f1 f3 f4 f5
    obtain ⟨o, e, c, d⟩ := id st'
    exact ⟨u, rfl, go_of (s := { s with heap := h' }) e c d (by decide) ⟨x, H, I1, ru, ⟨rfl, fun ys hy => by rw [I.tuple_inj hy hq]; exact hx⟩, st', fun b hb => (hf b hb).1⟩⟩
  done := by
    intro X hP hw hK hc i pins s σ H E I hf st hg
    subst hP hw hK
    obtain ⟨xs, hq, hx⟩ := hg
    obtain ⟨its, rv, p, hz⟩ := I.tuple hq
    obtain ⟨f0, f1, f2, f3, f4, f5⟩ := hf it (by simp)
    have hl := rv.length
    exact wpAny_pyNext_tuple_end (I.ok.hd hc) st (show s.heap.IsTuple a its.toArray from p) (by simp; (first | lia | omega)) fun h' eb => ⟨rfl, I.turned (t' := s.toks) (fun b o hb e => eb b o hb e) f0 f1 f3 f4 f5⟩
  self := fun _ _ _ _ _ st h => wpAny_pyIter_tupleiter st h
theorem turn_range {P : Program} {w : World} {K : PySem.W.Frag} {tg : Expr} (it : Addr) (lo : Int) (n : Nat) : Turn P w K tg (Itr lo n) [it] it (fun i h => IsRangeIter h it (lo + (i : Nat) * 1) ((n : Int) - (i : Nat)) 1) where
  mem := by simp
  obj := fun i h st b hb => by
    have e : b = it := by simpa using hb
    subst e
    exact ⟨_, st, fun v z => by
      have z' : Data.fields _ = Data.cell v := z
      cases z'⟩
  keep := fun i h h' st k => k it (by simp) _ st
  item := by
    intro X hP hw hK hc i pins s σ H E I hf st hg
    subst hP hw hK
    obtain ⟨f0, f1, f2, f3, f4, f5⟩ := hf it (by simp)
    have W := Walks.range (prog := X.prog) (w := X.w) (I.ok.hd hc) it lo 1 n
    refine W.item i s _ _ hg st fun v h' tk hv st' kk => ?_
    obtain ⟨t, rfl⟩ := hv
    have I1 : Inv X pins σ H { s with heap := h', toks := tk } := I.turned (fun b o hb e => kk b o (by simpa using hb) e) f0 f1 f3 f4 f5
    refine ⟨_, rfl, go_of (s := { s with heap := h', toks := tk }) (n := "range_iterator") st' rfl rfl (by decide) ⟨.int (lo + i), H, I1, ⟨t, ?_⟩, ⟨rfl, rfl⟩, st', fun b hb => (hf b hb).1⟩⟩
    rw [Int.mul_one]
  done := by
    intro X hP hw hK hc i pins s σ H E I hf st hg
    subst hP hw hK
    obtain ⟨f0, f1, f2, f3, f4, f5⟩ := hf it (by simp)
    exact wpAny_pyNext_range_end (I.ok.hd hc) st (by have : n ≤ i := hg; (first | lia | omega)) fun h' eb => ⟨rfl, I.turned (t' := s.toks) (fun b o hb e => eb b o hb e) f0 f1 f3 f4 f5⟩
  self := fun _ _ _ _ _ st h => wpAny_pyIter_rangeiter st h
end L2

namespace L2
open PySem PySem.Spec PyProof.Rows
section
variable {X : Cx} {tg : Expr}
def iList (K : PySem.W.Frag) (tl : TE) : TI := fun σ H R => tl σ H fun x H1 => ∃ a, x = .ref a ∧ (∃ xs, SqL K H1 a xs) ∧ R (Itl K a) H1
def iTup (K : PySem.W.Frag) (tl : TE) : TI := fun σ H R => tl σ H fun x H1 => ∃ a, x = .ref a ∧ (∃ xs, SqT K H1 a xs) ∧ R (Itt K a) H1
theorem pi_list {l : Expr} {tl : TE} (hl : PE X l tl) : PI X tg l (iList X.K tl) := by
  intro pins s σ H R I h
  refine thn (hl pins s σ H _ I h) fun v s1 ⟨x, H1, I1, r1, q1⟩ => ?_
  obtain ⟨a, e, ⟨xs, hq⟩, q⟩ := q1
  subst e
  cases r1
  obtain ⟨its, rv, p, hz⟩ := I1.list hq
  refine wpAny_pyIter_list p.isList ?_
  refine ⟨s1.heap.objs.size, [s1.heap.objs.size], _, _, H1, rfl, I1.kept (t' := s1.toks) fun b o e => Heap.get?_push_of_some _ e, turn_list a _, ⟨_, Heap.get?_push_size _ rfl, rfl, rfl⟩, fun b hb => ?_, q⟩
  have e : b = s1.heap.objs.size := by simpa using hb
  subst e
  exact I1.fpOk (Nat.le_refl _) (I1.hok.fresh (Nat.le_refl _))
theorem pi_tup {l : Expr} {tl : TE} (hl : PE X l tl) : PI X tg l (iTup X.K tl) := by
  intro pins s σ H R I h
  refine thn (hl pins s σ H _ I h) fun v s1 ⟨x, H1, I1, r1, q1⟩ => ?_
  obtain ⟨a, e, ⟨xs, hq⟩, q⟩ := q1
  subst e
  cases r1
  obtain ⟨its, rv, p, hz⟩ := I1.tuple hq
  refine wpAny_pyIter_tuple (show s1.heap.IsTuple a its.toArray from p) ?_
  refine ⟨s1.heap.objs.size, [s1.heap.objs.size], _, _, H1, rfl, I1.kept (t' := s1.toks) fun b o e => Heap.get?_push_of_some _ e, turn_tuple a _, ⟨_, Heap.get?_push_size _ rfl, rfl, rfl⟩, fun b hb => ?_, q⟩
  have e : b = s1.heap.objs.size := by simpa using hb
  subst e
  exact I1.fpOk (Nat.le_refl _) (I1.hok.fresh (Nat.le_refl _))
theorem range_it {pins : List (Addr × Obj)} {σ : St} {H : Hp} {s : Shared} {R : It → Hp → Prop} {E : Value → Shared → Prop} {lo hi : Int} {t u v : Tok} {tk : Nat} (I : Inv X pins σ H s) (h1 : -(2 ^ 62) ≤ lo) (h2 : lo < 2 ^ 62) (h3 : -(2 ^ 62) ≤ hi) (h4 : hi < 2 ^ 62)
    (q : R (Itr lo (hi - lo).toNat) H) : wpAny (model X.prog X.w) X.A (pyIter (.ref s.heap.objs.size)) (PIE X pins σ tg R) E { s with heap := s.heap.push { cls := .type "range", data := .fields #[.int lo t, .int hi u, .int 1 v] }, toks := tk } := by
  refine wpAny_pyIter_range (IsRange.new ..) (small_one h1 h2 h3 h4) ?_
  have I1 : Inv X pins σ H { s with heap := s.heap.push { cls := .type "range", data := .fields #[.int lo t, .int hi u, .int 1 v] }, toks := tk } := I.kept fun b o e => Heap.get?_push_of_some _ e
  refine ⟨(s.heap.push { cls := .type "range", data := .fields #[.int lo t, .int hi u, .int 1 v] }).objs.size, [(s.heap.push { cls := .type "range", data := .fields #[.int lo t, .int hi u, .int 1 v] }).objs.size], _, _, H, rfl,
    I1.kept (t' := tk) fun b o e => Heap.get?_push_of_some _ e, turn_range _ lo (hi - lo).toNat, ?_, fun b hb => ?_, q⟩
  · have e1 : lo + ((0 : Nat) : Int) * 1 = lo := by simp
    have e2 : (((hi - lo).toNat : Nat) : Int) - ((0 : Nat) : Int) = Builtin.Range.rangeSize lo hi 1 := by rw [rangeSize_one]; split <;> (first | lia | omega)
    show IsRangeIter _ _ (lo + ((0 : Nat) : Int) * 1) ((((hi - lo).toNat : Nat) : Int) - ((0 : Nat) : Int)) 1
    rw [e1, e2]
    exact Heap.get?_push_size _ rfl
  · have e : b = (s.heap.push { cls := .type "range", data := .fields #[.int lo t, .int hi u, .int 1 v] }).objs.size := by simpa using hb
    subst e
    exact I1.fpOk (Nat.le_refl _) (I1.hok.fresh (Nat.le_refl _))
def iRng1 (ta : TA) : TI := fun σ H R => ta σ H fun vs H1 => ∃ j : Int, vs = [.int j] ∧ -(2 ^ 62) ≤ j ∧ j < 2 ^ 62 ∧ R (Itr 0 j.toNat) H1
def iRng2 (ta : TA) : TI := fun σ H R => ta σ H fun vs H1 => ∃ i j : Int, vs = [.int i, .int j] ∧ (-(2 ^ 62) ≤ i ∧ i < 2 ^ 62 ∧ -(2 ^ 62) ≤ j ∧ j < 2 ^ 62) ∧ R (Itr i (j - i).toNat) H1
theorem pi_range1 {a : Expr} {ta : TA} {p pos : Pos} (hg : Gl X "range") (hm : X.mg "range" = none) (ha : PA X [a] ta) (hs : starEach [a] X.env = [(false, eval a X.env)] := by rfl) : PI X tg (.Call (.Name "range" p) [a] [] pos) (iRng1 ta) := by
  intro pins s σ H R I h
  refine Call_ (ld_blt I hg hm boot_range (PyProof.Rows.callWith_type1 (thn (ha pos pins s σ H _ I h) fun us s1 ⟨vs, H1, I1, r1, q1⟩ => ?_) hs rfl))
  obtain ⟨j, e, q1, q2, q⟩ := q1
  subst e
  cases r1 with
  | cons r rr =>
    cases rr
    obtain ⟨t, rfl⟩ := r
    exact call_range_1 (range_it I1 (by (first | lia | omega)) (by (first | lia | omega)) q1 q2 (by simpa using q))
theorem pi_range2 {a b : Expr} {ta : TA} {p pos : Pos} (hg : Gl X "range") (hm : X.mg "range" = none) (ha : PA X [a, b] ta) (hs : starEach [a, b] X.env = [(false, eval a X.env), (false, eval b X.env)] := by rfl) (hs2 : starEach [b] X.env = [(false, eval b X.env)] := by rfl) :
    PI X tg (.Call (.Name "range" p) [a, b] [] pos) (iRng2 ta) := by
  intro pins s σ H R I h
  refine Call_ (ld_blt I hg hm boot_range (PyProof.Rows.callWith_type1 (thn (ha pos pins s σ H _ I h) fun us s1 ⟨vs, H1, I1, r1, q1⟩ => ?_) (by rw [hs, hs2]) (by rw [hs2]; rfl)))
  obtain ⟨i, j, e, ⟨q1, q2, q3, q4⟩, q⟩ := q1
  subst e
  cases r1 with
  | cons r rr =>
    cases rr with
    | cons r' rr =>
      cases rr
      obtain ⟨t, rfl⟩ := r
      obtain ⟨t', rfl⟩ := r'
      exact call_range_2 (range_it I1 q1 q2 q3 q4 q)

def tFor (wi : TI) (g : TG) (tb : TS) : TS := fun D σ H => wi σ H fun J H1 => ∃ W : Nat → Nat → St → Hp → Prop, (∃ m, W 0 m σ H1) ∧ ∀ i m σ H, W i m σ H →
  (J.stop i H ∧ D.nx σ H) ∨ (J.go i H ∧ ∃ N : St → Hp → Prop, (∀ σ' H', N σ' H' → ∃ m', m' < m ∧ W (i + 1) m' σ' H') ∧ ∀ x H', J.yld i H x H' → g x σ H' fun σ2 H2 => tb { D with nx := N, ct := N, bk := D.nx } σ2 H2)
def pinsAt (fp : List Addr) (h : Heap) : List (Addr × Obj) := fp.filterMap fun b => (h.get? b).map fun o => (b, o)
theorem mem_pinsAt {fp : List Addr} {h : Heap} {b : Addr} {o : Obj} (hb : b ∈ fp) (e : h.get? b = some o) : (b, o) ∈ pinsAt fp h := List.mem_filterMap.mpr ⟨b, hb, by rw [e]; rfl⟩
theorem of_pinsAt {fp : List Addr} {h : Heap} {p : Addr × Obj} (hp : p ∈ pinsAt fp h) : p.1 ∈ fp ∧ h.get? p.1 = some p.2 := by
  obtain ⟨b, hb, e⟩ := List.mem_filterMap.mp hp
  cases q : h.get? b with
  | none => rw [q] at e; cases e
  | some o =>
    rw [q] at e
    have e' : (b, o) = p := Option.some.inj e
    subst e'
    exact ⟨hb, q⟩
theorem Inv.pinned {pins : List (Addr × Obj)} {σ : St} {H : Hp} {s : Shared} {fp : List Addr} (I : Inv X pins σ H s) (hf : ∀ b ∈ fp, FpOk X pins H b) (ho : ∀ b ∈ fp, ∃ o, s.heap.get? b = some o ∧ ∀ v, o.data ≠ .cell v) : Inv X (pins ++ pinsAt fp s.heap) σ H s :=
  I.pins_of fun p hp => (List.mem_append.mp hp).elim (fun z => I.pin p (List.mem_append_right _ z)) fun z => by
    obtain ⟨hb, e⟩ := of_pinsAt z
    obtain ⟨f0, f1, f2, _⟩ := hf p.1 hb
    obtain ⟨o, e', d⟩ := ho p.1 hb
    rw [e] at e'; cases e'
    exact ⟨e, f0, f1, f2, d⟩
theorem Inv.unpinned {pins pl : List (Addr × Obj)} {σ : St} {H : Hp} {s : Shared} (I : Inv X (pins ++ pl) σ H s) : Inv X pins σ H s := I.pins_of fun p hp => I.pin p (List.mem_append_right _ (List.mem_append_left _ hp))
theorem ps_for {iter : Expr} {body : List Stmt} {wi : TI} {g : TG} {tb : TS} {pos : Pos} (hp : PassesOwn (model X.prog X.w) X.A X.env X.xe) (hc : X.calm = true) (hi : PI X tg iter wi) (hg : PG X tg g) (hb : PSs X body tb)
    (hs : ∀ x, foldedSetIterable iter X.env x = pure x := by intro _; rfl) : PS X (.For tg iter body [] pos) (tFor wi g tb) := by
  intro pins s σ H D I h
  refine wpAny_For (thn (hi pins s σ H _ I h) fun v s1 h1 => thn h1 fun itv s2 h2 => ?_) hs
  obtain ⟨it, fp, tn, J, H2, e, I2, T, st2, f2, W, ⟨m0, w0⟩, turn⟩ := h2
  subst e
  -- what stays true of the iterator's objects through the loop
  have stat : ∀ {H' : Hp}, (∀ b ∈ fp, H' b = none) → ∀ b ∈ fp, FpOk X pins H' b := fun hn b hb => ⟨hn b hb, (f2 b hb).2⟩
  refine codeAny_forLoop_any (fun n s' => ∃ i σ' H', Inv X pins σ' H' s' ∧ tn i s'.heap ∧ (∀ b ∈ fp, H' b = none) ∧ W i n σ' H') ?_ m0 ⟨0, σ, H2, I2, st2, fun b hb => (f2 b hb).1, w0⟩
  rintro n s3 ⟨i, σ3, H3, I3, st3, fr3, w3⟩
  rcases turn i n σ3 H3 w3 with ⟨stop, qn⟩ | ⟨go, N, hN, step⟩
  · refine wpAny_passesOwn hp (thn (T.done X rfl rfl rfl hc i pins s3 σ3 H3 X.xe I3 (stat fr3) st3 stop) fun r s4 ⟨hr, I4⟩ => ?_)
    subst hr
    exact wpAny_execs_nil ⟨σ3, H3, I4, qn⟩
  · refine wpAny_passesOwn hp (thn (T.item X rfl rfl rfl hc i pins s3 σ3 H3 X.xe I3 (stat fr3) st3 go) fun r s4 ⟨u, hr, h4⟩ => ?_)
    subst hr
    refine wpAny_passesOwn hp (thn h4 fun _ s5 ⟨x, H5, I5, r5, y5, st5, fr5⟩ => ?_)
    have I5' := I5.pinned (stat fr5) (T.obj _ _ st5)
    refine wpAny_passesOwn hp (thn (hg _ s5 σ3 H5 x u _ I5' r5 (step x H5 y5)) fun _ s6 ⟨σ6, H6, I6, q6⟩ => ?_)
    refine wpAny_passesOwn hp (thn (hb _ s6 σ6 H6 _ I6 q6) fun f s7 q7 => ?_)
    have again : ∀ {σ7 : St} {H7 : Hp}, Inv X (pins ++ pinsAt fp s5.heap) σ7 H7 s7 → N σ7 H7 → ∃ m, m < n ∧ ∃ i σ' H', Inv X pins σ' H' s7 ∧ tn i s7.heap ∧ (∀ b ∈ fp, H' b = none) ∧ W i m σ' H' := fun {σ7 H7} I7 n7 => by
      obtain ⟨m', hm, w7⟩ := hN σ7 H7 n7
      refine ⟨m', hm, i + 1, σ7, H7, I7.unpinned, T.keep _ _ _ st5 fun b hb o e => (I7.pin (b, o) (List.mem_append_right _ (List.mem_append_right _ (mem_pinsAt hb e)))).1, fun b hb => ?_, w7⟩
      obtain ⟨o, e, d⟩ := T.obj _ _ st5 b hb
      exact (I7.pin (b, o) (List.mem_append_right _ (List.mem_append_right _ (mem_pinsAt hb e)))).2.1
    cases f with
    | next => obtain ⟨σ7, H7, I7, n7⟩ := q7; exact again I7 n7
    | cont => obtain ⟨σ7, H7, I7, n7⟩ := q7; exact again I7 n7
    | brk => obtain ⟨σ7, H7, I7, q7⟩ := q7; exact ⟨σ7, H7, I7.unpinned, q7⟩
    | ret v => obtain ⟨x7, σ7, H7, I7, r7, q7⟩ := q7; exact ⟨x7, σ7, H7, I7.unpinned, r7, q7⟩
end

theorem for_list {K : PySem.W.Frag} {a : Addr} {xs : List V} {g : TG} {tb : TS} {D : Ends} {σ : St} {H : Hp} (Pv : Nat → St → Hp → Prop) (h0 : Pv 0 σ H) (hl : ∀ i σ H, i ≤ xs.length → Pv i σ H → SqL K H a xs)
    (hs : ∀ i x σ H, xs[i]? = some x → Pv i σ H → g x σ H fun σ2 H2 => tb { D with nx := Pv (i + 1), ct := Pv (i + 1), bk := D.nx } σ2 H2) (hd : ∀ σ H, Pv xs.length σ H → D.nx σ H) :
    ∃ W : Nat → Nat → St → Hp → Prop, (∃ m, W 0 m σ H) ∧ ∀ i m σ H, W i m σ H →
      ((Itl K a).stop i H ∧ D.nx σ H) ∨ ((Itl K a).go i H ∧ ∃ N : St → Hp → Prop, (∀ σ' H', N σ' H' → ∃ m', m' < m ∧ W (i + 1) m' σ' H') ∧ ∀ x H', (Itl K a).yld i H x H' → g x σ H' fun σ2 H2 => tb { D with nx := N, ct := N, bk := D.nx } σ2 H2) := by
  refine ⟨fun i m σ H => m = xs.length - i ∧ i ≤ xs.length ∧ Pv i σ H, ⟨xs.length, by simp, Nat.zero_le _, h0⟩, ?_⟩
  rintro i m σ H ⟨rfl, hi, p⟩
  have q := hl i σ H hi p
  by_cases hlt : i < xs.length
  · refine .inr ⟨⟨xs, xs[i], q, by simp [hlt]⟩, Pv (i + 1), fun σ' H' p' => ⟨xs.length - (i + 1), by (first | lia | omega), rfl, hlt, p'⟩, fun x H' y => ?_⟩
    obtain ⟨e, y⟩ := y
    subst e
    exact hs i x σ _ (y xs q) p
  · have e : i = xs.length := by (first | lia | omega)
    subst e
    exact .inl ⟨⟨xs, q, Nat.le_refl _⟩, hd σ H p⟩
theorem for_range {lo : Int} {n : Nat} {g : TG} {tb : TS} {D : Ends} {σ : St} {H : Hp} (Pv : Nat → St → Hp → Prop) (h0 : Pv 0 σ H)
    (hs : ∀ i σ H, i < n → Pv i σ H → g (.int (lo + i)) σ H fun σ2 H2 => tb { D with nx := Pv (i + 1), ct := Pv (i + 1), bk := D.nx } σ2 H2) (hd : ∀ σ H, Pv n σ H → D.nx σ H) :
    ∃ W : Nat → Nat → St → Hp → Prop, (∃ m, W 0 m σ H) ∧ ∀ i m σ H, W i m σ H →
      ((Itr lo n).stop i H ∧ D.nx σ H) ∨ ((Itr lo n).go i H ∧ ∃ N : St → Hp → Prop, (∀ σ' H', N σ' H' → ∃ m', m' < m ∧ W (i + 1) m' σ' H') ∧ ∀ x H', (Itr lo n).yld i H x H' → g x σ H' fun σ2 H2 => tb { D with nx := N, ct := N, bk := D.nx } σ2 H2) := by
  refine ⟨fun i m σ H => m = n - i ∧ i ≤ n ∧ Pv i σ H, ⟨n, by simp, Nat.zero_le _, h0⟩, ?_⟩
  rintro i m σ H ⟨rfl, hi, p⟩
  by_cases hlt : i < n
  · refine .inr ⟨hlt, Pv (i + 1), fun σ' H' p' => ⟨n - (i + 1), by (first | lia | omega), rfl, hlt, p'⟩, fun x H' y => ?_⟩
    obtain ⟨e, y⟩ := y
    subst e y
    exact hs i σ _ hlt p
  · have e : i = n := by (first | lia | omega)
    subst e
    exact .inl ⟨Nat.le_refl _, hd σ H p⟩
theorem while_by {c : TT} {tb : TS} {D : Ends} {σ : St} {H : Hp} (Pv : St → Hp → Prop) (μ : St → Hp → Nat) (h0 : Pv σ H)
    (hs : ∀ σ H, Pv σ H → c σ H fun b H1 => if b = true then tb { D with nx := fun σ' H' => Pv σ' H' ∧ μ σ' H' < μ σ H, ct := fun σ' H' => Pv σ' H' ∧ μ σ' H' < μ σ H, bk := D.nx } σ H1 else D.nx σ H1)
    (mono : ∀ σ H Q Q', (∀ b H1, Q b H1 → Q' b H1) → c σ H Q → c σ H Q') : tWhile c tb D σ H := by
  refine ⟨fun m σ H => m = μ σ H ∧ Pv σ H, ⟨_, rfl, h0⟩, ?_⟩
  rintro m σ H ⟨rfl, p⟩
  refine mono σ H _ _ (fun b H1 q => ?_) (hs σ H p)
  cases b with
  | true => exact ⟨_, fun σ' H' ⟨p', l⟩ => ⟨_, l, rfl, p'⟩, q⟩
  | false => exact q
end L2

namespace L2
open PySem PySem.Spec PyProof.Rows

abbrev R2 := V → V → Hp → VK → Prop
def OpR (X : Cx) (f : Value → Value → Sem Value) (r : R2) : Prop :=
  ∀ (pins : List (Addr × Obj)) (s : Shared) (σ : St) (H : Hp) (x y : V) (v u : Value) (Q : VK), Inv X pins σ H s → RelV x v → RelV y u → r x y H Q →
    wpAny (model X.prog X.w) X.A (f v u) (EP X pins σ Q) X.xe s
def UnR (X : Cx) (f : Value → Sem Value) (r : V → Hp → VK → Prop) : Prop :=
  ∀ (pins : List (Addr × Obj)) (s : Shared) (σ : St) (H : Hp) (x : V) (v : Value) (Q : VK), Inv X pins σ H s → RelV x v → r x H Q →
    wpAny (model X.prog X.w) X.A (f v) (EP X pins σ Q) X.xe s
def CallR (X : Cx) (f : Value) (r : List V → Hp → VK → Prop) : Prop :=
  ∀ (pins : List (Addr × Obj)) (s : Shared) (σ : St) (H : Hp) (xs : List V) (us : List Value) (Q : VK), Inv X pins σ H s → Vals xs us → r xs H Q →
    wpAny (model X.prog X.w) X.A (call f us) (EP X pins σ Q) X.xe s
def tOp (r : R2) (ta tb : TE) : TE := fun σ H Q => ta σ H fun x H1 => tb σ H1 fun y H2 => r x y H2 Q
def tUn (r : V → Hp → VK → Prop) (ta : TE) : TE := fun σ H Q => ta σ H fun x H1 => r x H1 Q
inductive RIP (C : Int → Int → Prop) (g : Int → Int → V) (x : V) (y : V) (H : Hp) (Q : VK) : Prop
  | mk (i : _) (j : _) (h1 : x = .int i) (h2 : y = .int j) (h3 : C i j) (h4 : Q (g i j) H) : RIP C g x y H Q
def rI (C : Int → Int → Prop) (g : Int → Int → V) : R2 := fun x y H Q => RIP C g x y H Q
inductive RI0P (g : Int → Int → V) (x : V) (y : V) (H : Hp) (Q : VK) : Prop
  | mk (i : _) (j : _) (h1 : x = .int i) (h2 : y = .int j) (h3 : Q (g i j) H) : RI0P g x y H Q
def rI0 (g : Int → Int → V) : R2 := fun x y H Q => RI0P g x y H Q
inductive RUP (g : Int → V) (x : V) (H : Hp) (Q : VK) : Prop
  | mk (i : _) (h1 : x = .int i) (h2 : Q (g i) H) : RUP g x H Q
def rU (g : Int → V) : V → Hp → VK → Prop := fun x H Q => RUP g x H Q

section
variable {X : Cx} {a b c : Expr} {ta tb tc : TE} {pos : Pos}

theorem binT (ha : PE X a ta) (hb : PE X b tb) {pins : List (Addr × Obj)} {s : Shared} {σ : St} {H : Hp} {R : V → V → Hp → Prop} (I : Inv X pins σ H s)
    (h : ta σ H fun x H1 => tb σ H1 fun y H2 => R x y H2) {Q : Value → Shared → Prop} {f : Value → Value → Sem Value}
    (hf : ∀ v u s2 x y H2, Inv X pins σ H2 s2 → RelV x v → RelV y u → R x y H2 → wpAny (model X.prog X.w) X.A (f v u) Q X.xe s2) :
    wpAny (model X.prog X.w) X.A (eval a X.env) (fun v s₁ => wpAny (model X.prog X.w) X.A (eval b X.env) (fun u s₂ => wpAny (model X.prog X.w) X.A (f v u) Q X.xe s₂) X.xe s₁) X.xe s := by
  refine thn (ha pins s σ H _ I h) fun v s1 ⟨x, H1, I1, r1, q1⟩ => ?_
  refine thn (hb pins s1 σ H1 _ I1 q1) fun u s2 ⟨y, H2, I2, r2, q2⟩ => ?_
  exact hf v u s2 x y H2 I2 r1 r2 q2

theorem pe_op {op : Operator} {r : R2} (ho : OpR X (binaryOp op) r) (ha : PE X a ta) (hb : PE X b tb) : PE X (.BinOp a op b pos) (tOp r ta tb) := by
  intro pins s σ H Q I h
  exact wpAny_BinOp (binT ha hb I h fun v u s2 x y H2 I2 rx ry q => ho pins s2 σ H2 x y v u Q I2 rx ry q)
theorem pe_un {op : UnaryOp} {r : V → Hp → VK → Prop} (ho : UnR X (unaryOp op) r) (ha : PE X a ta) : PE X (.UnaryOp op a pos) (tUn r ta) := by
  intro pins s σ H Q I h
  exact UnaryOp_ (thn (ha pins s σ H _ I h) fun v s1 ⟨x, H1, I1, r1, q1⟩ => ho pins s1 σ H1 x v Q I1 r1 q1)
theorem opI {f : Value → Value → Sem Value} {C : Int → Int → Prop} {g : Int → Int → Int}
    (rule : ∀ (i j : Int) (t u : Tok) (s : Shared) (Q : Value → Shared → Prop) (E : Value → Shared → Prop), C i j → Q (.int (g i j) s.toks) { s with toks := s.toks + 1 } → wpAny (model X.prog X.w) X.A (f (.int i t) (.int j u)) Q E s) :
    OpR X f (rI C fun i j => .int (g i j)) := by
  intro pins s σ H x y v u Q I rx ry h
  obtain ⟨i, j, rfl, rfl, hc, q⟩ := h
  obtain ⟨t, rfl⟩ := rx
  obtain ⟨t', rfl⟩ := ry
  exact rule i j t t' s _ _ hc ⟨.int (g i j), H, I.tok _, ⟨_, rfl⟩, q⟩
theorem opI0 {f : Value → Value → Sem Value} {g : Int → Int → Int}
    (rule : ∀ (i j : Int) (t u : Tok) (s : Shared) (Q : Value → Shared → Prop) (E : Value → Shared → Prop), Q (.int (g i j) s.toks) { s with toks := s.toks + 1 } → wpAny (model X.prog X.w) X.A (f (.int i t) (.int j u)) Q E s) :
    OpR X f (rI0 fun i j => .int (g i j)) := by
  intro pins s σ H x y v u Q I rx ry h
  obtain ⟨i, j, rfl, rfl, q⟩ := h
  obtain ⟨t, rfl⟩ := rx
  obtain ⟨t', rfl⟩ := ry
  exact rule i j t t' s _ _ ⟨.int (g i j), H, I.tok _, ⟨_, rfl⟩, q⟩
theorem opB0 {f : Value → Value → Sem Value} {g : Int → Int → Bool}
    (rule : ∀ (i j : Int) (t u : Tok) (s : Shared) (Q : Value → Shared → Prop) (E : Value → Shared → Prop), Q (.bool (g i j)) s → wpAny (model X.prog X.w) X.A (f (.int i t) (.int j u)) Q E s) :
    OpR X f (rI0 fun i j => .bl (g i j)) := by
  intro pins s σ H x y v u Q I rx ry h
  obtain ⟨i, j, rfl, rfl, q⟩ := h
  obtain ⟨t, rfl⟩ := rx
  obtain ⟨t', rfl⟩ := ry
  exact rule i j t t' s _ _ ⟨.bl (g i j), H, I, rfl, q⟩

def CDiv (i j : Int) : Prop := 0 < j ∧ j < 1073741824
def CPow (i j : Int) : Prop := 0 ≤ j ∧ j ≤ 1000000 ∧ i.natAbs < 2 ^ 64
def CMul (i j : Int) : Prop := (-(2 ^ 64) < i ∧ i < 2 ^ 64) ∨ (-(2 ^ 64) < j ∧ j < 2 ^ 64)
theorem CMul.ok {i j : Int} (h : CMul i j) : IntMulOk i j := by
  rcases h with ⟨h1, h2⟩ | ⟨h1, h2⟩
  · exact .of_left (intBits_le_64 h1 h2)
  · exact .of_right (intBits_le_64 h1 h2)
theorem op_add : OpR X (binaryOp .Add) (rI0 fun i j => .int (i + j)) := opI0 fun _ _ _ _ _ _ _ q => add_int q
theorem op_sub : OpR X (binaryOp .Sub) (rI0 fun i j => .int (i - j)) := opI0 fun _ _ _ _ _ _ _ q => sub_int q
theorem op_mul : OpR X (binaryOp .Mult) (rI CMul fun i j => .int (i * j)) := opI fun _ _ _ _ _ _ _ hc q => mul_int q hc.ok
theorem op_fdiv : OpR X (binaryOp .FloorDiv) (rI CDiv fun i j => .int (i / j)) := opI fun i j _ _ _ _ _ hc q => by
  have h1 : (0 : Int) < j := hc.1
  have h2 : j < 1073741824 := hc.2
  exact floordiv_int (by (first | lia | omega)) (by rw [Int.fdiv_eq_ediv_of_nonneg i (by (first | lia | omega))]; exact q) (.inl (PyProof.noPylong_small (by (first | lia | omega))))
theorem op_mod : OpR X (binaryOp .Mod) (rI (fun _ j => 0 < j) fun i j => .int (i % j)) := opI fun i j _ _ _ _ _ hc q => by
  have h1 : (0 : Int) < j := hc
  exact mod_int' (by (first | lia | omega)) (by rw [Int.fmod_eq_emod_of_nonneg i (by (first | lia | omega))]; exact q)
theorem op_pow : OpR X (binaryOp .Pow) (rI CPow fun i j => .int (i ^ j.toNat)) := opI fun _ _ _ _ _ _ _ hc q => pow_int_small hc.1 hc.2.1 hc.2.2 q
theorem unI {f : Value → Sem Value} {g : Int → Int}
    (rule : ∀ (i : Int) (t : Tok) (s : Shared) (Q : Value → Shared → Prop) (E : Value → Shared → Prop), Q (.int (g i) s.toks) { s with toks := s.toks + 1 } → wpAny (model X.prog X.w) X.A (f (.int i t)) Q E s) :
    UnR X f (rU fun i => .int (g i)) := by
  intro pins s σ H x v Q I rx h
  obtain ⟨i, rfl, q⟩ := h
  obtain ⟨t, rfl⟩ := rx
  exact rule i t s _ _ ⟨.int (g i), H, I.tok _, ⟨_, rfl⟩, q⟩
theorem un_neg : UnR X (unaryOp .USub) (rU fun i => .int (-i)) := unI fun _ _ _ _ _ q => neg_int q
end

def scal : V → V → Bool
  | .non, .non => true | .non, .int _ => true | .int _, .non => true | .non, .bl _ => true | .bl _, .non => true | .non, .str _ => true | .str _, .non => true
  | .int _, .int _ => true | .bl _, .bl _ => true | .str _, .str _ => true | .byt _, .byt _ => true
  | .int _, .str _ => true | .str _, .int _ => true | .bl _, .str _ => true | .str _, .bl _ => true
  | _, _ => false
inductive REqP (x : V) (y : V) (H : Hp) (Q : VK) : Prop
  | mk  (h1 : scal x y = true) (h2 : Q (.bl (decide (x = y))) H) : REqP x y H Q
def rEq : R2 := fun x y H Q => REqP  x y H Q
inductive RNeP (x : V) (y : V) (H : Hp) (Q : VK) : Prop
  | mk  (h1 : scal x y = true) (h2 : Q (.bl (!decide (x = y))) H) : RNeP x y H Q
def rNe : R2 := fun x y H Q => RNeP  x y H Q

theorem dec_int {i j : Int} : decide (V.int i = V.int j) = (i == j) := by
  rw [Bool.eq_iff_iff]
  simp
theorem dec_bl {i j : Bool} : decide (V.bl i = V.bl j) = (i == j) := by
  rw [Bool.eq_iff_iff]
  simp
theorem dec_str {i j : Str} : decide (V.str i = V.str j) = (i == j) := by
  rw [Bool.eq_iff_iff]
  simp
theorem dec_byt {i j : Array UInt8} : decide (V.byt i = V.byt j) = (i.toList == j.toList) := by
  rw [Bool.eq_iff_iff]
  cases i
  cases j
  simp

section
variable {X : Cx} {a b c : Expr} {ta tb tc : TE} {pos : Pos}
theorem fin_bl {pins : List (Addr × Obj)} {σ : St} {H : Hp} {s : Shared} {Q : VK} {k k' : Bool} (I : Inv X pins σ H s) (q : Q (.bl k) H) (e : k = k') : EP X pins σ Q (.bool k') s := by
  subst e
  exact ⟨.bl k, H, I, rfl, q⟩
theorem op_eq : OpR X (compareOp .Eq) rEq := by
  intro pins s σ H x y v u Q I rx ry h
  obtain ⟨hs, q⟩ := h
  cases x with
  | non =>
    cases rx
    cases y with
    | non => cases ry; exact PySem.EqNone.eq_none_none (fin_bl I q (by simp))
    | bl j => cases ry; exact PySem.EqNone.eq_none_bool (fin_bl I q (by simp))
    | int j => obtain ⟨t', rfl⟩ := ry; exact PySem.EqNone.eq_none_int (fin_bl I q (by simp))
    | str j => obtain ⟨t', rfl⟩ := ry; exact PySem.EqNone.eq_none_str (fin_bl I q (by simp))
    | _ => exact absurd (show false = true from hs) Bool.false_ne_true
  | bl i =>
    cases rx
    cases y with
    | non => cases ry; exact PySem.EqNone.eq_bool_none (fin_bl I q (by simp))
    | bl j => cases ry; exact eq_bool (fin_bl I q dec_bl)
    | str j => obtain ⟨t', rfl⟩ := ry; exact PySem.EqMixed.eq_bool_str (fin_bl I q (by simp))
    | _ => exact absurd (show false = true from hs) Bool.false_ne_true
  | int i =>
    obtain ⟨t, rfl⟩ := rx
    cases y with
    | non => cases ry; exact PySem.EqNone.eq_int_none (fin_bl I q (by simp))
    | int j => obtain ⟨t', rfl⟩ := ry; exact eq_int (fin_bl I q dec_int)
    | str j => obtain ⟨t', rfl⟩ := ry; exact PySem.EqMixed.eq_int_str (fin_bl I q (by simp))
    | _ => exact absurd (show false = true from hs) Bool.false_ne_true
  | str i =>
    obtain ⟨t, rfl⟩ := rx
    cases y with
    | non => cases ry; exact PySem.EqNone.eq_str_none (fin_bl I q (by simp))
    | bl j => cases ry; exact PySem.EqMixed.eq_str_bool (fin_bl I q (by simp))
    | int j => obtain ⟨t', rfl⟩ := ry; exact PySem.EqMixed.eq_str_int (fin_bl I q (by simp))
    | str j => obtain ⟨t', rfl⟩ := ry; exact eq_str (fin_bl I q dec_str)
    | _ => exact absurd (show false = true from hs) Bool.false_ne_true
  | byt i =>
    obtain ⟨t, rfl⟩ := rx
    cases y with
    | byt j => obtain ⟨t', rfl⟩ := ry; exact PySem.W.eq_bytes (fin_bl I q dec_byt)
    | _ => exact absurd (show false = true from hs) Bool.false_ne_true
  | _ => cases y <;> exact absurd (show false = true from hs) Bool.false_ne_true
theorem op_ne : OpR X (compareOp .NotEq) rNe := by
  intro pins s σ H x y v u Q I rx ry h
  obtain ⟨hs, q⟩ := h
  cases x with
  | non =>
    cases rx
    cases y with
    | non => cases ry; exact PySem.EqNone.ne_none_none (fin_bl I q (by simp))
    | bl j => cases ry; exact PySem.EqNone.ne_none_bool (fin_bl I q (by simp))
    | int j => obtain ⟨t', rfl⟩ := ry; exact PySem.EqNone.ne_none_int (fin_bl I q (by simp))
    | str j => obtain ⟨t', rfl⟩ := ry; exact PySem.EqNone.ne_none_str (fin_bl I q (by simp))
    | _ => exact absurd (show false = true from hs) Bool.false_ne_true
  | bl i =>
    cases rx
    cases y with
    | non => cases ry; exact PySem.EqNone.ne_bool_none (fin_bl I q (by simp))
    | bl j => cases ry; exact ne_bool (fin_bl I q (congrArg not dec_bl))
    | str j => obtain ⟨t', rfl⟩ := ry; exact PySem.EqMixed.ne_bool_str (fin_bl I q (by simp))
    | _ => exact absurd (show false = true from hs) Bool.false_ne_true
  | int i =>
    obtain ⟨t, rfl⟩ := rx
    cases y with
    | non => cases ry; exact PySem.EqNone.ne_int_none (fin_bl I q (by simp))
    | int j => obtain ⟨t', rfl⟩ := ry; exact ne_int (fin_bl I q (congrArg not dec_int))
    | str j => obtain ⟨t', rfl⟩ := ry; exact PySem.EqMixed.ne_int_str (fin_bl I q (by simp))
    | _ => exact absurd (show false = true from hs) Bool.false_ne_true
  | str i =>
    obtain ⟨t, rfl⟩ := rx
    cases y with
    | non => cases ry; exact PySem.EqNone.ne_str_none (fin_bl I q (by simp))
    | bl j => cases ry; exact PySem.EqMixed.ne_str_bool (fin_bl I q (by simp))
    | int j => obtain ⟨t', rfl⟩ := ry; exact PySem.EqMixed.ne_str_int (fin_bl I q (by simp))
    | str j => obtain ⟨t', rfl⟩ := ry; exact ne_str (fin_bl I q (congrArg not dec_str))
    | _ => exact absurd (show false = true from hs) Bool.false_ne_true
  | byt i =>
    obtain ⟨t, rfl⟩ := rx
    cases y with
    | byt j => obtain ⟨t', rfl⟩ := ry; exact PySem.W.ne_bytes (fin_bl I q (congrArg not dec_byt))
    | _ => exact absurd (show false = true from hs) Bool.false_ne_true
  | _ => cases y <;> exact absurd (show false = true from hs) Bool.false_ne_true

theorem op_lt : OpR X (compareOp .Lt) (rI0 fun i j => .bl (decide (i < j))) := opB0 fun _ _ _ _ _ _ _ q => lt_int q
theorem op_le : OpR X (compareOp .LtE) (rI0 fun i j => .bl (decide (i ≤ j))) := opB0 fun _ _ _ _ _ _ _ q => le_int q
theorem op_gt : OpR X (compareOp .Gt) (rI0 fun i j => .bl (decide (j < i))) := opB0 fun _ _ _ _ _ _ _ q => gt_int q
theorem op_ge : OpR X (compareOp .GtE) (rI0 fun i j => .bl (decide (j ≤ i))) := opB0 fun _ _ _ _ _ _ _ q => ge_int q
theorem nomark (b : Expr) {op : CmpOp} (h : op ≠ .In := by decide) (h2 : op ≠ .NotIn := by decide) : behindInMarks op b = false := by
  have e1 : (op == CmpOp.In) = false := by cases op <;> first | rfl | exact absurd rfl h
  have e2 : (op == CmpOp.NotIn) = false := by cases op <;> first | rfl | exact absurd rfl h2
  cases b <;> simp [behindInMarks, e1, e2]
theorem pe_cmpR {op : CmpOp} {r : R2} (ho : OpR X (compareOp op) r) (ha : PE X a ta) (hb : PE X b tb) (hm : behindInMarks op b = false) : PE X (.Compare a [op] [b] pos) (tOp r ta tb) := by
  intro pins s σ H Q I h
  exact wpAny_Compare1 (binT ha hb I h fun v u s2 x y H2 I2 rx ry q => ho pins s2 σ H2 x y v u Q I2 rx ry q) hm
def tTest (t : TE) : TT := fun σ H Q => t σ H fun x H' => OfBl x H' Q
theorem pt_cmpR {op : CmpOp} {r : R2} (ho : OpR X (compareOp op) r) (ha : PE X a ta) (hb : PE X b tb) (hm : behindInMarks op b = false) : PT X (.Compare a [op] [b] pos) (tTest (tOp r ta tb)) := by
  intro pins s σ H Q I h
  refine wpAny_isTrue_Compare1 (thn (ha pins s σ H _ I h) fun v s1 ⟨x, H1, I1, r1, q1⟩ => thn (hb pins s1 σ H1 _ I1 q1) fun u s2 ⟨y, H2, I2, r2, q2⟩ =>
    thn (ho pins s2 σ H2 x y v u _ I2 r1 r2 q2) fun c s3 ⟨z, H3, I3, r3, k, e, q3⟩ => ?_) hm
  subst e
  cases r3
  exact wpAny_truthy_bool ⟨H3, I3, q3⟩
def tChain (r r' : R2) (ta tb tc : TE) : TE := fun σ H Q => ta σ H fun x H1 => tb σ H1 fun y H2 => r x y H2 fun z H3 => ∃ k, z = .bl k ∧
  (if k = true then tc σ H3 fun w' H4 => r' y w' H4 Q else Q (.bl false) H3)
theorem pe_chain {op op' : CmpOp} {r r' : R2} (ho : OpR X (compareOp op) r) (ho' : OpR X (compareOp op') r') (ha : PE X a ta) (hb : PE X b tb) (hc : PE X c tc)
    (hm : lastMarks [op, op'] [b, c] = false := by with_unfolding_all rfl) : PE X (.Compare a [op, op'] [b, c] pos) (tChain r r' ta tb tc) := by
  intro pins s σ H Q I h
  refine Compare_chain (thn (ha pins s σ H _ I h) fun v s1 ⟨x, H1, I1, r1, q1⟩ => chain_link (thn (hb pins s1 σ H1 _ I1 q1) fun u s2 ⟨y, H2, I2, r2, q2⟩ =>
    thn (ho pins s2 σ H2 x y v u _ I2 r1 r2 q2) fun d s3 ⟨z, H3, I3, r3, k, e, q3⟩ => ?_)) hm
  subst e
  cases r3
  refine wpAny_truthy_bool ?_
  cases k with
  | false => exact ite_ff ⟨.bl false, H3, I3, rfl, q3⟩
  | true => exact ite_tt (chain_last (thn (hc pins s3 σ H3 _ I3 q3) fun w' s4 ⟨z', H4, I4, r4, q4⟩ => ho' pins s4 σ H4 y z' u w' Q I4 r2 r4 q4))
theorem pt_chain {op op' : CmpOp} {r r' : R2} (ho : OpR X (compareOp op) r) (ho' : OpR X (compareOp op') r') (ha : PE X a ta) (hb : PE X b tb) (hc : PE X c tc)
    (hm : lastMarks [op, op'] [b, c] = false := by with_unfolding_all rfl) : PT X (.Compare a [op, op'] [b, c] pos) (tTest (tChain r r' ta tb tc)) := by
  intro pins s σ H Q I h
  refine isTrue_chain (thn (ha pins s σ H _ I h) fun v s1 ⟨x, H1, I1, r1, q1⟩ => test_link (thn (hb pins s1 σ H1 _ I1 q1) fun u s2 ⟨y, H2, I2, r2, q2⟩ =>
    thn (ho pins s2 σ H2 x y v u _ I2 r1 r2 q2) fun d s3 ⟨z, H3, I3, r3, k, e, q3⟩ => ?_)) hm
  subst e
  cases r3
  refine wpAny_truthy_bool ?_
  cases k with
  | false =>
    obtain ⟨k', e', q'⟩ := q3
    cases e'
    exact ite_ff ⟨H3, I3, q'⟩
  | true =>
    refine ite_tt (test_last (thn (hc pins s3 σ H3 _ I3 q3) fun w' s4 ⟨z', H4, I4, r4, q4⟩ => thn (ho' pins s4 σ H4 y z' u w' _ I4 r2 r4 q4) fun d' s5 ⟨z2, H5, I5, r5, k2, e2, q5⟩ => ?_))
    subst e2
    cases r5
    exact wpAny_truthy_bool ⟨H5, I5, q5⟩

theorem line63 : (sizeLine : Nat) < 2 ^ 63 := by rw [sizeLine_eq]; decide
theorem vals1 {x : V} {us : List Value} (r : Vals [x] us) : ∃ u, us = [u] ∧ RelV x u := by
  cases r with
  | cons r1 r2 => cases r2; exact ⟨_, rfl, r1⟩
theorem vals2 {x y : V} {us : List Value} (r : Vals [x, y] us) : ∃ u w', us = [u, w'] ∧ RelV x u ∧ RelV y w' := by
  cases r with
  | cons r1 r2 =>
    cases r2 with
    | cons r3 r4 => cases r4; exact ⟨_, _, rfl, r1, r3⟩
inductive P_call_abs (K : PySem.W.Frag) (xs : List V) (H : Hp) (Q : VK) : Prop
  | mk (i : _) (h1 : xs = [.int i]) (h2 : Q (.int (if i < 0 then -i else i)) H) : P_call_abs K xs H Q
theorem call_abs : CallR X (.builtin "abs") (P_call_abs X.K) := by
  intro pins s σ H xs us Q I r h
  obtain ⟨i, rfl, q⟩ := h
  obtain ⟨u, rfl, t, rfl⟩ := vals1 r
  exact call_abs_int fun u tk => ⟨.int (if i < 0 then -i else i), H, I.tok _, ⟨_, rfl⟩, q⟩
inductive P_call_max2 (K : PySem.W.Frag) (xs : List V) (H : Hp) (Q : VK) : Prop
  | mk (i : _) (j : _) (h1 : xs = [.int i, .int j]) (h2 : Q (.int (if j > i then j else i)) H) : P_call_max2 K xs H Q
theorem call_max2 (hc : X.calm = true) : CallR X (.builtin "max") (P_call_max2 X.K) := by
  intro pins s σ H xs us Q I r h
  obtain ⟨i, j, rfl, q⟩ := h
  obtain ⟨u, w', rfl, ⟨t, rfl⟩, ⟨t', rfl⟩⟩ := vals2 r
  refine max_two_ints (I.ok.hd hc) fun h' tk k => ⟨_, H, I.kept k, ?_, q⟩
  by_cases hj : j > i
  · rw [if_pos hj, if_pos hj]; exact ⟨_, rfl⟩
  · rw [if_neg hj, if_neg hj]; exact ⟨_, rfl⟩
theorem call_int1 : CallR X (.type "int") (fun xs H Q => (∃ i, xs = [.int i] ∧ Q (.int i) H) ∨ ∃ k, xs = [.bl k] ∧ Q (.int (if k then 1 else 0)) H) := by
  intro pins s σ H xs us Q I r h
  rcases h with ⟨i, rfl, q⟩ | ⟨k, rfl, q⟩
  · obtain ⟨u, rfl, t, rfl⟩ := vals1 r
    exact call_int_int ⟨.int i, H, I, ⟨_, rfl⟩, q⟩
  · obtain ⟨u, rfl, r1⟩ := vals1 r
    cases r1
    exact call_int_bool ⟨.int (if k then 1 else 0), H, I.tok _, ⟨_, rfl⟩, q⟩
end
end L2

namespace L2
open PySem PySem.Spec PyProof.Rows

structure ObjM (h : Heap) (x dx C : Addr) (mA : Str → Option Value) : Prop where
  obj : h.get? x = some (PySem.W.instObj C dx)
  ns : h.Ns1 dx mA
  ne : dx ≠ x

theorem lookIn_ns {h : Heap} {dx : Addr} {mA : Str → Option Value} (n : h.Ns1 dx mA) : ∃ od, h.get? dx = some od ∧ ∀ name, PySem.W.lookIn name od = some (mA name) := by
  obtain ⟨o, es, ep, ho, hd, hk, _, hm⟩ := n
  refine ⟨o, ho, fun name => ?_⟩
  have e := hm name
  unfold nsFind findBy at e
  rw [← Array.find?_toList] at e
  unfold PySem.W.lookIn
  rw [hd]
  dsimp only
  split
  · rename_i y q
    rw [q] at e
    exact congrArg some e
  · rename_i q
    rw [q] at e
    have a : es.toList.any (·.refKey) = false := by
      rw [List.any_eq_false]
      intro y hy
      obtain ⟨z, t, hkey⟩ := hk y (Array.mem_toList_iff.mp hy)
      simp [DictEntry.refKey, hkey]
    have a' : ¬ es.toList.any (·.refKey) = true := by rw [a]; exact Bool.false_ne_true
    rw [if_neg a']
    exact congrArg some e

theorem ObjM.look {h : Heap} {x dx C : Addr} {mA : Str → Option Value} (I : ObjM h x dx C mA) : ∃ od, PySem.W.InstAt h x (PySem.W.instObj C dx) C (some od) ∧ ∀ name, PySem.W.lookIn name od = some (mA name) :=
  let ⟨od, ho, hl⟩ := lookIn_ns I.ns
  ⟨od, ⟨I.obj, rfl, rfl, ho⟩, hl⟩

section
variable {prog : Program} {w : World} {A : Around} {E : Value → Shared → Prop} {s : Shared} {K : PySem.W.Frag} {x dx C f : Addr} {mA : Str → Option Value} {name : Str} {v : Value}

theorem get_map {expr : Bool} {Q : Value → Shared → Prop} (X : K.In s.heap) (I : ObjM s.heap x dx C mA) (hg : PySem.W.plainGet K C name = true) (hh : PySem.W.hasDictIn K C = true)
    (ha : PySem.W.findIn K (.ref C) name = some none) (hv : mA name = some v) (hv' : PySem.W.handedIn v = true) (h : Q v { s with toks := s.toks + 1 }) :
    wpAny (model prog w) A (getAttr (.ref x) name expr) Q E s := by
  obtain ⟨od, J, hl⟩ := I.look
  exact PySem.W.get_value X J (PySem.W.plainGet_of hg).1 (PySem.W.findObj_own hh ha rfl (by rw [hl, hv])) hv' h

theorem get_meth {pl : Sem Bool} {Q : Value × List Value → Shared → Prop} (X : K.In s.heap) (I : ObjM s.heap x dx C mA) (hg : PySem.W.plainGet K C name = true)
    (hf : PySem.W.findIn K (.ref C) name = some (some (.ref f))) (ht : PySem.W.isFn K (.ref f) = true) (hv : mA name = none) (h : Q (.ref f, [.ref x]) s) :
    wpAny (model prog w) A (getMethod (.ref x) name pl) Q E s := by
  obtain ⟨od, J, hl⟩ := I.look
  exact PySem.W.method_fn X J (PySem.W.plainGet_of hg).1 (PySem.W.plainGet_of hg).2 hf (beq_iff_eq.mp ht) (by show (PySem.W.lookIn name od).map (·.isSome) = some false; rw [hl, hv]; rfl) h

theorem set_map {ns : List Str} {Q : Unit → Shared → Prop} (X : K.In s.heap) (I : ObjM s.heap x dx C mA)
    (hs : PySem.W.findIn K (.ref C) "__setattr__" = some (some (.builtin "object.__setattr__"))) (hp : PySem.W.plainOver K C = true) (ht : PySem.W.takerIn K C name = some none) (hh : PySem.W.hasDictIn K C = true)
    (hw : PySem.Within mA ns) (hsz : ns.length ≤ sizeLine)
    (h : ∀ h', ObjM h' x dx C (fun y => if y = name then some v else mA y) → Heap.SameBut dx s.heap h' → Q () { s with heap := h', toks := s.toks + 2 }) :
    wpAny (model prog w) A (setAttr (.ref x) name v) Q E s := by
  obtain ⟨od, J, hl⟩ := I.look
  refine PySem.W.set_plain X J hs (PySem.W.osa_open (s := { s with toks := s.toks + 1 }) (r := none) X J hp ht fun b => ?_)
  obtain ⟨cd, hc, hd'⟩ := PySem.W.any_some hh
  have hx : s.heap.get? x = some ⟨.ref C, some dx, .plain, #[]⟩ := I.obj
  refine wpAny_bind (wpAny_pure (wpAny_bind (wpAny_bind (wpAny_loadPart hx (wpAny_bind (PySem.W.Looks.here (s := { s with toks := s.toks + 1 }) (PySem.W.looks_clsIn X hc) ?_))))))
  rw [hd']
  refine wpAny_pure (a := some dx) (wpAny_bind (wpAny_pure (wpAny_bind ?_)))
  refine wpAny_nsSet1 (s := { s with toks := s.toks + 1 }) I.ns fun h' hn2 hs2 => ?_
  obtain ⟨oD, esD, epD, hoD, hdD, hcD⟩ := hn2.count (PySem.Within.cons name v hw)
  refine wpAny_bind (wpAny_lookBehind hoD (by rw [hdD]; exact pastItsLine_dict (Nat.le_trans hcD (by rw [List.length_cons]; (first | lia | omega)))) ?_)
  exact wpAny_pure (h _ ⟨(hs2.2 _ (Ne.symm I.ne)).trans I.obj, hn2, I.ne⟩ hs2)

theorem make_map {R : Result → Shared → Prop} {vs : List Value} {kw : List (Str × Value)} (X : K.In s.heap) (hm : PySem.W.makesIn K C = true)
    (hi : PySem.W.findIn K (.ref C) "__init__" = some (some (.ref f))) (hf : PySem.W.typeIn K (.ref f) = some (.type "function"))
    (h : codeAny (model prog w) (A.under (.builtin "type.__call__" ⟨.ref C :: vs, kw⟩)) (.call (.ref f) ⟨.ref (s.heap.objs.size + 1) :: vs, kw⟩) (PySem.W.InitBack (s.heap.objs.size + 1) R)
      { s with heap := (s.heap.push PySem.W.emptyDict).push (PySem.W.instObj C s.heap.objs.size) }) :
    codeAny (model prog w) A (.call (.ref C) ⟨vs, kw⟩) R s := by
  obtain ⟨hh, g, d, t, os⟩ := s
  exact PySem.W.make_core (PySem.W.makes_of X hm) (PySem.W.looks_findIn X hi) (fun self => PySem.W.bind_fn X self hf) (.inl rfl) h
end

def putF (f : Str) (v : V) : List (Str × V) → List (Str × V)
  | [] => [(f, v)]
  | (g, x) :: r => if g = f then (g, v) :: r else (g, x) :: putF f v r
theorem lookup_putF (f g : Str) (v : V) : ∀ fs : List (Str × V), (putF f v fs).lookup g = if g = f then some v else fs.lookup g
  | [] => by
    show List.lookup g [(f, v)] = _
    by_cases h : g = f
    · have hb : (g == f) = true := beq_iff_eq.mpr h
      simp only [List.lookup, hb, if_pos h]
    · have hb : (g == f) = false := beq_eq_false_iff_ne.mpr h
      simp only [List.lookup, hb, if_neg h]
  | (k, x) :: r => by
    have ih := lookup_putF f g v r
    rw [show putF f v ((k, x) :: r) = (if k = f then (k, v) :: r else (k, x) :: putF f v r) from rfl]
    by_cases hk : k = f
    · rw [if_pos hk]
      by_cases h : g = k
      · have hb : (g == k) = true := beq_iff_eq.mpr h
        simp only [List.lookup, hb, if_pos (h.trans hk)]
      · have hb : (g == k) = false := beq_eq_false_iff_ne.mpr h
        simp only [List.lookup, hb, if_neg (fun e : g = f => h (e.trans hk.symm))]
    · rw [if_neg hk]
      by_cases h : g = k
      · have hb : (g == k) = true := beq_iff_eq.mpr h
        simp only [List.lookup, hb, if_neg (fun e : g = f => hk (h.symm.trans e))]
      · have hb : (g == k) = false := beq_eq_false_iff_ne.mpr h
        simp only [List.lookup, hb]
        exact ih
theorem keys_putF (f : Str) (v : V) : ∀ fs : List (Str × V), f ∈ (putF f v fs).map (·.1) ∧ ∀ g, g ∈ fs.map (·.1) → g ∈ (putF f v fs).map (·.1)
  | [] => ⟨by simp [putF], fun g h => by simp at h⟩
  | (k, x) :: r => by
    obtain ⟨i1, i2⟩ := keys_putF f v r
    rw [show putF f v ((k, x) :: r) = (if k = f then (k, v) :: r else (k, x) :: putF f v r) from rfl]
    by_cases hk : k = f
    · rw [if_pos hk]
      subst hk
      exact ⟨by simp, fun g h => by simpa using h⟩
    · rw [if_neg hk]
      refine ⟨?_, fun g h => ?_⟩
      · rw [List.map_cons]
        exact List.mem_cons_of_mem _ i1
      · rw [List.map_cons] at h ⊢
        rcases List.mem_cons.mp h with e | e
        · exact List.mem_cons.mpr (.inl e)
        · exact List.mem_cons_of_mem _ (i2 g e)
theorem length_putF (f : Str) (v : V) : ∀ fs : List (Str × V), (putF f v fs).length ≤ fs.length + 1
  | [] => by simp [putF]
  | (k, x) :: r => by
    have ih := length_putF f v r
    rw [show putF f v ((k, x) :: r) = (if k = f then (k, v) :: r else (k, x) :: putF f v r) from rfl]
    by_cases hk : k = f
    · rw [if_pos hk, List.length_cons, List.length_cons]; (first | lia | omega)
    · rw [if_neg hk, List.length_cons, List.length_cons]; (first | lia | omega)

theorem RelO.some_of {v : V} {o : Option Value} (r : RelO (some v) o) : ∃ u, o = some u ∧ RelV v u := by
  cases o with
  | none => exact (show False from r).elim
  | some u => exact ⟨u, rfl, r⟩
theorem RelO.none_of {o : Option Value} (r : RelO none o) : o = none := by
  cases o with
  | none => rfl
  | some u => exact (show False from r).elim
theorem handed_of {v : V} {u : Value} (r : RelV v u) : PySem.W.handedIn u = true := by
  cases v with
  | non => cases (show u = Value.none from r); rfl
  | bl b => cases (show u = Value.bool b from r); rfl
  | int i => obtain ⟨t, e⟩ := (show ∃ t, u = Value.int i t from r); cases e; rfl
  | str x => obtain ⟨t, e⟩ := (show ∃ t, u = Value.str x t from r); cases e; rfl
  | byt b => obtain ⟨t, e⟩ := (show ∃ t, u = Value.bytes b t from r); cases e; rfl
  | flt b => obtain ⟨t, e⟩ := (show ∃ t, u = Value.float b t from r); cases e; rfl
  | ref a => cases (show u = Value.ref a from r); rfl
  | ty n => cases (show u = Value.type n from r); rfl

section
variable {P : Program} {w : World} {H H' : Hp} {h h' : Heap} {a C dx : Addr} {fs fs' : List (Str × V)}
theorem ins_get (hok : HOk P w H h) (e : H a = some (.ins C dx fs)) : ∃ mA, ObjM h a dx C mA ∧ (∀ f, RelO (fs.lookup f) (mA f)) ∧ PySem.Within mA (fs.map (·.1)) ∧ fs.length ≤ 1000 ∧ H dx = some (.own a) := by
  obtain ⟨d, z, ne, ob, mA, n, r, q⟩ := (show ObjOk P w H h a (.ins C dx fs) from hok a _ e)
  exact ⟨mA, ⟨ob, n, ne⟩, r, q, z, d⟩
end

structure Cls (K : PySem.W.Frag) (C : Addr) : Prop where
  pg : PySem.W.plainGet K C Str.empty = true
  hd : PySem.W.hasDictIn K C = true
  po : PySem.W.plainOver K C = true
  sa : PySem.W.findIn K (.ref C) "__setattr__" = some (some (.builtin "object.__setattr__"))
theorem Cls.get {K : PySem.W.Frag} {C : Addr} (c : Cls K C) (f : Str) : PySem.W.plainGet K C f = true := c.pg
def NoAttr (K : PySem.W.Frag) (C : Addr) (f : Str) : Prop := PySem.W.findIn K (.ref C) f = some none
theorem NoAttr.taker {K : PySem.W.Frag} {C : Addr} {f : Str} (n : NoAttr K C f) : PySem.W.takerIn K C f = some none := by
  unfold PySem.W.takerIn
  rw [show PySem.W.findIn K (.ref C) f = some none from n]
  rfl
structure Meth (K : PySem.W.Frag) (C : Addr) (m : Str) (f : Addr) : Prop where
  at_ : PySem.W.findIn K (.ref C) m = some (some (.ref f))
  fn : PySem.W.isFn K (.ref f) = true
  kp : PySem.W.keepIn K (.ref f) = true

section
variable {X : Cx} {pins : List (Addr × Obj)} {σ : St} {H : Hp} {s : Shared} {a C dx : Addr} {fs : List (Str × V)} {f : Str} {v : V} {A : Around} {E : Value → Shared → Prop}

theorem getattr_ok {b : Bool} {Q : Value → Shared → Prop} (I : Inv X pins σ H s) (e : H a = some (.ins C dx fs)) (c : Cls X.K C) (n : NoAttr X.K C f) (l : fs.lookup f = some v)
    (h : ∀ u s', Inv X pins σ H s' → RelV v u → Q u s') : wpAny (model X.prog X.w) A (getAttr (.ref a) f b) Q E s := by
  obtain ⟨mA, O, r, _, _, _⟩ := ins_get I.hok e
  obtain ⟨u, hu, ru⟩ := RelO.some_of (v := v) (o := mA f) (by rw [← l]; exact r f)
  exact get_map I.kIn O (c.get f) c.hd n hu (handed_of ru) (h u _ (I.tok _) ru)

theorem getmeth_ok {m : Str} {g : Addr} {pl : Sem Bool} {Q : Value × List Value → Shared → Prop} (I : Inv X pins σ H s) (e : H a = some (.ins C dx fs)) (c : Cls X.K C) (k : Meth X.K C m g) (l : fs.lookup m = none)
    (h : Q (.ref g, [.ref a]) s) : wpAny (model X.prog X.w) A (getMethod (.ref a) m pl) Q E s := by
  obtain ⟨mA, O, r, _, _, _⟩ := ins_get I.hok e
  have hn : mA m = none := RelO.none_of (by rw [← l]; exact r m)
  exact get_meth I.kIn O (c.get m) k.at_ k.fn hn h

theorem setattr_ok {y : V} {u : Value} {Q : Unit → Shared → Prop} (I : Inv X pins σ H s) (e : H a = some (.ins C dx fs)) (c : Cls X.K C) (n : NoAttr X.K C f) (hl : fs.length < 1000) (ry : RelV y u)
    (h : ∀ s', Inv X pins σ (upd H a (.ins C dx (putF f y fs))) s' → Q () s') : wpAny (model X.prog X.w) A (setAttr (.ref a) f u) Q E s := by
  obtain ⟨mA, O, r, wi, _, ho⟩ := ins_get I.hok e
  have hz : (fs.map (·.1)).length ≤ sizeLine := by rw [List.length_map, sizeLine_eq]; (first | lia | omega)
  refine set_map I.kIn O c.sa c.po n.taker c.hd wi hz fun h' O' sb => h _ ?_
  have hd : ∃ o, h'.get? dx = some o := let ⟨o, _, _, e', _⟩ := O'.ns; ⟨o, e'⟩
  refine I.write (x := a) (e := dx) (by rw [e]; exact True.intro) (.inr ho) (fun b q hb z => (sb.2 b hb).trans z) hd ?_
  refine ⟨by rw [upd_ne O.ne]; exact ho, ?_, O.ne, O'.obj, _, O'.ns, fun g => ?_, fun g hg => ?_⟩
  · have := length_putF f y fs; (first | lia | omega)
  · show RelO ((putF f y fs).lookup g) (if g = f then some u else mA g)
    rw [lookup_putF]
    by_cases q : g = f
    · rw [if_pos q, if_pos q]; exact ry
    · rw [if_neg q, if_neg q]; exact r g
  · by_cases q : g = f
    · rw [q]; exact (keys_putF f y fs).1
    · refine (keys_putF f y fs).2 g (wi g fun z => hg ?_)
      show (if g = f then some u else mA g) = none
      rw [if_neg q]; exact z

theorem Inv.made (I : Inv X pins σ H s) : Inv X pins σ (upd (upd H s.heap.objs.size (.own (s.heap.objs.size + 1))) (s.heap.objs.size + 1) (.ins C s.heap.objs.size []))
    { s with heap := (s.heap.push PySem.W.emptyDict).push (PySem.W.instObj C s.heap.objs.size) } := by
  have e1 : (s.heap.push PySem.W.emptyDict).get? s.heap.objs.size = some PySem.W.emptyDict := Heap.get?_push_size s.heap rfl
  have e2 : ((s.heap.push PySem.W.emptyDict).push (PySem.W.instObj C s.heap.objs.size)).get? (s.heap.objs.size + 1) = some (PySem.W.instObj C s.heap.objs.size) := by
    have := Heap.get?_push_size (s.heap.push PySem.W.emptyDict) (o := PySem.W.instObj C s.heap.objs.size) rfl
    rwa [Heap.size_push] at this
  have e3 : (s.heap.push PySem.W.emptyDict).Ns s.heap.objs.size (fun _ => none) := ⟨PySem.W.emptyDict, #[], _, e1, rfl, (fun e he => absurd he (by simp)), fun _ => rfl⟩
  have I1 := I.laid (a := s.heap.objs.size) (o := .own (s.heap.objs.size + 1)) (h' := s.heap.push PySem.W.emptyDict) (t' := s.toks) (fun b u q => Heap.get?_push_of_some _ q) (Nat.le_refl _) ⟨_, e1⟩
  refine I1.laid (a := s.heap.objs.size + 1) (o := .ins C s.heap.objs.size []) (t' := s.toks) (fun b u q => Heap.get?_push_of_some _ q) (Nat.le_of_eq (Heap.size_push _ _)) ?_
  have ne : s.heap.objs.size ≠ s.heap.objs.size + 1 := Nat.ne_of_lt (Nat.lt_succ_self _)
  refine ⟨by rw [upd_ne ne, upd_same], Nat.zero_le _, ne, e2, fun _ => none, (Heap.Ns1.of_empty e3).at fun o q => Heap.get?_push_of_some _ q, fun _ => True.intro, fun y hy => absurd rfl hy⟩

theorem attr_of {prog : Program} {w : World} {env : Env} {e : Expr} {f : Str} {pos : Pos} {s : Shared} {Q : Value → Shared → Prop} (hb : attributeBase e f env (eval e env) = eval e env)
    (h : wpAny (model prog w) A (eval e env) (fun o s₁ => wpAny (model prog w) A (getAttr o f true) Q E s₁) E s) : wpAny (model prog w) A (eval (.Attribute e f pos) env) Q E s :=
  Attribute_any_ h (by rw [arm_eval_Attribute, hb])
end

inductive OfFld (K : PySem.W.Frag) (f : Str) (x : V) (H : Hp) (Q : VK) : Prop
  | mk (a C dx : Addr) (fs : List (Str × V)) (v : V) (e : x = .ref a) (h : H a = some (.ins C dx fs)) (c : Cls K C) (n : NoAttr K C f) (l : fs.lookup f = some v) (q : Q v H) : OfFld K f x H Q
def tFld (K : PySem.W.Frag) (ta : TE) (f : Str) : TE := fun σ H Q => ta σ H fun x H1 => OfFld K f x H1 Q
def sFld (K : PySem.W.Frag) (ta tv : TE) (f : Str) : TS := fun D σ H => tv σ H fun y H1 => ta σ H1 fun x H2 => ∃ a C dx fs, x = .ref a ∧ H2 a = some (.ins C dx fs) ∧ Cls K C ∧ NoAttr K C f ∧ fs.length < 1000 ∧
  D.nx σ (upd H2 a (.ins C dx (putF f y fs)))
section
variable {X : Cx} {o e value : Expr} {f : Str} {pos pos' tpos : Pos} {ta tv : TE}
theorem pe_fld (he : PE X e ta) (hb : attributeBase e f X.env (eval e X.env) = eval e X.env) : PE X (.Attribute e f pos) (tFld X.K ta f) := by
  intro pins s σ H Q I h
  refine attr_of hb (thn (he pins s σ H _ I h) fun u s1 ⟨x, H1, I1, rx, a, C, dx, fs, v, ex, ea, c, n, l, q⟩ => ?_)
  subst ex
  obtain rfl : u = Value.ref a := rx
  exact getattr_ok I1 ea c n l fun u' s2 I2 ru => ⟨v, H1, I2, ru, q⟩
theorem ps_fld (ha : PE X o ta) (hv : PE X value tv) (hs : swapsWith value (some (.Attribute o f pos')) pos.line X.env = pure false) : PS X (.Assign [.Attribute o f pos'] value pos) (sFld X.K ta tv f) := by
  intro pins s σ H D I h
  refine plainObj_wpAny_Assign_Attribute (thn (hv pins s σ H _ I h) fun u s1 ⟨y, H1, I1, ry, q⟩ => thn (ha pins s1 σ H1 _ I1 q) fun ov s2 ⟨x, H2, I2, rx, a, C, dx, fs, ex, ea, c, n, l, q2⟩ => ?_) hs
  subst ex
  obtain rfl : ov = Value.ref a := rx
  exact setattr_ok I2 ea c n l ry fun s3 I3 => ⟨σ, _, I3, q2⟩
end

section
variable {X : Cx} {pins : List (Addr × Obj)} {σ : St} {H : Hp} {s : Shared} {A : Around} {E : Value → Shared → Prop} {Q : Value → Shared → Prop} {c : Value} {b : Bool}
inductive TyOf (K : PySem.W.Frag) (H : Hp) : V → Value → Prop where
  | non : TyOf K H .non (.type "NoneType")
  | bl (x : Bool) : TyOf K H (.bl x) (.type "bool")
  | int (i : Int) : TyOf K H (.int i) (.type "int")
  | str (x : Str) : TyOf K H (.str x) (.type "str")
  | flt (x : UInt64) : TyOf K H (.flt x) (.type "float")
  | lst {a : Addr} {xs : List V} (e : H a = some (.lst xs)) : TyOf K H (.ref a) (.type "list")
  | frz {a : Addr} {o : Obj} {xs : List V} (e : H a = some (.frz o (.lst xs))) : TyOf K H (.ref a) (.type "list")
  | tup {a : Addr} {xs : List V} (e : H a = some (.tup xs)) : TyOf K H (.ref a) (.type "tuple")
  | dK {a : Addr} {kvs : List (Key × V)} (e : H a = some (.dK kvs)) : TyOf K H (.ref a) (.type "dict")
  | dT {a : Addr} {kvs : List (List Key × V)} (e : H a = some (.dT kvs)) : TyOf K H (.ref a) (.type "dict")
  | ins {a C dx : Addr} {fs : List (Str × V)} (e : H a = some (.ins C dx fs)) (cl : Cls K C) (ha : PySem.W.findIn K (.ref C) "__class__" = some (some (.builtin "object.__class__")))
      (hn : PySem.W.specialIn K (.builtin "object.__class__") "__get__" = some (some (.builtin "getset_descriptor.__get__"))) (htk : PySem.W.takesIn K (.builtin "object.__class__") = some true)
      (hm : PySem.W.mroIn K C (.type "object") = some true) : TyOf K H (.ref a) (.ref C)
theorem isinst_ok {x : V} {u t : Value} (I : Inv X pins σ H s) (rx : RelV x u) (ty : TyOf X.K H x t) (e : PySem.W.kitOne X.K t c = some b) (h : ∀ tk, Q (.bool b) { s with toks := tk }) :
    wpAny (model X.prog X.w) A (call (.builtin "isinstance") [u, c]) Q E s := by
  cases ty with
  | non => cases (show u = Value.none from rx); exact PySem.W.kia_one PySem.W.kitx_none I.kIn True.intro e (fun z => nomatch z) h
  | bl y => cases (show u = Value.bool y from rx); exact PySem.W.kia_one PySem.W.kitx_bool I.kIn True.intro e (fun z => nomatch z) h
  | int i => obtain ⟨t, q⟩ := (show ∃ t, u = Value.int i t from rx); cases q; exact PySem.W.kia_one PySem.W.kitx_int I.kIn True.intro e (fun z => nomatch z) h
  | str y => obtain ⟨t, q⟩ := (show ∃ t, u = Value.str y t from rx); cases q; exact PySem.W.kia_one PySem.W.kitx_str I.kIn True.intro e (fun z => nomatch z) h
  | flt y => obtain ⟨t, q⟩ := (show ∃ t, u = Value.float y t from rx); cases q; exact PySem.W.kia_one PySem.W.kitx_float I.kIn True.intro e (fun z => nomatch z) h
  | @lst a xs ea =>
    cases (show u = Value.ref a from rx)
    obtain ⟨_, _, n, _, h1⟩ := (show ObjOk X.prog X.w H s.heap a (.lst xs) from I.hok a _ ea)
    exact PySem.W.kia_one PySem.W.kitx_list I.kIn ⟨_, h1, rfl⟩ e (fun z => nomatch z) h
  | @frz a ob xs ea =>
    cases (show u = Value.ref a from rx)
    obtain ⟨_, _, _, n, _, h1⟩ := (show ObjOk X.prog X.w H s.heap a (.frz ob (.lst xs)) from I.hok a _ ea)
    exact PySem.W.kia_one PySem.W.kitx_list I.kIn ⟨_, h1, rfl⟩ e (fun z => nomatch z) h
  | @tup a xs ea =>
    cases (show u = Value.ref a from rx)
    obtain ⟨_, _, _, p⟩ := (show ObjOk X.prog X.w H s.heap a (.tup xs) from I.hok a _ ea)
    obtain ⟨o, h1, h2, _⟩ := p
    exact PySem.W.kia_one PySem.W.kitx_tuple I.kIn ⟨o, h1, h2⟩ e (fun z => nomatch z) h
  | @dK a kvs ea =>
    cases (show u = Value.ref a from rx)
    obtain ⟨_, _, vs, _, p⟩ := (show ObjOk X.prog X.w H s.heap a (.dK kvs) from I.hok a _ ea)
    obtain ⟨o, es, ep, h1, h2, _⟩ := p
    exact PySem.W.kia_one PySem.W.kitx_dict I.kIn ⟨o, h1, h2.1⟩ e (fun z => nomatch z) h
  | @dT a kvs ea =>
    cases (show u = Value.ref a from rx)
    obtain ⟨_, _, xs, _, o, es, ep, h1, h2, _⟩ := (show ObjOk X.prog X.w H s.heap a (.dT kvs) from I.hok a _ ea)
    exact PySem.W.kia_one PySem.W.kitx_dict I.kIn ⟨o, h1, h2.1⟩ e (fun z => nomatch z) h
  | @ins a C dx fs ea cl ha hn htk hm =>
    cases (show u = Value.ref a from rx)
    obtain ⟨mA, O, _⟩ := ins_get I.hok ea
    obtain ⟨od, J, _⟩ := O.look
    exact PySem.W.kia_one (PySem.W.kitx_own (cl.get _) cl.hd ha hn htk hm) I.kIn J e (fun z => nomatch z) h
end
end L2

namespace L2
open PySem PySem.Spec PyProof.Rows

structure Room (k : Nat) (A : Around) : Prop where
  hd : A.handled = none
  dp : A.depth + 3 * k + 5 < recursionLimit
  un : A.units + 16 * k + 200 < cLine
  gd : A.guards = some []
theorem Room.mono {j k : Nat} {A : Around} (r : Room k A) (h : j ≤ k) : Room j A := ⟨r.hd, by have := r.dp; (first | lia | omega), by have := r.un; (first | lia | omega), r.gd⟩
theorem Room.deeper {k : Nat} {A : Around} (r : Room (k + 1) A) (env : Env) : Room k (A.deeper env) :=
  ⟨r.hd, by have := r.dp; show A.depth + 1 + 3 * k + 5 < _; (first | lia | omega), by have := r.un; show A.units + 3 + 16 * k + 200 < _; (first | lia | omega), r.gd⟩
theorem make_depth {A : Around} {C : Addr} {us : List Value} {kw : List (Str × Value)} : (A.under (.builtin "type.__call__" ⟨.ref C :: us, kw⟩)).depth = A.depth + 1 := by
  first | rfl | simp [Around.under, Code.weight, Code.isCreation, Code.isGuard, Code.isCaller, Code.frames, Code.isFrame, guardIds]
theorem make_units {A : Around} {C : Addr} {us : List Value} {kw : List (Str × Value)} : (A.under (.builtin "type.__call__" ⟨.ref C :: us, kw⟩)).units = A.units + 1 := by
  first | rfl | simp [Around.under, Code.cUnits, Code.frames, Code.isFrame]
theorem make_guards {A : Around} {C : Addr} {us : List Value} {kw : List (Str × Value)} : (A.under (.builtin "type.__call__" ⟨.ref C :: us, kw⟩)).guards = A.guards := by
  first | rfl | (simp [Around.under, Code.guards, Code.isGuard, guardIds, pushGuards])
theorem Room.make {k : Nat} {A : Around} (r : Room (k + 1) A) (C : Addr) (us : List Value) (kw : List (Str × Value)) : Room k (A.under (.builtin "type.__call__" ⟨.ref C :: us, kw⟩)) :=
  ⟨r.hd, by have := r.dp; rw [make_depth]; (first | lia | omega), by have := r.un; rw [make_units]; (first | lia | omega), by rw [make_guards]; exact r.gd⟩
theorem Room.depth {k : Nat} {A : Around} (r : Room k A) : A.depth < recursionLimit := by have := r.dp; (first | lia | omega)
theorem Room.units {k : Nat} {A : Around} (r : Room k A) : A.units + 64 < cLine := by have := r.un; (first | lia | omega)
theorem Room.units0 {k : Nat} {A : Around} (r : Room k A) : A.units < cLine := by have := r.un; (first | lia | omega)

def tNil : TA := fun _ H Q => Q [] H
def tCons (ta : TE) (tr : TA) : TA := fun σ H Q => ta σ H fun x H1 => tr σ H1 fun xs H2 => Q (x :: xs) H2
section
variable {X : Cx} {e : Expr} {es : List Expr} {te : TE} {t : TA} {pos : Pos}
theorem pa_nil : PA X [] tNil := fun _ _ _ _ H Q I h => Calls.spliced_nil ⟨[], H, I, .nil, h⟩
theorem pa_cons (ha : PE X e te) (hr : PA X es t) (hs : starEach (e :: es) X.env = (false, eval e X.env) :: starEach es X.env := by rfl) : PA X (e :: es) (tCons te t) := by
  intro pos pins s σ H Q I h
  rw [hs]
  show wpAny _ _ (spliced ((false, eval e X.env) :: backTo pos (starEach es X.env))) _ _ s
  refine Calls.spliced_cons (thn (ha pins s σ H _ I h) fun u s1 ⟨x, H1, I1, r1, q1⟩ => ?_)
  exact thn (hr pos pins s1 σ H1 _ I1 q1) fun us s2 ⟨xs, H2, I2, r2, q2⟩ => ⟨x :: xs, H2, I2, .cons r1 r2, q2⟩

def tTup (t : TA) : TE := fun σ H Q => t σ H fun xs H1 => NewOb xs.length (.tup xs) H1 Q
def tLst (t : TA) : TE := fun σ H Q => t σ H fun xs H1 => NewOb xs.length (.lst xs) H1 Q
theorem pe_tup {x1} (h : PA X es t) : PE X (.Tuple es x1 pos) (tTup t) := by
  intro pins s σ H Q I hq
  refine wpAny_Tuple_spliced (thn (h pos pins s σ H _ I hq) fun us s1 ⟨xs, H1, I1, r, z, q⟩ => ⟨by rw [← r.length]; exact z, ?_⟩)
  have hf : H1 s1.heap.objs.size = none := I1.hok.fresh (Nat.le_refl _)
  refine ⟨.ref s1.heap.objs.size, upd H1 s1.heap.objs.size (.tup xs), I1.laid (t' := s1.toks) (fun b u e => Heap.get?_push_of_some _ e) (Nat.le_refl _) ?_, rfl, q _ hf⟩
  exact ⟨z, us, r, ⟨_, Heap.get?_push_size _ rfl, rfl, _, rfl, rfl⟩⟩
theorem pe_lst (h : PA X es t) : PE X (.List es pos) (tLst t) := by
  intro pins s σ H Q I hq
  refine wpAny_List_spliced (thn (h pos pins s σ H _ I hq) fun us s1 ⟨xs, H1, I1, r, z, q⟩ => ⟨by rw [← r.length]; exact z, ?_⟩)
  have hf : H1 s1.heap.objs.size = none := I1.hok.fresh (Nat.le_refl _)
  refine ⟨.ref s1.heap.objs.size, upd H1 s1.heap.objs.size (.lst xs), I1.laid (t' := s1.toks) (fun b u e => Heap.get?_push_of_some _ e) (Nat.le_refl _) ?_, rfl, q _ hf⟩
  exact ⟨z, us, 0, r, Heap.get?_push_size _ rfl⟩
end

abbrev Sp := List V → Hp → VK → XK → Prop
abbrev CXT := List Env → Hp → Shared → XK → Value → Shared → Prop

structure Env0 (P : Program) (w : World) (K : PySem.W.Frag) (mg : Str → Option Value) (base : Heap) (A : Around) (outer : List Env) (s : Shared) (H : Hp) : Prop where
  frames : A.frames = some outer
  mod : Mod K mg base
  bs : ∀ b o, base.get? b = some o → s.heap.get? b = some o ∧ H b = none
  bsz : base.objs.size ≤ s.heap.objs.size
  funs : s.heap.FunFrames base outer
  frf : ∀ b ∈ frs outer, H b = none
  hok : HOk P w H s.heap
  bare : AllBare s.gens
def CE (outer : List Env) (P : Program) (w : World) (H : Hp) (s : Shared) (Q : VK) (u : Value) (s' : Shared) : Prop :=
  ∃ v H', s'.os = s.os ∧ AllBare s'.gens ∧ Un (frs outer) [] H H' s.heap s'.heap ∧ HOk P w H' s'.heap ∧ RelV v u ∧ Q v H'
def CR (CX : CXT) (outer : List Env) (P : Program) (w : World) (H : Hp) (s : Shared) (Q : VK) (E : XK) (r : Result) (s' : Shared) : Prop :=
  match r with
  | .ok (.ret u) => CE outer P w H s Q u s'
  | .ok _ => False
  | .error e => CX outer H s E e s'
structure FnOk (P : Program) (w : World) (K : PySem.W.Frag) (mg : Str → Option Value) (base : Heap) (CX : CXT) (k : Nat) (f : Addr) (fd : FuncData) (ps : List Str) (sp : Sp) : Prop where
  len : ∀ vs H Q E, sp vs H Q E → vs.length = ps.length
  run : ∀ (A : Around) (outer : List Env) (s : Shared) (H : Hp) (args : Args) (us : List Value) (vs : List V) (Q : VK) (E : XK), Room k A → Env0 P w K mg base A outer s H → BindsTo s fd args (ps.zip us) → Vals vs us → sp vs H Q E →
    codeAny (model P w) A (.call (.ref f) args) (CR CX outer P w H s Q E) s
theorem FnOk.mono {P : Program} {w : World} {K : PySem.W.Frag} {mg : Str → Option Value} {base : Heap} {CX : CXT} {j k : Nat} {f : Addr} {fd : FuncData} {ps : List Str} {sp : Sp} (F : FnOk P w K mg base CX j f fd ps sp) (h : j ≤ k) :
    FnOk P w K mg base CX k f fd ps sp := ⟨F.len, fun A outer s H args us vs Q E hr => F.run A outer s H args us vs Q E (hr.mono h)⟩
theorem Env0.make {P : Program} {w : World} {K : PySem.W.Frag} {mg : Str → Option Value} {base : Heap} {A : Around} {outer : List Env} {s : Shared} {H : Hp} (e : Env0 P w K mg base A outer s H) (C : Addr) (us : List Value) (kw : List (Str × Value)) :
    Env0 P w K mg base (A.under (.builtin "type.__call__" ⟨.ref C :: us, kw⟩)) outer s H := ⟨by first | exact e.frames | (simpa [Around.under, Code.envs, Code.isFrame, pushEnvs] using e.frames), e.mod, e.bs, e.bsz, e.funs, e.frf, e.hok, e.bare⟩
section
variable {X : Cx} {pins : List (Addr × Obj)} {σ : St} {H : Hp} {s s' : Shared}
theorem Inv.env0 (I : Inv X pins σ H s) : Env0 X.prog X.w X.K X.mg X.base X.A X.stack s H :=
  ⟨I.ok.frames, I.ok.mod, I.bs, Nat.le_trans I.ok.bsz I.sz, I.stack, I.stkFree, I.hok, I.bare⟩
theorem Inv.after {Q : VK} {u : Value} (I : Inv X pins σ H s) (h : CE X.stack X.prog X.w H s Q u s') : EP X pins σ Q u s' := by
  obtain ⟨v, H', os, bare, un, hok, r, q⟩ := h
  obtain ⟨hh, g, d, t, os'⟩ := s'
  obtain rfl : os' = s.os := os
  exact ⟨v, H', I.call (h' := hh) (g' := g) (d' := d) (t' := t) (ch := []) un hok bare (fun b z => absurd z (by simp)), r, q⟩
end

def tCall (sp : Sp) (dvs : List V) (E : XK) (t : TA) : TE := fun σ H Q => t σ H fun vs H1 => sp (vs ++ dvs) H1 Q E
inductive OfIns (C : Addr) (m : Str) (x : V) (H : Hp) (Q : Prop) : Prop
  | mk (a dx : Addr) (fs : List (Str × V)) (e : x = .ref a) (h : H a = some (.ins C dx fs)) (n : fs.lookup m = none) (q : Q) : OfIns C m x H Q
def tMeth (C : Addr) (m : Str) (sp : Sp) (dvs : List V) (E : XK) (ta : TE) (t : TA) : TE := fun σ H Q => ta σ H fun x H1 => OfIns C m x H1 (t σ H1 fun vs H2 => sp (x :: (vs ++ dvs)) H2 Q E)
def tMake (C : Addr) (sp : Sp) (dvs : List V) (E : XK) (t : TA) : TE := fun σ H Q => t σ H fun vs H1 => ∀ x dx, H1 x = none → H1 dx = none → dx ≠ x →
  sp (.ref x :: (vs ++ dvs)) (upd (upd H1 dx (.own x)) x (.ins C dx [])) (fun v H2 => v = .non ∧ Q (.ref x) H2) E

def Binds (K : PySem.W.Frag) (fd : FuncData) (ps : List Str) (ds : List Value) : Prop :=
  ∀ (s : Shared) (us : List Value), K.In s.heap → (us ++ ds).length = ps.length → BindsTo s fd ⟨us, []⟩ (ps.zip (us ++ ds))
theorem Binds.all {K : PySem.W.Frag} {fd : FuncData} {ps : List Str} (h : ∀ us : List Value, us.length = ps.length → bindArgs fd ⟨us, []⟩ = pure (ps.zip us)) : Binds K fd ps [] := fun s us _ hl => by
  rw [List.append_nil] at hl ⊢
  exact .of_eq (h us hl)

def Passes (CX : CXT) (X : Cx) (E : XK) : Prop := ∀ (pins : List (Addr × Obj)) (σ : St) (H : Hp) (s : Shared) (e : Value) (s' : Shared), Inv X pins σ H s → CX X.stack H s E e s' → X.xe e s'

section
variable {X : Cx} {CX : CXT} {k : Nat} {f C : Addr} {fd : FuncData} {ps : List Str} {sp : Sp} {dvs : List V} {ds : List Value} {E : XK} {x m : Str} {p pos apos : Pos} {e o : Expr} {es : List Expr} {ta : TE} {t : TA}

theorem run_fn {pins : List (Addr × Obj)} {σ : St} {H : Hp} {s : Shared} {Q : VK} {us : List Value} {vs : List V} (F : FnOk X.prog X.w X.K X.mg X.base CX k f fd ps sp) (hr : Room k X.A) (hb : Binds X.K fd ps ds) (hd : Vals dvs ds) (hx : Passes CX X E)
    (I : Inv X pins σ H s) (r : Vals vs us) (h : sp (vs ++ dvs) H Q E) : wpAny (model X.prog X.w) X.A (call (.ref f) us) (EP X pins σ Q) X.xe s := by
  have r2 : Vals (vs ++ dvs) (us ++ ds) := r.append hd
  have hl : (us ++ ds).length = ps.length := by rw [← r2.length]; exact F.len _ _ _ _ h
  refine wpAny_call (codeAny_mono (F.run X.A X.stack s H ⟨us, []⟩ (us ++ ds) (vs ++ dvs) Q E hr I.env0 (hb s us I.kIn hl) r2 h) fun r s' hq => ?_)
  cases r with
  | error e => exact hx pins σ H s e s' I hq
  | ok fl =>
    cases fl with
    | ret u => exact I.after hq
    | next => exact False.elim hq
    | brk => exact False.elim hq
    | cont => exact False.elim hq

theorem pe_call (F : FnOk X.prog X.w X.K X.mg X.base CX k f fd ps sp) (hr : Room k X.A) (hg : Gl X x) (hm : X.mg x = some (.ref f)) (hk : PySem.W.keepIn X.K (.ref f) = true) (hb : Binds X.K fd ps ds) (hd : Vals dvs ds) (hx : Passes CX X E)
    (ha : PA X (e :: es) t) (hdb : (x == ("__debug__" : Str)) = false := by decide) (he : starEach (e :: es) X.env = (false, eval e X.env) :: starEach es X.env := by rfl) (hpl : (backTo pos (starEach es X.env)).any (·.1) = false := by rfl) :
    PE X (.Call (.Name x p) (e :: es) [] pos) (tCall sp dvs E t) := by
  intro pins s σ H Q I h
  refine wpAny_Call_Name_kw (ld_glob I hg hm ?_ hdb)
  refine PySem.W.callWith_K (h₀ := X.base) I.ok.mod.kin hk (thn (ha pos pins s σ H _ I h) fun us s1 ⟨vs, H1, I1, r, q⟩ => ⟨I1.kIn, ?_⟩) he hpl
  exact run_fn F hr hb hd hx I1 r q
theorem pe_meth {pl : Sem Bool} (he : PE X o ta) (c : Cls X.K C) (hm : Meth X.K C m f) (F : FnOk X.prog X.w X.K X.mg X.base CX k f fd ps sp) (hr : Room k X.A) (hb : Binds X.K fd ps ds) (hd : Vals dvs ds) (hx : Passes CX X E) (ha : PA X (e :: es) t)
    (hst : starEach (e :: es) X.env = (false, eval e X.env) :: starEach es X.env := by rfl) (hpl : (backTo pos (starEach es X.env)).any (·.1) = false := by rfl)
    (ht : eval (.Call (.Attribute o m apos) (e :: es) [] pos) X.env = (do
      let ov ← eval o X.env
      standAt apos.atName
      let (f, first) ← holding [ov] (getMethod ov m pl)
      callWith pos f first (backTo pos (starEach (e :: es) X.env)) (backToKw pos (keywordEach [] X.env))) := by rfl) :
    PE X (.Call (.Attribute o m apos) (e :: es) [] pos) (tMeth C m sp dvs E ta t) := by
  intro pins s σ H Q I h
  refine PySem.W.methodCall_KW (pl := pl) (thn (he pins s σ H _ I h) fun u s1 ⟨x, H1, I1, rx, a, dx, fs, ex, ea, l, q⟩ => ?_) ht
  subst ex
  obtain rfl : u = Value.ref a := rx
  refine getmeth_ok I1 ea c hm l ?_
  refine PySem.W.callWith_K (first := [.ref a]) (h₀ := X.base) I.ok.mod.kin hm.kp (thn (ha pos pins s1 σ H1 _ I1 q) fun us s2 ⟨vs, H2, I2, r, q2⟩ => ⟨I2.kIn, ?_⟩) hst hpl
  exact run_fn (us := .ref a :: us) (vs := .ref a :: vs) F hr hb hd hx I2 (.cons rfl r) q2
theorem pe_meth0 {pl : Sem Bool} (he : PE X o ta) (c : Cls X.K C) (hm : Meth X.K C m f) (F : FnOk X.prog X.w X.K X.mg X.base CX k f fd ps sp) (hr : Room k X.A) (hb : Binds X.K fd ps ds) (hd : Vals dvs ds) (hx : Passes CX X E)
    (ht : eval (.Call (.Attribute o m apos) [] [] pos) X.env = (do
      let ov ← eval o X.env
      standAt apos.atName
      let (f, first) ← holding [ov] (getMethod ov m pl)
      callWith pos f first (backTo pos (starEach [] X.env)) (backToKw pos (keywordEach [] X.env))) := by rfl) :
    PE X (.Call (.Attribute o m apos) [] [] pos) (tMeth C m sp dvs E ta tNil) := by
  intro pins s σ H Q I h
  refine PySem.W.methodCall_KW (pl := pl) (thn (he pins s σ H _ I h) fun u s1 ⟨x, H1, I1, rx, a, dx, fs, ex, ea, l, q⟩ => ?_) ht
  subst ex
  obtain rfl : u = Value.ref a := rx
  refine getmeth_ok I1 ea c hm l ?_
  exact PySem.W.callWith_K0 (first := [.ref a]) I1.kIn hm.kp (run_fn (us := [.ref a]) (vs := [.ref a]) F hr hb hd hx I1 (.cons rfl .nil) q)

structure Mk (K : PySem.W.Frag) (C f : Addr) : Prop where
  makes : PySem.W.makesIn K C = true
  init : PySem.W.findIn K (.ref C) "__init__" = some (some (.ref f))
  fn : PySem.W.isFn K (.ref f) = true
  kp : PySem.W.keepIn K (.ref C) = true

theorem run_make {pins : List (Addr × Obj)} {σ : St} {H : Hp} {s : Shared} {Q : VK} {us : List Value} {vs : List V} (M : Mk X.K C f) (F : FnOk X.prog X.w X.K X.mg X.base CX k f fd ps sp) (hr : Room (k + 1) X.A) (hb : Binds X.K fd ps ds) (hd : Vals dvs ds)
    (hx : Passes CX X E) (I : Inv X pins σ H s) (r : Vals vs us)
    (h : ∀ x dx, H x = none → H dx = none → dx ≠ x → sp (.ref x :: (vs ++ dvs)) (upd (upd H dx (.own x)) x (.ins C dx [])) (fun v H2 => v = .non ∧ Q (.ref x) H2) E) :
    wpAny (model X.prog X.w) X.A (call (.ref C) us) (EP X pins σ Q) X.xe s := by
  have hq := h (s.heap.objs.size + 1) s.heap.objs.size (I.hok.fresh (Nat.le_succ _)) (I.hok.fresh (Nat.le_refl _)) (Nat.ne_of_lt (Nat.lt_succ_self _))
  have I2 := Inv.made (C := C) I
  have r2 : Vals (V.ref (s.heap.objs.size + 1) :: (vs ++ dvs)) (Value.ref (s.heap.objs.size + 1) :: (us ++ ds)) := .cons rfl (r.append hd)
  have hl : (Value.ref (s.heap.objs.size + 1) :: us ++ ds).length = ps.length := by
    have e := r2.length
    rw [F.len _ _ _ _ hq] at e
    exact e.symm
  refine wpAny_call (make_map (f := f) I.kIn M.makes M.init (beq_iff_eq.mp M.fn) (codeAny_mono (F.run _ X.stack _ _ ⟨Value.ref (s.heap.objs.size + 1) :: us, []⟩ (Value.ref (s.heap.objs.size + 1) :: (us ++ ds)) _ _ E (hr.make C us [])
    (I2.env0.make C us []) (hb _ (Value.ref (s.heap.objs.size + 1) :: us) I2.kIn hl) r2 hq) fun r s' hq' => ?_))
  cases r with
  | error e => exact hx pins σ _ _ e s' I2 hq'
  | ok fl =>
    cases fl with
    | ret u =>
      obtain ⟨v, H', I3, rv, ev, q3⟩ := I2.after hq'
      subst ev
      exact ⟨rv, ⟨V.ref (s.heap.objs.size + 1), H', I3, rfl, q3⟩⟩
    | next => exact False.elim hq'
    | brk => exact False.elim hq'
    | cont => exact False.elim hq'
theorem pe_make (M : Mk X.K C f) (F : FnOk X.prog X.w X.K X.mg X.base CX k f fd ps sp) (hr : Room (k + 1) X.A) (hg : Gl X x) (hm : X.mg x = some (.ref C)) (hb : Binds X.K fd ps ds) (hd : Vals dvs ds) (hx : Passes CX X E)
    (ha : PA X (e :: es) t) (hdb : (x == ("__debug__" : Str)) = false := by decide) (he : starEach (e :: es) X.env = (false, eval e X.env) :: starEach es X.env := by rfl) (hpl : (backTo pos (starEach es X.env)).any (·.1) = false := by rfl) :
    PE X (.Call (.Name x p) (e :: es) [] pos) (tMake C sp dvs E t) := by
  intro pins s σ H Q I h
  refine wpAny_Call_Name_kw (ld_glob I hg hm ?_ hdb)
  refine PySem.W.callWith_K (h₀ := X.base) I.ok.mod.kin M.kp (thn (ha pos pins s σ H _ I h) fun us s1 ⟨vs, H1, I1, r, q⟩ => ⟨I1.kIn, ?_⟩) he hpl
  exact run_make M F hr hb hd hx I1 r q
end

section
variable {X : Cx} {CX : CXT} {k : Nat} {f C : Addr} {fd : FuncData} {ps ks : List Str} {sp : Sp} {E : XK} {x m : Str} {p pos apos kpos : Pos} {e o : Expr} {es : List Expr} {kws : List Keyword} {te ta : TE} {t tk : TA} {nm : Option Str}
variable {g : List Value → List Value → List Value} {gV : List V → List V → List V}
end

structure FnScope (N P : List Str) (sc : Scope) : Prop where
  kind : sc.kind = .function
  co : sc.isCoroutine = false
  gen : sc.isGenerator = false
  nd : N.Nodup
  pre : N.take P.length = P
  par : ∀ x ∈ P, sc.names.lookup x = some .local ∨ sc.names.lookup x = some .cell
  nofree : ∀ y ∈ sc.names, y.2 ≠ .free

theorem bindL_out {kindOf : Str → Option NameKind} {x : Str} : ∀ {binds : List (Str × Value)} {m : Str → Option Value}, (∀ v, (x, v) ∉ binds) → bindL kindOf binds m x = m x
  | [], _, _ => rfl
  | (n, v) :: r, m, h => by
    unfold bindL
    rw [bindL_out fun w hw => h w (List.mem_cons_of_mem _ hw)]
    split
    · have : x ≠ n := by rintro rfl; exact h v List.mem_cons_self
      simp [this]
    · rfl
theorem bindC_out {kindOf : Str → Option NameKind} {x : Str} : ∀ {binds : List (Str × Value)} {m : Str → Option Value}, (∀ v, (x, v) ∉ binds) → bindC kindOf binds m x = m x
  | [], _, _ => rfl
  | (n, v) :: r, m, h => by
    unfold bindC
    rw [bindC_out fun w hw => h w (List.mem_cons_of_mem _ hw)]
    split
    · rfl
    · have : x ≠ n := by rintro rfl; exact h v List.mem_cons_self
      simp [this]
theorem bindL_get {kindOf : Str → Option NameKind} {x : Str} {v : Value} : ∀ {P : List Str} {vs : List Value} {i : Nat} {m : Str → Option Value}, P.Nodup → P[i]? = some x → vs[i]? = some v → kindOf x = some .local →
    bindL kindOf (P.zip vs) m x = some v
  | [], _, _, _, _, h, _, _ => by simp at h
  | _ :: _, [], _, _, _, _, h, _ => by simp at h
  | p :: P, w :: vs, 0, m, nd, h1, h2, hk => by
    simp at h1 h2; subst h1; subst h2
    show bindL kindOf ((p, w) :: P.zip vs) m p = _
    unfold bindL
    rw [bindL_out fun v hv => (List.nodup_cons.mp nd).1 (List.of_mem_zip hv).1, if_pos hk]
    simp
  | p :: P, w :: vs, i + 1, m, nd, h1, h2, hk => by
    show bindL kindOf ((p, w) :: P.zip vs) m x = _
    unfold bindL
    exact bindL_get (i := i) (List.nodup_cons.mp nd).2 (by simpa using h1) (by simpa using h2) hk
theorem bindC_get {kindOf : Str → Option NameKind} {x : Str} {v : Value} : ∀ {P : List Str} {vs : List Value} {i : Nat} {m : Str → Option Value}, P.Nodup → P[i]? = some x → vs[i]? = some v → kindOf x ≠ some .local →
    bindC kindOf (P.zip vs) m x = some v
  | [], _, _, _, _, h, _, _ => by simp at h
  | _ :: _, [], _, _, _, _, h, _ => by simp at h
  | p :: P, w :: vs, 0, m, nd, h1, h2, hk => by
    simp at h1 h2; subst h1; subst h2
    show bindC kindOf ((p, w) :: P.zip vs) m p = _
    unfold bindC
    rw [bindC_out fun v hv => (List.nodup_cons.mp nd).1 (List.of_mem_zip hv).1, if_neg hk]
    simp
  | p :: P, w :: vs, i + 1, m, nd, h1, h2, hk => by
    show bindC kindOf ((p, w) :: P.zip vs) m x = _
    unfold bindC
    exact bindC_get (i := i) (List.nodup_cons.mp nd).2 (by simpa using h1) (by simpa using h2) hk

def start (N : List Str) (vs : List V) : St := vs.map some ++ List.replicate (N.length - vs.length) none

def cxOf (CX : CXT) (P : Program) (w : World) (K : PySem.W.Frag) (mg : Str → Option Value) (base : Heap) (N : List Str) (qual : Str) (scope : Scope) (f : Addr) (cd : Value) (A : Around) (outer : List Env) (s : Shared) (H : Hp) (E : XK) : Cx where
  prog := P
  w := w
  K := K
  mg := mg
  base := base
  A := A.deeper (envOfC qual scope s.heap.objs.size f cd)
  N := N
  s₀ := s
  H₀ := H
  env := envOfC qual scope s.heap.objs.size f cd
  outer := outer
  stack := envOfC qual scope s.heap.objs.size f cd :: outer
  ex := []
  calm := true
  fn := fun _ => true
  pn := []
  xe := fun e s' => wpAny (model P w) (A.deeper (envOfC qual scope s.heap.objs.size f cd)) (leaving (envOfC qual scope s.heap.objs.size f cd) e) (fun _ s'' => CX outer H s E e s'') (fun e' s'' => CX outer H s E e' s'') s'

theorem cell_has {sc : Scope} {n : Nat} {x : Str} (h : sc.names.lookup x = some .cell) : ∃ c, (cellsFrom n sc.names []).lookup x = some c := by
  have q := PySem.W.cellsFrom_some sc.names n [] (.inl h)
  exact Option.isSome_iff_exists.mp q

theorem inv_start {CX : CXT} {P : Program} {w : World} {K : PySem.W.Frag} {mg : Str → Option Value} {base : Heap} {N ps : List Str} {qual : Str} {scope : Scope} {f : Addr} {cd : Value} {A : Around} {outer : List Env} {s s1 : Shared} {H : Hp} {E : XK} {us : List Value} {vs : List V}
    (S : FnScope N ps scope) (hd : A.handled = none) (e0 : Env0 P w K mg base A outer s H) (hl : vs.length = ps.length) (r : Vals vs us)
    (x : InCallC s s.heap.objs.size (bindL (envOfC qual scope s.heap.objs.size f cd).kindOf (ps.zip us) fun _ => none) (cellsFrom (s.heap.objs.size + 1) scope.names []) (bindC (envOfC qual scope s.heap.objs.size f cd).kindOf (ps.zip us) fun _ => none) s1) :
    Inv (cxOf CX P w K mg base N qual scope f cd A outer s H E) [] (start N vs) H s1 := by
  have hpl : ps.length ≤ N.length := by have := congrArg List.length S.pre; rw [List.length_take] at this; (first | lia | omega)
  obtain ⟨h1, tk, rfl, hk⟩ := x.done
  have noA : ∀ b : Addr, b ∉ (cxOf CX P w K mg base N qual scope f cd A outer s H E).ex := fun b z => absurd (show b ∈ ([] : List Addr) from z) (by simp)
  refine ⟨⟨e0.mod, S.kind, rfl, rfl, Nat.le_refl _, fun y z c h1 h2 => ?_, fun y hy => ?_, fun y c _ h => ?_, fun _ => hd, Around.frames_deeper e0.frames, .inr ⟨rfl, rfl⟩, fun b z => absurd z (noA b), e0.bs, e0.bsz, fun b _ _ => noA b, fun b z => absurd z (noA b), e0.funs, e0.frf⟩,
    rfl, e0.bare, Un.kept hk, ⟨_, x.toInCall.ns, fun i y v h1 h2 h3 => ?_⟩, fun y c h => ⟨_, x.cell y c h⟩, e0.hok.fresh (Nat.le_refl _), fun y c h => ?_, fun p hp => absurd (show p ∈ ([] : List (Addr × Obj)) from hp) (by simp), e0.hok.kept hk, ?_⟩
  · exact name_of_addr x.apart (PySem.mem_of_lookup h1) (PySem.mem_of_lookup h2)
  · have hy : scope.names.lookup y = some .cell ∨ scope.names.lookup y = some .free := hy
    rcases hy with hy | hy
    · exact cell_has hy
    · exact absurd rfl (S.nofree _ (PySem.mem_of_lookup hy))
  · exact Nat.le_of_lt (x.above y c (PySem.mem_of_lookup h))
  · have hi : i < vs.length := by
      unfold start at h2
      by_cases hi : i < vs.length
      · exact hi
      · rw [List.getElem?_append_right (by simpa using hi)] at h2
        rw [List.getElem?_replicate] at h2
        split at h2 <;> cases h2
    have ha : vs[i]? = some v := by
      unfold start at h2
      rw [List.getElem?_append_left (by simpa using hi), List.getElem?_map] at h2
      cases e : vs[i]? with
      | none => rw [e] at h2; cases h2
      | some a => rw [e] at h2; cases h2; rfl
    obtain ⟨u, hu, rv⟩ := r.get ha
    have hp : ps[i]? = some y := by
      rw [← S.pre, List.getElem?_take_of_lt (by (first | lia | omega))]; exact h1
    have ndP : ps.Nodup := by rw [← S.pre]; exact S.nd.sublist (List.take_sublist _ _)
    refine ⟨u, rv, ?_⟩
    rcases S.par y (List.mem_of_getElem? hp) with k | k
    · exact .inl ⟨k, bindL_get ndP hp hu k⟩
    · obtain ⟨c, e⟩ := cell_has (n := s.heap.objs.size + 1) k
      refine .inr ⟨.inl k, c, e, ?_⟩
      have q := x.cell y c e
      rw [bindC_get ndP hp hu (by show scope.names.lookup y ≠ _; rw [k]; decide)] at q
      exact q
  · exact e0.hok.fresh (Nat.le_of_lt (x.above y c (PySem.mem_of_lookup h)))
  · unfold start
    show _ = N.length
    rw [List.length_append, List.length_map, List.length_replicate]
    (first | lia | omega)

theorem fn_of {CX : CXT} {P : Program} {w : World} {K : PySem.W.Frag} {mg : Str → Option Value} {base : Heap} {k : Nat} {f : Addr} {name qual : Str} {params : Arguments} {body : List Stmt} {scope : Scope} {dV kV doc pm cdv ct oc : Value} {an od : Option Addr}
    {osl : Array (Option Value)} {N ps : List Str} {sp : Sp} (lk : K.lookup f = some ⟨oc, od, .func (PySem.W.fnOf name qual params body scope dV kV doc pm an cdv ct), osl⟩) (hcd : PySem.W.codeIn K cdv qual = true) (S : FnScope N ps scope)
    (len : ∀ vs H Q E, sp vs H Q E → vs.length = ps.length)
    (hbody : ∀ (A : Around) (outer : List Env) (s : Shared) (H : Hp) (vs : List V) (Q : VK) (E : XK), Room k (A.deeper (envOfC qual scope s.heap.objs.size f cdv)) → sp vs H Q E →
      ∃ t, PSs (cxOf CX P w K mg base N qual scope f cdv A outer s H E) body t ∧ t { nx := fun _ H' => Q .non H', rt := Q } (start N vs) H) :
    FnOk P w K mg base CX (k + 1) f (PySem.W.fnOf name qual params body scope dV kV doc pm an cdv ct) ps sp := by
  refine ⟨len, fun A outer s H args us vs Q E hr e0 hb r hsp => ?_⟩
  have hl := len _ _ _ _ hsp
  have KX : K.In s.heap := e0.mod.kin.keeps fun b o e => (e0.bs b o e).1
  have lim : s.heap.NoLimit := e0.mod.nolimit.keeps fun b o e => (e0.bs b o e).1
  have hkind : ∀ y ∈ ps.zip us, scope.names.lookup y.1 = some .local ∨ (scope.names.lookup y.1 = some .cell ∧ ((cellsFrom (s.heap.objs.size + 1) scope.names []).lookup y.1).isSome = true) := fun ⟨n, v⟩ hy => by
    rcases S.par n (List.of_mem_zip hy).1 with q | q
    · exact .inl q
    · exact .inr ⟨q, PySem.W.cellsFrom_some _ _ _ (.inl q)⟩
  refine codeAny_call_function hr.depth (KX _ _ lk) rfl S.co S.gen rfl (PySem.W.codeRec_of KX hcd) (hb _ _ _ _ ?_)
  refine wpAny_newFunctionEnv_cells S.kind hkind fun env he s1 x => ?_
  subst he
  refine ⟨lim.keeps x.toInCall.keep, codeAny_func ?_⟩
  obtain ⟨t, ht, hq⟩ := hbody A outer s H vs Q E (hr.deeper _) hsp
  have I : Inv (cxOf CX P w K mg base N qual scope f cdv A outer s H E) [] (start N vs) H s1 := inv_start S hr.hd e0 hl r x
  refine wpAny_mono (ht [] s1 (start N vs) H _ I hq) (fun fl s' hs => ?_) fun e s' hs => hs
  have fin : ∀ {σ' : St} {H' : Hp} {v : V} {u : Value}, Inv (cxOf CX P w K mg base N qual scope f cdv A outer s H E) [] σ' H' s' → RelV v u → Q v H' → CE outer P w H s Q u s' :=
    fun {σ' H' v u} J rv q => ⟨v, H', J.os, J.bare, J.base, J.hok, rv, q⟩
  cases fl with
  | ret u =>
    obtain ⟨v, σ', H', J, rv, q⟩ := hs
    exact fin J rv q
  | next =>
    obtain ⟨σ', H', J, q⟩ := hs
    exact fin (v := V.non) (u := Value.none) J rfl q
  | brk =>
    obtain ⟨_, _, _, q⟩ := hs
    exact False.elim q
  | cont =>
    obtain ⟨_, _, _, q⟩ := hs
    exact False.elim q
end L2

namespace L2
open PySem PySem.Spec PyProof.Rows
section
variable {X : Cx} {x : Str} {p pos : Pos} {e : Expr} {es : List Expr} {t : TA} {id T : String} {r : List V → Hp → VK → Prop}

def tCB (r : List V → Hp → VK → Prop) (t : TA) : TE := fun σ H Q => t σ H fun vs H1 => r vs H1 Q
theorem pe_callB (hc : CallR X (.builtin id) r) (hg : Gl X x) (hm : X.mg x = none) (hv : bootBuiltins x = some (.builtin id)) (ha : PA X (e :: es) t) (hn : x ≠ "__name__" := by decide) (hdb : (x == ("__debug__" : Str)) = false := by decide)
    (he : starEach (e :: es) X.env = (false, eval e X.env) :: starEach es X.env := by rfl) (hpl : (backTo pos (starEach es X.env)).any (·.1) = false := by rfl) : PE X (.Call (.Name x p) (e :: es) [] pos) (tCB r t) := by
  intro pins s σ H Q I h
  refine wpAny_Call_Name_kw (ld_blt I hg hm hv ?_ hn hdb)
  exact PyProof.Rows.callWith_builtin1 (thn (ha pos pins s σ H _ I h) fun us s1 ⟨vs, H1, I1, r1, q1⟩ => hc pins s1 σ H1 vs us Q I1 r1 q1) he hpl
theorem pe_callTy (hc : CallR X (.type T) r) (hg : Gl X x) (hm : X.mg x = none) (hv : bootBuiltins x = some (.type T)) (ha : PA X (e :: es) t) (hn : x ≠ "__name__" := by decide) (hdb : (x == ("__debug__" : Str)) = false := by decide)
    (he : starEach (e :: es) X.env = (false, eval e X.env) :: starEach es X.env := by rfl) (hpl : (backTo pos (starEach es X.env)).any (·.1) = false := by rfl) : PE X (.Call (.Name x p) (e :: es) [] pos) (tCB r t) := by
  intro pins s σ H Q I h
  refine wpAny_Call_Name_kw (ld_blt I hg hm hv ?_ hn hdb)
  exact PyProof.Rows.callWith_type1 (thn (ha pos pins s σ H _ I h) fun us s1 ⟨vs, H1, I1, r1, q1⟩ => hc pins s1 σ H1 vs us Q I1 r1 q1) he hpl
end
end L2

namespace HT
open PySem PyProof.Rows

section
open PySem.SeqAt
open PySem.AutoSeq1 (wpAny_loadPart')
open PySem.MeetsSeq PySem.MeetsSeq2 PySem.MeetsSeq3

end

section
variable {prog : Program} {w : World} {A : Around} {E : Value → Shared → Prop} {s : Shared}

def sIx (n d : Nat) : Option Int → Nat
  | none => d
  | some v => if v < 0 then (v + (n : Int)).toNat else min v.toNat n
theorem sIx_nat (n d k : Nat) : sIx n d (some (k : Int)) = min k n := by
  show (if (k : Int) < 0 then ((k : Int) + (n : Int)).toNat else min (k : Int).toNat n) = min k n
  rw [if_neg (by (first | lia | omega)), Int.toNat_natCast]
end
end HT

namespace L2
open PySem PySem.Spec PyProof.Rows

abbrev TO := St → Hp → (Option Int → Hp → Prop) → Prop
def PO (X : Cx) (e : Option Expr) (t : TO) : Prop :=
  ∀ (pins : List (Addr × Obj)) (s : Shared) (σ : St) (H : Hp) (Q : Option Int → Hp → Prop), Inv X pins σ H s → t σ H Q →
    wpAny (model X.prog X.w) X.A (evalPart e X.env) (fun u s' => ∃ o H', Inv X pins σ H' s' ∧ IsPart u o ∧ Q o H') X.xe s
def tNoPart : TO := fun _ H Q => Q none H
def tPart (t : TE) : TO := fun σ H Q => t σ H fun x H1 => OfI x H1 fun i H1 => Q (some i) H1

theorem intsAre_of {ns : List Int} : ∀ {us : List Value}, Vals (ns.map V.int) us → IntsAre us ns := by
  induction ns with
  | nil => intro us r; rw [List.map_nil] at r; cases r; exact .nil
  | cons n ns ih =>
    intro us r
    rw [List.map_cons] at r
    cases r with
    | cons r1 r2 =>
      obtain ⟨t, e⟩ := r1
      subst e
      exact .cons n t (ih r2)

section
variable {X : Cx} {e : Expr} {te : TE} {lo hi : Option Expr} {tl th : TO} {pos p2 : Pos}

theorem po_none : PO X none tNoPart := by
  intro pins s σ H Q I h
  rw [evalPart_none]
  exact wpAny_pure ⟨none, H, I, .none, h⟩
theorem po_some (h : PE X e te) : PO X (some e) (tPart te) := by
  intro pins s σ H Q I hw
  rw [evalPart_some]
  refine thn (h pins s σ H _ I hw) fun u s1 ⟨x, H1, I1, r1, q1⟩ => ?_
  obtain ⟨i, rfl, q⟩ := q1
  obtain ⟨t, rfl⟩ := r1
  exact ⟨some i, H1, I1, .int i t, q⟩

def SlR (X : Cx) (r : V → Option Int → Option Int → Hp → VK → Prop) : Prop :=
  ∀ (pins : List (Addr × Obj)) (s : Shared) (σ : St) (H : Hp) (x : V) (v vl vu : Value) (lo hi : Option Int) (sl : Addr) (Q : VK), Inv X pins σ H s → RelV x v → s.heap.IsSliceOf sl vl vu .none → IsPart vl lo → IsPart vu hi → r x lo hi H Q →
    ∃ T id, typeLookup (.type T) "__getitem__" = pure (some (.builtin id)) ∧ s.TypeIs v T ∧ wpAny (model X.prog X.w) X.A (getItem v (.ref sl)) (EP X pins σ Q) X.xe s
def tSl (r : V → Option Int → Option Int → Hp → VK → Prop) (te : TE) (tl th : TO) : TE := fun σ H Q => te σ H fun x H1 => tl σ H1 fun l H2 => th σ H2 fun u H3 => r x l u H3 Q
theorem pe_slice {r : V → Option Int → Option Int → Hp → VK → Prop} (hr : SlR X r) (he : PE X e te) (hl : PO X lo tl) (hu : PO X hi th) : PE X (.Subscript e (.Slice lo hi none p2) pos) (tSl r te tl th) := by
  intro pins s σ H Q I h
  refine Subscript_ (thn (he pins s σ H _ I h) fun v s1 ⟨x, H1, I1, r1, q1⟩ => ?_)
  refine wpAny_Slice (thn (hl pins s1 σ H1 _ I1 q1) fun vl s2 ⟨l, H2, I2, pl, q2⟩ => thn (hu pins s2 σ H2 _ I2 q2) fun vu s3 ⟨u, H3, I3, pu, q3⟩ => ?_)
  rw [evalPart_none]
  refine wpAny_pure ?_
  have I4 : Inv X pins σ H3 { s3 with heap := s3.heap.push { cls := .type "slice", data := .fields #[vl, vu, .none] } } := I3.kept (t' := s3.toks) fun b ob q => Heap.get?_push_of_some _ q
  obtain ⟨T, id, hT, ht, hg⟩ := hr pins { s3 with heap := s3.heap.push { cls := .type "slice", data := .fields #[vl, vu, .none] } } σ H3 x v vl vu l u s3.heap.objs.size Q I4 r1 (Heap.IsSliceOf.new ..) pl pu q3
  show wpAny (model X.prog X.w) X.A (subscriptTail e (.Slice lo hi none p2) v (.ref s3.heap.objs.size)) (EP X pins σ Q) X.xe { s3 with heap := s3.heap.push { cls := .type "slice", data := .fields #[vl, vu, .none] } }
  exact tail_any (ops := [.ref s3.heap.objs.size, v]) ht hT hg (by with_unfolding_all rfl)

def cutV (xs : List V) (lo hi : Option Int) : List V := (xs.drop (HT.sIx xs.length 0 lo)).take (HT.sIx xs.length xs.length hi - HT.sIx xs.length 0 lo)
theorem cutV_length (xs : List V) (lo hi : Option Int) : (cutV xs lo hi).length ≤ xs.length := by
  unfold cutV
  rw [List.length_take, List.length_drop]
  (first | lia | omega)
end
end L2

namespace L2
open PySem PySem.Spec PyProof.Rows

def ixN (n : Nat) (i : Int) : Option Nat := if 0 ≤ i then (if i < n then some i.toNat else none) else if -(n : Int) ≤ i then some (i + n).toNat else none
def atI {α : Type} (xs : List α) (i : Int) : Option α := (ixN xs.length i).bind fun j => xs[j]?
theorem ixN_seq {n : Nat} {i : Int} {j : Nat} (h : ixN n i = some j) : seqIndex? i n = some j ∧ j < n ∧ -(n : Int) ≤ i ∧ i < n := by
  unfold ixN at h
  by_cases h0 : 0 ≤ i
  · rw [if_pos h0] at h
    by_cases h1 : i < n
    · rw [if_pos h1] at h
      have e : i.toNat = j := Option.some.inj h
      exact ⟨by rw [seqIndex_of h0 h1, e], by (first | lia | omega), by (first | lia | omega), h1⟩
    · rw [if_neg h1] at h; cases h
  · rw [if_neg h0] at h
    by_cases h1 : -(n : Int) ≤ i
    · rw [if_pos h1] at h
      have e : (i + n).toNat = j := Option.some.inj h
      exact ⟨by rw [seqIndex_neg (by (first | lia | omega)) h1, e], by (first | lia | omega), h1, by (first | lia | omega)⟩
    · rw [if_neg h1] at h; cases h
theorem atI_get {α : Type} {xs : List α} {i : Int} {v : α} (h : atI xs i = some v) : ∃ j, seqIndex? i xs.length = some j ∧ xs[j]? = some v ∧ j < xs.length ∧ -(xs.length : Int) ≤ i ∧ i < xs.length := by
  unfold atI at h
  cases e : ixN xs.length i with
  | none => rw [e] at h; cases h
  | some j =>
    rw [e] at h
    obtain ⟨h1, h2, h3, h4⟩ := ixN_seq e
    exact ⟨j, h1, h, h2, h3, h4⟩
theorem atI_nat {α : Type} {xs : List α} {j : Nat} {v : α} (h : xs[j]? = some v) : atI xs (j : Int) = some v := by
  have hj : j < xs.length := (List.getElem?_eq_some_iff.mp h).1
  have e : ixN xs.length (j : Int) = some j := by
    unfold ixN
    rw [if_pos (by (first | lia | omega)), if_pos (by (first | lia | omega))]; simp
  unfold atI; rw [e]; exact h
def PlainIx (b : Expr) : Prop := ∀ o i, subscripted b false o i = operate [o, i] (getItem o i)
def IxR (X : Cx) (r : R2) : Prop :=
  ∀ (value slice : Expr) (pins : List (Addr × Obj)) (s : Shared) (σ : St) (H : Hp) (x y : V) (v u : Value) (Q : VK), Inv X pins σ H s → RelV x v → RelV y u → r x y H Q →
    subscripted slice false v u = operate [v, u] (getItem v u) → wpAny (model X.prog X.w) X.A (subscriptTail value slice v u) (EP X pins σ Q) X.xe s
def MtR (X : Cx) (id : String) (r : V → List V → Hp → VK → Prop) : Prop :=
  ∀ (pins : List (Addr × Obj)) (s : Shared) (σ : St) (H : Hp) (x : V) (xs : List V) (v : Value) (us : List Value) (Q : VK), Inv X pins σ H s → RelV x v → Vals xs us → r x xs H Q →
    wpAny (model X.prog X.w) X.A (call (.builtin id) (v :: us)) (EP X pins σ Q) X.xe s
section
variable {X : Cx} {a b : Expr} {ta tb : TE} {pos : Pos}
theorem pe_ix {r : R2} (hr : IxR X r) (ha : PE X a ta) (hb : PE X b tb) (hs : PlainIx b) : PE X (.Subscript a b pos) (tOp r ta tb) := by
  intro pins s σ H Q I h
  exact Subscript_ (binT ha hb I h fun v u s2 x y H2 I2 rx ry q => hr a b pins s2 σ H2 x y v u Q I2 rx ry q (hs _ _))

inductive RIxLP (K : PySem.W.Frag) (x : V) (y : V) (H : Hp) (Q : VK) : Prop
  | mk (p : _) (xs : _) (i : _) (v : _) (h1 : x = .ref p) (h2 : y = .int i) (h3 : SqL K H p xs) (h4 : atI xs i = some v) (h5 : Q v H) : RIxLP K x y H Q
def rIxL (K : PySem.W.Frag) : R2 := fun x y H Q => RIxLP K x y H Q
inductive RIxTP (K : PySem.W.Frag) (x : V) (y : V) (H : Hp) (Q : VK) : Prop
  | mk (p : _) (xs : _) (i : _) (v : _) (h1 : x = .ref p) (h2 : y = .int i) (h3 : SqT K H p xs) (h4 : atI xs i = some v) (h5 : Q v H) : RIxTP K x y H Q
def rIxT (K : PySem.W.Frag) : R2 := fun x y H Q => RIxTP K x y H Q
theorem ix_list : IxR X (rIxL X.K) := by
  intro value slice pins s σ H x y v u Q I rx ry h hs
  obtain ⟨p, xs, i, z, rfl, rfl, hq, he, q⟩ := h
  cases rx
  obtain ⟨t, rfl⟩ := ry
  obtain ⟨its, r, pl, hz⟩ := I.list hq
  obtain ⟨j, h1, h2, h3, h4, h5⟩ := atI_get he
  obtain ⟨w, ew, rw'⟩ := r.get h2
  have hl := r.length
  have hn := line63
  have fin : EP X pins σ Q w s := ⟨z, H, I, rw', q⟩
  by_cases h0 : 0 ≤ i
  · have hj : i.toNat = j := by
      rw [seqIndex_of h0 h5] at h1
      exact Option.some.inj h1
    exact item_listR pl.isList h0 (by (first | lia | omega)) (by rw [hj]; simpa using ew) fin hs
  · have hj : (i + (its.toArray.size : Int)).toNat = j := by
      rw [seqIndex_neg (by (first | lia | omega)) h4] at h1
      rw [List.size_toArray, ← hl]
      exact Option.some.inj h1
    exact subscriptTail_builtinR (x := w) pl.isList.typeIs slot_list_getitem.lookup
      (wpAny_getItem_list_neg (Q := fun r s' => r = w ∧ EP X pins σ Q r s') pl.isList (by (first | lia | omega)) (by rw [List.size_toArray] <;> (first | lia | omega)) (by (first | lia | omega)) (by rw [hj]; simpa using ew) ⟨rfl, fin⟩) hs
theorem ix_tup : IxR X (rIxT X.K) := by
  intro value slice pins s σ H x y v u Q I rx ry h hs
  obtain ⟨p, xs, i, z, rfl, rfl, hq, he, q⟩ := h
  cases rx
  obtain ⟨t, rfl⟩ := ry
  obtain ⟨its, r, pl, hz⟩ := I.tuple hq
  obtain ⟨j, h1, h2, h3, h4, h5⟩ := atI_get he
  obtain ⟨w, ew, rw'⟩ := r.get h2
  have hl := r.length
  have hn := line63
  have fin : EP X pins σ Q w s := ⟨z, H, I, rw', q⟩
  exact subscriptTail_builtinR (x := w) pl.typeIs slot_tuple_getitem.lookup
    (getItem_tuple (j := j) (Q := fun r s' => r = w ∧ EP X pins σ Q r s') pl (by (first | lia | omega)) (by (first | lia | omega)) (by rw [List.size_toArray, ← hl]; exact h1) (by simpa using ew) ⟨rfl, fin⟩) hs
theorem mapSeq_set (its : List Value) (n j : Nat) (u : Value) : Obj.mapSeq (·.setIfInBounds j u) { cls := .type "list", data := .seq its.toArray n } = { cls := .type "list", data := .seq (its.set j u).toArray n } := by
  simp [Obj.mapSeq]
theorem Inv.lst {pins : List (Addr × Obj)} {σ : St} {H : Hp} {s : Shared} {p : Addr} {xs : List V} (I : Inv X pins σ H s) (h : H p = some (.lst xs)) :
    ∃ (its : List Value) (n : Nat), Vals xs its ∧ s.heap.get? p = some { cls := .type "list", data := .seq its.toArray n } ∧ xs.length ≤ sizeLine := by
  obtain ⟨z, its, n, r, e⟩ := I.hok p _ h
  exact ⟨its, n, r, e, z⟩
theorem Inv.lstUpd {pins : List (Addr × Obj)} {σ : St} {H : Hp} {s : Shared} {p : Addr} {xs ys : List V} {its its' : List Value} {n n' : Nat} {f : Obj → Obj} (I : Inv X pins σ H s) (h : H p = some (.lst xs))
    (ho : s.heap.get? p = some { cls := .type "list", data := .seq its.toArray n }) (hf : f { cls := .type "list", data := .seq its.toArray n } = { cls := .type "list", data := .seq its'.toArray n' }) (r : Vals ys its') (hz : ys.length ≤ sizeLine) (t : Nat) :
    Inv X pins σ (upd H p (.lst ys)) { s with heap := s.heap.update p f, toks := t } := by
  have e : (s.heap.update p f).get? p = some { cls := .type "list", data := .seq its'.toArray n' } := by
    rw [Heap.get?_update_self f ho (by rw [hf] <;> rfl), hf]
  refine I.write (x := p) (e := p) (by rw [h]; trivial) (.inl rfl) (fun b u hb q => (Heap.get?_update_other _ _ (Ne.symm hb)).trans q) ⟨_, e⟩ ?_
  exact ⟨hz, its', n', r, e⟩
inductive RSetLP (o : V) (i : V) (v : V) (H : Hp) (Q : Hp → Prop) : Prop
  | mk (p : _) (xs : _) (k : _) (j : _) (h1 : o = .ref p) (h2 : i = .int k) (h3 : H p = some (.lst xs)) (h4 : ixN xs.length k = some j) (h5 : Q (upd H p (.lst (xs.set j v)))) : RSetLP o i v H Q
def rSetL : V → V → V → Hp → (Hp → Prop) → Prop := fun o i v H Q => RSetLP  o i v H Q
theorem set_list : PSet X rSetL := by
  intro pins s σ H o i v ov iv u Q I ro ri rv h
  obtain ⟨p, xs, k, j, rfl, rfl, hp, hj, q⟩ := h
  cases ro
  obtain ⟨t, rfl⟩ := ri
  obtain ⟨its, n, r, ho, hz⟩ := I.lst hp
  obtain ⟨h1, h2, h3, h4⟩ := ixN_seq hj
  have hl := r.length
  have hn := line63
  have I' : Inv X pins σ (upd H p (.lst (xs.set j v))) { s with heap := s.heap.update p (Obj.mapSeq (·.setIfInBounds j u)) } :=
    I.lstUpd hp ho (mapSeq_set its n j u) (r.set rv j) (by rw [List.length_set]; exact hz) s.toks
  by_cases h0 : 0 ≤ k
  · have hk : k.toNat = j := by
      rw [seqIndex_of h0 h4] at h1
      exact Option.some.inj h1
    exact PySem.W.ki_setAt ho h0 (by (first | lia | omega)) (by rw [List.size_toArray, ← hl]; exact h4) (by rw [hk]; exact ⟨_, I', q⟩)
  · have hk : (k + (its.toArray.size : Int)).toNat = j := by
      rw [seqIndex_neg (by (first | lia | omega)) h3] at h1
      rw [List.size_toArray, ← hl]
      exact Option.some.inj h1
    exact PySem.W.ki_setBack ho (by (first | lia | omega)) (by rw [List.size_toArray, ← hl]; exact h3) (by (first | lia | omega)) (by rw [hk]; exact ⟨_, I', q⟩)

theorem slice_bounds (lo hi : Option Int) (n : Nat) : (sliceBounds lo hi none n).1 = ((HT.sIx n 0 lo : Nat) : Int) ∧ (sliceBounds lo hi none n).2.1 = ((HT.sIx n n hi : Nat) : Int) ∧ (sliceBounds lo hi none n).2.2 = 1 := by
  refine ⟨?_, ?_, rfl⟩
  · cases lo with
    | none => simp [sliceBounds, HT.sIx]
    | some i =>
      simp only [sliceBounds, HT.sIx, Option.getD_none, show (1 : Int) > 0 by decide, if_true]
      by_cases h : i < 0
      · simp only [h, if_true] <;> (first | lia | omega)
      · simp only [h, if_false] <;> (first | lia | omega)
  · cases hi with
    | none => simp [sliceBounds, HT.sIx]
    | some i =>
      simp only [sliceBounds, HT.sIx, Option.getD_none, show (1 : Int) > 0 by decide, if_true]
      by_cases h : i < 0
      · simp only [h, if_true] <;> (first | lia | omega)
      · simp only [h, if_false] <;> (first | lia | omega)
theorem slicePick_cut (its : List Value) (lo hi : Option Int) : slicePick its.toArray lo hi none = ((its.drop (HT.sIx its.length 0 lo)).take (HT.sIx its.length its.length hi - HT.sIx its.length 0 lo)).toArray := by
  obtain ⟨h1, h2, h3⟩ := slice_bounds lo hi its.toArray.size
  unfold slicePick
  rw [h1, h2, h3]
  simp only [sliceRange_one, pick_run, List.size_toArray] <;> rfl
inductive RSlLP (K : PySem.W.Frag) (x : V) (lo : Option Int) (hi : Option Int) (H : Hp) (Q : VK) : Prop
  | mk (a : _) (xs : _) (h1 : x = .ref a) (h2 : SqL K H a xs) (h3 : ∀ p, H p = none → Q (.ref p) (upd H p (.lst (cutV xs lo hi)))) : RSlLP K x lo hi H Q
def rSlL (K : PySem.W.Frag) : V → Option Int → Option Int → Hp → VK → Prop := fun x lo hi H Q => RSlLP K x lo hi H Q
theorem sl_list : SlR X (rSlL X.K) := by
  intro pins s σ H x v vl vu lo hi sl Q I rx hs pl pu h
  obtain ⟨a, xs, rfl, hx, q⟩ := h
  cases rx
  obtain ⟨its, r, ht, hz⟩ := I.list hx
  have hlen := r.length
  refine ⟨"list", _, slot_list_getitem.lookup, ht.isList.typeIs, ?_⟩
  refine wpAny_getItem_list_slice ht.isList hs pl pu .none (by simp) ?_ (by rw [List.size_toArray] <;> (first | lia | omega))
  rw [slicePick_cut, ← hlen]
  refine ⟨.ref s.heap.objs.size, _, I.laid (t' := s.toks) (o := .lst (cutV xs lo hi)) (fun b ob q => Heap.get?_push_of_some _ q) (Nat.le_refl _) ?_, rfl, q _ (I.hok.fresh (Nat.le_refl _))⟩
  exact ⟨Nat.le_trans (cutV_length xs lo hi) hz, _, 0, (r.drop (HT.sIx xs.length 0 lo)).take (HT.sIx xs.length xs.length hi - HT.sIx xs.length 0 lo), Heap.get?_push_size _ rfl⟩

def flatV : V → Bool
  | .non => true
  | .bl _ => true
  | .int _ => true
  | .str _ => true
  | _ => false
def eqV : V → V → Bool
  | .non, .non => true
  | .bl a, .bl b => a == b
  | .bl a, .int b => (if a then 1 else 0) == b
  | .int a, .bl b => a == (if b then 1 else 0)
  | .int a, .int b => a == b
  | .str a, .str b => a == b
  | _, _ => false
theorem eqAt_V {A : Around} {s : Shared} {y x : V} {u v : Value} (ry : RelV y u) (rx : RelV x v) (fy : flatV y = true) (fx : flatV x = true) : SeqAt.EqAt A s u v (eqV y x) := by
  cases y with
  | non =>
    cases ry
    cases x with
    | non => cases rx; exact SeqAt.EqAt.same _
    | bl b => cases rx; exact SeqAt.EqAt.none_bool b
    | int b => obtain ⟨t, rfl⟩ := rx; exact SeqAt.EqAt.none_int b t
    | str b => obtain ⟨t, rfl⟩ := rx; exact SeqAt.EqAt.none_str b t
    | _ => exact absurd (show false = true from fx) Bool.false_ne_true
  | bl a =>
    cases ry
    cases x with
    | non => cases rx; exact SeqAt.EqAt.bool_none a
    | bl b => cases rx; exact SeqAt.EqAt.bool_bool a b
    | int b => obtain ⟨t, rfl⟩ := rx; exact SeqAt.EqAt.bool_int a b t
    | str b => obtain ⟨t, rfl⟩ := rx; exact SeqAt.EqAt.bool_str a b t
    | _ => exact absurd (show false = true from fx) Bool.false_ne_true
  | int a =>
    obtain ⟨t', rfl⟩ := ry
    cases x with
    | non => cases rx; exact SeqAt.EqAt.int_none a t'
    | bl b => cases rx; exact SeqAt.EqAt.int_bool a t' b
    | int b => obtain ⟨t, rfl⟩ := rx; exact SeqAt.EqAt.int_int a t' b t
    | str b => obtain ⟨t, rfl⟩ := rx; exact SeqAt.EqAt.int_str a t' b t
    | _ => exact absurd (show false = true from fx) Bool.false_ne_true
  | str a =>
    obtain ⟨t', rfl⟩ := ry
    cases x with
    | non => cases rx; exact SeqAt.EqAt.str_none a t'
    | bl b => cases rx; exact SeqAt.EqAt.str_bool a t' b
    | int b => obtain ⟨t, rfl⟩ := rx; exact SeqAt.EqAt.str_int a t' b t
    | str b => obtain ⟨t, rfl⟩ := rx; exact SeqAt.EqAt.str_str a t' b t
    | _ => exact absurd (show false = true from fx) Bool.false_ne_true
  | _ => exact absurd (show false = true from fy) Bool.false_ne_true
def eqU (x : V) (u : Value) : Bool := match u with
  | .none => eqV .non x
  | .bool b => eqV (.bl b) x
  | .int i _ => eqV (.int i) x
  | .str z _ => eqV (.str z) x
  | _ => false
theorem eqU_of {x y : V} {u : Value} (r : RelV y u) (f : flatV y = true) : eqU x u = eqV y x := by
  cases y with
  | non => cases r; rfl
  | bl b => cases r; rfl
  | int i => obtain ⟨t, rfl⟩ := r; rfl
  | str z => obtain ⟨t, rfl⟩ := r; rfl
  | _ => exact absurd (show false = true from f) Bool.false_ne_true
theorem any_eqU {x : V} : ∀ {xs : List V} {us : List Value}, Vals xs us → xs.all flatV = true → us.any (eqU x) = xs.any fun y => eqV y x
  | _, _, .nil, _ => rfl
  | y :: xs, u :: us, .cons r t, f => by
    rw [List.all_cons, Bool.and_eq_true] at f
    rw [List.any_cons, List.any_cons, eqU_of r f.1, any_eqU t f.2]
theorem mem_eqAt {A : Around} {s : Shared} {x : V} {v : Value} (rx : RelV x v) (fx : flatV x = true) : ∀ {xs : List V} {us : List Value}, Vals xs us → xs.all flatV = true → ∀ u ∈ us, SeqAt.EqAt A s u v (eqU x u)
  | _, _, .nil, _ => fun u hu => by cases hu
  | y :: xs, u :: us, .cons r t, f => fun u' hu => by
    rw [List.all_cons, Bool.and_eq_true] at f
    rcases List.mem_cons.mp hu with rfl | hu
    · rw [eqU_of r f.1]; exact eqAt_V r rx f.1 fx
    · exact mem_eqAt rx fx t f.2 u' hu
def inV (x : V) (xs : List V) : Bool := xs.any fun y => eqV y x
inductive RInP (K : PySem.W.Frag) (neg : Bool) (x : V) (y : V) (H : Hp) (Q : VK) : Prop
  | mk (p : _) (xs : _) (h1 : y = .ref p) (h2 : (SqL K H p xs ∨ SqT K H p xs)) (h3 : flatV x = true) (h4 : xs.all flatV = true) (h5 : Q (.bl (if neg then !inV x xs else inV x xs)) H) : RInP K neg x y H Q
def rIn (K : PySem.W.Frag) (neg : Bool) : R2 := fun x y H Q => RInP K neg x y H Q
theorem op_in_seq : OpR X (compareOp .In) (rIn X.K false) := by
  intro pins s σ H x y v u Q I rx ry h
  obtain ⟨p, xs, rfl, hq, fx, fs, q⟩ := h
  cases ry
  rcases hq with hq | hq
  · obtain ⟨its, r, pl, hz⟩ := I.list hq
    refine SeqAt.in_listAt (eqU x) pl.isList (fun w hw => mem_eqAt rx fx r fs w (by simpa using hw)) ⟨.bl _, H, I, rfl, ?_⟩
    rw [show its.toArray.any (eqU x) = its.any (eqU x) by simp, any_eqU r fs]
    exact q
  · obtain ⟨its, r, pl, hz⟩ := I.tuple hq
    refine SeqAt.in_tupleAt (eqU x) pl (fun w hw => mem_eqAt rx fx r fs w (by simpa using hw)) ⟨.bl _, H, I, rfl, ?_⟩
    rw [show its.toArray.any (eqU x) = its.any (eqU x) by simp, any_eqU r fs]
    exact q
theorem op_notIn_seq : OpR X (compareOp .NotIn) (rIn X.K true) := by
  intro pins s σ H x y v u Q I rx ry h
  obtain ⟨p, xs, rfl, hq, fx, fs, q⟩ := h
  cases ry
  rcases hq with hq | hq
  · obtain ⟨its, r, pl, hz⟩ := I.list hq
    refine SeqAt.notIn_listAt (eqU x) pl.isList (fun w hw => mem_eqAt rx fx r fs w (by simpa using hw)) ⟨.bl _, H, I, rfl, ?_⟩
    rw [show its.toArray.any (eqU x) = its.any (eqU x) by simp, any_eqU r fs]
    exact q
  · obtain ⟨its, r, pl, hz⟩ := I.tuple hq
    refine SeqAt.notIn_tupleAt (eqU x) pl (fun w hw => mem_eqAt rx fx r fs w (by simpa using hw)) ⟨.bl _, H, I, rfl, ?_⟩
    rw [show its.toArray.any (eqU x) = its.any (eqU x) by simp, any_eqU r fs]
    exact q
inductive P_call_len_seq (K : PySem.W.Frag) (xs : List V) (H : Hp) (Q : VK) : Prop
  | mk (p : _) (ys : _) (h1 : xs = [.ref p]) (h2 : (SqL K H p ys ∨ SqT K H p ys)) (h3 : Q (.int ys.length) H) : P_call_len_seq K xs H Q
theorem call_len_seq : CallR X (.builtin "len") (P_call_len_seq X.K) := by
  intro pins s σ H xs us Q I r h
  obtain ⟨p, ys, rfl, hq, q⟩ := h
  obtain ⟨u, rfl, rx⟩ := vals1 r
  cases rx
  have hn := line63
  rcases hq with hq | hq
  · obtain ⟨its, r', pl, hz⟩ := I.list hq
    have hlen := r'.length
    exact Calls.call_len_list pl.isList (by simp only [List.size_toArray] <;> (first | lia | omega)) ⟨.int ys.length, H, I.tok _, ⟨s.toks + 1, by rw [List.size_toArray, hlen]⟩, q⟩
  · obtain ⟨its, r', pl, hz⟩ := I.tuple hq
    have hlen := r'.length
    exact len_tuple pl (by simp only [List.size_toArray] <;> (first | lia | omega)) ⟨.int ys.length, H, I.tok _, ⟨s.toks + 1, by rw [List.size_toArray, hlen]⟩, q⟩
inductive P_call_list_of (K : PySem.W.Frag) (xs : List V) (H : Hp) (Q : VK) : Prop
  | mk (p : _) (ys : _) (h1 : xs = [.ref p]) (h2 : (SqL K H p ys ∨ SqT K H p ys)) (h3 : ∀ l, H l = none → Q (.ref l) (upd H l (.lst ys))) : P_call_list_of K xs H Q
theorem call_list_of : CallR X (.type "list") (P_call_list_of X.K) := by
  intro pins s σ H xs us Q I r h
  obtain ⟨p, ys, rfl, hq, q⟩ := h
  obtain ⟨u, rfl, rx⟩ := vals1 r
  cases rx
  have fin : ∀ (its : List Value), Vals ys its → ys.length ≤ sizeLine → ∀ (h' : Heap) (c' : Nat), (∀ b o', s.heap.get? b = some o' → h'.get? b = some o') →
      h'.get? s.heap.objs.size = some { cls := .type "list", dict := none, data := .seq its.toArray c', slots := #[] } → EP X pins σ Q (.ref s.heap.objs.size) { s with heap := h' } := fun its r' hz h' c' kp e =>
    ⟨.ref s.heap.objs.size, _, I.laid (t' := s.toks) kp (Nat.le_refl _) (show ObjOk X.prog X.w _ h' _ (.lst ys) from ⟨hz, its, c', r', e⟩), rfl, q _ (I.hok.fresh (Nat.le_refl _))⟩
  rcases hq with hq | hq
  · obtain ⟨its, r', pl, hz⟩ := I.list hq
    have hlen := r'.length
    obtain ⟨o, ho, hc, n, hd⟩ := pl.isList
    exact call_list_seq p (.inl rfl) ho hc hd (fun h' c' kp e => fin its r' hz h' c' kp e) (by simp only [List.size_toArray] <;> (first | lia | omega))
  · obtain ⟨its, r', pl, hz⟩ := I.tuple hq
    have hlen := r'.length
    obtain ⟨o, ho, hc, n, hd⟩ := pl
    exact call_list_seq p (.inr rfl) ho hc hd (fun h' c' kp e => fin its r' hz h' c' kp e) (by simp only [List.size_toArray] <;> (first | lia | omega))
inductive P_call_tuple_of (K : PySem.W.Frag) (xs : List V) (H : Hp) (Q : VK) : Prop
  | mk (p : _) (ys : _) (h1 : xs = [.ref p]) (h2 : ((SqL K H p ys ∧ ∀ l, H l = none → Q (.ref l) (upd H l (.tup ys))) ∨ (SqT K H p ys ∧ Q (.ref p) H))) : P_call_tuple_of K xs H Q
theorem call_tuple_of : CallR X (.type "tuple") (P_call_tuple_of X.K) := by
  intro pins s σ H xs us Q I r h
  obtain ⟨p, ys, rfl, h⟩ := h
  obtain ⟨u, rfl, rx⟩ := vals1 r
  cases rx
  rcases h with ⟨hq, q⟩ | ⟨hq, q⟩
  · obtain ⟨its, r', pl, hz⟩ := I.list hq
    have hlen := r'.length
    refine call_tuple_list pl.isList (fun h' kp => ?_) (by simp only [List.size_toArray] <;> (first | lia | omega))
    have I1 : Inv X pins σ H { s with heap := h' } := I.kept (t' := s.toks) kp
    have I2 : Inv X pins σ (upd H h'.objs.size (.tup ys)) { s with heap := h'.push { cls := .type "tuple", data := .seq its.toArray } } :=
      I1.laid (t' := s.toks) (fun b o e => Heap.get?_push_of_some _ e) (Nat.le_refl _) (show ObjOk X.prog X.w _ _ _ (.tup ys) from ⟨hz, its, r', IsTupD.new _ _⟩)
    exact ⟨.ref h'.objs.size, _, I2, rfl, q _ (I1.hok.fresh (Nat.le_refl _))⟩
  · obtain ⟨its, r', pl, hz⟩ := I.tuple hq
    exact call_tuple_same pl ⟨.ref p, H, I, rfl, q⟩

def tyV (K : PySem.W.Frag) (T : String) (x : V) (H : Hp) : Prop := match x with
  | .str _ => T = "str"
  | .int _ => T = "int"
  | .ref p => (T = "list" ∧ ∃ xs, SqL K H p xs) ∨ (T = "tuple" ∧ ((∃ o, K.lookup p = some o ∧ o.cls = .type "tuple" ∧ o.dict = none) ∨ ∃ xs, H p = some (.tup xs))) ∨
      (T = "dict" ∧ ((∃ kvs, H p = some (.dK kvs)) ∨ ∃ kvs, H p = some (.dT kvs))) ∨ (T = "set" ∧ ∃ S n, H p = some (.set S n))
  | _ => False
theorem tyV_is {pins : List (Addr × Obj)} {σ : St} {H : Hp} {s : Shared} {T : String} {x : V} {v : Value} (I : Inv X pins σ H s) (r : RelV x v) (ty : tyV X.K T x H) :
    s.TypeIs v T ∧ ∀ a, v = .ref a → ∃ ob, s.heap.get? a = some ob ∧ ob.dict = none := by
  cases x with
  | str z =>
    obtain ⟨t, rfl⟩ := r
    cases (show T = "str" from ty)
    exact ⟨typeIs_str s z t, fun _ e => nomatch e⟩
  | int i =>
    obtain ⟨t, rfl⟩ := r
    cases (show T = "int" from ty)
    exact ⟨typeIs_int s i t, fun _ e => nomatch e⟩
  | ref p =>
    cases r
    rcases ty with ⟨rfl, xs, hq⟩ | ⟨rfl, ⟨o, hk, hc, hd⟩ | ⟨xs, hk⟩⟩ | ⟨rfl, hk⟩ | ⟨rfl, S, n, hk⟩
    · obtain ⟨its, _, pl, _⟩ := I.list hq
      refine ⟨pl.isList.typeIs, fun a e => ?_⟩
      cases e
      obtain ⟨o, n, e, c, hd, _⟩ := pl
      exact ⟨o, e, hd⟩
    · refine ⟨⟨o, I.kIn p o hk, hc⟩, fun a e => ?_⟩
      cases e
      exact ⟨o, I.kIn _ o hk, hd⟩
    · obtain ⟨_, _, _, o, e1, c1, n, d1, dn⟩ := (show ObjOk X.prog X.w H s.heap p (.tup xs) from I.hok p _ hk)
      refine ⟨⟨o, e1, c1⟩, fun a e => ?_⟩
      cases e
      exact ⟨o, e1, dn⟩
    · have z : ∃ o, s.heap.get? p = some o ∧ o.ExactDict := by
        rcases hk with ⟨kvs, hk⟩ | ⟨kvs, hk⟩
        · obtain ⟨_, _, _, _, o, _, _, e, ex, _⟩ := I.hok p _ hk
          exact ⟨o, e, ex⟩
        · obtain ⟨_, _, _, _, o, _, _, e, ex, _⟩ := I.hok p _ hk
          exact ⟨o, e, ex⟩
      obtain ⟨o, e, ex⟩ := z
      refine ⟨⟨o, e, ex.1⟩, fun a e2 => ?_⟩
      cases e2
      exact ⟨o, e, ex.2.1⟩
    · obtain ⟨o, _, _, _, e, ex, _⟩ := I.hok p _ hk
      refine ⟨⟨o, e, ex.1⟩, fun a e2 => ?_⟩
      cases e2
      exact ⟨o, e, ex.2.1⟩
  | _ => exact False.elim ty
def tBM (K : PySem.W.Frag) (T : String) (r : V → List V → Hp → VK → Prop) (to : TE) (t : TA) : TE := fun σ H Q => to σ H fun x H1 => tyV K T x H1 ∧ t σ H1 fun xs H2 => r x xs H2 Q
variable {o e : Expr} {es : List Expr} {to : TE} {t : TA} {name : Str} {apos cpos : Pos} {T id : String} {r : V → List V → Hp → VK → Prop}
theorem pe_bm (pa : PlainAttrs T) (slot : Slot T name id) (hty : typeOf (.builtin id) = pure (.type "method_descriptor")) (hm : MtR X id r) (ho : PE X o to) (ha : PA X (e :: es) t)
    (hbase : attributeBase o name X.env (eval o X.env) = eval o X.env := by rfl)
    (hfew : ((backTo cpos (starEach (e :: es) X.env)).all (fun x => !x.1) && (backToKw cpos (keywordEach [] X.env)).all (fun x => x.1.isSome)
      && decide ((e :: es).length + ([] : List Keyword).length + (if ([] : List Keyword).isEmpty then 0 else 1) < 30)) = true := by rfl)
    (hline : (apos.endLine == cpos.line) = true := by rfl) (hs : starEach (e :: es) X.env = (false, eval e X.env) :: starEach es X.env := by rfl) (hplain : (backTo cpos (starEach es X.env)).any (·.1) = false := by rfl) :
    PE X (.Call (.Attribute o name apos) (e :: es) [] cpos) (tBM X.K T r to t) := by
  intro pins s σ H Q I h
  refine wpAny_Call_method_late hbase hfew hline rfl (thn (ho pins s σ H _ I h) fun v s1 ⟨x, H1, I1, r1, ty, q1⟩ => ?_)
  obtain ⟨h1, h2⟩ := tyV_is I1 r1 ty
  refine ⟨T, id, pa, slot, hty, h1, h2, ?_⟩
  have hA := ha cpos pins s1 σ H1 _ I1 q1
  rw [hs] at hA ⊢
  refine Calls.callWith_builtin (by show (false || (backTo cpos (starEach es X.env)).any (·.1)) = false; rw [hplain] <;> rfl) (Calls.evalArgs_plain ?_)
  exact thn hA fun us s2 ⟨vs, H2, I2, r2, q2⟩ => hm pins s2 σ H2 x vs v us Q I2 r1 r2 q2
/- xs.append(e), list.index on a module's tuple .. are MtR facts of 06m -/
end
end L2

namespace L2
open PySem PySem.Spec PyProof.Rows

def MtM (X : Cx) (id : String) (r : V → List V → Hp → VK → Prop) : Prop :=
  ∀ (pins : List (Addr × Obj)) (s : Shared) (σ : St) (H : Hp) (x : V) (xs : List V) (v : Value) (us : List Value) (Q : VK), Inv X pins σ H s → RelV x v → Vals xs us → r x xs H Q →
    wpAny (model X.prog X.w) X.A (call (.builtin id) (v :: us)) (EP X pins σ Q) X.xe s

theorem Vals.one : ∀ {x : V} {us : List Value}, Vals [x] us → ∃ u, us = [u] ∧ RelV x u
  | _, _, .cons r .nil => ⟨_, rfl, r⟩
theorem Vals.two : ∀ {x y : V} {us : List Value}, Vals [x, y] us → ∃ u v, us = [u, v] ∧ RelV x u ∧ RelV y v
  | _, _, _, .cons r (.cons q .nil) => ⟨_, _, rfl, r, q⟩
theorem Vals.eraseIdx : ∀ {xs : List V} {us : List Value} (i : Nat), Vals xs us → Vals (xs.eraseIdx i) (us.eraseIdx i)
  | _, _, _, .nil => .nil
  | _, _, 0, .cons _ t => t
  | _, _, i + 1, .cons r t => .cons r (Vals.eraseIdx i t)
theorem Vals.rep {xs : List V} {us : List Value} (h : Vals xs us) : ∀ k : Nat, Vals (List.replicate k xs).flatten (List.replicate k us).flatten
  | 0 => .nil
  | k + 1 => by
    rw [List.replicate_succ, List.replicate_succ, List.flatten_cons, List.flatten_cons]
    exact Vals.append h (Vals.rep h k)
theorem len_erase {α : Type} : ∀ (l : List α) (i : Nat), (l.eraseIdx i).length ≤ l.length
  | [], _ => Nat.le_refl _
  | _ :: _, 0 => Nat.le_succ _
  | _ :: r, i + 1 => Nat.succ_le_succ (len_erase r i)
theorem foldl_rep (its : List Value) : ∀ (k : Nat) (acc : List Value),
    List.foldl (fun x1 x2 => x1 ++ x2) acc.toArray (List.replicate k its.toArray) = (acc ++ (List.replicate k its).flatten).toArray
  | 0, acc => by simp
  | k + 1, acc => by
    have e : acc.toArray ++ its.toArray = (acc ++ its).toArray := by simp
    have e2 : (acc ++ its) ++ (List.replicate k its).flatten = acc ++ (List.replicate (k + 1) its).flatten := by
      rw [List.replicate_succ, List.flatten_cons, List.append_assoc]
    rw [← e2, ← foldl_rep its k (acc ++ its), ← e, List.replicate_succ, List.foldl_cons]

section
variable {X : Cx} {pins : List (Addr × Obj)} {σ : St} {H : Hp} {s : Shared} {l b : Addr} {xs ys zs : List V}

theorem Inv.lset {its its' : List Value} {n : Nat} {f : Array Value → Array Value} {t' : Nat} (I : Inv X pins σ H s) (hH : H l = some (.lst xs))
    (e : s.heap.get? l = some { cls := .type "list", data := .seq its.toArray n }) (hf : f its.toArray = its'.toArray) (hv : Vals ys its') (hz : ys.length ≤ sizeLine) :
    Inv X pins σ (upd H l (.lst ys)) { s with heap := s.heap.update l (Obj.mapSeq f), toks := t' } := by
  have q := PySem.IsL.update e f
  rw [hf] at q
  refine I.write (x := l) (e := l) (by rw [hH]; exact trivial) (.inl rfl) (fun b' u hb hu => (Heap.get?_update_other s.heap (Obj.mapSeq f) (Ne.symm hb)).trans hu) ⟨_, q⟩ ?_
  exact ⟨hz, its', _, hv, q⟩
theorem Inv.lnew {its : List Value} {t' : Nat} (I : Inv X pins σ H s) (hv : Vals ys its) (hz : ys.length ≤ sizeLine) :
    Inv X pins σ (upd H s.heap.objs.size (.lst ys)) { s with heap := s.heap.push { cls := .type "list", data := .seq its.toArray }, toks := t' } :=
  I.laid (fun _ _ q => Heap.get?_push_of_some _ q) (Nat.le_refl _) ⟨hz, its, 0, hv, Heap.get?_push_size _ rfl⟩
theorem Inv.fresh (I : Inv X pins σ H s) : H s.heap.objs.size = none := I.hok.fresh (Nat.le_refl _)
theorem Inv.lstM (I : Inv X pins σ H s) (hH : H l = some (.lst xs)) : xs.length ≤ sizeLine ∧ ∃ (its : List Value) (n : Nat), Vals xs its ∧ xs.length = its.length ∧ s.heap.get? l = some { cls := .type "list", data := .seq its.toArray n } := by
  obtain ⟨z, its, n, r, e⟩ := I.hok l _ hH
  exact ⟨z, its, n, r, r.length, e⟩

theorem notLongL {n : Nat} (h : n ≤ sizeLine) : Builtin.List.listTooLong n = false := by
  unfold Builtin.List.listTooLong
  exact decide_eq_false (by (first | lia | omega))
end

section
variable {X : Cx}

inductive RAppendP (x : V) (vs : List V) (H : Hp) (Q : VK) : Prop
  | mk (l : _) (xs : _) (y : _) (h1 : x = .ref l) (h2 : vs = [y]) (h3 : H l = some (.lst xs)) (h4 : xs.length < sizeLine) (h5 : Q .non (upd H l (.lst (xs ++ [y])))) : RAppendP x vs H Q
def rAppend : V → List V → Hp → VK → Prop := fun x vs H Q => RAppendP  x vs H Q
theorem mt_append : MtM X "list.append" rAppend := by
  intro pins s σ H x vs v us Q I rx rv h
  obtain ⟨l, xs, y, rfl, rfl, hH, hz, q⟩ := h
  cases rx
  obtain ⟨u, rfl, ru⟩ := rv.one
  obtain ⟨z, its, n, r, hl, e⟩ := I.lstM hH
  refine call_meets F.slot_list_append ⟨_, e, rfl⟩ F.entry_list_append (F.args_list_append_2 _ _) (PySem.list_append l its.toArray n u (by rw [List.size_toArray]; (first | lia | omega))) ⟨e, ?_⟩
  refine ⟨.non, _, I.lset (its' := its ++ [u]) hH e (by simp) (r.append (.cons ru .nil)) ?_, rfl, q⟩
  rw [List.length_append, List.length_singleton]
  (first | lia | omega)

inductive RExtendP (x : V) (vs : List V) (H : Hp) (Q : VK) : Prop
  | mk (l : _) (b : _) (xs : _) (zs : _) (h1 : x = .ref l) (h2 : vs = [.ref b]) (h3 : H l = some (.lst xs)) (h4 : H b = some (.lst zs)) (h5 : xs.length + zs.length ≤ sizeLine) (h6 : Q .non (upd H l (.lst (xs ++ zs)))) : RExtendP x vs H Q
def rExtend : V → List V → Hp → VK → Prop := fun x vs H Q => RExtendP  x vs H Q
theorem mt_extend : MtM X "list.extend" rExtend := by
  intro pins s σ H x vs v us Q I rx rv h
  obtain ⟨l, b, xs, zs, rfl, rfl, hH, hB, hz, q⟩ := h
  cases rx
  obtain ⟨u, rfl, ru⟩ := rv.one
  cases ru
  obtain ⟨z, its, n, r, hl, e⟩ := I.lstM hH
  obtain ⟨z2, its2, n2, r2, hl2, e2⟩ := I.lstM hB
  have hsz : its.toArray.size + its2.toArray.size ≤ sizeLine := by rw [List.size_toArray, List.size_toArray]; (first | lia | omega)
  have hlong : ¬ (!its.toArray.isEmpty && Builtin.List.listTooLong (its.toArray.size + its2.toArray.size)) = true := by
    rw [notLongL hsz, Bool.and_false]
    exact Bool.false_ne_true
  refine call_meets F.slot_list_extend ⟨_, e, rfl⟩ F.entry_list_extend (F.args_list_extend_2 _ _)
    (AutoSeq1.list_extend_list_list_0 l its.toArray n b its2.toArray n2 hlong (by rw [List.size_toArray]; (first | lia | omega)) (by (first | lia | omega))) ⟨e, e2, ?_⟩
  refine ⟨.non, _, I.lset (its' := its ++ its2) hH e (by simp) (r.append r2) ?_, rfl, q⟩
  rw [List.length_append]
  (first | lia | omega)

def rPopAt : V → List V → Hp → VK → Prop := fun x vs H Q => ∃ l xs i k y, x = .ref l ∧ vs = [.int i] ∧ H l = some (.lst xs) ∧ -(2 ^ 63) ≤ i ∧ i < 2 ^ 63 ∧ seqIndex? i xs.length = some k ∧ xs[k]? = some y ∧ Q y (upd H l (.lst (xs.eraseIdx k)))
theorem mt_popAt : MtM X "list.pop" rPopAt := by
  intro pins s σ H x vs v us Q I rx rv h
  obtain ⟨l, xs, i, k, y, rfl, rfl, hH, h1, h2, hk, hy, q⟩ := h
  cases rx
  obtain ⟨u, rfl, ru⟩ := rv.one
  obtain ⟨t, rfl⟩ := ru
  obtain ⟨z, its, n, r, hl, e⟩ := I.lstM hH
  obtain ⟨w, hw, rw'⟩ := r.get hy
  refine call_meets F.slot_list_pop ⟨_, e, rfl⟩ F.entry_list_pop (F.args_list_pop_2 _ _)
    (MeetsSeq.list_pop_at l its.toArray n i t k w (fitsIndex_both h1 h2) (by rw [List.size_toArray, ← hl]; exact hk) (by rw [← Array.getElem?_toList]; exact hw) (by rw [List.size_toArray]; (first | lia | omega))) ⟨e, ?_⟩
  refine ⟨y, _, I.lset (its' := its.eraseIdx k) hH e ?_ (r.eraseIdx k) ?_, rw', q⟩
  · show its.toArray.eraseIdxIfInBounds k = (its.eraseIdx k).toArray
    rw [List.eraseIdxIfInBounds_toArray]
  · have := len_erase xs k
    (first | lia | omega)

inductive RCatP (x : V) (y : V) (H : Hp) (Q : VK) : Prop
  | mk (l : _) (b : _) (xs : _) (zs : _) (h1 : x = .ref l) (h2 : y = .ref b) (h3 : H l = some (.lst xs)) (h4 : H b = some (.lst zs)) (h5 : xs.length + zs.length ≤ sizeLine) (h6 : ∀ p, H p = none → Q (.ref p) (upd H p (.lst (xs ++ zs)))) : RCatP x y H Q
def rCat : R2 := fun x y H Q => RCatP  x y H Q
theorem op_cat : OpR X (binaryOp .Add) rCat := by
  intro pins s σ H x y v u Q I rx ry h
  obtain ⟨l, b, xs, zs, rfl, rfl, hH, hB, hz, q⟩ := h
  cases rx
  cases ry
  obtain ⟨z, its, n, r, hl, e⟩ := I.lstM hH
  obtain ⟨z2, its2, n2, r2, hl2, e2⟩ := I.lstM hB
  refine PySem.P.add_list e e2 ?_ (by rw [List.size_toArray, List.size_toArray]; (first | lia | omega))
  have ea : its.toArray ++ its2.toArray = (its ++ its2).toArray := by simp
  rw [ea]
  exact ⟨.ref _, _, I.lnew (t' := s.toks) (r.append r2) (by rw [List.length_append]; (first | lia | omega)), rfl, q _ I.fresh⟩
inductive RRepP (x : V) (y : V) (H : Hp) (Q : VK) : Prop
  | mk (l : _) (k : _) (xs : _) (h1 : x = .ref l) (h2 : y = .int k) (h3 : H l = some (.lst xs)) (h4 : -(2 ^ 63) ≤ k) (h5 : k < 2 ^ 63) (h6 : xs.length * k.toNat ≤ sizeLine) (h7 : ∀ p, H p = none → Q (.ref p) (upd H p (.lst (List.replicate k.toNat xs).flatten))) : RRepP x y H Q
def rRep : R2 := fun x y H Q => RRepP  x y H Q
theorem len_rep {α : Type} (xs : List α) (k : Nat) : (List.replicate k xs).flatten.length = k * xs.length := by
  induction k with
  | zero => simp
  | succ k ih => rw [List.replicate_succ, List.flatten_cons, List.length_append, ih, Nat.succ_mul, Nat.add_comm]
theorem op_rep : OpR X (binaryOp .Mult) rRep := by
  intro pins s σ H x y v u Q I rx ry h
  obtain ⟨l, k, xs, rfl, rfl, hH, h1, h2, hz, q⟩ := h
  cases rx
  obtain ⟨t, rfl⟩ := ry
  obtain ⟨z, its, n, r, hl, e⟩ := I.lstM hH
  have hlen : its.toArray.size * k.toNat ≤ sizeLine := by rw [List.size_toArray, ← hl]; exact hz
  have hcap : ¬ its.toArray.size * k.toNat > (2 ^ 63 - 1) / 8 := by
    have : (sizeLine : Nat) ≤ (2 ^ 63 - 1) / 8 := by decide
    (first | lia | omega)
  have hfit : ¬ (!Builtin.List.listFitsIndex k) = true := by
    rw [fitsIndex_both h1 h2]
    exact Bool.false_ne_true
  have hlong : ¬ Builtin.List.listTooLong (its.toArray.size * k.toNat) = true := by
    rw [notLongL hlen]
    exact Bool.false_ne_true
  have hnew : List.foldl (fun x1 x2 => x1 ++ x2) #[] (List.replicate (if its.toArray.isEmpty = true then 0 else k.toNat) its.toArray) = (List.replicate k.toNat its).flatten.toArray := by
    have f0 : ∀ m : Nat, List.foldl (fun x1 x2 => x1 ++ x2) #[] (List.replicate m its.toArray) = (List.replicate m its).flatten.toArray := fun m => by
      have := foldl_rep its m []
      rw [List.nil_append] at this
      exact this
    rw [f0]
    cases its with
    | nil => simp
    | cons a r' => rw [if_neg (by simp)]
  refine wpAny_binaryOp_repeat_ref (T := "list") (U := "int") (by decide) ⟨_, e, rfl⟩ (fun s' => typeIs_int s' k t) noFill_list_mul F.fills_int_mul F.slot_int_rmul repeat_list F.slot_int_index.lookup
    (call_meets F.slot_int_rmul (typeIs_int s k t) F.entry_int_rmul (F.args_int_rmul_2 _ _) (int___rmul___int_list k t l its.toArray n)
      ⟨e, rfl, ⟨_, e, rfl⟩, call_meets F.slot_list_mul ⟨_, e, rfl⟩ F.entry_list_mul (F.args_list_mul_2 _ _) (AutoListH.list___mul___list_int_3 l its.toArray n k t hfit hcap hlong) ⟨e, ?_⟩⟩)
  rw [hnew]
  exact ⟨.ref _, _, I.lnew (t' := s.toks) (r.rep k.toNat) (by rw [len_rep, Nat.mul_comm]; exact hz), rfl, q _ I.fresh⟩

end

section
variable {prog : Program} {w : World} {A : Around} {E : Value → Shared → Prop} {s : Shared}
end

section
variable {X : Cx}
end
end L2

namespace Att
open PySem PySem.W PySem.Calls PyProof.Rows

theorem ints_of_wellAll {P : Params} {h : Heap} : ∀ (ns : List Int) (vs : List Value), WellAll P h vs (ns.map WData.int) → IntsAre vs ns := by
  intro ns
  induction ns with
  | nil =>
    intro vs w
    rw [List.map_nil] at w
    cases w
    exact .nil
  | cons n ns ih =>
    intro vs w
    rw [List.map_cons] at w
    cases w with
    | cons a b =>
      cases a
      exact .cons _ _ (ih _ b)

theorem script_of {l : OpenLaw} {n : Nat} (hn : l.most = some n) {P : Params} {h : Heap} {args : List WData} {vals : List Value}
    (hpre : l.row.toRowW.claim.pre args = true) (hwl : WellAll P h vals args) :
    ∃ a vs ns, vals = [Value.ref a] ∧ args = [WData.list (ns.map WData.int)] ∧ h.get? a = some { cls := .type "list", data := .seq vs.toArray } ∧ IntsAre vs ns ∧ ns.length ≤ n := by
  have hsh : WShape.hasAll [] args [.list .int] = true := (pre_splitW hpre).1
  have hc : l.pre.holds [] { args := args } = true := (pre_splitW hpre).2
  obtain ⟨d, r, rfl, h1, h2⟩ := hasAllW_cons hsh
  obtain rfl := hasAllW_nil h2
  obtain ⟨xs, rfl, h3⟩ := hasW_list h1
  obtain ⟨ns, rfl⟩ := items_int h3
  have hlen : ns.length ≤ n := by
    unfold OpenLaw.pre at hc
    have h4 : (WTm.not (.lt (.lit (.int (n : Int))) (.len (.arg 0)))).holds [] { args := [.list (ns.map .int)] } = true := by
      have h4 := (holds_andW hc).1
      rw [hn] at h4
      exact h4
    have h5 := condW_of h4 (w_not (w_lt w_lit (w_len_list (w_arg rfl))))
    rw [List.length_map] at h5
    refine Nat.le_of_not_lt fun q => ?_
    have q' : (n : Int) < ((ns.length : Nat) : Int) := by (first | lia | omega)
    first
      | (rw [decide_eq_true q'] at h5; exact absurd h5 (by decide))
      | (simp at h5; (first | lia | omega))
  cases hwl with
  | cons w1 w2 =>
    cases w2
    cases w1 with
    | list ho hall => exact ⟨_, _, ns, rfl, rfl, ho, ints_of_wellAll ns _ hall, hlen⟩

theorem post_true (l : OpenLaw) (args : List WData) : l.row.toRowW.claim.post args (.bool true) args = true :=
  postW_of (r := l.row.toRowW) (X := (true == true))
    (show WShape.has [] (.bool true) .bool = true by first | rfl | decide | simp [WShape.has, WShape.arms, WShape.armsAll])
    (show (WTm.eq .res (.lit (.bool true))).value [] { args := args, res := some (.bool true), after := args } = some (.bool (true == true)) from w_eq_bool (w_res rfl) w_lit) rfl

theorem attach_call {l : OpenLaw} {n : Nat} {q : Program} {loose : List Str} {XP : (Str → Option Value) → Heap → Prop} {YP : World → Heap → Prop} {d : DefRec}
    (hn : l.most = some n) (hdf : d.params.defaults = [])
    (call : ∀ (w : World) (s₀ s₁ : Shared) (mg mb : Str → Option Value) (fa : Addr) (o : Obj) (pm cd doc : Value) (a : Addr) (vs : List Value) (ns : List Int),
      Ground q loose [] XP w s₀ mg mb s₁.heap → YP w s₁.heap →
      s₁.heap.get? fa = some o → o.data = .func (docDef d.name d.params d.body d.scope pm cd doc) → s₁.heap.CodeRec cd d.name → mg d.name = some (.ref fa) →
      s₁.heap.get? a = some { cls := .type "list", data := .seq vs.toArray } → IntsAre vs ns → ns.length ≤ n → s₁.gens = #[] →
      codeAny (model l.prog w) callerA (.call (.ref fa) ⟨[.ref a], []⟩) (fun r s' => r = .ok (.ret (.bool true)) ∧ OldK s₁.heap s'.heap ∧ s'.os = s₁.os ∧ AllBare s'.gens) s₁) :
    WalkO q loose XP YP l.row.toRowW d [] (fun f vs => PySem.call f vs) := by
  intro w s₀ s₁ mg mb G Y fa o pm cd doc dV kV ho hd hcd hD hmg hg args vals as hpre hlay hrd hwl hlo
  obtain rfl : dV = .none := Dflts.none hD hdf
  obtain rfl : kV = .none := Dflts.noKw hD
  obtain ⟨a, vs, ns, rfl, rfl, hobj, hints, hlen⟩ := script_of hn hpre hwl
  refine enter_call (codeAny_mono (call w s₀ s₁ mg mb fa o pm cd doc a vs ns G Y ho (fd_plain hd) hcd hmg hobj hints hlen hg) fun r s' hq => ?_)
  obtain ⟨rfl, h2, h3, h4⟩ := hq
  exact ⟨.inl ⟨.bool true, .bool true, [], rfl, fun _ => rfl, .bool true, post_true l _, fun _ => ⟨List.Pairwise.nil, fun _ hm => (nomatch hm)⟩⟩, h2, h3, h4⟩

section
variable {prog : Program} {w : World} {A : Around} {E : Value → Shared → Prop} {s : Shared} {K : Frag}

def ledger (h : Heap) (L d : Addr) : List (Addr × Obj) := (List.range h.objs.size).filterMap fun a => if a = L ∨ a = d then none else (h.get? a).map fun o => (a, o)
end
end Att

namespace L2
open PySem PySem.Spec PyProof.Rows

theorem vals_ints : ∀ {vs : List Value} {ns : List Int}, IntsAre vs ns → Vals (ns.map V.int) vs
  | _, _, .nil => .nil
  | _, _, .cons n t h => .cons ⟨t, rfl⟩ (vals_ints h)

def Only (H : Hp) : Prop := ∀ b, H b = none ∨ ∃ o xs, H b = some (.frz o (.lst xs))

theorem law_call {P : Program} {w : World} {K : PySem.W.Frag} {mg mb : Str → Option Value} {CX : CXT} {k : Nat} {fa a : Addr} {fd : FuncData} {x : Str} {sp : Sp} {s₁ : Shared} {vs : List Value} {ns : List Int}
    (KX : K.In s₁.heap) (hns : s₁.heap.Ns mainGlobals mg) (hb : s₁.heap.Ns builtinsNs mb) (hbb : ∀ x : Str, x ≠ "__name__" → mb x = bootBuiltins x) (hlim : s₁.heap.NoLimit) (hg : s₁.gens = #[])
    (ha : s₁.heap.get? a = some { cls := .type "list", data := .seq vs.toArray }) (hi : IntsAre vs ns) (hl : ns.length ≤ sizeLine) (hr : Room k callerA)
    (F : ∀ base : Heap, K.In base → base.Ns mainGlobals mg → FnOk P w K mg base CX k fa fd [x] sp) (hbind : ∀ (s : Shared) (u : Value), BindsTo s fd ⟨[u], []⟩ [(x, u)])
    (hsp : ∀ H : Hp, Only H → SqL K H a (ns.map V.int) → sp [.ref a] H (fun v _ => v = .bl true) fun _ _ _ => False)
    (hCX : ∀ H e s', CX [] H s₁ (fun _ _ _ => False) e s' → False) :
    codeAny (model P w) callerA (.call (.ref fa) ⟨[.ref a], []⟩) (fun r s' => r = .ok (.ret (.bool true)) ∧ OldK s₁.heap s'.heap ∧ s'.os = s₁.os ∧ AllBare s'.gens) s₁ := by
  have rv := vals_ints hi
  have lenV := hi.length
  -- from an abstract heap in which nothing but the script may be tracked
  have core : ∀ H : Hp, Only H → SqL K H a (ns.map V.int) → HOk P w H s₁.heap → (∀ b, H b ≠ none → b = a) → (H a ≠ none → K.lookup a = none) →
      codeAny (model P w) callerA (.call (.ref fa) ⟨[.ref a], []⟩) (fun r s' => r = .ok (.ret (.bool true)) ∧ OldK s₁.heap s'.heap ∧ s'.os = s₁.os ∧ AllBare s'.gens) s₁ := by
    intro H hO hS hok hA hK
    have base_of : ∀ {b : Addr} {o : Obj}, s₁.heap.get? b = some o → H b = none → (hidT s₁.heap H).get? b = some o := fun e n => hidT_get e n
    have noA : ∀ {b : Addr} {o : Obj} {es : Array DictEntry} {ep : Nat}, s₁.heap.get? b = some o → o.data = .dict es ep → H b = none := fun {b o es ep} e d => by
      cases q : H b with
      | none => rfl
      | some u =>
        have e' : b = a := hA b (by rw [q]; simp)
        subst e'
        rw [ha] at e; cases e
        have d' : Data.seq vs.toArray _ = Data.dict es ep := d
        cases d'
    have nsK : ∀ {b : Addr} {m : Str → Option Value}, s₁.heap.Ns b m → (hidT s₁.heap H).Ns b m := fun {b m} ⟨o, es, ep, e, d, r⟩ => ⟨o, es, ep, base_of e (noA e d), d, r⟩
    have hKb : K.In (hidT s₁.heap H) := fun b o e => base_of (KX b o e) (by
      cases q : H b with
      | none => rfl
      | some u =>
        have e' : b = a := hA b (by rw [q]; simp)
        subst e'
        rw [hK (by rw [q]; simp)] at e; cases e)
    have hM : Mod K mg (hidT s₁.heap H) := ⟨hKb, nsK hns, ⟨mb, nsK hb, hbb⟩, let ⟨mc, h1, h2⟩ := hlim; ⟨mc, nsK h1, h2⟩⟩
    have e0 : Env0 P w K mg (hidT s₁.heap H) callerA [] s₁ H := ⟨rfl, hM, fun b o e => of_hidT e, Nat.le_of_eq (hidT_size _ _), trivial, fun b hb => absurd (show b ∈ ([] : List Addr) from hb) (by simp), hok, .of_eq hg⟩
    refine codeAny_mono ((F _ hKb (nsK hns)).run callerA [] s₁ H ⟨[.ref a], []⟩ [.ref a] [.ref a] _ _ hr e0 (hbind s₁ (.ref a)) (.cons rfl .nil) (hsp H hO hS)) fun r s' h => ?_
    cases r with
    | error e => exact (hCX H e s' h).elim
    | ok fl =>
      cases fl with
      | next => exact False.elim h
      | brk => exact False.elim h
      | cont => exact False.elim h
      | ret u =>
        obtain ⟨v, H', os, bare, un, hok', r', q⟩ := h
        have q' : v = .bl true := q
        subst q'
        obtain rfl : u = Value.bool true := r'
        refine ⟨rfl, OldK.of_keep fun b o e => ?_, os, bare⟩
        cases q : H b with
        | none => exact un.keep b o e q (by intro z; exact absurd (show b ∈ ([] : List Addr) from z) (by simp)) (by simp)
        | some u =>
          rcases hO b with z | ⟨ob, xs, z⟩
          · rw [q] at z; cases z
          · have z2 := un.frzs b ob _ z
            obtain ⟨e1, _⟩ := hok b _ z
            obtain ⟨e2, _⟩ := hok' b _ z2
            rw [e] at e1; cases e1
            exact e2
  cases hk : K.lookup a with
  | some o =>
    -- the script is one of the module's own objects
    have e := KX a o hk
    rw [ha] at e
    cases e
    refine core (fun _ => none) (fun _ => .inl rfl) (.inr ⟨_, vs.toArray, _, hk, rfl, rfl, rfl, by rw [List.size_toArray, lenV]; exact hl, by simpa using rv⟩) (fun b u z => by have z' : (none : Option HO) = some u := z; cases z') (fun b z => absurd rfl z) fun z => absurd rfl z
  | none =>
    refine core (fun b => if b = a then some (.frz { cls := .type "list", data := .seq vs.toArray } (.lst (ns.map V.int))) else none) (fun b => ?_) (.inl (.inr ⟨{ cls := .type "list", data := .seq vs.toArray }, if_pos rfl⟩)) (fun b u z => ?_) (fun b z => ?_) fun _ => hk
    · by_cases hb : b = a
      · exact .inr ⟨_, _, if_pos hb⟩
      · exact .inl (if_neg hb)
    · by_cases hb : b = a
      · have z' := (if_pos hb).symm.trans z
        cases z'
        subst hb
        exact ⟨ha, by rw [List.length_map]; exact hl, vs, _, rv, ha⟩
      · have z' := (if_neg hb).symm.trans z
        cases z'
    · by_cases hb : b = a
      · exact hb
      · exact absurd (if_neg hb) z
end L2

namespace L2
open PySem PySem.Spec PyProof.Rows

theorem walk_of {l : PySem.W.OpenLaw} {n k : Nat} {q : Program} {loose : List Str} {XP : (Str → Option Value) → Heap → Prop} {YP : World → Heap → Prop} {d : DefRec} {K : Params → PySem.W.Frag} {CX : World → CXT} {sp : World → Sp} {x : Str}
    (hn : l.most = some n) (hn2 : n ≤ sizeLine) (hdf : d.params.defaults = []) (hr : Room k callerA)
    (hY : ∀ (w : World) (h : Heap), YP w h → (K w.params).In h)
    (F : ∀ (w : World) (mg : Str → Option Value) (fa : Addr) (h : Heap), (K w.params).In h → h.Ns mainGlobals mg → mg d.name = some (.ref fa) →
      ∃ fd : FuncData, (∀ (s : Shared) (u : Value), BindsTo s fd ⟨[u], []⟩ [(x, u)]) ∧
        ∀ base : Heap, (K w.params).In base → base.Ns mainGlobals mg → FnOk l.prog w (K w.params) mg base (CX w) k fa fd [x] (sp w))
    (hsp : ∀ (w : World) (H : Hp) (a : Addr) (ns : List Int), ns.length ≤ n → Only H → SqL (K w.params) H a (ns.map V.int) → sp w [.ref a] H (fun v _ => v = .bl true) fun _ _ _ => False)
    (hCX : ∀ (w : World) (H : Hp) (s : Shared) (e : Value) (s' : Shared), CX w [] H s (fun _ _ _ => False) e s' → False) :
    PySem.W.WalkO q loose XP YP l.row.toRowW d [] (fun f vs => PySem.call f vs) := by
  refine Att.attach_call hn hdf fun w s₀ s₁ mg mb fa o pm cd doc a vs ns G Y ho hd hcd hmg hobj hints hlen hg => ?_
  have KX := hY w _ Y
  obtain ⟨fd, hb, hF⟩ := F w mg fa _ KX G.T.g hmg
  exact law_call KX G.T.g G.T.b G.T.builtins G.T.nolimit hg hobj hints (Nat.le_trans hlen hn2) hr hF hb (fun H hO hS => hsp w H a ns hlen hO hS) fun H e s' => hCX w H s₁ e s'
end L2

namespace L2
open PySem PySem.Spec PyProof.Rows

def inClass (s : Stmt) (j : Nat) : Stmt := match s with
  | .ClassDef _ _ _ body _ _ _ _ _ _ _ => body.getD j (.Pass ⟨0, 0, 0, 0⟩)
  | _ => .Pass ⟨0, 0, 0, 0⟩
def defArgs (s : Stmt) : Arguments := match s with
  | .FunctionDef _ a _ _ _ _ _ _ _ _ => a
  | _ => { posonlyargs := [], args := [], vararg := none, kwonlyargs := [], kw_defaults := [], kwarg := none, defaults := [] }
def defBody (s : Stmt) : List Stmt := match s with
  | .FunctionDef _ _ b _ _ _ _ _ _ _ => b
  | _ => []
def defScope (s : Stmt) : Scope := match s with
  | .FunctionDef _ _ _ _ _ _ sc _ _ _ => sc
  | _ => { kind := .function, names := [], isGenerator := false, isCoroutine := false }

abbrev CX0 : CXT := fun _ _ _ _ _ _ => False
abbrev E0 : XK := fun _ _ _ => False
theorem pass0 {X : Cx} : Passes CX0 X E0 := fun _ _ _ _ _ _ _ h => h.elim

structure Fun (K : PySem.W.Frag) (x qual : Str) (st : Stmt) (f : Addr) (fd : FuncData) : Prop where
  ex : ∃ (oc : Value) (od : Option Addr) (kV doc pm : Value) (an : Option Addr) (cdv ct : Value) (osl : Array (Option Value)),
    fd = PySem.W.fnOf x qual (defArgs st) (defBody st) (defScope st) .none kV doc pm an cdv ct ∧ K.lookup f = some ⟨oc, od, .func fd, osl⟩ ∧ PySem.W.codeIn K cdv qual = true
  kp : PySem.W.keepIn K (.ref f) = true
section
variable {P : Program} {w : World} {K : PySem.W.Frag} {mg : Str → Option Value} {base : Heap}
theorem Fun.ok {x qual : Str} {st : Stmt} {f : Addr} {fd : FuncData} {N ps : List Str} {k : Nat} {sp : Sp} (F : Fun K x qual st f fd) (S : FnScope N ps (defScope st)) (len : ∀ vs H Q E, sp vs H Q E → vs.length = ps.length)
    (hbody : ∀ (cdv : Value) (A : Around) (outer : List Env) (s : Shared) (H : Hp) (vs : List V) (Q : VK) (E : XK), Room k (A.deeper (envOfC qual (defScope st) s.heap.objs.size f cdv)) → sp vs H Q E →
      ∃ t, PSs (cxOf CX0 P w K mg base N qual (defScope st) f cdv A outer s H E).nox (defBody st) t ∧ t { nx := fun _ H' => Q .non H', rt := Q } (start N vs) H) : FnOk P w K mg base CX0 (k + 1) f fd ps sp := by
  obtain ⟨oc, od, kV, doc, pm, an, cdv, ct, osl, rfl, lk, hcd⟩ := F.ex
  refine fn_of lk hcd S len fun A outer s H vs Q E hr hsp => ?_
  obtain ⟨t, h, q⟩ := hbody cdv A outer s H vs Q E hr hsp
  exact ⟨t, h.nox, q⟩
theorem Fun.binds {x qual : Str} {st : Stmt} {f : Addr} {fd : FuncData} {ps : List Str} (F : Fun K x qual st f fd)
    (h : ∀ (kV doc pm : Value) (an : Option Addr) (cdv ct : Value) (us : List Value), us.length = ps.length → bindArgs (PySem.W.fnOf x qual (defArgs st) (defBody st) (defScope st) .none kV doc pm an cdv ct) ⟨us, []⟩ = pure (ps.zip us)) : Binds K fd ps [] := by
  obtain ⟨oc, od, kV, doc, pm, an, cdv, ct, osl, rfl, lk, hcd⟩ := F.ex
  exact .all (h kV doc pm an cdv ct)
theorem fun_mk {x qual : Str} {st : Stmt} {f : Addr} {oc : Value} {od an : Option Addr} {osl : Array (Option Value)} {kV doc pm cdv ct : Value} (l : K.lookup f = some ⟨oc, od, .func (PySem.W.fnOf x qual (defArgs st) (defBody st) (defScope st) .none kV doc pm an cdv ct), osl⟩)
    (c : PySem.W.codeIn K cdv qual = true) (k : PySem.W.keepIn K (.ref f) = true) : Fun K x qual st f (PySem.W.fnOf x qual (defArgs st) (defBody st) (defScope st) .none kV doc pm an cdv ct) := ⟨⟨oc, od, kV, doc, pm, an, cdv, ct, osl, rfl, l, c⟩, k⟩
end
theorem hu_of {A : Around} {k : Nat} (hr : Room k A) : A.units + 1 < cLine := Nat.lt_of_le_of_lt (Nat.add_le_add_left (by decide : 1 ≤ 64) _) hr.units
theorem small1000 {n : Nat} (h : n ≤ 1000) : n < sizeLine := Nat.lt_of_le_of_lt h (by decide)

section
variable {X : Cx}
theorem pv (i : Nat) {x : Str} {pos : Pos} (hN : X.N[i]? = some x := by rfl) (hv : Vis X.env.scope x := by first | exact Or.inl rfl | exact Or.inr (Or.inl rfl) | exact Or.inr (Or.inr rfl)) (hd : (x == ("__debug__" : Str)) = false := by decide)
    (hcd : (x == ("__classdict__" : Str)) = false := by decide) : PE X (.Name x pos) (tVar i) := pe_var hN hv hd hcd
end

theorem ite2 {c A B : Prop} [Decidable c] (h1 : c → A) (h2 : ¬ c → B) : if c then A else B := by
  by_cases h : c
  · rw [if_pos h]
    exact h1 h
  · rw [if_neg h]
    exact h2 h
def Same (H H' : Hp) : Prop := ∀ b o, H b = some o → H' b = some o
theorem Same.refl (H : Hp) : Same H H := fun _ _ h => h
theorem Same.trans {H H1 H2 : Hp} (a : Same H H1) (b : Same H1 H2) : Same H H2 := fun c o h => b c o (a c o h)
theorem Same.free {H H' : Hp} (e : Same H H') {l : Addr} (h : H' l = Option.none) : H l = Option.none := by
  cases q : H l with
  | none => rfl
  | some o =>
    rw [e l o q] at h
    cases h
theorem Same.seq {K : PySem.W.Frag} {H H' : Hp} {a : Addr} {xs : List V} (e : Same H H') (h : SqL K H a xs) : SqL K H' a xs := by
  rcases h with (h | ⟨o, h⟩) | h
  · exact .inl (.inl (e _ _ h))
  · exact .inl (.inr ⟨o, e _ _ h⟩)
  · exact .inr h

end L2

namespace L2
open PySem PySem.Spec PyProof.Rows

def clo (env : Env) : List (Str × NameKind) → List (Str × Addr) → List (Str × Addr)
  | [], acc => acc
  | (n, k) :: r, acc => if k == .free then clo env r ((n, (env.cells.lookup n).getD 0) :: acc) else clo env r acc
theorem clo_run {env : Env} {f : Str × NameKind → List (Str × Addr) → Sem (ForInStep (List (Str × Addr)))}
    (hf : ∀ n k acc, f (n, k) acc = if k == .free then (do let a ← cellOf env n; pure (ForInStep.yield ((n, a) :: acc))) else pure (ForInStep.yield acc)) :
    ∀ (names : List (Str × NameKind)) (acc : List (Str × Addr)), (∀ p ∈ names, p.2 = .free → ∃ a, env.cells.lookup p.1 = some a) →
    (forIn names acc f : Sem (List (Str × Addr))) = pure (clo env names acc)
  | [], acc, _ => rfl
  | (n, k) :: r, acc, h => by
    rw [List.forIn_cons, hf]
    unfold clo
    by_cases hk : (k == NameKind.free) = true
    · rw [if_pos hk, if_pos hk]
      obtain ⟨a, ha⟩ := h (n, k) List.mem_cons_self (by simpa using hk)
      have e : cellOf env n = pure a := by
        unfold cellOf
        rw [show env.cells.lookup n = some a from ha]
      rw [e, show env.cells.lookup n = some a from ha]
      simp only [pure_bind]
      exact clo_run hf r _ fun p hp => h p (List.mem_cons_of_mem _ hp)
    · rw [if_neg hk, if_neg hk, pure_bind]
      exact clo_run hf r _ fun p hp => h p (List.mem_cons_of_mem _ hp)
theorem closureFor_clo {env : Env} {scope : Scope} (h : ∀ p ∈ scope.names, p.2 = .free → ∃ a, env.cells.lookup p.1 = some a) : closureFor scope env = pure (clo env scope.names []) := by
  simp only [closureFor]
  rw [clo_run (env := env) (fun n k acc => ?_) scope.names [] h]
  · rfl
  · by_cases hk : (k == NameKind.free) = true
    · simp only [hk, if_true]
    · simp only [hk, if_false]
theorem clo_mem {env : Env} : ∀ {names : List (Str × NameKind)} {acc : List (Str × Addr)}, (∀ p ∈ names, p.2 = .free → ∃ a, env.cells.lookup p.1 = some a) → ∀ p ∈ clo env names acc, p ∈ acc ∨ (env.cells.lookup p.1 = some p.2)
  | [], acc, _, p, hp => .inl hp
  | (n, k) :: r, acc, h, p, hp => by
    unfold clo at hp
    have hr : ∀ p ∈ r, p.2 = .free → ∃ a, env.cells.lookup p.1 = some a := fun p hp => h p (List.mem_cons_of_mem _ hp)
    by_cases hk : (k == NameKind.free) = true
    · rw [if_pos hk] at hp
      obtain ⟨a, ha⟩ := h (n, k) List.mem_cons_self (by simpa using hk)
      rcases clo_mem hr p hp with q | q
      · rcases List.mem_cons.mp q with q | q
        · subst q
          right
          show env.cells.lookup n = some ((env.cells.lookup n).getD 0)
          rw [show env.cells.lookup n = some a from ha]; rfl
        · exact .inl q
      · exact .inr q
    · rw [if_neg hk] at hp
      exact clo_mem hr p hp
theorem clo_acc {env : Env} : ∀ {names : List (Str × NameKind)} {acc : List (Str × Addr)}, ∀ p ∈ acc, p ∈ clo env names acc
  | [], acc, p, hp => hp
  | (n, k) :: r, acc, p, hp => by
    unfold clo
    by_cases hk : (k == NameKind.free) = true
    · rw [if_pos hk]; exact clo_acc p (List.mem_cons_of_mem _ hp)
    · rw [if_neg hk]; exact clo_acc p hp
theorem clo_has {env : Env} : ∀ {names : List (Str × NameKind)} {acc : List (Str × Addr)} {x : Str}, (x, NameKind.free) ∈ names → ∃ a, (x, a) ∈ clo env names acc
  | [], _, _, h => by cases h
  | (n, k) :: r, acc, x, h => by
    unfold clo
    rcases List.mem_cons.mp h with q | q
    · cases q
      rw [if_pos (show (NameKind.free == NameKind.free) = true from rfl)]
      exact ⟨_, clo_acc _ List.mem_cons_self⟩
    · by_cases hk : (k == NameKind.free) = true
      · rw [if_pos hk]; exact clo_has q
      · rw [if_neg hk]; exact clo_has q
theorem look_of_mem {β : Type} : ∀ {l : List (Str × β)} {x : Str} {b : β}, (x, b) ∈ l → ∃ b', l.lookup x = some b'
  | [], _, _, h => by cases h
  | (n, k) :: r, x, b, h => by
    rw [List.lookup_cons]
    cases hx : x == n with
    | true => exact ⟨k, rfl⟩
    | false =>
      rcases List.mem_cons.mp h with q | q
      · cases q; simp at hx
      · exact look_of_mem q
theorem mem_of_look {β : Type} : ∀ {l : List (Str × β)} {x : Str} {b : β}, l.lookup x = some b → (x, b) ∈ l
  | [], _, _, h => by simp at h
  | (n, k) :: r, x, b, h => by
    rw [List.lookup_cons] at h
    cases hx : x == n with
    | true =>
      rw [hx] at h
      have : x = n := by simpa using hx
      subst this
      cases h
      exact List.mem_cons_self
    | false =>
      rw [hx] at h
      exact List.mem_cons_of_mem _ (mem_of_look h)

theorem relabel_lookup {env : Env} {x : Str} : ∀ (names : List (Str × NameKind)),
    (names.map fun (p : Str × NameKind) => match p with | (n, k) => if (k == .free && env.scope.kind == .function && env.kindOf n == some .cell) then (n, NameKind.cell) else (n, k)).lookup x =
      (names.lookup x).map fun k => if (k == .free && env.scope.kind == .function && env.kindOf x == some .cell) then NameKind.cell else k
  | [] => rfl
  | (n, k) :: r => by
    have ih := @relabel_lookup env x r
    rw [List.map_cons]
    show List.lookup x ((if (k == NameKind.free && env.scope.kind == .function && env.kindOf n == some .cell) = true then (n, NameKind.cell) else (n, k)) :: _) = _
    cases hx : x == n with
    | true =>
      have e : x = n := by simpa using hx
      subst e
      by_cases hc : (k == NameKind.free && env.scope.kind == .function && env.kindOf x == some .cell) = true
      · rw [if_pos hc]; simp only [List.lookup_cons, hx, Option.map_some, if_pos hc]
      · rw [if_neg hc]; simp only [List.lookup_cons, hx, Option.map_some, if_neg hc]
    | false =>
      by_cases hc : (k == NameKind.free && env.scope.kind == .function && env.kindOf n == some .cell) = true
      · rw [if_pos hc]; simp only [List.lookup_cons, hx]; exact ih
      · rw [if_neg hc]; simp only [List.lookup_cons, hx]; exact ih
theorem relabel_names {env : Env} {scope : Scope} {x : Str} : (relabel scope env).names.lookup x = (scope.names.lookup x).map fun k => if (k == .free && env.scope.kind == .function && env.kindOf x == some .cell) then NameKind.cell else k :=
  relabel_lookup scope.names

def cxComp (X : Cx) (N' : List Str) (scope : Scope) (cl : List (Str × Addr)) (C : Addr) (s : Shared) (H : Hp) (fp : List Addr) (pn : List (Addr × Obj)) : Cx :=
  { X with N := N', s₀ := s, H₀ := H, env := compEnvC scope cl C X.env, outer := X.stack, stack := X.stack, ex := fp, fn := fun _ => false, pn := pn, xe := fun _ _ => False }

def Wk : St → St → Prop
  | [], [] => True
  | a :: r, b :: q => (a = none ∨ a = b) ∧ Wk r q
  | _, _ => False
theorem Wk.len : ∀ {a b : St}, Wk a b → a.length = b.length
  | [], [], _ => rfl
  | _ :: _, _ :: _, h => by simp [Wk.len h.2]
  | [], _ :: _, h => False.elim h
  | _ :: _, [], h => False.elim h
theorem Wk.get : ∀ {a b : St}, Wk a b → ∀ (i : Nat) v, a[i]? = some (some v) → b[i]? = some (some v)
  | [], [], _, i, v, h => by simp at h
  | x :: r, y :: q, h, 0, v, e => by
    simp at e
    rcases h.1 with z | z
    · rw [z] at e; cases e
    · simp [← z, e]
  | x :: r, y :: q, h, i + 1, v, e => by
    simp at e ⊢
    exact Wk.get h.2 i v e
  | [], _ :: _, h, _, _, _ => False.elim h
  | _ :: _, [], h, _, _, _ => False.elim h

def stC (own : Nat) (caps : List Nat) (σ : St) : St := List.replicate own none ++ caps.map fun j => (σ[j]?).join

def PTs (X : Cx) (ifs : List Expr) (t : TT) : Prop :=
  ∀ (pins : List (Addr × Obj)) (s : Shared) (σ : St) (H : Hp) (Q : Bool → Hp → Prop), Inv X pins σ H s → t σ H Q →
    wpAny (model X.prog X.w) X.A (forIn ifs true fun c r => if r = true then do let ok ← isTrue c X.env (eval c X.env); pure (ForInStep.yield ok) else pure (ForInStep.yield r)) (TP X pins σ Q) X.xe s
def tTru : TT := fun _ H Q => Q true H
theorem tru_if {σ : St} {H : Hp} {A B : Hp → Prop} (h : A H) : tTru σ H (fun b H3 => if b = true then A H3 else B H3) := by
  show if true = true then A H else B H
  rw [if_pos rfl]
  exact h
theorem pts_nil {X : Cx} : PTs X [] tTru := fun _ _ _ H _ I h => wpAny_tests_nil ⟨H, I, h⟩
theorem pts_one {X : Cx} {c : Expr} {t : TT} (h : PT X c t) : PTs X [c] t := fun pins s σ H Q I q => wpAny_tests_one (h pins s σ H Q I q)

theorem compLoop_go {prog : Program} {w : World} {A : Around} {R : Result → Shared → Prop} {s : Shared} {elt target iter : Expr} {ifs : List Expr} {scope : Scope} {pos : Pos} {it acc : Value} {env : Env} (I : Nat → Shared → Prop)
    (turn : ∀ n s, I n s → wpAny (model prog w) A (pyNext it) (fun r s₁ => match r with
      | none => R (.ok .next) s₁
      | some v => wpAny (model prog w) A (letOwnedTupleGo target it v) (fun _ s₁' => wpAny (model prog w) A (assign target env v) (fun _ s₂ =>
          wpAny (model prog w) A (forIn ifs true fun c r => if r = true then do let ok ← isTrue c env (eval c env); pure (ForInStep.yield ok) else pure (ForInStep.yield r)) (fun ok s₃ =>
            if ok = true then wpAny (model prog w) A (eval elt env) (fun x s₄ =>
              wpAny (model prog w) A (call (.builtin "list.append") [acc, x]) (fun _ s₅ => ∃ m, m < n ∧ I m s₅) (fun _ _ => False) s₄) (fun _ _ => False) s₃
            else ∃ m, m < n ∧ I m s₃) (fun _ _ => False) s₂) (fun _ _ => False) s₁') (fun _ _ => False) s₁) (fun _ _ => False) s)
    (n : Nat) (h : I n s) :
    codeAny (model prog w) A (.compLoop (.ListComp elt [⟨target, iter, ifs, 0⟩] scope pos) 0 it acc env) R s := by
  refine codeAny_loop rfl I (fun n s hI => ?_) n h
  show wpAny _ A ((compTurn (.ListComp elt [⟨target, iter, ifs, 0⟩] scope pos) 0 it acc env).onRaise (fun x => do noteFrame x env; theTreesLotGoes x)) _ _ s
  refine wpAny_noted ?_
  rw [compTurn_list]
  refine wpAny_bind (wpAny_standAt (wpAny_bind (wpAny_mono (turn n s hI) (fun r s₁ h₁ => ?_) fun _ _ h' => False.elim h')))
  cases r with
  | none => exact wpAny_pure h₁
  | some v =>
    refine wpAny_bind (wpAny_mono h₁ (fun _ s₁' h₁' => ?_) fun _ _ h' => False.elim h')
    refine wpAny_bind (wpAny_mono h₁' (fun _ s₂ h₂ => wpAny_bind (wpAny_mono h₂ (fun ok s₃ h₃ => ?_) fun _ _ h' => False.elim h')) fun _ _ h' => False.elim h')
    cases ok with
    | false => exact wpAny_pure ⟨rfl, h₃⟩
    | true =>
      exact wpAny_bind (wpAny_bind (wpAny_mono h₃ (fun x s₄ h₄ => wpAny_bind (wpAny_mono h₄ (fun _ s₅ h₅ => wpAny_pure (wpAny_pure ⟨rfl, h₅⟩)) fun _ _ h' => False.elim h')) fun _ _ h' => False.elim h'))

def tComp (wi : TI) (own : Nat) (caps : List Nat) (g : TG) (tt : TT) (te : TE) : TE := fun σ H Q => wi σ H fun J H1 => ∀ l, H1 l = none → ∃ W : Nat → Nat → List V → Hp → Prop, (∃ m, W 0 m [] (upd H1 l (.lst []))) ∧
  ∀ i m ys H, W i m ys H → H l = some (.lst ys) ∧ ((J.stop i H ∧ Q (.ref l) H) ∨ (J.go i H ∧ ys.length < sizeLine ∧ ∃ N : List V → Hp → Prop, (∀ ys' H', N ys' H' → ∃ m', m' < m ∧ W (i + 1) m' ys' H') ∧
    ∀ x H', J.yld i H x H' → g x (stC own caps σ) H' fun σ2 H2 => Wk (stC own caps σ) σ2 ∧
    tt σ2 H2 fun b H3 => if b = true then te σ2 H3 fun y H4 => H4 l = some (.lst ys) ∧ N (ys ++ [y]) (upd H4 l (.lst (ys ++ [y]))) else N ys H3))

section
variable {X : Cx} {tg elt iter : Expr} {ifs : List Expr} {scope : Scope} {pos : Pos} {wi : TI} {g : TG} {tt : TT} {te : TE} {ownN : List Str} {caps : List (Str × Nat)}
theorem inv_comp {pins : List (Addr × Obj)} {σ : St} {H : Hp} {s : Shared} {fp : List Addr} {h₁ : Heap}
    (I : Inv X pins σ H s) (hf : ∀ b ∈ fp, FpOk X pins H b) (hfl : ∀ b ∈ fp, b < s.heap.objs.size)
    (hkind : scope.kind = .function) (hcell : ∀ y ∈ scope.names, y.2 ≠ .cell)
    (hfree : ∀ p ∈ scope.names, p.2 = .free → X.env.scope.names.lookup p.1 = some .cell)
    (hcaps : ∀ c ∈ caps, X.N[c.2]? = some c.1 ∧ X.env.scope.names.lookup c.1 = some .cell ∧ scope.names.lookup c.1 = some .free)
    (hn : h₁.Ns s.heap.objs.size (fun _ => none)) (hk : ∀ b o, s.heap.get? b = some o → h₁.get? b = some o) {tk : Nat} :
    Inv (cxComp X (ownN ++ caps.map (·.1)) scope (clo X.env scope.names []) s.heap.objs.size s H fp (X.pn ++ pins)) [] (stC ownN.length (caps.map (·.2)) σ) H { s with heap := h₁, toks := tk } := by
  have has : ∀ p ∈ scope.names, p.2 = .free → ∃ a, X.env.cells.lookup p.1 = some a := fun p hp hfr => I.ok.has p.1 (.inl (hfree p hp hfr))
  have cmem : ∀ {x : Str} {c : Addr}, (clo X.env scope.names []).lookup x = some c → X.env.cells.lookup x = some c := fun {x c} e => by
    rcases clo_mem has _ (mem_of_look e) with q | q
    · cases q
    · exact q
  have clt : ∀ {x : Str} {c : Addr}, X.env.cells.lookup x = some c → c < s.heap.objs.size := fun {x c} e => by
    obtain ⟨v, q⟩ := I.cell x c e
    exact q.lt
  refine ⟨⟨I.ok.mod, ?_, I.ok.glob, I.ok.blt, Nat.le_refl _, fun x y c h1 h2 => I.ok.inj x y c (cmem h1) (cmem h2), fun x hx => ?_, fun x c h => (by cases h), I.ok.hd, I.ok.frames, .inl rfl, fun b hb => ⟨Nat.ne_of_lt (hfl b hb), fun x c e => (hf b hb).2.2.2.2.1 x c (cmem e)⟩,
    fun b o e => I.bs b o e, Nat.le_trans I.ok.bsz I.sz, fun b o e z => ?_, fun b hb z => ?_, I.stack, I.stkFree⟩, rfl, I.bare, Un.kept hk, ⟨_, hn, fun i x v h1 h2 h3 => ?_⟩, fun x c e => ?_, I.hok.fresh (Nat.le_refl _), fun x c e => I.freeC x c (cmem e), fun p hp => ?_, I.hok.kept hk, ?_⟩
  · show (relabel scope X.env).kind = .function
    exact hkind
  · -- a cell for each free name
    have e0 : (relabel scope X.env).names.lookup x = some .cell ∨ (relabel scope X.env).names.lookup x = some .free := hx
    rw [relabel_names] at e0
    have e1 : scope.names.lookup x = some .free := by
      cases q : scope.names.lookup x with
      | none => rw [q] at e0; simp at e0
      | some k =>
        have hk' := hcell _ (mem_of_look q)
        rw [q] at e0
        cases k with
        | free => rfl
        | cell => exact absurd rfl hk'
        | _ => simp at e0
    obtain ⟨a, ha⟩ := clo_has (env := X.env) (acc := []) (mem_of_look e1)
    exact look_of_mem ha
  · -- the base has no iterator of ours
    rcases (hf b z).2.2.2.1 with q | q
    · exact I.ok.noex b o e q
    · exact absurd (Nat.lt_of_lt_of_le (Heap.lt_size e) (Nat.le_trans I.ok.bsz q)) (Nat.lt_irrefl _)
  · rcases List.mem_cons.mp (I.stkSub b z) with q | q
    · exact (hf b hb).2.1 q
    · exact (hf b hb).2.2.1 q
  · -- captured names
    have hi : ownN.length ≤ i := by
      unfold stC at h2
      by_cases hi : ownN.length ≤ i
      · exact hi
      · rw [List.getElem?_append_left (by simp; (first | lia | omega)), List.getElem?_replicate] at h2
        split at h2 <;> cases h2
    have h1' : (ownN ++ caps.map (·.1))[i]? = some x := h1
    unfold stC at h2
    rw [List.getElem?_append_right (by simp; (first | lia | omega)), List.length_replicate, List.getElem?_map, List.getElem?_map] at h2
    rw [List.getElem?_append_right hi, List.getElem?_map] at h1'
    cases hc : caps[i - ownN.length]? with
    | none => rw [hc] at h1'; cases h1'
    | some c =>
      rw [hc] at h1' h2
      have ex : c.1 = x := Option.some.inj h1'
      have ev : (σ[c.2]?).join = some v := Option.some.inj h2
      have ev' : σ[c.2]? = some (some v) := by
        cases q : σ[c.2]? with
        | none => rw [q] at ev; cases ev
        | some z => rw [q] at ev; simp at ev; rw [ev]
      obtain ⟨k1, k2, k3⟩ := hcaps c (List.mem_of_getElem? hc)
      rw [ex] at k1 k2 k3
      obtain ⟨m, hm, hl⟩ := I.loc
      obtain ⟨u, ru, lk⟩ := hl c.2 x v k1 ev' (.inr (.inl k2))
      refine ⟨u, ru, .inr ⟨.inl ?_, ?_⟩⟩
      · show (relabel scope X.env).names.lookup x = some .cell
        rw [relabel_names, k3]
        have e1 : X.env.scope.kind = .function := I.ok.kind
        have e2 : X.env.kindOf x = some .cell := k2
        simp [e1, e2]
      · rcases lk with ⟨z, _⟩ | ⟨_, cc, e1, e2⟩
        · have z' : X.env.scope.names.lookup x = some .local := z
          rw [k2] at z'; cases z'
        · obtain ⟨a, ha⟩ := clo_has (env := X.env) (acc := []) (mem_of_look k3)
          obtain ⟨a', ha'⟩ := look_of_mem ha
          have e3 : a' = cc := Option.some.inj ((cmem ha').symm.trans e1)
          rw [e3] at ha'
          obtain ⟨o, ho, hd⟩ := e2
          exact ⟨cc, ha', o, hk _ _ ho, hd⟩
  · obtain ⟨v, o, ho, hd⟩ := I.cell x c (cmem e)
    exact ⟨v, o, hk _ _ ho, hd⟩
  · have hp' : p ∈ X.pn ++ pins := by
      have : p ∈ (X.pn ++ pins) ++ [] := hp
      simpa using this
    obtain ⟨e, n, ne, nf, d⟩ := I.pin p hp'
    refine ⟨hk _ _ e, n, Nat.ne_of_lt (Heap.lt_size e), fun z => ?_, d⟩
    rcases List.mem_cons.mp (I.stkSub p.1 z) with q | q
    · exact ne q
    · exact nf q
  · show (stC ownN.length (caps.map (·.2)) σ).length = (ownN ++ caps.map (·.1)).length
    unfold stC
    simp

theorem pe_comp (ownN : List Str) (caps : List (Str × Nat)) (hc : X.calm = true) (hi : PI X tg iter wi)
    (hg : ∀ cl C s H fp pn, PG (cxComp X (ownN ++ caps.map (·.1)) scope cl C s H fp pn) tg g)
    (ht : ∀ cl C s H fp pn, PTs (cxComp X (ownN ++ caps.map (·.1)) scope cl C s H fp pn) ifs tt)
    (he : ∀ cl C s H fp pn, PE (cxComp X (ownN ++ caps.map (·.1)) scope cl C s H fp pn) elt te)
    (hkind : scope.kind = .function := by rfl) (hcell : ∀ y ∈ scope.names, y.2 ≠ .cell := by decide)
    (hfr : (scope.names.all fun p => p.2 != .free || X.env.scope.names.lookup p.1 == some .cell) = true := by rfl)
    (hcp : (caps.all fun c => X.N[c.2]? == some c.1 && (X.env.scope.names.lookup c.1 == some .cell && scope.names.lookup c.1 == some .free)) = true := by rfl)
    (hnames : ∀ x ∈ scope.names, x.2 = .local → scope.names.lookup x.1 = some .local := by decide)
    (hs : ∀ x, foldedSetIterable iter X.env x = pure x := by intro _; rfl) :
    PE X (.ListComp elt [⟨tg, iter, ifs, 0⟩] scope pos) (tComp wi ownN.length (caps.map (·.2)) g tt te) := by
  intro pins s σ H Q I h
  have hfree : ∀ p ∈ scope.names, p.2 = .free → X.env.scope.names.lookup p.1 = some .cell := fun p hp e => by
    have z := List.all_eq_true.mp hfr p hp
    rw [e] at z
    simpa using z
  have hcaps : ∀ c ∈ caps, X.N[c.2]? = some c.1 ∧ X.env.scope.names.lookup c.1 = some .cell ∧ scope.names.lookup c.1 = some .free := fun c hc => by
    have z := List.all_eq_true.mp hcp c hc
    simpa using z
  have has : ∀ p ∈ scope.names, p.2 = .free → ∃ a, X.env.cells.lookup p.1 = some a := fun p hp hfr => I.ok.has p.1 (.inl (hfree p hp hfr))
  rw [eval_ListComp]
  refine wpAny_comprehension_free (use := none) rfl hs (closureFor_clo has) hkind hnames (thn (hi pins s σ H _ I h) fun v s1 h1 => thn h1 fun itv s2 h2 => ?_)
  obtain ⟨it, fp, tn, J, H2, rfl, I2, T, st2, f2, red⟩ := h2
  have hf2 : H2 s2.heap.objs.size = none := I2.hok.fresh (Nat.le_refl _)
  obtain ⟨W, ⟨m0, w0⟩, turn⟩ := red s2.heap.objs.size hf2
  refine wpAny_newObj_type ?_
  generalize hac : s2.heap.objs.size = ac at hf2 turn w0 ⊢
  have I3 : Inv X pins σ (upd H2 ac (.lst [])) { s2 with heap := s2.heap.push { cls := .type "list", dict := none, data := .seq ([] : List Value).toArray } } := by
    subst hac
    exact I2.laid (t' := s2.toks) (o := .lst []) (fun b u e => Heap.get?_push_of_some _ e) (Nat.le_refl _) ⟨Nat.zero_le _, [], 0, .nil, Heap.get?_push_size _ rfl⟩
  generalize hs3 : ({ s2 with heap := s2.heap.push { cls := .type "list", dict := none, data := .seq ([] : List Value).toArray } } : Shared) = s3 at I3 ⊢
  have obj2 := T.obj 0 s2.heap st2
  have fne : ∀ b ∈ fp, b ≠ ac := fun b hb z => by
    obtain ⟨o, e, _⟩ := obj2 b hb
    exact absurd (Heap.lt_size e) (by rw [z, hac]; exact Nat.lt_irrefl _)
  have f3 : ∀ b ∈ fp, FpOk X pins (upd H2 ac (.lst [])) b := fun b hb => ⟨by rw [upd_ne (fne b hb)]; exact (f2 b hb).1, (f2 b hb).2⟩
  have st3 : tn 0 s3.heap := T.keep 0 _ _ st2 fun b hb o e => by subst hs3; exact Heap.get?_push_of_some _ e
  have fl3 : ∀ b ∈ fp, b < s3.heap.objs.size := fun b hb => by
    obtain ⟨o, e, _⟩ := T.obj 0 s3.heap st3 b hb
    exact Heap.lt_size e
  have acl : ac < s3.heap.objs.size := by subst hs3; subst hac; simp [Heap.size_push]
  refine wpAny_newFunctionEnv hcell (by intro y hy; simp at hy) (fun h₁ hns₁ hsb₁ => ?_) hkind
  have old : ∀ b o, s3.heap.get? b = some o → h₁.get? b = some o := fun b o e => hsb₁.extBut b o (Nat.ne_of_lt (Heap.lt_size e)) (Heap.get?_push_of_some _ e)
  have I4 := inv_comp (ownN := ownN) (caps := caps) (tk := s3.toks + ([] : List (Str × Value)).length) I3 f3 fl3 hkind hcell hfree hcaps hns₁ old
  have st4 : tn 0 h₁ := T.keep 0 _ _ st3 fun b hb o e => old b o e
  -- behind the block
  have after : ∀ (s5 : Shared) (σ5 : St) (H5 : Hp), Inv (cxComp X (ownN ++ caps.map (·.1)) scope (clo X.env scope.names []) s3.heap.objs.size s3 (upd H2 ac (.lst [])) fp (X.pn ++ pins)) [] σ5 H5 s5 → Q (.ref ac) H5 →
      compPost (model X.prog X.w) X.A X.xe none (EP X pins σ Q) (.ref ac) s3.heap.objs.size (.ok .next) s5 := by
    intro s5 σ5 H5 J5 q
    obtain ⟨m, hm, _⟩ := J5.loc
    refine ⟨m, hm, fun h' hs' => ?_⟩
    have nC : H5 s3.heap.objs.size = none := J5.free
    refine ⟨.ref ac, H5, ?_, rfl, q⟩
    have ub := J5.base
    have u : Un (frs X.stack) fp (upd H2 ac (.lst [])) H5 s3.heap h' :=
      ⟨fun b o e n hb hx => hs'.extBut b o (Nat.ne_of_lt (Heap.lt_size e)) (ub.keep b o e n hb hx), fun b o e n hb hx => by
        obtain ⟨sl, z⟩ := ub.slot b o e n hb hx
        exact ⟨sl, hs'.extBut b _ (Nat.ne_of_lt (Heap.lt_size e)) z⟩, ub.free, fun b o e hx => by
        obtain ⟨o', z⟩ := ub.there b o e hx
        exact ⟨o', hs'.extBut b _ (Nat.ne_of_lt (Heap.lt_size e)) z⟩, ub.tups, ub.frzs, fun b ps q => ⟨(ub.tbls b ps q).1, fun c o ec x => let z := (ub.tbls b ps q).2 c o ec x; ⟨z.1, hs'.extBut c o (ne_of_none z.1 nC) z.2⟩⟩⟩
    refine I3.call' (s' := { s5 with heap := h' }) (ch := fp) J5.os u (fun b u e => ?_) J5.bare (fun b hb => ⟨(f3 b hb).2.2.2.1, (f3 b hb).2.1, (f3 b hb).2.2.2.2.1, (f3 b hb).2.2.2.2.2⟩)
    refine (J5.hok b u e).stay (fun c v hc z => hs'.extBut c v ?_ z) (fun _ z => z) fun _ _ z => z
    rintro rfl
    rcases hc with z' | z'
    · rw [z', e] at nC; cases nC
    · rw [nC] at z'; cases z'
  have loop : ∀ s4 : Shared, s4 = { s3 with heap := h₁, toks := s3.toks + ([] : List (Str × Value)).length } → codeAny (model X.prog X.w) X.A (.compLoop (.ListComp elt [⟨tg, iter, ifs, 0⟩] scope pos) 0 (.ref it) (.ref ac) (compEnvC scope (clo X.env scope.names []) s3.heap.objs.size X.env))
      (compPost (model X.prog X.w) X.A X.xe none (EP X pins σ Q) (.ref ac) s3.heap.objs.size) s4 := by
    rintro s4 rfl
    refine compLoop_go (fun n s' => ∃ i ys H', Inv (cxComp X (ownN ++ caps.map (·.1)) scope (clo X.env scope.names []) s3.heap.objs.size s3 (upd H2 ac (.lst [])) fp (X.pn ++ pins)) [] (stC ownN.length (caps.map (·.2)) σ) H' s' ∧ tn i s'.heap ∧ (∀ b ∈ fp, H' b = none) ∧ W i n ys H') ?_ m0
      ⟨0, [], _, I4, st4, fun b hb => (f3 b hb).1, w0⟩
    rintro n s6 ⟨i, ys, H6, I6, st6, fr6, w6⟩
    obtain ⟨hl6, alt⟩ := turn i n ys H6 w6
    have fpok : ∀ {H' : Hp}, (∀ b ∈ fp, H' b = none) → ∀ b ∈ fp, FpOk (cxComp X (ownN ++ caps.map (·.1)) scope (clo X.env scope.names []) s3.heap.objs.size s3 (upd H2 ac (.lst [])) fp (X.pn ++ pins)) [] H' b := fun {H'} hn b hb =>
      ⟨hn b hb, Nat.ne_of_lt (fl3 b hb), I6.ok.exfs b hb, .inl hb, (I6.ok.exf b hb).2, fun p hp z => (f3 b hb).2.2.2.2.2 p (by
        have hp' : p ∈ (X.pn ++ pins) ++ [] := hp
        simpa using hp') z⟩
    rcases alt with ⟨stop, qn⟩ | ⟨go, hsz, N, hN, step⟩
    · refine thn (T.done (cxComp X (ownN ++ caps.map (·.1)) scope (clo X.env scope.names []) s3.heap.objs.size s3 (upd H2 ac (.lst [])) fp (X.pn ++ pins)) rfl rfl rfl hc i [] s6 _ H6 _ I6 (fpok fr6) st6 stop) fun r s7 ⟨hr, I7⟩ => ?_
      subst hr
      exact after s7 _ H6 I7 qn
    · refine thn (T.item (cxComp X (ownN ++ caps.map (·.1)) scope (clo X.env scope.names []) s3.heap.objs.size s3 (upd H2 ac (.lst [])) fp (X.pn ++ pins)) rfl rfl rfl hc i [] s6 _ H6 _ I6 (fpok fr6) st6 go) fun r s7 ⟨u, hr, h7⟩ => ?_
      subst hr
      refine thn h7 fun _ s8 ⟨x, H8, I8, r8, y8, st8, fr8⟩ => ?_
      have I8' := I8.pinned (fpok fr8) (T.obj _ _ st8)
      have fin : ∀ {σ' : St} {H' : Hp} {s' : Shared}, Inv (cxComp X (ownN ++ caps.map (·.1)) scope (clo X.env scope.names []) s3.heap.objs.size s3 (upd H2 ac (.lst [])) fp (X.pn ++ pins)) ([] ++ pinsAt fp s8.heap) σ' H' s' → tn (i + 1) s'.heap ∧ ∀ b ∈ fp, H' b = none := fun {σ' H' s'} J =>
        ⟨T.keep _ _ _ st8 fun b hb o e => (J.pin (b, o) (List.mem_append_right _ (List.mem_append_right _ (mem_pinsAt hb e)))).1, fun b hb => by
          obtain ⟨o, e, _⟩ := T.obj _ _ st8 b hb
          exact (J.pin (b, o) (List.mem_append_right _ (List.mem_append_right _ (mem_pinsAt hb e)))).2.1⟩
      refine thn (hg _ _ _ _ _ _ _ s8 _ H8 x u _ I8' r8 (step x H8 y8)) fun _ s9 ⟨σ9, H9, I9, wk, q9⟩ => ?_
      refine thn (ht _ _ _ _ _ _ _ s9 σ9 H9 _ I9 q9) fun b s10 ⟨H10, I10, q10⟩ => ?_
      cases b with
      | false =>
        rw [if_neg Bool.false_ne_true] at q10 ⊢
        obtain ⟨m', hm', w'⟩ := hN _ _ q10
        obtain ⟨e1, e2⟩ := fin I10
        exact ⟨m', hm', i + 1, ys, H10, (I10.weak wk.len wk.get).unpinned, e1, e2, w'⟩
      | true =>
        rw [if_pos rfl] at q10 ⊢
        refine thn (he _ _ _ _ _ _ _ s10 σ9 H10 _ I10 q10) fun y s11 ⟨yv, H11, I11, r11, hl11, q11⟩ => ?_
        obtain ⟨m', hm', w'⟩ := hN _ _ q11
        refine thn (mt_append (X := cxComp X (ownN ++ caps.map (·.1)) scope (clo X.env scope.names []) s3.heap.objs.size s3 (upd H2 ac (.lst [])) fp (X.pn ++ pins)) (pinsAt fp s8.heap) s11 σ9 H11 (.ref ac) [yv] (.ref ac) [y] (fun v H' => H' = upd H11 ac (.lst (ys ++ [yv]))) I11 rfl (.cons r11 .nil) ⟨ac, ys, yv, rfl, rfl, hl11, hsz, rfl⟩) fun _ s12 ⟨v12, H12, I12, _, e12⟩ => ?_
        subst e12
        obtain ⟨e1, e2⟩ := fin I12
        exact ⟨m', hm', i + 1, _, _, (I12.weak wk.len wk.get).unpinned, e1, e2, w'⟩
  exact codeAny_compStart_list (loop _ rfl) (T.self _ 0 _ _ _ st4 (loop _ rfl))

theorem ps_setComp {i : Nat} {x : Str} {pos' spos : Pos} (hN : X.N.Nodup) (hix : X.N[i]? = some x) (hxl : Loc X.env.scope x) (ownN : List Str) (caps : List (Str × Nat)) (hc : X.calm = true) (hi : PI X tg iter wi)
    (hg : ∀ cl C s H fp pn, PG (cxComp X (ownN ++ caps.map (·.1)) scope cl C s H fp pn) tg g)
    (ht : ∀ cl C s H fp pn, PTs (cxComp X (ownN ++ caps.map (·.1)) scope cl C s H fp pn) ifs tt)
    (he : ∀ cl C s H fp pn, PE (cxComp X (ownN ++ caps.map (·.1)) scope cl C s H fp pn) elt te)
    (hkind : scope.kind = .function := by rfl) (hcell : ∀ y ∈ scope.names, y.2 ≠ .cell := by decide)
    (hfr : (scope.names.all fun p => p.2 != .free || X.env.scope.names.lookup p.1 == some .cell) = true := by rfl)
    (hcp : (caps.all fun c => X.N[c.2]? == some c.1 && (X.env.scope.names.lookup c.1 == some .cell && scope.names.lookup c.1 == some .free)) = true := by rfl)
    (hnames : ∀ x ∈ scope.names, x.2 = .local → scope.names.lookup x.1 = some .local := by decide)
    (hs : ∀ x, foldedSetIterable iter X.env x = pure x := by intro _; rfl)
    (hsw : swapsWith (.ListComp elt [⟨tg, iter, ifs, 0⟩] scope pos) (some (.Name x pos')) spos.line X.env = pure true := by rfl)
    (hf : X.fn x = true ∨ X.env.scope.names.lookup x = some .local := by first | exact .inl rfl | exact .inr rfl | assumption) :
    PS X (.Assign [.Name x pos'] (.ListComp elt [⟨tg, iter, ifs, 0⟩] scope pos) spos) (tAsg (tComp wi ownN.length (caps.map (·.2)) g tt te) (gName i)) := by
  intro pins s σ H D I h
  let Q : VK := fun v H' => D.nx (σ.set i (some v)) H'
  have hfree : ∀ p ∈ scope.names, p.2 = .free → X.env.scope.names.lookup p.1 = some .cell := fun p hp e => by
    have z := List.all_eq_true.mp hfr p hp
    rw [e] at z
    simpa using z
  have hcaps : ∀ c ∈ caps, X.N[c.2]? = some c.1 ∧ X.env.scope.names.lookup c.1 = some .cell ∧ scope.names.lookup c.1 = some .free := fun c hc => by
    have z := List.all_eq_true.mp hcp c hc
    simpa using z
  have has : ∀ p ∈ scope.names, p.2 = .free → ∃ a, X.env.cells.lookup p.1 = some a := fun p hp hfr => I.ok.has p.1 (.inl (hfree p hp hfr))
  rw [exec_Assign_Name_used _ _ _ _ hsw]
  refine wpAny_bind (wpAny_standAt (wpAny_bind ?_))
  show wpAny _ X.A (do let _ ← comprehension (.ListComp elt [⟨tg, iter, ifs, 0⟩] scope pos) scope X.env _ (newList []) false (eval iter X.env) (some (assign (.Name x pos') X.env))) _ _ s
  refine wpAny_bind (thn (Q := fun _ s' => ∃ σ' H', Inv X pins σ' H' s' ∧ D.nx σ' H') (wpAny_comprehension_free (use := some (assign (.Name x pos') X.env)) rfl hs (closureFor_clo has) hkind hnames (thn (hi pins s σ H _ I h) fun v s1 h1 => thn h1 fun itv s2 h2 => ?_)) fun _ s' hq => wpAny_pure (wpAny_pure hq))
  obtain ⟨it, fp, tn, J, H2, rfl, I2, T, st2, f2, red⟩ := h2
  have hf2 : H2 s2.heap.objs.size = none := I2.hok.fresh (Nat.le_refl _)
  obtain ⟨W, ⟨m0, w0⟩, turn⟩ := red s2.heap.objs.size hf2
  refine wpAny_newObj_type ?_
  generalize hac : s2.heap.objs.size = ac at hf2 turn w0 ⊢
  have I3 : Inv X pins σ (upd H2 ac (.lst [])) { s2 with heap := s2.heap.push { cls := .type "list", dict := none, data := .seq ([] : List Value).toArray } } := by
    subst hac
    exact I2.laid (t' := s2.toks) (o := .lst []) (fun b u e => Heap.get?_push_of_some _ e) (Nat.le_refl _) ⟨Nat.zero_le _, [], 0, .nil, Heap.get?_push_size _ rfl⟩
  generalize hs3 : ({ s2 with heap := s2.heap.push { cls := .type "list", dict := none, data := .seq ([] : List Value).toArray } } : Shared) = s3 at I3 ⊢
  have obj2 := T.obj 0 s2.heap st2
  have fne : ∀ b ∈ fp, b ≠ ac := fun b hb z => by
    obtain ⟨o, e, _⟩ := obj2 b hb
    exact absurd (Heap.lt_size e) (by rw [z, hac]; exact Nat.lt_irrefl _)
  have f3 : ∀ b ∈ fp, FpOk X pins (upd H2 ac (.lst [])) b := fun b hb => ⟨by rw [upd_ne (fne b hb)]; exact (f2 b hb).1, (f2 b hb).2⟩
  have st3 : tn 0 s3.heap := T.keep 0 _ _ st2 fun b hb o e => by subst hs3; exact Heap.get?_push_of_some _ e
  have fl3 : ∀ b ∈ fp, b < s3.heap.objs.size := fun b hb => by
    obtain ⟨o, e, _⟩ := T.obj 0 s3.heap st3 b hb
    exact Heap.lt_size e
  have acl : ac < s3.heap.objs.size := by subst hs3; subst hac; simp [Heap.size_push]
  refine wpAny_newFunctionEnv hcell (by intro y hy; simp at hy) (fun h₁ hns₁ hsb₁ => ?_) hkind
  have old : ∀ b o, s3.heap.get? b = some o → h₁.get? b = some o := fun b o e => hsb₁.extBut b o (Nat.ne_of_lt (Heap.lt_size e)) (Heap.get?_push_of_some _ e)
  have I4 := inv_comp (ownN := ownN) (caps := caps) (tk := s3.toks + ([] : List (Str × Value)).length) I3 f3 fl3 hkind hcell hfree hcaps hns₁ old
  have st4 : tn 0 h₁ := T.keep 0 _ _ st3 fun b hb o e => old b o e
  -- behind the block
  have after : ∀ (s5 : Shared) (σ5 : St) (H5 : Hp), Inv (cxComp X (ownN ++ caps.map (·.1)) scope (clo X.env scope.names []) s3.heap.objs.size s3 (upd H2 ac (.lst [])) fp (X.pn ++ pins)) [] σ5 H5 s5 → Q (.ref ac) H5 →
      compPost (model X.prog X.w) X.A X.xe (some (assign (.Name x pos') X.env)) (fun _ s' => ∃ σ' H', Inv X pins σ' H' s' ∧ D.nx σ' H') (.ref ac) s3.heap.objs.size (.ok .next) s5 := by
    intro s5 σ5 H5 J5 q
    obtain ⟨m, hm, _⟩ := J5.loc
    have nC : H5 s3.heap.objs.size = none := J5.free
    have I5 : Inv X pins σ H5 s5 := I3.call' (s' := s5) (ch := fp) J5.os J5.base J5.hok J5.bare (fun b hb => ⟨(f3 b hb).2.2.2.1, (f3 b hb).2.1, (f3 b hb).2.2.2.2.1, (f3 b hb).2.2.2.2.2⟩)
    have fC := I3.fpOk (Nat.le_refl _) nC
    show wpAny _ X.A (assign (.Name x pos') X.env (.ref ac)) _ _ s5
    refine wpAny_assign_Name (store_ok2 I5 hN hix hxl (v := .ref ac) rfl (fun s6 I6 ⟨a, sb, ha⟩ => ?_) hf)
    have aC : s3.heap.objs.size ≠ a := by
      rcases ha with z | z
      · rw [z]; exact fC.2.1
      · exact Ne.symm (fC.2.2.2.2.1 x a z)
    refine ⟨m, hm.sameBut sb aC, fun h' hs' => ?_⟩
    exact ⟨_, H5, I6.turned (it := s3.heap.objs.size) (t' := s6.toks) (fun b o hb e => hs'.extBut b o hb e) nC fC.2.1 fC.2.2.2.1 fC.2.2.2.2.1 fC.2.2.2.2.2, q⟩
  have loop : ∀ s4 : Shared, s4 = { s3 with heap := h₁, toks := s3.toks + ([] : List (Str × Value)).length } → codeAny (model X.prog X.w) X.A (.compLoop (.ListComp elt [⟨tg, iter, ifs, 0⟩] scope pos) 0 (.ref it) (.ref ac) (compEnvC scope (clo X.env scope.names []) s3.heap.objs.size X.env))
      (compPost (model X.prog X.w) X.A X.xe (some (assign (.Name x pos') X.env)) (fun _ s' => ∃ σ' H', Inv X pins σ' H' s' ∧ D.nx σ' H') (.ref ac) s3.heap.objs.size) s4 := by
    rintro s4 rfl
    refine compLoop_go (fun n s' => ∃ i ys H', Inv (cxComp X (ownN ++ caps.map (·.1)) scope (clo X.env scope.names []) s3.heap.objs.size s3 (upd H2 ac (.lst [])) fp (X.pn ++ pins)) [] (stC ownN.length (caps.map (·.2)) σ) H' s' ∧ tn i s'.heap ∧ (∀ b ∈ fp, H' b = none) ∧ W i n ys H') ?_ m0
      ⟨0, [], _, I4, st4, fun b hb => (f3 b hb).1, w0⟩
    rintro n s6 ⟨i, ys, H6, I6, st6, fr6, w6⟩
    obtain ⟨hl6, alt⟩ := turn i n ys H6 w6
    have fpok : ∀ {H' : Hp}, (∀ b ∈ fp, H' b = none) → ∀ b ∈ fp, FpOk (cxComp X (ownN ++ caps.map (·.1)) scope (clo X.env scope.names []) s3.heap.objs.size s3 (upd H2 ac (.lst [])) fp (X.pn ++ pins)) [] H' b := fun {H'} hn b hb =>
      ⟨hn b hb, Nat.ne_of_lt (fl3 b hb), I6.ok.exfs b hb, .inl hb, (I6.ok.exf b hb).2, fun p hp z => (f3 b hb).2.2.2.2.2 p (by
        have hp' : p ∈ (X.pn ++ pins) ++ [] := hp
        simpa using hp') z⟩
    rcases alt with ⟨stop, qn⟩ | ⟨go, hsz, N, hN, step⟩
    · refine thn (T.done (cxComp X (ownN ++ caps.map (·.1)) scope (clo X.env scope.names []) s3.heap.objs.size s3 (upd H2 ac (.lst [])) fp (X.pn ++ pins)) rfl rfl rfl hc i [] s6 _ H6 _ I6 (fpok fr6) st6 stop) fun r s7 ⟨hr, I7⟩ => ?_
      subst hr
      exact after s7 _ H6 I7 qn
    · refine thn (T.item (cxComp X (ownN ++ caps.map (·.1)) scope (clo X.env scope.names []) s3.heap.objs.size s3 (upd H2 ac (.lst [])) fp (X.pn ++ pins)) rfl rfl rfl hc i [] s6 _ H6 _ I6 (fpok fr6) st6 go) fun r s7 ⟨u, hr, h7⟩ => ?_
      subst hr
      refine thn h7 fun _ s8 ⟨xv, H8, I8, r8, y8, st8, fr8⟩ => ?_
      have I8' := I8.pinned (fpok fr8) (T.obj _ _ st8)
      have fin : ∀ {σ' : St} {H' : Hp} {s' : Shared}, Inv (cxComp X (ownN ++ caps.map (·.1)) scope (clo X.env scope.names []) s3.heap.objs.size s3 (upd H2 ac (.lst [])) fp (X.pn ++ pins)) ([] ++ pinsAt fp s8.heap) σ' H' s' → tn (i + 1) s'.heap ∧ ∀ b ∈ fp, H' b = none := fun {σ' H' s'} J =>
        ⟨T.keep _ _ _ st8 fun b hb o e => (J.pin (b, o) (List.mem_append_right _ (List.mem_append_right _ (mem_pinsAt hb e)))).1, fun b hb => by
          obtain ⟨o, e, _⟩ := T.obj _ _ st8 b hb
          exact (J.pin (b, o) (List.mem_append_right _ (List.mem_append_right _ (mem_pinsAt hb e)))).2.1⟩
      refine thn (hg _ _ _ _ _ _ _ s8 _ H8 xv u _ I8' r8 (step xv H8 y8)) fun _ s9 ⟨σ9, H9, I9, wk, q9⟩ => ?_
      refine thn (ht _ _ _ _ _ _ _ s9 σ9 H9 _ I9 q9) fun b s10 ⟨H10, I10, q10⟩ => ?_
      cases b with
      | false =>
        rw [if_neg Bool.false_ne_true] at q10 ⊢
        obtain ⟨m', hm', w'⟩ := hN _ _ q10
        obtain ⟨e1, e2⟩ := fin I10
        exact ⟨m', hm', i + 1, ys, H10, (I10.weak wk.len wk.get).unpinned, e1, e2, w'⟩
      | true =>
        rw [if_pos rfl] at q10 ⊢
        refine thn (he _ _ _ _ _ _ _ s10 σ9 H10 _ I10 q10) fun y s11 ⟨yv, H11, I11, r11, hl11, q11⟩ => ?_
        obtain ⟨m', hm', w'⟩ := hN _ _ q11
        refine thn (mt_append (X := cxComp X (ownN ++ caps.map (·.1)) scope (clo X.env scope.names []) s3.heap.objs.size s3 (upd H2 ac (.lst [])) fp (X.pn ++ pins)) (pinsAt fp s8.heap) s11 σ9 H11 (.ref ac) [yv] (.ref ac) [y] (fun v H' => H' = upd H11 ac (.lst (ys ++ [yv]))) I11 rfl (.cons r11 .nil) ⟨ac, ys, yv, rfl, rfl, hl11, hsz, rfl⟩) fun _ s12 ⟨v12, H12, I12, _, e12⟩ => ?_
        subst e12
        obtain ⟨e1, e2⟩ := fin I12
        exact ⟨m', hm', i + 1, _, _, (I12.weak wk.len wk.get).unpinned, e1, e2, w'⟩
  exact codeAny_compStart_list (loop _ rfl) (T.self _ 0 _ _ _ st4 (loop _ rfl))

theorem comp_range {lo : Int} {n own : Nat} {caps : List Nat} {g : TG} {tt : TT} {te : TE} {σ : St} {R : Hp → Prop} {l : Addr} {H1 : Hp} (Pv : Nat → List V → Hp → Prop) (h0 : Pv 0 [] (upd H1 l (.lst []))) (hz : n ≤ sizeLine)
    (hl : ∀ i ys H, Pv i ys H → H l = some (.lst ys) ∧ ys.length ≤ i)
    (hs : ∀ i ys H, i < n → Pv i ys H → g (.int (lo + i)) (stC own caps σ) H fun σ2 H2 => Wk (stC own caps σ) σ2 ∧
      tt σ2 H2 fun b H3 => if b = true then te σ2 H3 fun y H4 => H4 l = some (.lst ys) ∧ Pv (i + 1) (ys ++ [y]) (upd H4 l (.lst (ys ++ [y]))) else Pv (i + 1) ys H3)
    (hd : ∀ ys H, Pv n ys H → R H) :
    ∃ W : Nat → Nat → List V → Hp → Prop, (∃ m, W 0 m [] (upd H1 l (.lst []))) ∧
      ∀ i m ys H, W i m ys H → H l = some (.lst ys) ∧ (((Itr lo n).stop i H ∧ R H) ∨ ((Itr lo n).go i H ∧ ys.length < sizeLine ∧ ∃ N : List V → Hp → Prop, (∀ ys' H', N ys' H' → ∃ m', m' < m ∧ W (i + 1) m' ys' H') ∧
        ∀ x H', (Itr lo n).yld i H x H' → g x (stC own caps σ) H' fun σ2 H2 => Wk (stC own caps σ) σ2 ∧
        tt σ2 H2 fun b H3 => if b = true then te σ2 H3 fun y H4 => H4 l = some (.lst ys) ∧ N (ys ++ [y]) (upd H4 l (.lst (ys ++ [y]))) else N ys H3)) := by
  refine ⟨fun i m ys H => m = n - i ∧ i ≤ n ∧ Pv i ys H, ⟨n, by simp, Nat.zero_le _, h0⟩, ?_⟩
  rintro i m ys H ⟨rfl, hi, p⟩
  obtain ⟨e1, e2⟩ := hl i ys H p
  refine ⟨e1, ?_⟩
  by_cases hlt : i < n
  · refine .inr ⟨hlt, by (first | lia | omega), Pv (i + 1), fun ys' H' p' => ⟨n - (i + 1), by (first | lia | omega), rfl, hlt, p'⟩, fun x H' y => ?_⟩
    obtain ⟨e, y⟩ := y
    subst e y
    exact hs i ys _ hlt p
  · have e : i = n := by (first | lia | omega)
    subst e
    exact .inl ⟨Nat.le_refl _, hd ys H p⟩
theorem comp_list {K : PySem.W.Frag} {a : Addr} {xs : List V} {own : Nat} {caps : List Nat} {g : TG} {tt : TT} {te : TE} {σ : St} {R : Hp → Prop} {l : Addr} {H1 : Hp} (Pv : Nat → List V → Hp → Prop) (h0 : Pv 0 [] (upd H1 l (.lst []))) (hz : xs.length ≤ sizeLine)
    (hl : ∀ i ys H, i ≤ xs.length → Pv i ys H → SqL K H a xs ∧ H l = some (.lst ys) ∧ ys.length ≤ i)
    (hs : ∀ i x ys H, xs[i]? = some x → Pv i ys H → g x (stC own caps σ) H fun σ2 H2 => Wk (stC own caps σ) σ2 ∧
      tt σ2 H2 fun b H3 => if b = true then te σ2 H3 fun y H4 => H4 l = some (.lst ys) ∧ Pv (i + 1) (ys ++ [y]) (upd H4 l (.lst (ys ++ [y]))) else Pv (i + 1) ys H3)
    (hd : ∀ ys H, Pv xs.length ys H → R H) :
    ∃ W : Nat → Nat → List V → Hp → Prop, (∃ m, W 0 m [] (upd H1 l (.lst []))) ∧
      ∀ i m ys H, W i m ys H → H l = some (.lst ys) ∧ (((Itl K a).stop i H ∧ R H) ∨ ((Itl K a).go i H ∧ ys.length < sizeLine ∧ ∃ N : List V → Hp → Prop, (∀ ys' H', N ys' H' → ∃ m', m' < m ∧ W (i + 1) m' ys' H') ∧
        ∀ x H', (Itl K a).yld i H x H' → g x (stC own caps σ) H' fun σ2 H2 => Wk (stC own caps σ) σ2 ∧
        tt σ2 H2 fun b H3 => if b = true then te σ2 H3 fun y H4 => H4 l = some (.lst ys) ∧ N (ys ++ [y]) (upd H4 l (.lst (ys ++ [y]))) else N ys H3)) := by
  refine ⟨fun i m ys H => m = xs.length - i ∧ i ≤ xs.length ∧ Pv i ys H, ⟨xs.length, by simp, Nat.zero_le _, h0⟩, ?_⟩
  rintro i m ys H ⟨rfl, hi, p⟩
  obtain ⟨q, e1, e2⟩ := hl i ys H hi p
  refine ⟨e1, ?_⟩
  by_cases hlt : i < xs.length
  · refine .inr ⟨⟨xs, xs[i], q, by simp [hlt]⟩, by (first | lia | omega), Pv (i + 1), fun ys' H' p' => ⟨xs.length - (i + 1), by (first | lia | omega), rfl, hlt, p'⟩, fun x H' y => ?_⟩
    obtain ⟨e, y⟩ := y
    subst e
    exact hs i x ys _ (y xs q) p
  · have e : i = xs.length := by (first | lia | omega)
    subst e
    exact .inl ⟨⟨xs, q, Nat.le_refl _⟩, hd ys H p⟩
theorem comp_tup {K : PySem.W.Frag} {a : Addr} {xs : List V} {own : Nat} {caps : List Nat} {g : TG} {tt : TT} {te : TE} {σ : St} {R : Hp → Prop} {l : Addr} {H1 : Hp} (Pv : Nat → List V → Hp → Prop) (h0 : Pv 0 [] (upd H1 l (.lst []))) (hz : xs.length ≤ sizeLine)
    (hl : ∀ i ys H, i ≤ xs.length → Pv i ys H → SqT K H a xs ∧ H l = some (.lst ys) ∧ ys.length ≤ i)
    (hs : ∀ i x ys H, xs[i]? = some x → Pv i ys H → g x (stC own caps σ) H fun σ2 H2 => Wk (stC own caps σ) σ2 ∧
      tt σ2 H2 fun b H3 => if b = true then te σ2 H3 fun y H4 => H4 l = some (.lst ys) ∧ Pv (i + 1) (ys ++ [y]) (upd H4 l (.lst (ys ++ [y]))) else Pv (i + 1) ys H3)
    (hd : ∀ ys H, Pv xs.length ys H → R H) :
    ∃ W : Nat → Nat → List V → Hp → Prop, (∃ m, W 0 m [] (upd H1 l (.lst []))) ∧
      ∀ i m ys H, W i m ys H → H l = some (.lst ys) ∧ (((Itt K a).stop i H ∧ R H) ∨ ((Itt K a).go i H ∧ ys.length < sizeLine ∧ ∃ N : List V → Hp → Prop, (∀ ys' H', N ys' H' → ∃ m', m' < m ∧ W (i + 1) m' ys' H') ∧
        ∀ x H', (Itt K a).yld i H x H' → g x (stC own caps σ) H' fun σ2 H2 => Wk (stC own caps σ) σ2 ∧
        tt σ2 H2 fun b H3 => if b = true then te σ2 H3 fun y H4 => H4 l = some (.lst ys) ∧ N (ys ++ [y]) (upd H4 l (.lst (ys ++ [y]))) else N ys H3)) := by
  refine ⟨fun i m ys H => m = xs.length - i ∧ i ≤ xs.length ∧ Pv i ys H, ⟨xs.length, by simp, Nat.zero_le _, h0⟩, ?_⟩
  rintro i m ys H ⟨rfl, hi, p⟩
  obtain ⟨q, e1, e2⟩ := hl i ys H hi p
  refine ⟨e1, ?_⟩
  by_cases hlt : i < xs.length
  · refine .inr ⟨⟨xs, xs[i], q, by simp [hlt]⟩, by (first | lia | omega), Pv (i + 1), fun ys' H' p' => ⟨xs.length - (i + 1), by (first | lia | omega), rfl, hlt, p'⟩, fun x H' y => ?_⟩
    obtain ⟨e, y⟩ := y
    subst e
    exact hs i x ys _ (y xs q) p
  · have e : i = xs.length := by (first | lia | omega)
    subst e
    exact .inl ⟨⟨xs, q, Nat.le_refl _⟩, hd ys H p⟩
end
end L2

namespace L2
open PySem PySem.Spec PyProof.Rows

section
variable {X : Cx}
def rEqL (K : PySem.W.Frag) (neg : Bool) : R2 := fun x y H Q => ∃ (a b : Addr) (ns ms : List Int), x = .ref a ∧ y = .ref b ∧ SqL K H a (ns.map V.int) ∧ SqL K H b (ms.map V.int) ∧ Q (.bl (if neg then !decide (ns = ms) else decide (ns = ms))) H
theorem op_neL (hu : X.A.units + 64 < cLine) : OpR X (compareOp .NotEq) (rEqL X.K true) := by
  intro pins s σ H x y v u Q I rx ry h
  obtain ⟨a, b, ns, ms, rfl, rfl, ha, hb, q⟩ := h
  cases rx
  cases ry
  obtain ⟨its, r1, p1, _⟩ := I.list ha
  obtain ⟨its2, r2, p2, _⟩ := I.list hb
  exact PySem.W.ne_intsK p1.isList (intsAre_of r1) p2.isList (intsAre_of r2) hu ⟨.bl _, H, I, rfl, q⟩
def rEqNil (K : PySem.W.Frag) : R2 := fun x y H Q => ∃ (a b : Addr) (xs : List V), x = .ref a ∧ y = .ref b ∧ SqL K H a xs ∧ SqL K H b [] ∧ Q (.bl (decide (xs = []))) H
theorem op_eqNil (hu : X.A.units < cLine) : OpR X (compareOp .Eq) (rEqNil X.K) := by
  intro pins s σ H x y v u Q I rx ry h
  obtain ⟨a, b, xs, rfl, rfl, ha, hb, q⟩ := h
  cases rx
  cases ry
  obtain ⟨its, r1, p1, _⟩ := I.list ha
  obtain ⟨its2, r2, p2, _⟩ := I.list hb
  cases r2
  cases r1 with
  | nil => exact SeqAt.eq_listAt (e := fun _ => true) p1.isList p2.isList rfl hu (fun j h1 h2 => absurd h1 (by simp)) ⟨.bl true, H, I, rfl, by simpa using q⟩
  | cons r rr => exact SeqAt.eq_list_lengthsAt p1.isList p2.isList (by simp) hu ⟨.bl false, H, I, rfl, by simpa using q⟩

inductive P_call_isinst (K : PySem.W.Frag) (xs : List V) (H : Hp) (Q : VK) : Prop
  | mk (x : _) (T : _) (t : _) (b : _) (h1 : xs = [x, .ty T]) (h2 : TyOf K H x t) (h3 : PySem.W.kitOne K t (.type T) = some b) (h4 : Q (.bl b) H) : P_call_isinst K xs H Q
theorem call_isinst : CallR X (.builtin "isinstance") (P_call_isinst X.K) := by
  intro pins s σ H xs us Q I r h
  obtain ⟨x, T, t, b, rfl, ty, e, q⟩ := h
  obtain ⟨u, v, rfl, ru, rv⟩ := r.two
  cases rv
  exact isinst_ok I ru ty e fun tk => ⟨.bl b, H, I.tok tk, rfl, q⟩

inductive P_call_allB (K : PySem.W.Frag) (xs : List V) (H : Hp) (Q : VK) : Prop
  | mk (p : Addr) (bs : List Bool) (h1 : xs = [.ref p]) (h2 : SqL K H p (bs.map V.bl)) (h3 : Q (.bl (bs.all id)) H) : P_call_allB K xs H Q
theorem call_allB (hc : X.calm = true) : CallR X (.builtin "all") (P_call_allB X.K) := by
  intro pins s σ H xs us Q I r h
  obtain ⟨p, bs, rfl, hp, q⟩ := h
  obtain ⟨u, rfl, ru⟩ := r.one
  cases ru
  obtain ⟨its, rv, pl, hz⟩ := I.list hp
  have lts : p < s.heap.objs.size := by
    obtain ⟨o, n, e, _⟩ := pl
    exact Heap.lt_size e
  refine call_all_walk (wpAny_pyIter_list pl.isList ?_)
  refine ⟨_, _, _, _, _, _, fun i => bs.getD i true, rfl, Walks.list (A := X.A.in1) (I.ok.hd hc) s.heap.objs.size p (Nat.ne_of_lt lts) its.toArray, ⟨⟨_, Heap.get?_push_size _ rfl, rfl, rfl⟩, ?_⟩, ?_, fun h' tk hk => ?_⟩
  · obtain ⟨o, n, e, c, d, e2⟩ := pl
    exact ⟨o, Heap.get?_push_of_some _ e, c, n, e2⟩
  · intro i v s' Q' E' hP hQ
    have hi : its[i]? = some v := by simpa using hP
    have hl := rv.length
    cases e : bs[i]? with
    | none =>
      have h1 : its.length ≤ i := by
        have := List.getElem?_eq_none_iff.mp e
        rw [← hl, List.length_map]; exact this
      rw [List.getElem?_eq_none_iff.mpr h1] at hi; cases hi
    | some b =>
      have e' : (bs.map V.bl)[i]? = some (.bl b) := by rw [List.getElem?_map, e]; rfl
      obtain ⟨u, hu, ru⟩ := rv.get e'
      rw [hi] at hu; cases hu
      cases ru
      have eg : bs.getD i true = b := by simp [List.getD, e]
      have hQ2 : Q' (bs.getD i true) s' := hQ
      rw [eg] at hQ2
      exact wpAny_truthy_bool hQ2
  · have hl : its.toArray.size = bs.length := by
      have := rv.length
      rw [List.length_map] at this
      simp [this]
    have e : (List.range its.toArray.size).all (fun i => bs.getD i true) = bs.all id := by
      rw [hl]
      clear q hl rv hp hk
      rw [Bool.eq_iff_iff, List.all_eq_true, List.all_eq_true]
      constructor
      · intro h b hb
        obtain ⟨i, hi, rfl⟩ := List.mem_iff_getElem.mp hb
        have := h i (by simpa using hi)
        simpa [List.getD, hi] using this
      · intro h i hi
        have hi' : i < bs.length := by simpa using hi
        have := h bs[i] (List.getElem_mem hi')
        simpa [List.getD, hi'] using this
    refine ⟨.bl (bs.all id), H, ?_, congrArg Value.bool e, q⟩
    · exact I.kept (t' := tk) fun b o e => hk b o (by
        intro z
        have : b = s.heap.objs.size := by simpa using z
        exact absurd (Heap.lt_size e) (by rw [this]; exact Nat.lt_irrefl _)) (Heap.get?_push_of_some _ e)

def IsMax (ns : List Int) (m : Int) : Prop := m ∈ ns ∧ ∀ a ∈ ns, a ≤ m
theorem mx_turns {P : Program} {w : World} {A : Around} {R : Result → Shared → Prop} {it l B : Addr} {vals : List Value} {ns : List Int} {kw : List (Str × Value)} (hh : A.handled = none) (hi : IntsAre vals ns) (h1 : l ≠ it) (h2 : B ≠ it) (h3 : B ≠ l) :
    ∀ (k j : Nat) (s : Shared) (m : Int) (t : Tok) (c : Nat), ns.length - j = k → j ≤ ns.length → s.heap.IsListIter it l j → s.heap.IsList l vals.toArray → IsMax (ns.take j) m →
      s.heap.get? B = some { cls := .type "list", dict := none, data := .seq #[.int m t, .int m t] c, slots := #[] } →
      (∀ (m' : Int) (t' : Tok) h' tk, IsMax ns m' → (∀ b o, b ≠ it → b ≠ B → s.heap.get? b = some o → h'.get? b = some o) → R (.ok (.ret (.int m' t'))) { s with heap := h', toks := tk }) →
      codeAny (model P w) A (.builtin "max.loop" ⟨[.ref it, .none, .ref B], kw⟩) R s := by
  have nm : (toString "max" ++ toString ".loop" : String) = "max.loop" := by decide
  have hlen := hi.length
  intro k
  induction k with
  | zero =>
    intro j s m t c hk hj st sl im hB done
    have ej : j = ns.length := by (first | lia | omega)
    subst ej
    refine codeAny_builtin F.entry_max_loop ?_
    rw [Around.under_plainId F.plain_max_loop _]
    show wpAny (model P w) A.in1 (seqItems? (.ref B) >>= _) _ _ s
    refine wpAny_bind (wpAny_seqItems hB rfl ?_)
    show wpAny (model P w) A.in1 (tryCatch (pyNext (.ref it)) _ >>= _) _ _ s
    refine wpAny_bind (wpAny_tryCatch (wpAny_pyNext_list_end hh st sl (by simp; (first | lia | omega)) fun h' ek => ?_))
    have hB' := ek B _ h2 hB
    show wpAny (model P w) A.in1 (updateSeq B (fun _ => #[]) >>= _) _ _ _
    refine wpAny_bind (wpAny_updateSeq hB' rfl (wpAny_bind (wpAny_letGo (wpAny_pure ?_))))
    rw [List.take_length] at im
    exact done m t _ s.toks im fun b o n1 n2 e => (Heap.get?_update_other _ _ (Ne.symm n2)).trans (ek b o n1 e)
  | succ k ih =>
    intro j s m t c hk hj st sl im hB done
    have lt : j < ns.length := by (first | lia | omega)
    obtain ⟨t2, e2⟩ : ∃ t2, vals[j]? = some (.int ns[j] t2) := by
      have e1 : (ns.map V.int)[j]? = some (.int ns[j]) := by rw [List.getElem?_map]; simp [lt]
      obtain ⟨u, hu, t2, rfl⟩ := (vals_ints hi).get e1
      exact ⟨t2, hu⟩
    refine codeAny_builtin F.entry_max_loop ?_
    rw [Around.under_plainId F.plain_max_loop _]
    show wpAny (model P w) A.in1 (seqItems? (.ref B) >>= _) _ _ s
    refine wpAny_bind (wpAny_seqItems hB rfl ?_)
    show wpAny (model P w) A.in1 (tryCatch (pyNext (.ref it)) _ >>= _) _ _ s
    refine wpAny_bind (wpAny_tryCatch (wpAny_pyNext_list_item st sl (x := .int ns[j] t2) (by simpa using e2) fun h' st' sb => ?_))
    have keep : ∀ b o, b ≠ it → s.heap.get? b = some o → h'.get? b = some o := fun b o n e => (sb.2 b n).trans e
    have hB' := keep B _ h2 hB
    have sl' : h'.IsList l vals.toArray := sl.at fun o e => keep l o h1 e
    show wpAny (model P w) A.in1 (tryCatch (holding [Value.int ns[j] t2, Value.int ns[j] t2] (richCompare .Gt (Value.int ns[j] t2) (Value.int m t) >>= _)) _ >>= _) _ _ _
    refine wpAny_bind (wpAny_tryCatch (wpAny_holding (wpAny_bind (gt_int (show _ from ?_)))))
    refine wpAny_bind (wpAny_holding (wpAny_truthy_bool ?_))
    refine wpAny_bind (wpAny_letGo (wpAny_pure ?_))
    have tk1 : ns.take (j + 1) = ns.take j ++ [ns[j]] := by rw [List.take_add_one]; simp [lt]
    by_cases hb : m < ns[j]
    · rw [decide_eq_true hb]
      simp only [if_true]
      refine wpAny_bind (wpAny_updateSeq hB' rfl (wpAny_bind (wpAny_letGo ?_)))
      rw [nm]
      refine wpAny_pure ⟨plainId_quiet F.plain_max_loop _, ih (j + 1) _ ns[j] t2 _ (by (first | lia | omega)) lt ?_ ?_ ?_ (Heap.get?_update_self _ hB' rfl) fun m' t' h'' tk im' kk => ?_⟩
      · exact st'.at fun o e => (Heap.get?_update_other _ _ h2).trans e
      · exact sl'.at fun o e => (Heap.get?_update_other _ _ h3).trans e
      · rw [tk1]
        exact ⟨List.mem_append_right _ (List.mem_singleton.mpr rfl), fun a ha => by
          rcases List.mem_append.mp ha with q | q
          · have := im.2 a q; (first | lia | omega)
          · have : a = ns[j] := by simpa using q
            (first | lia | omega)⟩
      · exact done m' t' h'' tk im' fun b o n1 n2 e => kk b o n1 n2 ((Heap.get?_update_other _ _ (Ne.symm n2)).trans (keep b o n1 e))
    · rw [decide_eq_false hb]
      simp only [Bool.false_eq_true, if_false]
      refine wpAny_bind (wpAny_letGo ?_)
      rw [nm]
      refine wpAny_pure ⟨plainId_quiet F.plain_max_loop _, ih (j + 1) _ m t c (by (first | lia | omega)) lt st' sl' ?_ hB' fun m' t' h'' tk im' kk => ?_⟩
      · rw [tk1]
        exact ⟨List.mem_append_left _ im.1, fun a ha => by
          rcases List.mem_append.mp ha with q | q
          · exact im.2 a q
          · have : a = ns[j] := by simpa using q
            (first | lia | omega)⟩
      · exact done m' t' h'' tk im' fun b o n1 n2 e => kk b o n1 n2 (keep b o n1 e)
theorem mx_first {P : Program} {w : World} {A : Around} {R : Result → Shared → Prop} {it l B : Addr} {vals : List Value} {ns : List Int} {d : Value} {s : Shared} {c : Nat} (hh : A.handled = none) (hi : IntsAre vals ns) (h1 : l ≠ it) (h2 : B ≠ it) (h3 : B ≠ l)
    (st : s.heap.IsListIter it l 0) (sl : s.heap.IsList l vals.toArray) (hB : s.heap.get? B = some { cls := .type "list", dict := none, data := .seq #[] c, slots := #[] })
    (nil : ns = [] → ∀ h', (∀ b o, b ≠ it → b ≠ B → s.heap.get? b = some o → h'.get? b = some o) → R (.ok (.ret d)) { s with heap := h' })
    (done : ns ≠ [] → ∀ (m' : Int) (t' : Tok) h' tk, IsMax ns m' → (∀ b o, b ≠ it → b ≠ B → s.heap.get? b = some o → h'.get? b = some o) → R (.ok (.ret (.int m' t'))) { s with heap := h', toks := tk }) :
    codeAny (model P w) A (.builtin "max.loop" ⟨[.ref it, .none, .ref B], [("default", d)]⟩) R s := by
  have nm : (toString "max" ++ toString ".loop" : String) = "max.loop" := by decide
  have hlen := hi.length
  refine codeAny_builtin F.entry_max_loop ?_
  rw [Around.under_plainId F.plain_max_loop _]
  show wpAny (model P w) A.in1 (seqItems? (.ref B) >>= _) _ _ s
  refine wpAny_bind (wpAny_seqItems hB rfl ?_)
  show wpAny (model P w) A.in1 (tryCatch (pyNext (.ref it)) _ >>= _) _ _ s
  cases ns with
  | nil =>
    refine wpAny_bind (wpAny_tryCatch (wpAny_pyNext_list_end hh st sl (by simpa using hlen) fun h' ek => ?_))
    refine wpAny_bind (wpAny_rule (wpAny_pure ?_))
    exact nil rfl h' fun b o n1 n2 e => ek b o n1 e
  | cons n0 rest =>
    obtain ⟨t2, e2⟩ : ∃ t2, vals[0]? = some (.int n0 t2) := by
      have e1 : ((n0 :: rest).map V.int)[0]? = some (.int n0) := rfl
      obtain ⟨u, hu, t2, rfl⟩ := (vals_ints hi).get e1
      exact ⟨t2, hu⟩
    refine wpAny_bind (wpAny_tryCatch (wpAny_pyNext_list_item st sl (x := .int n0 t2) (by simpa using e2) fun h' st' sb => ?_))
    have keep : ∀ b o, b ≠ it → s.heap.get? b = some o → h'.get? b = some o := fun b o n e => (sb.2 b n).trans e
    have hB' := keep B _ h2 hB
    show wpAny (model P w) A.in1 (updateSeq B (fun _ => #[Value.int n0 t2, Value.int n0 t2]) >>= _) _ _ _
    refine wpAny_bind (wpAny_updateSeq hB' rfl ?_)
    rw [nm]
    refine wpAny_pure ⟨plainId_quiet F.plain_max_loop _, mx_turns hh hi h1 h2 h3 _ 1 _ n0 t2 _ rfl (by simp) ?_ ?_ ?_ (Heap.get?_update_self _ hB' rfl) fun m' t' h'' tk im' kk => ?_⟩
    · exact st'.at fun o e => (Heap.get?_update_other _ _ h2).trans e
    · exact (sl.at fun o e => keep l o h1 e).at fun o e => (Heap.get?_update_other _ _ h3).trans e
    · exact ⟨by simp, fun a ha => by
        have : a = n0 := by simpa using ha
        (first | lia | omega)⟩
    · exact done (by simp) m' t' h'' tk im' fun b o n1 n2 e => kk b o n1 n2 ((Heap.get?_update_other _ _ (Ne.symm n2)).trans (keep b o n1 e))
theorem args_maxd (a v : Value) : argsOk "max" ⟨[a], [(Str.ofString "default", v)]⟩ := by unfold argsOk; kernel_rfl
theorem call_maxD {P : Program} {w : World} {A : Around} {E Q : Value → Shared → Prop} {l : Addr} {vals : List Value} {ns : List Int} {d : Value} {s : Shared} (hh : A.handled = none) (hi : IntsAre vals ns) (sl : s.heap.IsList l vals.toArray)
    (nil : ns = [] → ∀ h', (∀ b o, s.heap.get? b = some o → h'.get? b = some o) → Q d { s with heap := h' })
    (done : ns ≠ [] → ∀ (m' : Int) (t' : Tok) h' tk, IsMax ns m' → (∀ b o, s.heap.get? b = some o → h'.get? b = some o) → Q (.int m' t') { s with heap := h', toks := tk }) :
    wpAny (model P w) A (call (.builtin "max") [.ref l] [(Str.ofString "default", d)]) Q E s := by
  have nm : (toString "max" ++ toString ".loop" : String) = "max.loop" := by decide
  have ll : l < s.heap.objs.size := by
    obtain ⟨o, e, _⟩ := sl
    exact Heap.lt_size e
  refine kmk_tree F.kind_max F.plain_max F.entry_max (args_maxd _ _) ?_
  show wpAny (model P w) A.in1 (Builtin.Builtins.bindParams "max" ["key", "default"] 0 ⟨[], [(Str.ofString "default", d)]⟩ >>= _) _ _ s
  refine wpAny_bind (wpAny_of_eq (show Builtin.Builtins.bindParams "max" ["key", "default"] 0 ⟨[], [(Str.ofString "default", d)]⟩ = pure [none, some d] from rfl) ?_)
  refine wpAny_bind (wpAny_pure ?_)
  refine wpAny_bind (wpAny_pyIter_list sl ?_)
  refine wpAny_bind (wpAny_newObj_type ?_)
  rw [nm]
  have grow : ∀ b o, s.heap.get? b = some o → ((s.heap.push { cls := .type "list_iterator", data := .fields #[.ref l, .int 0 0] }).push { cls := .type "list", dict := none, data := .seq ([] : List Value).toArray }).get? b = some o := fun b o e =>
    Heap.get?_push_of_some _ (Heap.get?_push_of_some _ e)
  have z : (s.heap.push { cls := .type "list_iterator", data := .fields #[.ref l, .int 0 0] }).objs.size = s.heap.objs.size + 1 := Heap.size_push ..
  refine wpAny_pure ⟨plainId_quiet F.plain_max_loop _, mx_first (l := l) (B := (s.heap.push { cls := .type "list_iterator", data := .fields #[.ref l, .int 0 0] }).objs.size) hh hi (Nat.ne_of_lt ll) (by rw [z]; exact Nat.succ_ne_self _) (by rw [z]; exact Nat.ne_of_gt (Nat.lt_succ_of_lt ll)) ?_ (sl.at fun o e => grow l o e) (Heap.get?_push_size _ rfl) (fun e h' kk => ?_) fun e m' t' h' tk im kk => ?_⟩
  · exact ⟨_, Heap.get?_push_of_some _ (Heap.get?_push_size _ rfl), rfl, rfl⟩
  · exact nil e h' fun b o q => kk b o (Nat.ne_of_lt (Heap.lt_size q)) (by rw [z]; exact Nat.ne_of_lt (Nat.lt_succ_of_lt (Heap.lt_size q))) (grow b o q)
  · exact done e m' t' h' tk im fun b o q => kk b o (Nat.ne_of_lt (Heap.lt_size q)) (by rw [z]; exact Nat.ne_of_lt (Nat.lt_succ_of_lt (Heap.lt_size q))) (grow b o q)
def tMaxD (K : PySem.W.Frag) (te td : TE) : TE := fun σ H Q => te σ H fun x H1 => td σ H1 fun d H2 => ∃ (l : Addr) (ns : List Int), x = .ref l ∧ SqL K H2 l (ns.map V.int) ∧ (ns = [] → Q d H2) ∧ ∀ m, IsMax ns m → Q (.int m) H2
theorem pe_maxD {e d : Expr} {te td : TE} {p pos kp : Pos} (hc : X.calm = true) (hg : Gl X "max") (hm : X.mg "max" = none) (he : PE X e te) (hd : PE X d td)
    (hst : starEach [e] X.env = [(false, eval e X.env)] := by rfl) : PE X (.Call (.Name "max" p) [e] [⟨some "default", d, kp⟩] pos) (tMaxD X.K te td) := by
  intro pins s σ H Q I h
  refine wpAny_Call_Name_kw (ld_blt I hg hm PyProof.Rows.boot_max ?_)
  rw [hst]
  refine PyProof.Rows.callWith_builtin_kwB rfl rfl (PyProof.Rows.evalArgs_kwB rfl ?_)
  refine Calls.spliced_cons (thn (he pins s σ H _ I h) fun u s1 ⟨x, H1, I1, r1, q1⟩ => Calls.spliced_nil ?_)
  refine PyProof.Rows.kws_cons (thn (hd pins s1 σ H1 _ I1 q1) fun dv s2 ⟨dx, H2, I2, r2, q2⟩ => PyProof.Rows.kws_nil ?_)
  obtain ⟨l, ns, rfl, hl, qn, qm⟩ := q2
  cases r1
  obtain ⟨its, rv, pl, hz⟩ := I2.list hl
  exact call_maxD (I2.ok.hd hc) (intsAre_of rv) pl.isList (fun e h' kk => ⟨dx, H2, I2.kept (t' := s2.toks) kk, r2, qn e⟩) fun e m' t' h' tk im kk => ⟨.int m', H2, I2.kept (t' := tk) kk, ⟨_, rfl⟩, qm m' im⟩
end
end L2

namespace L2
open PySem PySem.Spec PyProof.Rows

structure Callee (P : Program) (w : World) (K : PySem.W.Frag) (mg : Str → Option Value) (base : Heap) (x : Str) (k : Nat) (ps : List Str) (sp : Sp) : Prop where
  ex : ∃ (f : Addr) (fd : FuncData), FnOk P w K mg base CX0 k f fd ps sp ∧ Binds K fd ps [] ∧ PySem.W.keepIn K (.ref f) = true ∧ mg x = some (.ref f)
theorem Callee.mono {P : Program} {w : World} {K : PySem.W.Frag} {mg : Str → Option Value} {base : Heap} {x : Str} {k j : Nat} {ps : List Str} {sp : Sp} (C : Callee P w K mg base x k ps sp) (h : k ≤ j) : Callee P w K mg base x j ps sp :=
  let ⟨f, fd, a, b, c, d⟩ := C.ex
  ⟨f, fd, a.mono h, b, c, d⟩
theorem pe_callC {X : Cx} {x : Str} {k : Nat} {ps : List Str} {sp : Sp} {e : Expr} {es : List Expr} {t : TA} {p pos : Pos} (C : Callee X.prog X.w X.K X.mg X.base x k ps sp) (hr : Room k X.A) (hg : Gl X x) (ha : PA X (e :: es) t)
    (hdb : (x == ("__debug__" : Str)) = false := by decide) (he : starEach (e :: es) X.env = (false, eval e X.env) :: starEach es X.env := by rfl) (hpl : (backTo pos (starEach es X.env)).any (·.1) = false := by rfl) :
    PE X (.Call (.Name x p) (e :: es) [] pos) (tCall sp [] E0 t) := by
  obtain ⟨f, fd, F, hb, hk, hm⟩ := C.ex
  exact pe_call F hr hg hm hk hb .nil pass0 ha hdb he hpl
structure Here (K : PySem.W.Frag) (mg : Str → Option Value) (x : Str) (st : Stmt) (f : Addr) (fd : FuncData) : Prop where
  fn : Fun K x x st f fd
  at_ : mg x = some (.ref f)
theorem Here.callee {P : Program} {w : World} {K : PySem.W.Frag} {mg : Str → Option Value} {base : Heap} {x : Str} {st : Stmt} {f : Addr} {fd : FuncData} {k : Nat} {ps : List Str} {sp : Sp} (h : Here K mg x st f fd) (F : FnOk P w K mg base CX0 k f fd ps sp)
    (hb : ∀ (kV doc pm : Value) (an : Option Addr) (cdv ct : Value) (us : List Value), us.length = ps.length → bindArgs (PySem.W.fnOf x x (defArgs st) (defBody st) (defScope st) .none kV doc pm an cdv ct) ⟨us, []⟩ = pure (ps.zip us)) : Callee P w K mg base x k ps sp :=
  ⟨f, fd, F, h.fn.binds hb, h.fn.kp, h.at_⟩

theorem boot_intT : bootBuiltins "int" = some (.type "int") := by decide +kernel
theorem boot_listT : bootBuiltins "list" = some (.type "list") := by decide +kernel
theorem boot_tupleT : bootBuiltins "tuple" = some (.type "tuple") := by decide +kernel
theorem boot_isinstance : bootBuiltins "isinstance" = some (.builtin "isinstance") := by decide +kernel
theorem boot_all : bootBuiltins "all" = some (.builtin "all") := by decide +kernel

inductive P_call_maxL (K : PySem.W.Frag) (xs : List V) (H : Hp) (Q : VK) : Prop
  | mk (p : Addr) (ns : List Int) (h1 : xs = [.ref p]) (h2 : SqL K H p (ns.map V.int)) (h3 : ns ≠ []) (h4 : ∀ m, IsMax ns m → Q (.int m) H) : P_call_maxL K xs H Q
theorem call_maxL {X : Cx} (hc : X.calm = true) : CallR X (.builtin "max") (P_call_maxL X.K) := by
  intro pins s σ H xs us Q I r h
  obtain ⟨p, ns, rfl, hp, ne, q⟩ := h
  obtain ⟨u, rfl, ru⟩ := r.one
  cases ru
  obtain ⟨its, rv, pl, hz⟩ := I.list hp
  have hi : IntsAre its ns := intsAre_of rv
  have pos : 0 < ns.length := List.length_pos_iff.mpr ne
  have hlI := pl.isList
  obtain ⟨ys, ey⟩ := hi.allInts.items
  have en : ns = ys.toList.map (·.1) := by rw [← hi.numsOf, ← nums_intItems, ← ey]
  have el : ns.length = ys.size := by rw [en]; simp
  rw [ey] at hlI
  refine max_intList (I.ok.hd hc) hlI (by (first | lia | omega)) fun v h' tk hv hk => ?_
  obtain ⟨t, rfl⟩ := intItems_at hv
  obtain ⟨b1, b2⟩ := argBest_gt (numAt ys) (ys.size - 1)
  refine ⟨.int _, H, I.kept (t' := tk) hk, ⟨t, rfl⟩, q _ ⟨?_, fun a ha => ?_⟩⟩
  · rw [en, numAt_eq]
    exact getD_mem (by rw [List.length_map]; rw [Array.length_toList]; (first | lia | omega))
  · rw [en] at ha
    obtain ⟨j, hj, rfl⟩ := mem_getD ha
    rw [← numAt_eq]
    exact b2 j (by simp at hj; (first | lia | omega))

section
variable {X : Cx} (K : PySem.W.Frag) (hK : X.K = K)
include hK
theorem ix_listK : IxR X (rIxL K) := by subst hK; exact ix_list
theorem ix_tupK : IxR X (rIxT K) := by subst hK; exact ix_tup
theorem op_notIn_seqK : OpR X (compareOp .NotIn) (rIn K true) := by subst hK; exact op_notIn_seq
theorem call_isinstK : CallR X (.builtin "isinstance") (P_call_isinst K) := by subst hK; exact call_isinst
theorem pg_tupK {es : List Expr} {k : Nat} {t : TGs} {n : Nat} {pos : Pos} (hc : X.calm = true) (h : PGs X es t)
    (hn : (assignEach es X.env).length = n := by rfl) (hst : (assignEach es X.env).findIdx? (·.1) = none := by rfl) : PG X (.Tuple es k pos) (gTup K n t) := by subst hK; exact pg_tup hc h hn hst
end

theorem same_new {H : Hp} {p : Addr} (h : H p = none) (o : HO) : Same H (upd H p o) := fun b u q => by rw [upd_ne (ne_of_none q h)]; exact q
def Kp (m : Addr) (H H' : Hp) : Prop := ∀ b o, H b = some o → b ≠ m → H' b = some o
theorem Kp.refl (m : Addr) (H : Hp) : Kp m H H := fun _ _ h _ => h
theorem Kp.trans {m : Addr} {H H1 H2 : Hp} (a : Kp m H H1) (b : Kp m H1 H2) : Kp m H H2 := fun c o h n => b c o (a c o h n) n
theorem Kp.same {m : Addr} {H H' : Hp} (h : Same H H') : Kp m H H' := fun b o e _ => h b o e
theorem Kp.upd {m : Addr} {H : Hp} {o : HO} : Kp m H (upd H m o) := fun b u e n => by rw [upd_ne n]; exact e
theorem Kp.tup {m : Addr} {H H' : Hp} {xs ys : List V} (k : Kp m H H') (hm : H m = some (.lst xs)) {b : Addr} (h : H b = some (.tup ys)) : H' b = some (.tup ys) :=
  k b _ h (ne_of h hm (by intro z; cases z))
def Pen (H : Hp) (p : Addr) : Prop := ∃ a b c : Int, H p = some (.lst [.int a, .int b, .int c])
def Refs (H : Hp) : List V → List (Int × Int) → Prop := Paired fun r w => ∃ t, r = .ref t ∧ H t = some (.tup [.int w.1, .int w.2])
theorem Refs.mono {H H' : Hp} (k : ∀ b xs, H b = some (.tup xs) → H' b = some (.tup xs)) : ∀ {rs : List V} {ws : List (Int × Int)}, Refs H rs ws → Refs H' rs ws
  | _, _, .nil => .nil
  | _, _, .cons ⟨t, e, h⟩ r => .cons ⟨t, e, k t _ h⟩ (Refs.mono k r)
theorem Refs.same {H H' : Hp} (k : Same H H') {rs : List V} {ws : List (Int × Int)} (h : Refs H rs ws) : Refs H' rs ws := h.mono fun b xs e => k b _ e
theorem Refs.kp {m : Addr} {H H' : Hp} {xs : List V} (k : Kp m H H') (hm : H m = some (.lst xs)) {rs : List V} {ws : List (Int × Int)} (h : Refs H rs ws) : Refs H' rs ws := h.mono fun b xs e => k.tup hm e
theorem Refs.len {H : Hp} {rs : List V} {ws : List (Int × Int)} (h : Refs H rs ws) : rs.length = ws.length := Paired.length h
theorem Refs.app {H : Hp} : ∀ {rs qs : List V} {ws us : List (Int × Int)}, Refs H rs ws → Refs H qs us → Refs H (rs ++ qs) (ws ++ us)
  | _, _, _, _, .nil, s => s
  | _, _, _, _, .cons r t, s => .cons r (Refs.app t s)
theorem Refs.get {H : Hp} : ∀ {rs : List V} {ws : List (Int × Int)} {i : Nat} {r : V}, Refs H rs ws → rs[i]? = some r → ∃ w t, ws[i]? = some w ∧ r = .ref t ∧ H t = some (.tup [.int w.1, .int w.2])
  | _, _, _, _, .nil, e => by simp at e
  | _, _, 0, _, .cons ⟨t, e1, h⟩ _, e => by simp at e; subst e; exact ⟨_, t, rfl, e1, h⟩
  | _, _, i + 1, r, .cons _ q, e => by
    obtain ⟨w, t, a, b⟩ := Refs.get (i := i) (r := r) q (by simpa using e)
    exact ⟨w, t, by simpa using a, b⟩
theorem Refs.take {H : Hp} : ∀ {rs : List V} {ws : List (Int × Int)} (n : Nat), Refs H rs ws → Refs H (rs.take n) (ws.take n)
  | _, _, 0, _ => .nil
  | _, _, _ + 1, .nil => .nil
  | _, _, n + 1, .cons r t => .cons r (Refs.take n t)
theorem Refs.drop {H : Hp} : ∀ {rs : List V} {ws : List (Int × Int)} (n : Nat), Refs H rs ws → Refs H (rs.drop n) (ws.drop n)
  | _, _, 0, r => r
  | _, _, _ + 1, .nil => .nil
  | _, _, n + 1, .cons _ t => Refs.drop n t
theorem Refs.rep {H : Hp} {rs : List V} {ws : List (Int × Int)} (h : Refs H rs ws) : ∀ k : Nat, Refs H (List.replicate k rs).flatten (List.replicate k ws).flatten
  | 0 => .nil
  | k + 1 => by
    rw [List.replicate_succ, List.replicate_succ, List.flatten_cons, List.flatten_cons]
    exact h.app (Refs.rep h k)
def WsL (H : Hp) (l : Addr) (ws : List (Int × Int)) : Prop := ∃ rs, H l = some (.lst rs) ∧ Refs H rs ws
theorem WsL.same {H H' : Hp} (k : Same H H') {l : Addr} {ws : List (Int × Int)} (h : WsL H l ws) : WsL H' l ws := let ⟨rs, a, b⟩ := h; ⟨rs, k l _ a, b.same k⟩
theorem WsL.kp {m : Addr} {H H' : Hp} {xs : List V} (k : Kp m H H') (hm : H m = some (.lst xs)) {l : Addr} (n : l ≠ m) {ws : List (Int × Int)} (h : WsL H l ws) : WsL H' l ws := let ⟨rs, a, b⟩ := h; ⟨rs, k l _ a n, b.kp k hm⟩
def WOk (wide : Int) (ws : List (Int × Int)) : Prop := ∀ w ∈ ws, 0 ≤ w.1 ∧ w.1 < wide ∧ 0 ≤ w.2 ∧ w.2 < wide ∧ w.1 ≠ w.2
theorem WOk.nil {wide : Int} : WOk wide [] := fun _ h => nomatch h
theorem WOk.app {wide : Int} {a b : List (Int × Int)} (x : WOk wide a) (y : WOk wide b) : WOk wide (a ++ b) := fun w h => (List.mem_append.mp h).elim (x w) (y w)
theorem WOk.one {wide a b : Int} (h : 0 ≤ a ∧ a < wide ∧ 0 ≤ b ∧ b < wide ∧ a ≠ b) : WOk wide [(a, b)] := fun w hw => by
  have : w = (a, b) := by simpa using hw
  subst this
  exact h
theorem WOk.rep {wide : Int} {a : List (Int × Int)} (x : WOk wide a) (k : Nat) : WOk wide (List.replicate k a).flatten := fun w h => by
  obtain ⟨l, h1, h2⟩ := List.mem_flatten.mp h
  rw [(List.mem_replicate.mp h1).2] at h2
  exact x w h2
def Net (H : Hp) (v : V) (wide : Int) (ws : List (Int × Int)) : Prop := ∃ n t rs, v = .ref n ∧ H n = some (.tup [.int wide, .ref t]) ∧ H t = some (.tup rs) ∧ Refs H rs ws
theorem Net.mono {H H' : Hp} (k : ∀ b xs, H b = some (.tup xs) → H' b = some (.tup xs)) {v : V} {wide : Int} {ws : List (Int × Int)} (h : Net H v wide ws) : Net H' v wide ws :=
  let ⟨n, t, rs, a, b, c, d⟩ := h
  ⟨n, t, rs, a, k _ _ b, k _ _ c, d.mono k⟩
theorem lenLine {n : Nat} (h : n ≤ 100000) : n ≤ sizeLine := Nat.le_trans h (by rw [sizeLine_eq]; decide)
theorem lenLt {n : Nat} (h : n < 100000) : n < sizeLine := Nat.lt_of_lt_of_le h (by rw [sizeLine_eq]; decide)
theorem not_dec {c : Prop} [Decidable c] (h : ¬ decide c = true) : ¬ c := fun z => h (decide_eq_true z)
end L2

namespace Ep
open PySem L2
structure Bn (mg : Str → Option Value) : Prop where
  n_len : mg "len" = none
  n_max : mg "max" = none
  n_min : mg "min" = none
  n_int : mg "int" = none
  n_bool : mg "bool" = none
  n_list : mg "list" = none
  n_tuple : mg "tuple" = none
  n_str : mg "str" = none
  n_dict : mg "dict" = none
  n_range : mg "range" = none
  n_isinstance : mg "isinstance" = none
  n_all : mg "all" = none
  n_any : mg "any" = none
  n_enumerate : mg "enumerate" = none
  n_sum : mg "sum" = none
  n_abs : mg "abs" = none
  n_sorted : mg "sorted" = none
  n_reversed : mg "reversed" = none
  n_zip : mg "zip" = none
  n_ord : mg "ord" = none
  n_repr : mg "repr" = none
  n_set : mg "set" = none
  n_divmod : mg "divmod" = none
  n_ValueError : mg "ValueError" = none
  n_KeyError : mg "KeyError" = none
def CDivB (i j : Int) : Prop := 0 < j ∧ j < 2 ^ 250
theorem op_fdivB {X : Cx} : OpR X (binaryOp .FloorDiv) (rI CDivB fun i j => .int (i / j)) := opI fun i j _ _ _ _ _ hc q => by
  have h1 : (0 : Int) < j := hc.1
  have h2 : j.natAbs < 2 ^ 250 := by have := hc.2; (first | lia | omega)
  refine PyProof.Rows.floordiv_int (by (first | lia | omega)) (by rw [Int.fdiv_eq_ediv_of_nonneg i (by (first | lia | omega))]; exact q) (.inl (PyProof.noPylong_of_log2 ?_))
  have h3 : j.natAbs.log2 < 250 := (Nat.log2_lt (by (first | lia | omega))).mpr h2
  (first | lia | omega)
theorem _root_.L2.Kp.put {m l : Addr} {H H1 : Hp} {o : HO} (hl : H l = none) (k : Kp m H H1) : Kp m H (upd H1 l o) := fun b u e n => by rw [upd_ne (ne_of_none e hl)]; exact k b u e n
theorem _root_.L2.Same.put {l : Addr} {H H1 : Hp} {o : HO} (hl : H l = none) (k : Same H H1) : Same H (upd H1 l o) := fun b u e => by rw [upd_ne (ne_of_none e hl)]; exact k b u e
theorem atI_int {ns : List Int} {i : Int} (h0 : 0 ≤ i) (h1 : i < ns.length) : atI (ns.map V.int) i = some (.int (ns.getD i.toNat 0)) := by
  obtain ⟨j, rfl⟩ : ∃ j : Nat, i = (j : Int) := ⟨i.toNat, by (first | lia | omega)⟩
  have h2 : j < ns.length := by (first | lia | omega)
  refine atI_nat ?_
  rw [List.getElem?_map, Int.toNat_natCast]
  simp [List.getD, h2]
theorem iteFd {c A B : Prop} [Decidable c] (h : ¬ c) (b : B) : if c then A else B := by rw [if_neg h]; exact b
theorem iteTd {c A B : Prop} [Decidable c] (h : c) (a : A) : if c then A else B := by rw [if_pos h]; exact a
theorem veq {a b : Int} (g : decide (V.int a = V.int b) = true) : a = b := V.int.inj (of_decide_eq_true g)
theorem vne {a b : Int} (g : ¬ decide (V.int a = V.int b) = true) : a ≠ b := fun z => g (decide_eq_true (by rw [z]))
def CompW (H3 : Hp) (l : Addr) (good : Int × Int → Prop) (i : Nat) (ys : List V) (Hc : Hp) : Prop := Same H3 Hc ∧ Hc l = some (.lst ys) ∧ ∃ us, Refs Hc ys us ∧ (∀ w ∈ us, good w) ∧ us.length ≤ i
theorem CompW.start {H3 : Hp} {l : Addr} {good : Int × Int → Prop} (fl : H3 l = none) : CompW H3 l good 0 [] (upd H3 l (.lst [])) := ⟨Same.put fl (Same.refl H3), upd_same, [], .nil, (fun _ h => nomatch h), Nat.le_refl _⟩
theorem CompW.len {H3 : Hp} {l : Addr} {good : Int × Int → Prop} {i : Nat} {ys : List V} {Hc : Hp} (h : CompW H3 l good i ys Hc) : Hc l = some (.lst ys) ∧ ys.length ≤ i :=
  let ⟨_, b, us, r, _, le⟩ := h
  ⟨b, by rw [r.len]; exact le⟩
theorem CompW.skip {H3 : Hp} {l : Addr} {good : Int × Int → Prop} {i : Nat} {ys : List V} {Hc : Hp} (h : CompW H3 l good i ys Hc) : CompW H3 l good (i + 1) ys Hc :=
  let ⟨a, b, us, r, g, le⟩ := h
  ⟨a, b, us, r, g, Nat.le_succ_of_le le⟩
theorem CompW.more {H3 : Hp} {l u : Addr} {good : Int × Int → Prop} {i : Nat} {ys : List V} {Hc : Hp} {a b : Int} (fl : H3 l = none) (h : CompW H3 l good i ys Hc) (hu : Hc u = none) (g : good (a, b)) :
    (upd Hc u (.tup [.int a, .int b])) l = some (.lst ys) ∧ CompW H3 l good (i + 1) (ys ++ [.ref u]) (upd (upd Hc u (.tup [.int a, .int b])) l (.lst (ys ++ [.ref u]))) := by
  obtain ⟨s1, e1, us, r1, g1, le⟩ := h
  have nul : u ≠ l := fun z => by rw [z, e1] at hu; cases hu
  refine ⟨by rw [upd_ne (Ne.symm nul)]; exact e1, Same.put fl (Same.trans s1 (same_new hu _)), upd_same, us ++ [(a, b)], ?_, fun w hw => ?_, by simp; (first | lia | omega)⟩
  · have r2 : Refs (upd Hc u (HO.tup [V.int a, V.int b])) (ys ++ [V.ref u]) (us ++ [(a, b)]) := (r1.same (same_new hu _)).app (.cons ⟨u, rfl, upd_same⟩ .nil)
    refine r2.mono fun c xs e => ?_
    rw [upd_ne (fun z => ?_)]
    · exact e
    · subst z
      rw [upd_ne (Ne.symm nul), e1] at e
      cases e
  · rcases List.mem_append.mp hw with z | z
    · exact g1 w z
    · have e : w = (a, b) := by simpa using z
      subst e
      exact g
theorem fresh_step {p u : Addr} {H : Hp} {xs : List V} (hp : H p = some (.lst xs)) (fu : H u = none) (o : HO) : Kp p H (upd H u o) ∧ (upd H u o) p = some (.lst xs) ∧ (upd H u o) u = some o ∧ u ≠ p :=
  ⟨Kp.same (same_new fu o), (same_new fu o) _ _ hp, upd_same, Ne.symm (ne_of_none hp fu)⟩
theorem _root_.L2.Refs.cut {H : Hp} {rs : List V} {ws : List (Int × Int)} (h : Refs H rs ws) (lo hi : Option Int) : ∃ us, Refs H (cutV rs lo hi) us ∧ (∀ w ∈ us, w ∈ ws) ∧ us.length ≤ ws.length :=
  ⟨_, (h.drop _).take _, fun w hw => List.mem_of_mem_drop (List.mem_of_mem_take hw), by rw [List.length_take, List.length_drop]; (first | lia | omega)⟩
theorem _root_.L2.WOk.sub {wide : Int} {us ws : List (Int × Int)} (h : WOk wide ws) (s : ∀ w ∈ us, w ∈ ws) : WOk wide us := fun w hw => h w (s w hw)
theorem atI_ref {H : Hp} {rs : List V} {ws : List (Int × Int)} (h : Refs H rs ws) {i : Int} (h0 : 0 ≤ i) (h1 : i < rs.length) : ∃ t w, atI rs i = some (.ref t) ∧ w ∈ ws ∧ ws[i.toNat]? = some w ∧ H t = some (.tup [.int w.1, .int w.2]) := by
  obtain ⟨j, rfl⟩ : ∃ j : Nat, i = (j : Int) := ⟨i.toNat, by (first | lia | omega)⟩
  have hj : j < rs.length := by (first | lia | omega)
  have e : rs[j]? = some rs[j] := by simp [hj]
  obtain ⟨w, t, hw, et, ht⟩ := h.get e
  rw [et] at e
  exact ⟨t, w, atI_nat e, List.mem_of_getElem? hw, by simpa using hw, ht⟩
inductive SpPenP (K : PySem.W.Frag) (vs : List V) (H : Hp) (Q : VK) : Prop
  | mk (a : Addr) (ns : List Int) (k : Int) (h1 : vs = [.ref a, .int k]) (h2 : SqL K H a (ns.map V.int)) (h3 : ns.length ≤ 63) (h4 : 0 ≤ k) (h5 : k < 100) (h6 : ∀ (p : Addr) (a' b' c' : Int), H p = none → Q (.ref p) (upd H p (.lst [.int a', .int b', .int c']))) : SpPenP K vs H Q
def spPen (K : PySem.W.Frag) : Sp := fun vs H Q _ => SpPenP K vs H Q
inductive SpTakeP (vs : List V) (H : Hp) (Q : VK) : Prop
  | mk (p : Addr) (a b c n : Int) (h1 : vs = [.ref p, .int n]) (h2 : H p = some (.lst [.int a, .int b, .int c])) (h3 : 0 < n) (h4 : n < 2 ^ 250) (h5 : ∀ (v a' b' c' : Int), 0 ≤ v → v < n → Q (.int v) (upd H p (.lst [.int a', .int b', .int c']))) : SpTakeP vs H Q
def spTake : Sp := fun vs H Q _ => SpTakeP  vs H Q
inductive SpWicketsP (vs : List V) (H : Hp) (Q : VK) : Prop
  | mk (p : Addr) (wide many : Int) (h1 : vs = [.ref p, .int wide, .int many]) (h2 : Pen H p) (h3 : 1 ≤ wide) (h4 : wide ≤ 8) (h5 : 0 ≤ many) (h6 : many ≤ 41) (h7 : ∀ (l : Addr) (ws : List (Int × Int)) (H' : Hp), H l = none → Kp p H H' → Pen H' p → WsL H' l ws → WOk wide ws → (ws.length : Int) ≤ many → Q (.ref l) H') : SpWicketsP vs H Q
def spWickets : Sp := fun vs H Q _ => SpWicketsP  vs H Q
def lift (by_ : Int) (w : Int × Int) : Int × Int := (w.1 + by_, w.2 + by_)
inductive SpLiftedP (vs : List V) (H : Hp) (Q : VK) : Prop
  | mk (a : Addr) (ws : List (Int × Int)) (k : Int) (h1 : vs = [.ref a, .int k]) (h2 : WsL H a ws) (h3 : ws.length ≤ 1000) (h4 : ∀ (l : Addr) (H' : Hp), H l = none → Same H H' → WsL H' l (ws.map (lift k)) → Q (.ref l) H') : SpLiftedP vs H Q
def spLifted : Sp := fun vs H Q _ => SpLiftedP  vs H Q
def pow2 (wide : Int) : Prop := wide = 1 ∨ wide = 2 ∨ wide = 4 ∨ wide = 8
inductive SpBuiltP (n : Nat) (vs : List V) (H : Hp) (Q : VK) : Prop
  | mk (wide : Int) (h1 : vs = [.int wide]) (h2 : pow2 wide) (h3 : wide < 2 ^ n) (h4 : ∀ (l : Addr) (ws : List (Int × Int)) (H' : Hp), H l = none → Same H H' → WsL H' l ws → WOk wide ws → (ws.length : Int) ≤ wide * wide → Q (.ref l) H') : SpBuiltP n vs H Q
def spBuilt (n : Nat) : Sp := fun vs H Q _ => SpBuiltP n vs H Q
inductive SpBrickP (vs : List V) (H : Hp) (Q : VK) : Prop
  | mk (wide : Int) (h1 : vs = [.int wide]) (h2 : 1 ≤ wide) (h3 : wide ≤ 8) (h4 : ∀ (l : Addr) (ws : List (Int × Int)) (H' : Hp), H l = none → Same H H' → WsL H' l ws → WOk wide ws → ws.length ≤ 200 → Q (.ref l) H') : SpBrickP vs H Q
def spBrick : Sp := fun vs H Q _ => SpBrickP  vs H Q
inductive SpRoundsP (vs : List V) (H : Hp) (Q : VK) : Prop
  | mk (wide : Int) (h1 : vs = [.int wide]) (h2 : pow2 wide) (h3 : ∀ (l : Addr) (ws : List (Int × Int)) (H' : Hp), H l = none → Same H H' → WsL H' l ws → WOk wide ws → ws.length ≤ 200 → Q (.ref l) H') : SpRoundsP vs H Q
def spRounds : Sp := fun vs H Q _ => SpRoundsP  vs H Q
inductive SpBentP (vs : List V) (H : Hp) (Q : VK) : Prop
  | mk (p : Addr) (wide : Int) (a : Addr) (ws : List (Int × Int)) (h1 : vs = [.ref p, .int wide, .ref a]) (h2 : Pen H p) (h3 : 1 ≤ wide) (h4 : wide ≤ 8) (h5 : a ≠ p) (h6 : WsL H a ws) (h7 : WOk wide ws) (h8 : ws.length ≤ 200) (h9 : ∀ (l : Addr) (us : List (Int × Int)) (H' : Hp), l ≠ p → Kp p H H' → Pen H' p → WsL H' l us → WOk wide us → us.length ≤ 500 → Q (.ref l) H') : SpBentP vs H Q
def spBent : Sp := fun vs H Q _ => SpBentP  vs H Q
inductive SpNetP (vs : List V) (H : Hp) (Q : VK) : Prop
  | mk (p : Addr) (h1 : vs = [.ref p]) (h2 : Pen H p) (h3 : ∀ (v : V) (wide : Int) (ws : List (Int × Int)) (H' : Hp), Kp p H H' → Pen H' p → Net H' v wide ws → 1 ≤ wide → wide ≤ 8 → WOk wide ws → ws.length ≤ 41 → Q v H') : SpNetP vs H Q
def spNet : Sp := fun vs H Q _ => SpNetP  vs H Q
theorem ne1 {H : Hp} {a b : Addr} {o : HO} (n : H b = none) (h : H a = some o) : a ≠ b := ne_of_none h n
theorem ne2 {H : Hp} {a b : Addr} {o : HO} (n : H a = none) (h : H b = some o) : a ≠ b := Ne.symm (ne_of_none h n)
theorem ne3 {H : Hp} {a b : Addr} {xs ys : List V} (h1 : H a = some (.tup xs)) (h2 : H b = some (.lst ys)) : a ≠ b := ne_of h1 h2 (by intro z; cases z)
theorem ne4 {H : Hp} {a b : Addr} {xs ys : List V} (h1 : H a = some (.lst xs)) (h2 : H b = some (.tup ys)) : a ≠ b := ne_of h1 h2 (by intro z; cases z)
theorem free2 {H H' : Hp} {l : Addr} (n : H' l = none) (s : Same H H') : H l = none := s.free n
theorem trans2 {H H1 H2 : Hp} (b : Same H1 H2) (a : Same H H1) : Same H H2 := Same.trans a b
def KT (H H' : Hp) : Prop := ∀ b xs, H b = some (.tup xs) → H' b = some (.tup xs)
theorem KT.refl (H : Hp) : KT H H := fun _ _ h => h
theorem KT.same {G H H' : Hp} (s : Same H H') (k : KT G H) : KT G H' := fun b xs h => s b _ (k b xs h)
theorem KT.lst {G H : Hp} {l : Addr} {o : HO} {ys : List V} (n : H l = some (.lst ys)) (k : KT G H) : KT G (upd H l o) := fun b xs h => by rw [upd_ne (ne3 (k b xs h) n)]; exact k b xs h
theorem _root_.L2.Net.kt {H H' : Hp} {v : V} {wide : Int} {ws : List (Int × Int)} (n : Net H v wide ws) (k : KT H H') : Net H' v wide ws := n.mono k
end Ep

namespace Ep
open PySem L2
theorem in_pair (a b c : Int) : inV (.int a) [.int b, .int c] = (decide (a = b) || decide (a = c)) := by
  show (eqV (.int b) (.int a) || (eqV (.int c) (.int a) || false)) = _
  have e : ∀ u v : Int, eqV (.int u) (.int v) = decide (v = u) := fun u v => by
    show _ = _
    simp [eqV]
    by_cases h : u = v
    · subst h; simp
    · have h' : ¬ v = u := fun z => h z.symm
      simp [h, h']
  rw [e, e, Bool.or_false]
def maxI (a b : Int) : Int := if b ≤ a then a else b
def layT (st : List Int × List Int) (w : Int × Int) : List Int × List Int :=
  let layer := 1 + maxI (st.1.getD w.1.toNat 0) (st.1.getD w.2.toNat 0)
  ((st.1.set w.1.toNat layer).set w.2.toNat layer, st.2 ++ [layer])
def layS (wide : Int) (ws : List (Int × Int)) : List Int × List Int := ws.foldl layT (List.replicate wide.toNat 0, [])
theorem ixN_of {n : Nat} {i : Int} (h0 : 0 ≤ i) (h1 : i < n) : ixN n i = some i.toNat := by
  unfold ixN
  rw [if_pos h0, if_pos h1]
def wAt (ws : List (Int × Int)) (j : Nat) : Int × Int := ws.getD j (0, 0)
theorem getD_app {d : List Int} {z : Int} {j : Nat} (h : j < d.length) : (d ++ [z]).getD j 0 = d.getD j 0 := by simp [List.getD, List.getElem?_append_left h]
theorem getD_last {d : List Int} {z : Int} : (d ++ [z]).getD d.length 0 = z := by simp [List.getD]
theorem getD_set {l : List Int} {i j : Nat} {z : Int} (hi : i < l.length) : (l.set i z).getD j 0 = if j = i then z else l.getD j 0 := by
  by_cases h : j = i
  · subst h
    simp [List.getD, hi]
  · have h' : ¬ i = j := fun q => h q.symm
    simp [List.getD, h, h']
inductive SpLawP (K : PySem.W.Frag) (vs : List V) (H : Hp) (Q : VK) : Prop
  | mk (a : Addr) (ns : List Int) (h1 : vs = [.ref a]) (h2 : SqL K H a (ns.map V.int)) (h3 : ns.length ≤ 63) (h4 : ∀ H', Q (.bl true) H') : SpLawP K vs H Q
def spLaw (K : PySem.W.Frag) : Sp := fun vs H Q _ => SpLawP K vs H Q
end Ep

namespace L2
open PySem PySem.Spec PyProof.Rows
section
variable {P : Program} {w : World} {A : Around} {s : Shared}
end
def Ite (sq : Hp → List V → Prop) : It :=
  ⟨fun i H => ∃ xs x, sq H xs ∧ xs[i]? = some x, fun i H x H' => ∃ T v, H T = none ∧ x = .ref T ∧ H' = upd H T (.tup [.int i, v]) ∧ ∀ xs, sq H xs → xs[i]? = some v, fun i H => ∃ xs, sq H xs ∧ xs.length = i⟩
theorem Inv.turned2 {X : Cx} {pins : List (Addr × Obj)} {σ : St} {H : Hp} {s : Shared} {h' : Heap} {t' : Nat} {e it : Addr} {ys : List V} (I : Inv X pins σ H s) (k : ∀ b o, b ≠ e → b ≠ it → s.heap.get? b = some o → h'.get? b = some o)
    (fe : FpOk X pins H e) (fi : FpOk X pins H it) (new : ObjOk X.prog X.w (upd H s.heap.objs.size (.tup ys)) h' s.heap.objs.size (.tup ys)) : Inv X pins σ (upd H s.heap.objs.size (.tup ys)) { s with heap := h', toks := t' } := by
  have hT : H s.heap.objs.size = none := I.hok.fresh (Nat.le_refl _)
  have nT : ∀ b o, s.heap.get? b = some o → b ≠ s.heap.objs.size := fun b o q => Nat.ne_of_lt (Heap.lt_size q)
  have nc : ∀ b, b ∉ [e, it] → b ≠ e ∧ b ≠ it := fun b hb => ⟨fun z => hb (by simp [z]), fun z => hb (by simp [z])⟩
  have ntr : ∀ b u, H b = some u → b ≠ e ∧ b ≠ it := fun b u q => ⟨(fun z => by rw [z, fe.1] at q; cases q), (fun z => by rw [z, fi.1] at q; cases q)⟩
  have up : ∀ b u, H b = some u → upd H s.heap.objs.size (.tup ys) b = some u := fun b u q => by rw [upd_ne (ne_of_none q hT)]; exact q
  refine I.step (g' := s.gens) (d' := s.drawn) (ch := [e, it]) (fun b hb => ?_) (fun b o _ _ hc q _ => k b o (nc b hc).1 (nc b hc).2 q) (fun b o _ _ hc q _ => ⟨o.slots, k b o (nc b hc).1 (nc b hc).2 q⟩) (fun b o _ q n => by rw [upd_ne (nT b o q)]; exact n)
    (fun b o hc q => ⟨o, k b o (nc b hc).1 (nc b hc).2 q⟩) (fun b xs q => up b _ q) (fun b o u q => up b _ q) (fun b ps q => ⟨up b _ q, fun c o ec x => ⟨up c _ ec, k c o (ntr c _ ec).1 (ntr c _ ec).2 x⟩⟩) (fun m hm => ?_) (fun b u q => ?_) I.bare
  · have z : b = e ∨ b = it := by simpa using hb
    rcases z with rfl | rfl
    · exact ⟨fe.2.2.2.1, fe.2.1, fe.2.2.2.2.1, fe.2.2.2.2.2⟩
    · exact ⟨fi.2.2.2.1, fi.2.1, fi.2.2.2.2.1, fi.2.2.2.2.2⟩
  · obtain ⟨o, es, ep, ho, r⟩ := hm
    exact ⟨o, es, ep, k _ o (Ne.symm fe.2.1) (Ne.symm fi.2.1) ho, r⟩
  · by_cases hb : b = s.heap.objs.size
    · subst hb
      rw [upd_same] at q
      cases q
      exact new
    · rw [upd_ne hb] at q
      refine (I.hok b u q).stay (fun c v hc z => ?_) (fun c z => up c _ z) fun c xs z => up c _ z
      have hc' : c ≠ e ∧ c ≠ it := by
        rcases hc with z | z
        · rw [z]; exact ntr b u q
        · exact ntr c _ z
      exact k c v hc'.1 hc'.2 z
section
variable {X : Cx} {elts : List Expr} {kk : Nat} {ps : Pos}
theorem turn_enumL {P : Program} {w : World} {K : PySem.W.Frag} (a e it : Addr) (hei : e ≠ it) : Turn P w K (.Tuple elts kk ps) (Ite (fun H xs => SqL K H a xs)) [e, it] e (fun i h => (∃ old, IsEnum h e it i old) ∧ h.IsListIter it a i) where
  mem := by simp
  obj := fun i h st b hb => by
    obtain ⟨⟨old, he⟩, o, e1, c, d⟩ := st
    have z : b = e ∨ b = it := by simpa using hb
    rcases z with rfl | rfl
    · exact ⟨_, he, fun v z => by have z' : Data.fields _ = Data.cell v := z; cases z'⟩
    · exact ⟨o, e1, fun v z => by rw [d] at z; cases z⟩
  keep := fun i h h' st k => by
    obtain ⟨⟨old, he⟩, o, e1, r⟩ := st
    exact ⟨⟨old, k e (by simp) _ he⟩, o, k it (by simp) o e1, r⟩
  item := by
    intro X hP hw hK hc i pins s σ H E I hf st hg
    subst hP hw hK
    obtain ⟨⟨old, he⟩, hit⟩ := st
    obtain ⟨xs, x, hq, hx⟩ := hg
    obtain ⟨its, rv, p, hz⟩ := I.list hq
    obtain ⟨u, hu, ru⟩ := rv.get hx
    have pT := p.isList
    have nai : a ≠ it := fun z => by
      obtain ⟨o1, q1, c1, _⟩ := pT
      obtain ⟨o2, q2, c2, _⟩ := hit
      rw [z, q2] at q1; cases q1; rw [c2] at c1; exact absurd (Value.type.inj c1) (by decide)
    have nae : e ≠ a := fun z => by
      obtain ⟨o1, q1, c1, _⟩ := pT
      rw [← z, he] at q1; cases q1; exact absurd (Value.type.inj c1) (by decide)
    have il : i < its.toArray.size := by
      have := (List.getElem?_eq_some_iff.mp hu).1
      simpa using this
    refine wpAny_pyNext_enum_itemD (Draws.list (A := X.A.in1) (I.ok.hd hc) it a nai its.toArray) he ⟨hit, pT⟩ il hei (by simp [hei, nae]) fun x' h1 tk hP ho hs hT hsz hk => ?_
    have ex : x' = u := by
      have : its[i]? = some x' := by simpa using hP
      rw [hu] at this; cases this; rfl
    subst ex
    refine ⟨_, rfl, wpAny_letOwnedTupleGo_enum ho fun h2 he2 sb => ?_⟩
    have eT : e < s.heap.objs.size := Heap.lt_size he
    have k2 : ∀ b o, b ≠ e → b ≠ it → s.heap.get? b = some o → h2.get? b = some o := fun b o n1 n2 q => sb.extBut b o n1 (hk b o n1 n2 q)
    have new : ObjOk X.prog X.w (upd H s.heap.objs.size (.tup [.int i, x])) h2 s.heap.objs.size (.tup [.int i, x]) := ⟨by show 2 ≤ sizeLine; rw [sizeLine_eq]; decide, [.int i tk, x'], .cons ⟨tk, rfl⟩ (.cons ru .nil), _, sb.extBut _ _ (Nat.ne_of_gt eT) hT, rfl, _, rfl, rfl⟩
    have I2 : Inv X pins σ (upd H s.heap.objs.size (.tup [.int i, x])) { s with heap := h2, toks := tk + 1 } := Inv.turned2 I k2 (hf e (by simp)) (hf it (by simp)) new
    refine ⟨.ref s.heap.objs.size, _, I2, rfl, ⟨s.heap.objs.size, x, I.hok.fresh (Nat.le_refl _), rfl, rfl, fun zs hzs => by rw [I.list_inj hzs hq]; exact hx⟩, ⟨⟨x', by simpa using he2⟩, ?_⟩, fun b hb => ?_⟩
    · obtain ⟨⟨o2, q2, r2⟩, _⟩ := hs
      exact ⟨o2, sb.extBut it o2 (Ne.symm hei) q2, r2⟩
    · have bl : b < s.heap.objs.size := by
        have z : b = e ∨ b = it := by simpa using hb
        rcases z with rfl | rfl
        · exact eT
        · obtain ⟨o2, q2, _⟩ := hit
          exact Heap.lt_size q2
      rw [upd_ne (Nat.ne_of_lt bl)]
      exact (hf b hb).1
  done := by
    intro X hP hw hK hc i pins s σ H E I hf st hg
    subst hP hw hK
    obtain ⟨⟨old, he⟩, hit⟩ := st
    obtain ⟨xs, hq, hx⟩ := hg
    obtain ⟨its, rv, p, hz⟩ := I.list hq
    obtain ⟨f0, f1, f2, f3, f4, f5⟩ := hf it (by simp)
    have pT := p.isList
    have hl := rv.length
    have nai : a ≠ it := fun z => by
      obtain ⟨o1, q1, c1, _⟩ := pT
      obtain ⟨o2, q2, c2, _⟩ := hit
      rw [z, q2] at q1; cases q1; rw [c2] at c1; exact absurd (Value.type.inj c1) (by decide)
    have ei : its.toArray.size = i := by simp; (first | lia | omega)
    exact wpAny_pyNext_enum_endD (Draws.list (A := X.A.in1) (I.ok.hd hc) it a nai its.toArray) he (by rw [ei]; exact ⟨hit, pT⟩) fun h' eb => ⟨rfl, I.turned (t' := s.toks) (fun b o hb q => eb b o hb q) f0 f1 f3 f4 f5⟩
  self := fun _ _ _ _ _ st h => wpAny_pyIter_enum st.1.choose_spec h
def iEnumL (K : PySem.W.Frag) (ta : TA) : TI := fun σ H R => ta σ H fun vs H1 => ∃ a, vs = [.ref a] ∧ (∃ xs, SqL K H1 a xs) ∧ R (Ite (fun H xs => SqL K H a xs)) H1
theorem pi_enumL {l : Expr} {ta : TA} {p pos : Pos} (hg : Gl X "enumerate") (hm : X.mg "enumerate" = none) (ha : PA X [l] ta) (hs : starEach [l] X.env = [(false, eval l X.env)] := by rfl) : PI X (.Tuple elts kk ps) (.Call (.Name "enumerate" p) [l] [] pos) (iEnumL X.K ta) := by
  intro pins s σ H R I h
  refine Call_ (ld_blt I hg hm boot_enumerate (PyProof.Rows.callWith_type1 (thn (ha pos pins s σ H _ I h) fun us s1 ⟨vs, H1, I1, r1, q1⟩ => ?_) hs rfl))
  obtain ⟨a, e, ⟨xs, hq⟩, q⟩ := q1
  subst e
  obtain ⟨u, rfl, ru⟩ := Vals.one r1
  cases ru
  obtain ⟨its, rv, pp, hz⟩ := I1.list hq
  refine call_enumerate_list pp.isList fun h' ge gi sz kk => ?_
  refine wpAny_pyIter_enum (by simpa using ge) ?_
  refine ⟨s1.heap.objs.size + 1, [s1.heap.objs.size + 1, s1.heap.objs.size], _, _, H1, rfl, I1.kept (t' := s1.toks) kk, turn_enumL a _ _ (Nat.succ_ne_self _), ⟨⟨_, by simpa using ge⟩, gi⟩, fun b hb => ?_, q⟩
  have z : b = s1.heap.objs.size + 1 ∨ b = s1.heap.objs.size := by simpa using hb
  rcases z with rfl | rfl
  · exact I1.fpOk (Nat.le_succ _) (I1.hok.fresh (Nat.le_succ _))
  · exact I1.fpOk (Nat.le_refl _) (I1.hok.fresh (Nat.le_refl _))
theorem for_enum {sq : Hp → List V → Prop} {xs : List V} {g : TG} {tb : TS} {D : Ends} {σ : St} {H : Hp} (Pv : Nat → St → Hp → Prop) (h0 : Pv 0 σ H) (hl : ∀ i σ H, i ≤ xs.length → Pv i σ H → sq H xs)
    (hs : ∀ i x T σ H, xs[i]? = some x → H T = none → Pv i σ H → g (.ref T) σ (upd H T (.tup [.int i, x])) fun σ2 H2 => tb { D with nx := Pv (i + 1), ct := Pv (i + 1), bk := D.nx } σ2 H2) (hd : ∀ σ H, Pv xs.length σ H → D.nx σ H) :
    ∃ W : Nat → Nat → St → Hp → Prop, (∃ m, W 0 m σ H) ∧ ∀ i m σ H, W i m σ H →
      ((Ite sq).stop i H ∧ D.nx σ H) ∨ ((Ite sq).go i H ∧ ∃ N : St → Hp → Prop, (∀ σ' H', N σ' H' → ∃ m', m' < m ∧ W (i + 1) m' σ' H') ∧ ∀ x H', (Ite sq).yld i H x H' → g x σ H' fun σ2 H2 => tb { D with nx := N, ct := N, bk := D.nx } σ2 H2) := by
  refine ⟨fun i m σ H => m = xs.length - i ∧ i ≤ xs.length ∧ Pv i σ H, ⟨xs.length, by simp, Nat.zero_le _, h0⟩, ?_⟩
  rintro i m σ H ⟨rfl, hi, p⟩
  have q := hl i σ H hi p
  by_cases hlt : i < xs.length
  · refine .inr ⟨⟨xs, xs[i], q, by simp [hlt]⟩, Pv (i + 1), fun σ' H' p' => ⟨xs.length - (i + 1), by (first | lia | omega), rfl, hlt, p'⟩, fun x H' y => ?_⟩
    obtain ⟨T, v, fT, e1, e2, y⟩ := y
    subst e1 e2
    exact hs i v T σ H (y xs q) fT p
  · have e : i = xs.length := by (first | lia | omega)
    subst e
    exact .inl ⟨⟨xs, q, rfl⟩, hd σ H p⟩
end
end L2

namespace L2
open PySem PySem.Spec PyProof.Rows HT
section
variable {prog : Program} {w : World} {A : Around} {E : Value → Shared → Prop} {s : Shared}
end
section
variable {X : Cx}
def whole (n : Nat) (lo hi : Option Int) : Prop := sIx n 0 lo = 0 ∧ sIx n n hi = n
end
end L2

namespace Ep
open PySem L2
def both (cs : List Int) (w : Int × Int) : Int := cs.getD w.1.toNat 0 + cs.getD w.2.toNat 0
theorem take_snoc {α : Type} {ws : List α} {i : Nat} {w : α} (h : ws[i]? = some w) : ws.take (i + 1) = ws.take i ++ [w] := by rw [List.take_add_one, h]; rfl
theorem set_map (cs : List Int) (i : Nat) (z : Int) : (cs.map V.int).set i (V.int z) = (cs.set i z).map V.int := by rw [List.map_set]
theorem WOk.mem {wide : Int} {ws : List (Int × Int)} (h : WOk wide ws) {i : Nat} {x : Int × Int} (e : ws[i]? = some x) : 0 ≤ x.1 ∧ x.1 < wide ∧ 0 ≤ x.2 ∧ x.2 < wide ∧ x.1 ≠ x.2 := h x (List.mem_of_getElem? e)
theorem getD_lt {cs : List Int} {i : Nat} (h : i < cs.length) : cs[i]? = some (cs.getD i 0) := by simp [List.getD, h]
theorem all_true (n : Nat) : (List.replicate n true).all id = true := by simp
end Ep

namespace L2
open PySem PySem.Spec PyProof.Rows
section
variable {X : Cx} {elts : List Expr} {kk : Nat} {ps : Pos}
end
end L2

namespace L2
open PySem PySem.Spec PyProof.Rows
section
variable {X : Cx}
end
end L2

namespace Ep
open PySem L2
end Ep
namespace Ep
open PySem L2
def mxL (L : List Int) : Int := L.foldl maxI 0
def depM (wide : Int) (ws : List (Int × Int)) : Nat := (mxL (layS wide ws).2).toNat
abbrev whole (wide : Int) (ws : List (Int × Int)) : Int := ((2 ^ depM wide ws : Nat) : Int)
def Rows (H : Hp) : List V → List (List Int) → Prop := Paired fun r w => ∃ t, r = .ref t ∧ H t = some (.lst (w.map V.int))
theorem int_item {cs : List Int} {j : Nat} {x : V} (h : (cs.map V.int)[j]? = some x) : ∃ z, cs[j]? = some z ∧ x = V.int z := by
  rw [List.getElem?_map] at h
  cases e : cs[j]? with
  | none => rw [e] at h; cases h
  | some z => rw [e] at h; exact ⟨z, rfl, (Option.some.inj h).symm⟩
end Ep
namespace Ep
open PySem L2
end Ep

namespace Ep
open PySem L2
end Ep
namespace Ep
open PySem L2
end Ep

namespace L2
open PySem PySem.Spec PyProof.Rows PyProof.V PySem.SeqAt
mutual
inductive Dat (H : Hp) : V → PyData → Prop
  | non : Dat H .non .none
  | bl (b : Bool) : Dat H (.bl b) (.bool b)
  | int (i : Int) : Dat H (.int i) (.int i)
  | str (x : Str) : Dat H (.str x) (.str x)
  | lst {a : Addr} {xs : List V} {ds : List PyData} : H a = some (.lst xs) → Dats H xs ds → Dat H (.ref a) (.list ds)
  | tup {a : Addr} {xs : List V} {ds : List PyData} : H a = some (.tup xs) → Dats H xs ds → Dat H (.ref a) (.tuple ds)
inductive Dats (H : Hp) : List V → List PyData → Prop
  | nil : Dats H [] []
  | cons {v : V} {vs : List V} {d : PyData} {ds : List PyData} : Dat H v d → Dats H vs ds → Dats H (v :: vs) (d :: ds)
end
theorem Dat.reads {X : Cx} {pins : List (Addr × Obj)} {σ : St} {H : Hp} {s : Shared} (I : Inv X pins σ H s) {v : V} {d : PyData} (h : Dat H v d) : ∀ u, RelV v u → ∃ as, Reads s.heap u d as := by
  refine Dat.rec (H := H) (motive_1 := fun v d _ => ∀ u, RelV v u → ∃ as, Reads s.heap u d as) (motive_2 := fun vs ds _ => ∀ us, Vals vs us → ∃ as, ReadsAll s.heap us ds as) ?_ ?_ ?_ ?_ ?_ ?_ ?_ ?_ h
  · intro u r; cases r; exact ⟨_, .none⟩
  · intro b u r; cases r; exact ⟨_, .bool b⟩
  · intro i u r; obtain ⟨t, rfl⟩ := r; exact ⟨_, .int i t⟩
  · intro x u r; obtain ⟨t, rfl⟩ := r; exact ⟨_, .str x t⟩
  · intro a xs ds e _ ih u r
    cases r
    obtain ⟨its, rv, pl, _⟩ := I.list (SqL.of (K := X.K) e)
    obtain ⟨as, ra⟩ := ih its rv
    obtain ⟨o, ho, hc, n, hd⟩ := pl.isList
    exact ⟨_, .list ho hc hd (by simpa using ra)⟩
  · intro a xs ds e _ ih u r
    cases r
    obtain ⟨its, rv, pl, _⟩ := I.tuple (SqT.of (K := X.K) e)
    obtain ⟨as, ra⟩ := ih its rv
    obtain ⟨o, ho, hc, n, hd⟩ := (show s.heap.IsTuple a its.toArray from pl)
    exact ⟨_, .tuple ho hc hd (by simpa using ra)⟩
  · intro us r; cases r; exact ⟨_, .nil⟩
  · intro v vs d ds _ _ ih1 ih2 us r
    cases r with
    | cons r1 r2 =>
      obtain ⟨as, ra⟩ := ih1 _ r1
      obtain ⟨bs, rb⟩ := ih2 _ r2
      exact ⟨_, .cons ra rb⟩
section
variable {X : Cx}
def rEqD (neg : Bool) : R2 := fun x y H Q => ∃ dx dy, Dat H x dx ∧ Dat H y dy ∧ shaped dx = true ∧ shaped dy = true ∧ noMix dx dy = true ∧ Q (.bl (if neg then !same dx dy else same dx dy)) H
theorem op_neD (hu : X.A.units + 64 < cLine) : OpR X (compareOp .NotEq) (rEqD true) := by
  intro pins s σ H x y v u Q I rx ry h
  obtain ⟨dx, dy, d1, d2, s1, s2, nm, q⟩ := h
  obtain ⟨as, r1⟩ := d1.reads I v rx
  obtain ⟨bs, r2⟩ := d2.reads I u ry
  exact ne_dataH_same r1 r2 s1 s2 hu nm ⟨.bl _, H, I, rfl, q⟩
end
end L2

namespace Ep
open PySem L2 PySem.SeqAt
end Ep

namespace L2
open PySem PySem.Spec PyProof.Rows PyProof.V PySem.SeqAt
section
variable {X : Cx} {a : Expr} {ta : TE} {pos : Pos}
end
end L2

namespace L2
open PySem PySem.Spec PyProof.Rows
structure MCal (P : Program) (w : World) (K : PySem.W.Frag) (mg : Str → Option Value) (base : Heap) (C : Addr) (m : Str) (k : Nat) (ps : List Str) (sp : Sp) : Prop where
  ex : ∃ (f : Addr) (fd : FuncData), FnOk P w K mg base CX0 k f fd ps sp ∧ Binds K fd ps [] ∧ Meth K C m f
structure Maker (P : Program) (w : World) (K : PySem.W.Frag) (mg : Str → Option Value) (base : Heap) (x : Str) (C : Addr) (k : Nat) (ps : List Str) (sp : Sp) : Prop where
  ex : ∃ (f : Addr) (fd : FuncData), FnOk P w K mg base CX0 k f fd ps sp ∧ Binds K fd ps [] ∧ Mk K C f
  at_ : mg x = some (.ref C)
section
variable {X : Cx} {C : Addr} {x m : Str} {k : Nat} {ps : List Str} {sp : Sp} {o e : Expr} {es : List Expr} {ta : TE} {t : TA} {p pos apos : Pos}
theorem pe_methC {pl : Sem Bool} (he : PE X o ta) (c : Cls X.K C) (M : MCal X.prog X.w X.K X.mg X.base C m k ps sp) (hr : Room k X.A) (ha : PA X (e :: es) t)
    (hst : starEach (e :: es) X.env = (false, eval e X.env) :: starEach es X.env := by rfl) (hpl : (backTo pos (starEach es X.env)).any (·.1) = false := by rfl)
    (ht : eval (.Call (.Attribute o m apos) (e :: es) [] pos) X.env = (do
      let ov ← eval o X.env
      standAt apos.atName
      let (f, first) ← holding [ov] (getMethod ov m pl)
      callWith pos f first (backTo pos (starEach (e :: es) X.env)) (backToKw pos (keywordEach [] X.env))) := by rfl) :
    PE X (.Call (.Attribute o m apos) (e :: es) [] pos) (tMeth C m sp [] E0 ta t) := by
  obtain ⟨f, fd, F, hb, hm⟩ := M.ex
  exact pe_meth he c hm F hr hb .nil pass0 ha hst hpl ht
theorem pe_methC0 {pl : Sem Bool} (he : PE X o ta) (c : Cls X.K C) (M : MCal X.prog X.w X.K X.mg X.base C m k ps sp) (hr : Room k X.A)
    (ht : eval (.Call (.Attribute o m apos) [] [] pos) X.env = (do
      let ov ← eval o X.env
      standAt apos.atName
      let (f, first) ← holding [ov] (getMethod ov m pl)
      callWith pos f first (backTo pos (starEach [] X.env)) (backToKw pos (keywordEach [] X.env))) := by rfl) :
    PE X (.Call (.Attribute o m apos) [] [] pos) (tMeth C m sp [] E0 ta tNil) := by
  obtain ⟨f, fd, F, hb, hm⟩ := M.ex
  exact pe_meth0 he c hm F hr hb .nil pass0 ht
theorem pe_makeC (M : Maker X.prog X.w X.K X.mg X.base x C k ps sp) (hr : Room (k + 1) X.A) (hg : Gl X x) (ha : PA X (e :: es) t)
    (hdb : (x == ("__debug__" : Str)) = false := by decide) (he : starEach (e :: es) X.env = (false, eval e X.env) :: starEach es X.env := by rfl) (hpl : (backTo pos (starEach es X.env)).any (·.1) = false := by rfl) :
    PE X (.Call (.Name x p) (e :: es) [] pos) (tMake C sp [] E0 t) := by
  obtain ⟨f, fd, F, hb, hm⟩ := M.ex
  exact pe_make hm F hr hg M.at_ hb .nil pass0 ha hdb he hpl
def rGetL (K : PySem.W.Frag) : V → V → Hp → VK → Prop := fun x y H Q => ∃ p xs i v, x = .ref p ∧ y = .int i ∧ SqL K H p xs ∧ 0 ≤ i ∧ xs[i.toNat]? = some v ∧ Q v H
theorem get_list : PGet X (rGetL X.K) := by
  intro pins s σ H o i ov iv Q I ro ri h
  obtain ⟨p, xs, i, z, rfl, rfl, hq, h0, he, q⟩ := h
  cases ro
  obtain ⟨t, rfl⟩ := ri
  obtain ⟨its, r, pl, hz⟩ := I.list hq
  obtain ⟨w, ew, rw'⟩ := r.get he
  have hl := r.length
  have hn := line63
  have il := (List.getElem?_eq_some_iff.mp he).1
  exact wpAny_getItem_list pl.isList h0 (by (first | lia | omega)) (by simpa using ew) ⟨z, H, I, rw', q⟩
end
structure HereM (K : PySem.W.Frag) (mg : Str → Option Value) (C : Addr) (x q : Str) (st : Stmt) (f : Addr) (fd : FuncData) : Prop where
  fn : Fun K x q st f fd
  mt : Meth K C x f
theorem HereM.mcal {P : Program} {w : World} {K : PySem.W.Frag} {mg : Str → Option Value} {base : Heap} {C : Addr} {x q : Str} {st : Stmt} {f : Addr} {fd : FuncData} {k : Nat} {ps : List Str} {sp : Sp} (h : HereM K mg C x q st f fd) (F : FnOk P w K mg base CX0 k f fd ps sp)
    (hb : ∀ (kV doc pm : Value) (an : Option Addr) (cdv ct : Value) (us : List Value), us.length = ps.length → bindArgs (PySem.W.fnOf x q (defArgs st) (defBody st) (defScope st) .none kV doc pm an cdv ct) ⟨us, []⟩ = pure (ps.zip us)) : MCal P w K mg base C x k ps sp :=
  ⟨f, fd, F, h.fn.binds hb, h.mt⟩
end L2
namespace Ep
open PySem L2 PySem.SeqAt
inductive Place where
  | before (k : Nat) (l : Int)
  | exit (l : Int)
  | out (l n : Int)
def plV : Place → List V
  | .before k l => [.str "before", .int k, .int l]
  | .exit l => [.str "exit", .int l]
  | .out l n => [.str "out", .int l, .int n]
def PlAt (H : Hp) (r : V) (pl : Place) : Prop := ∃ t, r = .ref t ∧ H t = some (.tup (plV pl))
def hasL (w : Int × Int) (l : Int) : Bool := decide (l = w.1) || decide (l = w.2)
def placeF (ws : List (Int × Int)) (l : Int) : Nat → Nat → Place
  | 0, _ => .exit l
  | n + 1, s => if hasL (wAt ws s) l then .before s l else placeF ws l n (s + 1)
def placeM (ws : List (Int × Int)) (l : Int) (s : Nat) : Place := placeF ws l (ws.length - s) s
theorem placeF_before {ws : List (Int × Int)} {l : Int} : ∀ {n s k : Nat} {l' : Int}, placeF ws l n s = .before k l' → s ≤ k ∧ k < s + n ∧ hasL (wAt ws k) l = true ∧ l' = l
  | 0, _, _, _, h => by simp [placeF] at h
  | n + 1, s, k, l', h => by
    unfold placeF at h
    by_cases c : hasL (wAt ws s) l = true
    · rw [if_pos c] at h
      injection h with h1 h2
      exact ⟨by (first | lia | omega), by (first | lia | omega), by rw [← h1]; exact c, h2.symm⟩
    · rw [if_neg c] at h
      obtain ⟨a, b, d, e⟩ := placeF_before h
      exact ⟨by (first | lia | omega), by (first | lia | omega), d, e⟩
theorem placeM_before {ws : List (Int × Int)} {l l' : Int} {s k : Nat} (h : placeM ws l s = .before k l') : s ≤ k ∧ k < ws.length ∧ hasL (wAt ws k) l = true ∧ l' = l := by
  obtain ⟨a, b, c, d⟩ := placeF_before h
  exact ⟨a, by (first | lia | omega), c, d⟩
theorem placeF_exit {ws : List (Int × Int)} {l l' : Int} : ∀ {n s : Nat}, placeF ws l n s = .exit l' → l' = l
  | 0, _, h => by unfold placeF at h; injection h with h; exact h.symm
  | n + 1, s, h => by
    unfold placeF at h
    by_cases c : hasL (wAt ws s) l = true
    · rw [if_pos c] at h; cases h
    · rw [if_neg c] at h; exact placeF_exit h
theorem placeF_out {ws : List (Int × Int)} {l l' n' : Int} : ∀ {n s : Nat}, placeF ws l n s ≠ .out l' n'
  | 0, _, h => by simp [placeF] at h
  | n + 1, s, h => by
    unfold placeF at h
    by_cases c : hasL (wAt ws s) l = true
    · rw [if_pos c] at h; cases h
    · rw [if_neg c] at h; exact placeF_out h
structure PlS where
  fac : List Int
  tal : List Int
  pla : List Place
  chg : List Int
structure PlL where
  dx : Addr
  lf : Addr
  lt : Addr
  lp : Addr
  lc : Addr
def pfl (v : V) (L : PlL) : List (Str × V) := putF "changes" (.ref L.lc) (putF "places" (.ref L.lp) (putF "tally" (.ref L.lt) (putF "facing" (.ref L.lf) (putF "net" v []))))
theorem putF_len (f : Str) (v : V) : ∀ fs : List (Str × V), (putF f v fs).length ≤ fs.length + 1
  | [] => by simp [putF]
  | (g, x) :: r => by
    unfold putF
    split
    · simp
    · have := putF_len f v r
      simp
      (first | lia | omega)
theorem pfl_net (v : V) (L : PlL) : (pfl v L).lookup ("net" : Str) = some v := by
  unfold pfl
  rw [lookup_putF, if_neg (by decide +kernel), lookup_putF, if_neg (by decide +kernel), lookup_putF, if_neg (by decide +kernel), lookup_putF, if_neg (by decide +kernel), lookup_putF, if_pos rfl]
theorem pfl_facing (v : V) (L : PlL) : (pfl v L).lookup ("facing" : Str) = some (.ref L.lf) := by
  unfold pfl
  rw [lookup_putF, if_neg (by decide +kernel), lookup_putF, if_neg (by decide +kernel), lookup_putF, if_neg (by decide +kernel), lookup_putF, if_pos rfl]
theorem pfl_tally (v : V) (L : PlL) : (pfl v L).lookup ("tally" : Str) = some (.ref L.lt) := by
  unfold pfl
  rw [lookup_putF, if_neg (by decide +kernel), lookup_putF, if_neg (by decide +kernel), lookup_putF, if_pos rfl]
theorem pfl_places (v : V) (L : PlL) : (pfl v L).lookup ("places" : Str) = some (.ref L.lp) := by
  unfold pfl
  rw [lookup_putF, if_neg (by decide +kernel), lookup_putF, if_pos rfl]
theorem pfl_changes (v : V) (L : PlL) : (pfl v L).lookup ("changes" : Str) = some (.ref L.lc) := by
  unfold pfl
  rw [lookup_putF, if_pos rfl]
theorem pfl_no (v : V) (L : PlL) {m : Str} (h1 : ¬ m = "changes") (h2 : ¬ m = "places") (h3 : ¬ m = "tally") (h4 : ¬ m = "facing") (h5 : ¬ m = "net") : (pfl v L).lookup m = none := by
  unfold pfl
  rw [lookup_putF, if_neg h1, lookup_putF, if_neg h2, lookup_putF, if_neg h3, lookup_putF, if_neg h4, lookup_putF, if_neg h5]
  rfl
structure PlayAt (C : Addr) (H : Hp) (p : Addr) (v : V) (L : PlL) (st : PlS) : Prop where
  ob : H p = some (.ins C L.dx (pfl v L))
  fa : H L.lf = some (.lst (st.fac.map V.int))
  ta : H L.lt = some (.lst (st.tal.map V.int))
  pl : ∃ rs, H L.lp = some (.lst rs) ∧ Paired (PlAt H) rs st.pla
  ch : H L.lc = some (.lst (st.chg.map V.int))
  ft : L.lf ≠ L.lt
  fp : L.lf ≠ L.lp
  fc : L.lf ≠ L.lc
  tp : L.lt ≠ L.lp
  tc : L.lt ≠ L.lc
  pc : L.lp ≠ L.lc
def KpL (L : PlL) (H H' : Hp) : Prop := ∀ b o, H b = some o → b ≠ L.lf → b ≠ L.lt → b ≠ L.lp → b ≠ L.lc → H' b = some o
theorem KpL.refl (L : PlL) (H : Hp) : KpL L H H := fun _ _ e _ _ _ _ => e
theorem KpL.trans {L : PlL} {H H1 H2 : Hp} (a : KpL L H H1) (b : KpL L H1 H2) : KpL L H H2 := fun c o e h1 h2 h3 h4 => b c o (a c o e h1 h2 h3 h4) h1 h2 h3 h4
theorem KpL.same {L : PlL} {H H' : Hp} (s : Same H H') : KpL L H H' := fun b o e _ _ _ _ => s b o e
theorem KpL.kt {C p : Addr} {v : V} {L : PlL} {st : PlS} {H H' : Hp} (P : PlayAt C H p v L st) (k : KpL L H H') : KT H H' := fun b xs e => by
  obtain ⟨rs, hp, _⟩ := P.pl
  exact k b _ e (ne3 e P.fa) (ne3 e P.ta) (ne3 e hp) (ne3 e P.ch)
theorem PlAt.kt {H H' : Hp} {r : V} {pl : Place} (k : KT H H') (h : PlAt H r pl) : PlAt H' r pl := let ⟨t, e, x⟩ := h; ⟨t, e, k _ _ x⟩
theorem PlayAt.same {C p : Addr} {v : V} {L : PlL} {st : PlS} {H H' : Hp} (P : PlayAt C H p v L st) (s : Same H H') : PlayAt C H' p v L st :=
  let ⟨rs, a, b⟩ := P.pl
  ⟨s _ _ P.ob, s _ _ P.fa, s _ _ P.ta, ⟨rs, s _ _ a, Paired.mapP b fun _ _ z => z.kt (KT.same s (KT.refl _))⟩, s _ _ P.ch, P.ft, P.fp, P.fc, P.tp, P.tc, P.pc⟩
theorem PlayAt.nob {C p : Addr} {v : V} {L : PlL} {st : PlS} {H : Hp} (P : PlayAt C H p v L st) : p ≠ L.lf ∧ p ≠ L.lt ∧ p ≠ L.lp ∧ p ≠ L.lc := by
  obtain ⟨rs, hp, _⟩ := P.pl
  exact ⟨ne_of P.ob P.fa (by intro z; cases z), ne_of P.ob P.ta (by intro z; cases z), ne_of P.ob hp (by intro z; cases z), ne_of P.ob P.ch (by intro z; cases z)⟩
theorem Paired.getP {α β : Type} {F : α → β → Prop} : ∀ {l : List α} {m : List β} {i : Nat} {b : β}, Paired F l m → m[i]? = some b → ∃ a, l[i]? = some a ∧ F a b
  | _, _, _, _, .nil, e => by simp at e
  | _, _, 0, _, .cons h _, e => by simp at e; subst e; exact ⟨_, rfl, h⟩
  | _, _, i + 1, b, .cons _ t, e => by
    obtain ⟨a, h1, h2⟩ := Paired.getP (i := i) (b := b) t (by simpa using e)
    exact ⟨a, by simpa using h1, h2⟩
theorem Paired.setP {α β : Type} {F : α → β → Prop} {a : α} {b : β} (h : F a b) : ∀ {l : List α} {m : List β} (i : Nat), Paired F l m → Paired F (l.set i a) (m.set i b)
  | _, _, _, .nil => .nil
  | _, _, 0, .cons _ t => .cons h t
  | _, _, i + 1, .cons g t => .cons g (Paired.setP h i t)
theorem Paired.appP {α β : Type} {F : α → β → Prop} : ∀ {l : List α} {m : List β} {l' : List α} {m' : List β}, Paired F l m → Paired F l' m' → Paired F (l ++ l') (m ++ m')
  | _, _, _, _, .nil, s => s
  | _, _, _, _, .cons r t, s => .cons r (Paired.appP t s)
structure PlayT (K : PySem.W.Frag) (C : Addr) : Prop where
  cl : Cls K C
  nN : NoAttr K C "net"
  nF : NoAttr K C "facing"
  nT : NoAttr K C "tally"
  nP : NoAttr K C "places"
  nC : NoAttr K C "changes"
structure Wf (wide : Int) (ws : List (Int × Int)) (st : PlS) : Prop where
  fl : st.fac.length = ws.length
  tl : st.tal.length = wide.toNat
  cl : st.chg.length = st.pla.length
  ml : st.pla.length ≤ 400
  fs : ∀ k w, ws[k]? = some w → st.fac.getD k 0 = w.1 ∨ st.fac.getD k 0 = w.2
  cs : ∀ i, i < st.chg.length → st.chg.getD i 0 = 1 ∨ st.chg.getD i 0 = -1
  ps : ∀ pl ∈ st.pla, match pl with | .before k l => k < ws.length ∧ 0 ≤ l ∧ l < wide | .exit l => 0 ≤ l ∧ l < wide | .out _ _ => True
def startM (wide : Int) (ws : List (Int × Int)) : PlS := ⟨ws.map (·.1), List.replicate wide.toNat 0, [], []⟩
def enterM (ws : List (Int × Int)) (st : PlS) (lane c : Int) : PlS := ⟨st.fac, st.tal, st.pla ++ [placeM ws lane 0], st.chg ++ [c]⟩
def otherL (w : Int × Int) (f : Int) : Int := if f = w.1 then w.2 else w.1
def turnM (ws : List (Int × Int)) (st : PlS) (k : Nat) : PlS := ⟨st.fac.set k (otherL (wAt ws k) (st.fac.getD k 0)), st.tal, st.pla, st.chg⟩
def passL (ws : List (Int × Int)) (st : PlS) (k : Nat) (c : Int) : Int := if c = 1 then st.fac.getD k 0 else otherL (wAt ws k) (st.fac.getD k 0)
def leaveM (st : PlS) (l c : Int) : PlS := ⟨st.fac, st.tal.set l.toNat (st.tal.getD l.toNat 0 + c), st.pla, st.chg⟩
def leaveN (wide : Int) (st : PlS) (l c : Int) : Int := l + wide * (if c = 1 then st.tal.getD l.toNat 0 else st.tal.getD l.toNat 0 + c)
def putP (st : PlS) (i : Nat) (pl : Place) : PlS := ⟨st.fac, st.tal, st.pla.set i pl, st.chg⟩
def stepP (wide : Int) (ws : List (Int × Int)) (st : PlS) (i : Nat) (pl : Place) : Place := match pl with
  | .before k _ => placeM ws (passL ws st k (st.chg.getD i 0)) (k + 1)
  | .exit l => .out l (leaveN wide st l (st.chg.getD i 0))
  | .out l n => .out l n
def stepS (wide : Int) (ws : List (Int × Int)) (st : PlS) (i : Nat) (pl : Place) : PlS := match pl with
  | .before k l => putP (turnM ws st k) i (stepP wide ws st i (.before k l))
  | .exit l => putP (leaveM st l (st.chg.getD i 0)) i (stepP wide ws st i (.exit l))
  | .out l n => st
def isOut : Place → Bool
  | .out _ _ => true
  | _ => false
abbrev NetOk (H : Hp) (v : V) (wide : Int) (ws : List (Int × Int)) : Prop := Net H v wide ws ∧ 1 ≤ wide ∧ wide ≤ 8 ∧ WOk wide ws ∧ ws.length ≤ 41
theorem NetOk.kt {H H' : Hp} {v : V} {wide : Int} {ws : List (Int × Int)} (n : NetOk H v wide ws) (k : KT H H') : NetOk H' v wide ws := ⟨n.1.kt k, n.2⟩
inductive SpIsWholeP (vs : List V) (H : Hp) (Q : VK) : Prop
  | mk (i : Int) (h1 : vs = [.int i]) (h2 : Q (.bl true) H) : SpIsWholeP vs H Q
def spIsWhole : Sp := fun vs H Q _ => SpIsWholeP  vs H Q
inductive SpIsLaneP (vs : List V) (H : Hp) (Q : VK) : Prop
  | mk (wide i : Int) (h1 : vs = [.int wide, .int i]) (h2 : 0 ≤ i) (h3 : i < wide) (h4 : Q (.bl true) H) : SpIsLaneP vs H Q
def spIsLane : Sp := fun vs H Q _ => SpIsLaneP  vs H Q
inductive SpPlaceOnP (vs : List V) (H : Hp) (Q : VK) : Prop
  | mk (v : V) (wide : Int) (ws : List (Int × Int)) (l : Int) (s : Nat) (h1 : vs = [v, .int l, .int s]) (h2 : NetOk H v wide ws) (h3 : s ≤ ws.length) (h4 : ∀ (t : Addr) (H' : Hp), H t = none → Same H H' → H' t = some (.tup (plV (placeM ws l s))) → Q (.ref t) H') : SpPlaceOnP vs H Q
def spPlaceOn : Sp := fun vs H Q _ => SpPlaceOnP  vs H Q
inductive SpPInitP (C : Addr) (vs : List V) (H : Hp) (Q : VK) : Prop
  | mk (p dx : Addr) (v : V) (wide : Int) (ws : List (Int × Int)) (h1 : vs = [.ref p, v]) (h2 : H p = some (.ins C dx [])) (h3 : NetOk H v wide ws) (h4 : ∀ (L : PlL) (H' : Hp), H L.lf = none → H L.lt = none → H L.lp = none → H L.lc = none → PlayAt C H' p v L (startM wide ws) → (∀ b o, H b = some o → b ≠ p → H' b = some o) → Q .non H') : SpPInitP C vs H Q
def spPInit (C : Addr) : Sp := fun vs H Q _ => SpPInitP C vs H Q
inductive SpComeInP (C : Addr) (vs : List V) (H : Hp) (Q : VK) : Prop
  | mk (p : Addr) (v : V) (wide : Int) (ws : List (Int × Int)) (L : PlL) (st : PlS) (lane c : Int) (h1 : vs = [.ref p, .int lane, .int c]) (h2 : NetOk H v wide ws) (h3 : PlayAt C H p v L st) (h4 : Wf wide ws st) (h5 : 0 ≤ lane) (h6 : lane < wide) (h7 : ∀ H', PlayAt C H' p v L (enterM ws st lane c) → KpL L H H' → Q (.int st.pla.length) H') : SpComeInP C vs H Q
def spComeIn (C : Addr) : Sp := fun vs H Q _ => SpComeInP C vs H Q
inductive SpEnterP (C : Addr) (c : Int) (vs : List V) (H : Hp) (Q : VK) : Prop
  | mk (p : Addr) (v : V) (wide : Int) (ws : List (Int × Int)) (L : PlL) (st : PlS) (lane : Int) (h1 : vs = [.ref p, .int lane]) (h2 : NetOk H v wide ws) (h3 : PlayAt C H p v L st) (h4 : Wf wide ws st) (h5 : 0 ≤ lane) (h6 : lane < wide) (h7 : ∀ H', PlayAt C H' p v L (enterM ws st lane c) → KpL L H H' → Q (.int st.pla.length) H') : SpEnterP C c vs H Q
def spEnter (C : Addr) (c : Int) : Sp := fun vs H Q _ => SpEnterP C c vs H Q
inductive SpWhereP (C : Addr) (vs : List V) (H : Hp) (Q : VK) : Prop
  | mk (p : Addr) (v : V) (L : PlL) (st : PlS) (i : Nat) (pl : Place) (h1 : vs = [.ref p, .int i]) (h2 : PlayAt C H p v L st) (h3 : st.pla[i]? = some pl) (h4 : ∀ (t : Addr), H t = some (.tup (plV pl)) → Q (.ref t) H) : SpWhereP C vs H Q
def spWhere (C : Addr) : Sp := fun vs H Q _ => SpWhereP C vs H Q
inductive SpTurnP (C : Addr) (vs : List V) (H : Hp) (Q : VK) : Prop
  | mk (p : Addr) (v : V) (wide : Int) (ws : List (Int × Int)) (L : PlL) (st : PlS) (k : Nat) (h1 : vs = [.ref p, .int k]) (h2 : NetOk H v wide ws) (h3 : PlayAt C H p v L st) (h4 : st.fac.length = ws.length) (h5 : k < ws.length) (h6 : ∀ H', PlayAt C H' p v L (turnM ws st k) → KpL L H H' → Q .non H') : SpTurnP C vs H Q
def spTurn (C : Addr) : Sp := fun vs H Q _ => SpTurnP C vs H Q
inductive SpPassP (C : Addr) (vs : List V) (H : Hp) (Q : VK) : Prop
  | mk (p : Addr) (v : V) (wide : Int) (ws : List (Int × Int)) (L : PlL) (st : PlS) (k : Nat) (c : Int) (h1 : vs = [.ref p, .int k, .int c]) (h2 : NetOk H v wide ws) (h3 : PlayAt C H p v L st) (h4 : st.fac.length = ws.length) (h5 : k < ws.length) (h6 : ∀ (t : Addr) (H' : Hp), PlayAt C H' p v L (turnM ws st k) → KpL L H H' → H' t = some (.tup (plV (placeM ws (passL ws st k c) (k + 1)))) → Q (.ref t) H') : SpPassP C vs H Q
def spPass (C : Addr) : Sp := fun vs H Q _ => SpPassP C vs H Q
inductive SpLeaveP (C : Addr) (vs : List V) (H : Hp) (Q : VK) : Prop
  | mk (p : Addr) (v : V) (wide : Int) (ws : List (Int × Int)) (L : PlL) (st : PlS) (l c : Int) (h1 : vs = [.ref p, .int l, .int c]) (h2 : NetOk H v wide ws) (h3 : PlayAt C H p v L st) (h4 : st.tal.length = wide.toNat) (h5 : 0 ≤ l) (h6 : l < wide) (h7 : ∀ (t : Addr) (H' : Hp), PlayAt C H' p v L (leaveM st l c) → KpL L H H' → H' t = some (.tup (plV (.out l (leaveN wide st l c)))) → Q (.ref t) H') : SpLeaveP C vs H Q
def spLeave (C : Addr) : Sp := fun vs H Q _ => SpLeaveP C vs H Q
inductive SpStepP (C : Addr) (vs : List V) (H : Hp) (Q : VK) : Prop
  | mk (p : Addr) (v : V) (wide : Int) (ws : List (Int × Int)) (L : PlL) (st : PlS) (i : Nat) (pl : Place) (h1 : vs = [.ref p, .int i]) (h2 : NetOk H v wide ws) (h3 : PlayAt C H p v L st) (h4 : Wf wide ws st) (h5 : st.pla[i]? = some pl) (h6 : isOut pl = false) (h7 : ∀ (t : Addr) (H' : Hp), PlayAt C H' p v L (stepS wide ws st i pl) → KpL L H H' → H' t = some (.tup (plV (stepP wide ws st i pl))) → Q (.ref t) H') : SpStepP C vs H Q
def spStep (C : Addr) : Sp := fun vs H Q _ => SpStepP C vs H Q
inductive SpCountsPP (C : Addr) (vs : List V) (H : Hp) (Q : VK) : Prop
  | mk (p : Addr) (v : V) (L : PlL) (st : PlS) (h1 : vs = [.ref p]) (h2 : PlayAt C H p v L st) (h3 : ∀ (a : Addr) (H' : Hp), H a = none → Same H H' → H' a = some (.lst (st.tal.map V.int)) → Q (.ref a) H') : SpCountsPP C vs H Q
def spCountsP (C : Addr) : Sp := fun vs H Q _ => SpCountsPP C vs H Q
end Ep
namespace L2
open PySem PySem.Spec PyProof.Rows
end L2
namespace Ep
open PySem L2 PySem.SeqAt
inductive SpLComeInP (C : Addr) (vs : List V) (H : Hp) (Q : VK) : Prop
  | mk (p : Addr) (v : V) (wide : Int) (ws : List (Int × Int)) (L : PlL) (st : PlS) (lane bk : Int) (h1 : vs = [.ref p, .int lane, .int bk]) (h2 : NetOk H v wide ws) (h3 : PlayAt C H p v L st) (h4 : Wf wide ws st) (h5 : 0 ≤ lane) (h6 : lane < wide) (h7 : (bk = 0 ∨ bk = 1)) (h8 : ∀ H', PlayAt C H' p v L (enterM ws st lane (1 - 2 * bk)) → KpL L H H' → Q (.int st.pla.length) H') : SpLComeInP C vs H Q
def spLComeIn (C : Addr) : Sp := fun vs H Q _ => SpLComeInP C vs H Q
end Ep
namespace Ep
open PySem L2 PySem.SeqAt
theorem start_wf {wide : Int} {ws : List (Int × Int)} : Wf wide ws (startM wide ws) where
  fl := by simp [startM]
  tl := by simp [startM]
  cl := rfl
  ml := by simp [startM]
  fs := fun k w h => by
    refine .inl ?_
    show (ws.map (·.1)).getD k 0 = w.1
    simp [List.getD, h]
  cs := fun i hi => absurd hi (by simp [startM])
  ps := fun pl h => by simp [startM] at h
theorem placeM_ok {wide : Int} {ws : List (Int × Int)} {l : Int} {s : Nat} (h0 : 0 ≤ l) (h1 : l < wide) : match placeM ws l s with | .before k l => k < ws.length ∧ 0 ≤ l ∧ l < wide | .exit l => 0 ≤ l ∧ l < wide | .out _ _ => True := by
  cases e : placeM ws l s with
  | before k l' =>
    obtain ⟨_, a, _, b⟩ := placeM_before e
    exact ⟨a, by (first | lia | omega), by (first | lia | omega)⟩
  | exit l' =>
    have := placeF_exit e
    exact ⟨by (first | lia | omega), by (first | lia | omega)⟩
  | out l' n' => trivial
theorem enter_wf {wide : Int} {ws : List (Int × Int)} {st : PlS} {lane c : Int} (wf : Wf wide ws st) (h0 : 0 ≤ lane) (h1 : lane < wide) (hc : c = 1 ∨ c = -1) (hm : st.pla.length < 400) : Wf wide ws (enterM ws st lane c) where
  fl := wf.fl
  tl := wf.tl
  cl := by have := wf.cl; simp [enterM]; (first | lia | omega)
  ml := by simp [enterM]; (first | lia | omega)
  fs := wf.fs
  cs := fun i hi => by
    have hi' : i < st.chg.length + 1 := by simpa [enterM] using hi
    show (st.chg ++ [c]).getD i 0 = 1 ∨ (st.chg ++ [c]).getD i 0 = -1
    by_cases z : i < st.chg.length
    · rw [getD_app z]; exact wf.cs i z
    · have e : i = st.chg.length := by (first | lia | omega)
      subst e
      rw [getD_last]; exact hc
  ps := fun pl h => by
    rcases List.mem_append.mp h with z | z
    · exact wf.ps pl z
    · have e : pl = placeM ws lane 0 := by simpa using z
      subst e
      exact placeM_ok h0 h1
theorem otherL_or {w : Int × Int} (f : Int) : otherL w f = w.1 ∨ otherL w f = w.2 := by
  unfold otherL
  split
  · exact .inr rfl
  · exact .inl rfl
theorem turn_wf {wide : Int} {ws : List (Int × Int)} {st : PlS} {k : Nat} (wf : Wf wide ws st) : Wf wide ws (turnM ws st k) where
  fl := by show (st.fac.set k _).length = _; rw [List.length_set]; exact wf.fl
  tl := wf.tl
  cl := wf.cl
  ml := wf.ml
  fs := fun j w h => by
    have jl : j < ws.length := (List.getElem?_eq_some_iff.mp h).1
    show (st.fac.set k _).getD j 0 = w.1 ∨ (st.fac.set k _).getD j 0 = w.2
    by_cases c : k < st.fac.length
    · rw [getD_set c]
      by_cases e : j = k
      · rw [if_pos e, ← e, show wAt ws j = w by simp [wAt, List.getD, h]]
        exact otherL_or _
      · rw [if_neg e]; exact wf.fs j w h
    · rw [List.set_eq_of_length_le (by (first | lia | omega))]; exact wf.fs j w h
  cs := wf.cs
  ps := wf.ps
theorem leave_wf {wide : Int} {ws : List (Int × Int)} {st : PlS} {l c : Int} (wf : Wf wide ws st) : Wf wide ws (leaveM st l c) where
  fl := wf.fl
  tl := by show (st.tal.set _ _).length = _; rw [List.length_set]; exact wf.tl
  cl := wf.cl
  ml := wf.ml
  fs := wf.fs
  cs := wf.cs
  ps := wf.ps
theorem putP_wf {wide : Int} {ws : List (Int × Int)} {st : PlS} {i : Nat} {pl : Place} (wf : Wf wide ws st) (h : match pl with | .before k l => k < ws.length ∧ 0 ≤ l ∧ l < wide | .exit l => 0 ≤ l ∧ l < wide | .out _ _ => True) : Wf wide ws (putP st i pl) where
  fl := wf.fl
  tl := wf.tl
  cl := by show _ = (st.pla.set i pl).length; rw [List.length_set]; exact wf.cl
  ml := by show (st.pla.set i pl).length ≤ _; rw [List.length_set]; exact wf.ml
  fs := wf.fs
  cs := wf.cs
  ps := fun q hq => by
    rcases List.mem_or_eq_of_mem_set hq with z | z
    · exact wf.ps q z
    · subst z; exact h
theorem pass_ok {wide : Int} {ws : List (Int × Int)} {st : PlS} {k : Nat} {c : Int} (ok : WOk wide ws) (wf : Wf wide ws st) (hk : k < ws.length) : 0 ≤ passL ws st k c ∧ passL ws st k c < wide := by
  have hw : ws[k]? = some ws[k] := by simp [hk]
  obtain ⟨o1, o2, o3, o4, o5⟩ := WOk.mem ok hw
  have ew : wAt ws k = ws[k] := by simp [wAt, List.getD, hw]
  unfold passL
  rw [ew]
  split
  · rcases wf.fs k _ hw with h | h <;> rw [h] <;> (first | lia | omega)
  · rcases otherL_or (w := ws[k]) (st.fac.getD k 0) with h | h <;> rw [h] <;> (first | lia | omega)
theorem step_wf {wide : Int} {ws : List (Int × Int)} {st : PlS} {i : Nat} {pl : Place} (ok : WOk wide ws) (wf : Wf wide ws st) (h : st.pla[i]? = some pl) : Wf wide ws (stepS wide ws st i pl) := by
  have hp := wf.ps pl (List.mem_of_getElem? h)
  cases pl with
  | before k l => exact putP_wf (turn_wf wf) (by obtain ⟨a, b⟩ := pass_ok (c := st.chg.getD i 0) ok wf hp.1; exact placeM_ok a b)
  | exit l => exact putP_wf (leave_wf wf) trivial
  | out l n => exact wf
end Ep
namespace Ep
open PySem L2
theorem eqV_int (u v : Int) : eqV (.int u) (.int v) = decide (v = u) := by
  by_cases h : u = v
  · subst h; simp [eqV]
  · have h' : ¬ v = u := fun z => h z.symm
    simp [eqV, h, h']
theorem inV_ints (a : Int) : ∀ ns : List Int, inV (.int a) (ns.map V.int) = decide (a ∈ ns)
  | [] => by simp [inV]
  | n :: r => by
    show (eqV (.int n) (.int a) || inV (.int a) (r.map V.int)) = _
    rw [eqV_int, inV_ints a r]
    by_cases h : a = n <;> by_cases g : a ∈ r <;> simp [h, g]
end Ep
namespace Ep
open PySem L2 PySem.SeqAt
theorem dats_refs {H : Hp} : ∀ {rs : List V} {ws : List (Int × Int)}, Refs H rs ws → Dats H rs (ws.map fun x => PyData.tuple [.int x.1, .int x.2])
  | _, _, .nil => .nil
  | _, _, .cons ⟨t, e, h⟩ r => by
    subst e
    exact .cons (.tup h (.cons (.int _) (.cons (.int _) .nil))) (dats_refs r)
theorem lay_pairs : ∀ ws : List (Int × Int), PyData.canLayAll0 (ws.map fun x => PyData.tuple [.int x.1, .int x.2]) = true ∧ PyData.depthAll (ws.map fun x => PyData.tuple [.int x.1, .int x.2]) ≤ 5
  | [] => by simp [PyData.canLayAll0, PyData.depthAll]
  | w :: r => by
    obtain ⟨a, b⟩ := lay_pairs r
    constructor
    · simp [PyData.canLayAll0, PyData.canLay0, a]
    · simp only [List.map_cons, PyData.depthAll, PyData.depth]
      (first | lia | omega)
end Ep

namespace Ep
open PySem L2 PySem.SeqAt
def KpS (S : List Addr) (H H' : Hp) : Prop := ∀ b o, H b = some o → b ∉ S → H' b = some o
theorem KpS.upd {S : List Addr} {H : Hp} {x : Addr} {o : HO} (h : x ∈ S) : KpS S H (upd H x o) := fun b _ e n => (upd_ne (fun z => n (by rw [z]; exact h))).trans e
theorem KpS.kpl {S : List Addr} {L : PlL} {H H' : Hp} (k : KpL L H H') (h1 : L.lf ∈ S) (h2 : L.lt ∈ S) (h3 : L.lp ∈ S) (h4 : L.lc ∈ S) : KpS S H H' := fun b o e n => k b o e (fun z => n (z ▸ h1)) (fun z => n (z ▸ h2)) (fun z => n (z ▸ h3)) (fun z => n (z ▸ h4))
structure Sts where
  sa : Addr
  a0 : Addr
  a1 : Addr
  a2 : Addr
def Sts.own (A : Sts) : List Addr := [A.sa, A.a0, A.a1, A.a2]
def PlL.own (L : PlL) (p : Addr) : List Addr := [p, L.lf, L.lt, L.lp, L.lc]
def Dj (S T : List Addr) : Prop := ∀ x ∈ S, x ∉ T
def WkAt (H : Hp) (r : V) (x : Int × Place) : Prop := ∃ t u, r = .ref t ∧ H t = some (.tup [.int x.1, .ref u]) ∧ H u = some (.tup (plV x.2))
def z1 (w : Int × Int) (f : Int) : Int := if f = w.1 then 0 else 1
def zOf (ws : List (Int × Int)) (fac : List Int) : List Int := List.zipWith z1 ws fac
structure StAt (ws : List (Int × Int)) (H : Hp) (A : Sts) (st : PlS) : Prop where
  hs : H A.sa = some (.lst [.ref A.a0, .ref A.a1, .ref A.a2])
  h0 : H A.a0 = some (.lst ((zOf ws st.fac).map V.int))
  h1 : H A.a1 = some (.lst (st.tal.map V.int))
  h2 : ∃ rs, H A.a2 = some (.lst rs) ∧ Paired (WkAt H) rs (st.chg.zip st.pla)
  s0 : A.sa ≠ A.a0
  s1 : A.sa ≠ A.a1
  s2 : A.sa ≠ A.a2
  n01 : A.a0 ≠ A.a1
  n02 : A.a0 ≠ A.a2
  n12 : A.a1 ≠ A.a2
theorem PlayAt.keep {C p : Addr} {v : V} {L : PlL} {st : PlS} {H H' : Hp} {S : List Addr} (P : PlayAt C H p v L st) (k : KpS S H H') (kt : KT H H') (d : Dj (L.own p) S) : PlayAt C H' p v L st :=
  let ⟨rs, a, b⟩ := P.pl
  ⟨k _ _ P.ob (d _ (by simp [PlL.own])), k _ _ P.fa (d _ (by simp [PlL.own])), k _ _ P.ta (d _ (by simp [PlL.own])), ⟨rs, k _ _ a (d _ (by simp [PlL.own])), Paired.mapP b fun _ _ z => z.kt kt⟩, k _ _ P.ch (d _ (by simp [PlL.own])), P.ft, P.fp, P.fc, P.tp, P.tc, P.pc⟩
theorem StAt.kt {ws : List (Int × Int)} {H H' : Hp} {A : Sts} {st : PlS} (P : StAt ws H A st) (k : KpS A.own H H') : KT H H' := fun b xs e => by
  obtain ⟨rs, a, _⟩ := P.h2
  refine k b _ e fun z => ?_
  simp only [Sts.own, List.mem_cons, List.not_mem_nil, or_false] at z
  rcases z with z | z | z | z
  · exact ne3 e P.hs z
  · exact ne3 e P.h0 z
  · exact ne3 e P.h1 z
  · exact ne3 e a z
theorem PlayAt.live {C p : Addr} {v : V} {L : PlL} {st : PlS} {H : Hp} (P : PlayAt C H p v L st) : ∀ x ∈ L.own p, H x ≠ none := fun x hx z => by
  obtain ⟨rs, a, _⟩ := P.pl
  simp only [PlL.own, List.mem_cons, List.not_mem_nil, or_false] at hx
  rcases hx with rfl | rfl | rfl | rfl | rfl
  · rw [P.ob] at z; cases z
  · rw [P.fa] at z; cases z
  · rw [P.ta] at z; cases z
  · rw [a] at z; cases z
  · rw [P.ch] at z; cases z
theorem step_len {wide : Int} {ws : List (Int × Int)} {st : PlS} {i : Nat} {pl : Place} : (stepS wide ws st i pl).pla.length = st.pla.length := by
  cases pl with
  | before k l => show (st.pla.set _ _).length = _; rw [List.length_set]
  | exit l => show (st.pla.set _ _).length = _; rw [List.length_set]
  | out l n => rfl
theorem step_at {wide : Int} {ws : List (Int × Int)} {st : PlS} {i : Nat} {pl : Place} (h : st.pla[i]? = some pl) : (stepS wide ws st i pl).pla[i]? = some (stepP wide ws st i pl) := by
  have il := (List.getElem?_eq_some_iff.mp h).1
  cases pl with
  | before k l => show (st.pla.set _ _)[i]? = _; rw [List.getElem?_set_self il]
  | exit l => show (st.pla.set _ _)[i]? = _; rw [List.getElem?_set_self il]
  | out l n => exact h
inductive SpWholeListP (vs : List V) (H : Hp) (Q : VK) : Prop
  | mk (a b : Addr) (ns : List Int) (h1 : vs = [.ref a, .ref b]) (h2 : H a = some (.lst (ns.map V.int))) (h3 : H b = some (.lst (ns.map V.int))) (h4 : ns.length ≤ 1000) (h5 : ∀ H', Same H H' → Q (.bl true) H') : SpWholeListP vs H Q
def spWholeList : Sp := fun vs H Q _ => SpWholeListP  vs H Q
end Ep
namespace Ep
open PySem L2 PySem.SeqAt
theorem Kp.fresh {H H' : Hp} {p : Addr} {o : HO} (f : H p = none) (k : Kp p (upd H p o) H') : Same H H' := fun b x e => k b x (same_new f o b x e) (ne_of_none e f)
theorem own_mem {L : PlL} {p x : Addr} : x ∈ L.own p ↔ x = p ∨ x = L.lf ∨ x = L.lt ∨ x = L.lp ∨ x = L.lc := by simp [PlL.own]
end Ep
namespace L2
open PySem
section
variable {X : Cx} (K : PySem.W.Frag) (hK : X.K = K) {tg : Expr}
include hK
end
end L2

namespace Ep
open PySem L2 PySem.SeqAt
def Vf (ws : List (Int × Int)) (e : Int → Int) (P : Nat → Int) : Nat → Int → Int
  | 0, x => e x
  | k + 1, x => if x = (wAt ws k).1 then (P k + 1) / 2 else if x = (wAt ws k).2 then P k / 2 else Vf ws e P k x
def sumC (p : Place → Bool) : List Int → List Place → Int
  | c :: cs, pl :: ps => (if p pl then c else 0) + sumC p cs ps
  | _, _ => 0
def isB (k : Nat) : Place → Bool
  | .before j _ => decide (j = k)
  | _ => false
def isX (l : Int) : Place → Bool
  | .exit x => decide (x = l)
  | _ => false
structure Flow (wide : Int) (ws : List (Int × Int)) (st : PlS) (e : Int → Int) (P : Nat → Int) : Prop where
  fa : ∀ k w, ws[k]? = some w → st.fac.getD k 0 = if P k % 2 = 0 then w.1 else w.2
  pa : ∀ k, k < ws.length → P k = Vf ws e P k (wAt ws k).1 + Vf ws e P k (wAt ws k).2 - sumC (isB k) st.chg st.pla
  ta : ∀ l, 0 ≤ l → l < wide → st.tal.getD l.toNat 0 = Vf ws e P ws.length l - sumC (isX l) st.chg st.pla
def clear (ws : List (Int × Int)) (l : Int) (s k : Nat) : Prop := ∀ j, s ≤ j → j < k → hasL (wAt ws j) l = false
theorem place_spec (ws : List (Int × Int)) (l : Int) : ∀ (n s : Nat), (placeF ws l n s = .exit l ∧ clear ws l s (s + n)) ∨ ∃ k, placeF ws l n s = .before k l ∧ s ≤ k ∧ k < s + n ∧ hasL (wAt ws k) l = true ∧ clear ws l s k
  | 0, s => .inl ⟨rfl, fun j a b => by (first | lia | omega)⟩
  | n + 1, s => by
    unfold placeF
    by_cases c : hasL (wAt ws s) l = true
    · rw [if_pos c]
      exact .inr ⟨s, rfl, Nat.le_refl _, by (first | lia | omega), c, fun j a b => by (first | lia | omega)⟩
    · rw [if_neg c]
      have c' : hasL (wAt ws s) l = false := by simpa using c
      rcases place_spec ws l n (s + 1) with ⟨a, b⟩ | ⟨k, a, b, d, e, f⟩
      · refine .inl ⟨a, fun j h1 h2 => ?_⟩
        by_cases z : j = s
        · rw [z]; exact c'
        · exact b j (by (first | lia | omega)) (by (first | lia | omega))
      · refine .inr ⟨k, a, by (first | lia | omega), by (first | lia | omega), e, fun j h1 h2 => ?_⟩
        by_cases z : j = s
        · rw [z]; exact c'
        · exact f j (by (first | lia | omega)) h2
theorem placeM_spec (ws : List (Int × Int)) (l : Int) {s : Nat} (hs : s ≤ ws.length) : (placeM ws l s = .exit l ∧ clear ws l s ws.length) ∨ ∃ k, placeM ws l s = .before k l ∧ s ≤ k ∧ k < ws.length ∧ hasL (wAt ws k) l = true ∧ clear ws l s k := by
  have h := place_spec ws l (ws.length - s) s
  rw [show s + (ws.length - s) = ws.length by (first | lia | omega)] at h
  exact h
-- one more on lane l from level s on, and its place
end Ep
namespace L2
open PySem PySem.Spec PyProof.Rows
theorem while_m {c : TT} {tb : TS} {D : Ends} {σ : St} {H : Hp} (Pv : Nat → St → Hp → Prop) (m0 : Nat) (h0 : Pv m0 σ H)
    (hs : ∀ m σ H, Pv m σ H → c σ H fun b H1 => if b = true then tb { D with nx := fun σ' H' => ∃ m', m' < m ∧ Pv m' σ' H', ct := fun σ' H' => ∃ m', m' < m ∧ Pv m' σ' H', bk := D.nx } σ H1 else D.nx σ H1)
    (mono : ∀ σ H Q Q', (∀ b H1, Q b H1 → Q' b H1) → c σ H Q → c σ H Q') : tWhile c tb D σ H := by
  refine ⟨Pv, ⟨m0, h0⟩, ?_⟩
  rintro m σ H p
  refine mono σ H _ _ (fun b H1 q => ?_) (hs m σ H p)
  cases b with
  | true => exact ⟨_, fun σ' H' z => z, q⟩
  | false => exact q
end L2
namespace Ep
open PySem L2 PySem.SeqAt
inductive Run (wide : Int) (ws : List (Int × Int)) (i : Nat) : PlS → PlS → Prop
  | done {st : PlS} {pl : Place} : st.pla[i]? = some pl → isOut pl = true → Run wide ws i st st
  | more {st st' : PlS} {pl : Place} : st.pla[i]? = some pl → isOut pl = false → Run wide ws i (stepS wide ws st i pl) st' → Run wide ws i st st'
theorem step_other {wide : Int} {ws : List (Int × Int)} {st : PlS} {i j : Nat} {pl : Place} (h : j ≠ i) : (stepS wide ws st i pl).pla[j]? = st.pla[j]? := by
  cases pl with
  | before k l => show (st.pla.set _ _)[j]? = _; rw [List.getElem?_set_ne (Ne.symm h)]
  | exit l => show (st.pla.set _ _)[j]? = _; rw [List.getElem?_set_ne (Ne.symm h)]
  | out l n => rfl
theorem Run.other {wide : Int} {ws : List (Int × Int)} {i : Nat} {st a : PlS} (h : Run wide ws i st a) : (∀ j, j ≠ i → a.pla[j]? = st.pla[j]?) ∧ a.pla.length = st.pla.length ∧ ∃ pl, a.pla[i]? = some pl ∧ isOut pl = true := by
  induction h with
  | done e o => exact ⟨fun _ _ => rfl, rfl, _, e, o⟩
  | more e o _ ih =>
    obtain ⟨a, b, c⟩ := ih
    refine ⟨fun j hj => ?_, ?_, c⟩
    · rw [a j hj, step_other hj]
    · rw [b, step_len]
theorem Run.wf {wide : Int} {ws : List (Int × Int)} {i : Nat} {st a : PlS} (ok : WOk wide ws) (h : Run wide ws i st a) : Wf wide ws st → Wf wide ws a := by
  induction h with
  | done _ _ => exact fun w => w
  | more e o _ ih => exact fun w => ih (step_wf ok w e)
def muPl (n : Nat) : Place → Nat
  | .before k _ => n + 2 - k
  | .exit _ => 1
  | .out _ _ => 0
theorem muPl_step {wide : Int} {ws : List (Int × Int)} {st : PlS} {i : Nat} {pl : Place} (wf : Wf wide ws st) (h : st.pla[i]? = some pl) (no : isOut pl = false) : muPl ws.length (stepP wide ws st i pl) < muPl ws.length pl := by
  have hp := wf.ps pl (List.mem_of_getElem? h)
  cases pl with
  | before k l =>
    have hk := hp.1
    show muPl ws.length (placeM ws (passL ws st k (st.chg.getD i 0)) (k + 1)) < ws.length + 2 - k
    rcases placeM_spec ws (passL ws st k (st.chg.getD i 0)) (s := k + 1) (by (first | lia | omega)) with ⟨a, _⟩ | ⟨k', a, b, c, _⟩
    · rw [a]; show 1 < _; (first | lia | omega)
    · rw [a]; show ws.length + 2 - k' < _; (first | lia | omega)
  | exit l => show 0 < 1; (first | lia | omega)
  | out l n => simp [isOut] at no
end Ep
namespace Ep
open PySem L2 PySem.SeqAt
section
variable {C : Addr} {H H' : Hp} {p : Addr} {v : V} {wide : Int} {ws : List (Int × Int)} {L : PlL} {A : Sts} {st : PlS} {en : Addr} {cs : List Int}
theorem KpL.own {H H' : Hp} {L : PlL} {p : Addr} (k : KpL L H H') : KpS (L.own p) H H' := KpS.kpl k (by simp [PlL.own]) (by simp [PlL.own]) (by simp [PlL.own]) (by simp [PlL.own])
end
end Ep

namespace L2
open PySem PySem.Spec PyProof.Rows
section
variable {prog : Program} {w : World} {A : Around} {s : Shared}
end
section
variable {X : Cx}
theorem vals_app2 : ∀ {xs ys : List V} {us vs : List Value}, Vals xs us → Vals ys vs → Vals (xs ++ ys) (us ++ vs)
  | _, _, _, _, .nil, s => s
  | _, _, _, _, .cons r t, s => .cons r (vals_app2 t s)
theorem rev_vals {xs : List V} {us : List Value} (r : Vals xs us) : Vals xs.reverse us.reverse := by
  induction r with
  | nil => exact .nil
  | cons a b ih =>
    rw [List.reverse_cons, List.reverse_cons]
    exact vals_app2 ih (.cons a .nil)
end
end L2

namespace L2
open PySem PySem.Spec PyProof.Rows
variable {X : Cx}
theorem vals_of_ints : ∀ {us : List Value} {ns : List Int}, IntsAre us ns → Vals (ns.map V.int) us
  | _, _, .nil => .nil
  | _, _, .cons n t h => .cons ⟨t, rfl⟩ (vals_of_ints h)
inductive P_call_sortedL (K : PySem.W.Frag) (xs : List V) (H : Hp) (Q : VK) : Prop
  | mk (p : Addr) (ns : List Int) (h1 : xs = [.ref p]) (h2 : SqL K H p (ns.map V.int)) (h3 : ns.length < 64) (h4 : ∀ (l : Addr) (ns' : List Int), H l = none → ns'.Perm ns → ns'.Pairwise (· ≤ ·) → Q (.ref l) (upd H l (.lst (ns'.map V.int)))) : P_call_sortedL K xs H Q
theorem call_sortedL : CallR X (.builtin "sorted") (P_call_sortedL X.K) := by
  intro pins s σ H xs us Q I r h
  obtain ⟨p, ns, rfl, hp, h64, q⟩ := h
  obtain ⟨u, rfl, ru⟩ := r.one
  cases ru
  obtain ⟨its, rv, pl, hz⟩ := I.list hp
  have hl := rv.length
  rw [List.length_map] at hl
  refine sorted_ints pl.isList (intsAre_of rv) (by (first | lia | omega)) fun out ns' a1 a2 a3 => ?_
  obtain ⟨e, he⟩ := sortedAll_at s.heap its out
  have l2 := a2.length_eq
  refine ⟨.ref (s.heap.objs.size + 1), upd H (s.heap.objs.size + 1) (.lst (ns'.map V.int)), I.laid (t' := s.toks) (fun b o e => sortedAll_old e) (Nat.le_succ _) ⟨?_, out.toList, e, vals_of_ints a1, ?_⟩, rfl, q _ ns' (I.hok.fresh (Nat.le_succ _)) a2 a3⟩
  · rw [List.length_map]
    exact Nat.le_of_lt (small1000 (by (first | lia | omega)))
  · rw [Array.toArray_toList]
    exact he
theorem pe_sliceRev {e st : Expr} {te ts : TE} {p2 pos : Pos} (he : PE X e te) (hs : PE X st ts) :
    PE X (.Subscript e (.Slice none none (some st) p2) pos) (fun σ H Q => te σ H fun x H1 => ts σ H1 fun y H2 => ∃ a xs, x = .ref a ∧ y = .int (-1) ∧ SqL X.K H2 a xs ∧ ∀ l, H2 l = none → Q (.ref l) (upd H2 l (.lst xs.reverse))) := by
  intro pins s σ H Q I h
  refine Subscript_ (thn (he pins s σ H _ I h) fun v s1 ⟨x, H1, I1, r1, q1⟩ => ?_)
  refine wpAny_Slice ?_
  rw [evalPart_none]
  refine wpAny_pure ?_
  refine wpAny_pure ?_
  rw [evalPart_some]
  refine thn (hs pins s1 σ H1 _ I1 q1) fun vst s3 ⟨y, H3, I3, r3, q3⟩ => ?_
  obtain ⟨a, xs, rfl, rfl, hq, q⟩ := q3
  cases r1
  obtain ⟨tk, rfl⟩ := r3
  have I4 : Inv X pins σ H3 { s3 with heap := s3.heap.push { cls := .type "slice", data := .fields #[.none, .none, .int (-1) tk] } } := I3.kept (t' := s3.toks) fun b ob q => Heap.get?_push_of_some _ q
  obtain ⟨its, r, ht, hz⟩ := I4.list hq
  have hlen := r.length
  show wpAny (model X.prog X.w) X.A (subscriptTail e (.Slice none none (some st) p2) (.ref a) (.ref s3.heap.objs.size)) (EP X pins σ Q) X.xe { s3 with heap := s3.heap.push { cls := .type "slice", data := .fields #[.none, .none, .int (-1) tk] } }
  refine tail_any (ops := [.ref a, .ref s3.heap.objs.size]) ht.isList.typeIs slot_list_getitem.lookup ?_ (by with_unfolding_all rfl)
  refine wpAny_getItem_list_slice ht.isList (Heap.IsSliceOf.new ..) .none .none (.int (-1) tk) (by simp) ?_ (by rw [List.size_toArray] <;> (first | lia | omega))
  rw [PySem.W.krv_pick]
  refine ⟨.ref _, _, I4.laid (t' := s3.toks) (o := .lst xs.reverse) (fun b ob q => Heap.get?_push_of_some _ q) (Nat.le_refl _) ?_, rfl, q _ (I4.hok.fresh (Nat.le_refl _))⟩
  exact ⟨by rw [List.length_reverse]; exact hz, _, 0, rev_vals r, Heap.get?_push_size _ rfl⟩
end L2
namespace Ep
open PySem L2 PySem.SeqAt
end Ep
namespace L2
open PySem
theorem seq_gen {a b : TS} {D : Ends} {σ : St} {H : Hp} (h : ∀ N : St → Hp → Prop, (∀ σ H, b D σ H → N σ H) → a { D with nx := N } σ H) : tSeq a b D σ H := h (b D) (fun _ _ z => z)
end L2

namespace L2
open PySem PySem.Spec PyProof.Rows
variable {X : Cx}
end L2
namespace Ep
open PySem L2 PySem.SeqAt
end Ep

namespace L2
open PySem PySem.Spec PyProof.Rows
end L2
namespace Ep
open PySem L2 PySem.SeqAt
end Ep

namespace Ep
open PySem L2 PySem.SeqAt
def meets (w o : Int × Int) : Bool := (o.1 == w.1 || o.1 == w.2) || (o.2 == w.1 || o.2 == w.2)
def lastW (p : Int × Int → Bool) (l : List (Int × Int)) : Option (Int × Int) := l.foldl (fun acc o => if p o then some o else acc) none
def idle (k : List (Int × Int)) (w : Int × Int) : Prop := lastW (meets w) k = some w
instance (k : List (Int × Int)) (w : Int × Int) : Decidable (idle k w) := by unfold idle; infer_instance
end Ep
namespace Ep
open PySem L2 PySem.SeqAt
end Ep

namespace Ep
open PySem L2 PySem.SeqAt
end Ep
namespace Ep
open PySem L2 PySem.SeqAt
end Ep

namespace Ep
open PySem L2
end Ep
namespace Ep
open PySem L2
end Ep

namespace Ep
open PySem L2 PySem.SeqAt
end Ep
namespace Ep
open PySem L2
end Ep
namespace Ep
open PySem L2 PySem.SeqAt
end Ep

namespace Ep
open PySem L2 PySem.SeqAt
end Ep

namespace L2
open PySem PySem.Spec PyProof.Rows
section
variable {P : Program} {w : World} {A : Around} {E : Value → Shared → Prop} {s : Shared}
end
section
variable {X : Cx} {elts : List Expr} {kk : Nat} {ps : Pos}
end
end L2

namespace L2
open PySem PySem.Spec PyProof.Rows
section
variable {P : Program} {w : World} {K : PySem.W.Frag} {mg : Str → Option Value} {base : Heap} {N : List Str} {qual : Str} {scope : Scope} {f : Addr} {cd : Value} {A : Around} {outer : List Env} {s₀ : Shared} {H₀ : Hp} {E : XK}
  {pins : List (Addr × Obj)} {σ : St} {H : Hp} {s : Shared}
end
end L2

namespace L2
open PySem PySem.Spec PyProof.Rows
section
variable {P : Program} {w : World} {K : PySem.W.Frag} {mg : Str → Option Value} {base : Heap} {N : List Str} {qual : Str} {scope : Scope} {f : Addr} {cd : Value} {A : Around} {outer : List Env} {s₀ : Shared} {H₀ : Hp} {E : XK}
end
section
variable {X : Cx} {pins : List (Addr × Obj)} {σ : St} {H H' : Hp} {s s' : Shared} {B h5 : Heap} {ea : Addr} {cls a0 : Value}
end
section
variable {X : Cx}
end
end L2

namespace L2
open PySem PySem.Spec PyProof.Rows PySem.W Builtin Builtin.ObjectAttr Builtin.Getset_descriptor
section
variable {prog : Program} {w : World} {A : Around} {E : Value → Shared → Prop} {K : PySem.W.Frag} {x C : Addr} {s : Shared}
end
end L2

namespace L2
open PySem PySem.Spec PyProof.Rows
section
variable {X : Cx} {pins : List (Addr × Obj)} {σ : St} {H : Hp} {s : Shared}
end
section
variable {X : Cx}
end
end L2

namespace L2
open PySem PySem.Spec PyProof.Rows
variable {X : Cx}
end L2

namespace L2
open PySem PySem.Spec PyProof.Rows
variable {X : Cx}
end L2
namespace Ep
open PySem L2 PySem.SeqAt
end Ep

namespace L2
open PySem PySem.Spec PyProof.Rows
end L2

namespace L2
open PySem PySem.Spec PyProof.Rows PyProof.V PySem.SeqAt
section
variable {X : Cx}
end
end L2
namespace Ep
open PySem L2 PySem.SeqAt PySem.Spec PyProof.Rows
end Ep

namespace L2
open PySem PySem.Spec PyProof.Rows
section
variable {X : Cx} {tg : Expr}
end
end L2

namespace L2
open PySem PySem.Spec PyProof.Rows
def n2 (a b : Int) : Nat := ((b - a + 1) / 2).toNat
section
variable {X : Cx} {tg : Expr}
end
end L2
namespace Ep
open PySem L2 PySem.SeqAt
inductive SpMakesP (vs : List V) (H : Hp) (Q : VK) : Prop
  | mk (wide : Int) (l : Addr) (ws : List (Int × Int)) (h1 : vs = [.int wide, .ref l]) (h2 : WsL H l ws) (h3 : 1 ≤ wide) (h4 : wide ≤ 8) (h5 : WOk wide ws) (h6 : ws.length ≤ 40) (h7 : ∀ H', Same H H' → Q (.bl true) H') : SpMakesP vs H Q
def spMakes : Sp := fun vs H Q _ => SpMakesP  vs H Q
end Ep
namespace L2
open PySem
end L2
namespace Ep
open PySem L2 PySem.SeqAt
end Ep

namespace L2
open PySem PySem.Spec PyProof.Rows
section
variable {P : Program} {w : World} {A : Around} {E : Value → Shared → Prop}
theorem draw_lst {it l : Addr} {ys : Array Value} (ne : l ≠ it) : ∀ (n i : Nat) (s : Shared) (Q : List Value → Shared → Prop), s.heap.IsListIter it l i → s.heap.IsList l ys → i + n ≤ ys.size →
    (∀ h', h'.IsListIter it l (i + n) → Heap.SameBut it s.heap h' → Q ((ys.toList.drop i).take n) { s with heap := h' }) → wpAny (model P w) A (draw (.ref it) n) Q E s
  | 0, i, s, Q, gi, _, _, q => show wpAny _ _ (pure []) Q E s from wpAny_pure (by simpa using q s.heap gi (Heap.SameBut.refl ..))
  | n + 1, i, s, Q, gi, gl, le, q => by
    have lt : i < ys.size := by (first | lia | omega)
    refine show wpAny _ _ (pyNext (.ref it) >>= _) Q E s from wpAny_bind (wpAny_pyNext_list_item gi gl (x := ys[i]) (by simp [lt]) fun h1 gi1 sb1 => ?_)
    refine wpAny_bind (wpAny_holding (draw_lst ne n (i + 1) _ _ gi1 (gl.extBut sb1.extBut ne) (by (first | lia | omega)) fun h2 gi2 sb2 => wpAny_pure ?_))
    have e : ys.toList.drop i = ys[i] :: ys.toList.drop (i + 1) := by simp [List.drop_eq_getElem_cons, lt]
    have z := q h2 (by rw [show i + (n + 1) = i + 1 + n by (first | lia | omega)]; exact gi2) (sb1.trans sb2)
    rw [e, List.take_succ_cons] at z
    exact z
variable {s : Shared}
theorem unpack_lst {l : Addr} {ys : Array Value} {Q : List Value → Shared → Prop} (hh : A.handled = none) (gl : s.heap.IsList l ys) (q : ∀ h', Heap.ExtBut s.heap.objs.size s.heap h' → Q ys.toList { s with heap := h' }) :
    wpAny (model P w) A (unpackItems (.ref l) ys.size none) Q E s := by
  have ne : l ≠ s.heap.objs.size := by obtain ⟨o, e, _⟩ := gl; exact Nat.ne_of_lt (Heap.lt_size e)
  have all : List.take ys.size (List.drop 0 ys.toList) = ys.toList := by rw [List.drop_zero]; exact List.take_of_length_le (by simp)
  unfold unpackItems
  refine wpAny_bind ?_
  unfold notIterableAtAll
  refine wpAny_bind (wpAny_specialOf gl.typeIs slot_list_iter.lookup (wpAny_pure ?_))
  simp only [Bool.false_eq_true, if_false]
  refine wpAny_bind (wpAny_holding (wpAny_pyIter_list gl ?_))
  refine wpAny_bind (wpAny_holding (draw_lst ne ys.size 0 _ _ ⟨_, Heap.get?_push_size _ rfl, rfl, rfl⟩ (gl.push _) (by (first | lia | omega)) fun h1 gi1 sb1 => ?_))
  rw [all, if_neg (by simp)]
  refine wpAny_bind (wpAny_holding (wpAny_pyNext_list_end hh gi1 ((gl.push _).extBut sb1.extBut ne) (by simp) fun h2 eb2 => ?_))
  simp only [Option.isSome_none, Bool.false_eq_true, if_false]
  exact wpAny_pure (q h2 fun b o hb e => eb2 b o hb (sb1.extBut b o hb (Heap.get?_push_of_some _ e)))
theorem assign_lst {env : Env} {es : List Expr} {k : Nat} {pos : Pos} {l : Addr} {ys : Array Value} {Q : Unit → Shared → Prop} (hh : A.handled = none) (gl : s.heap.IsList l ys) (hn : (assignEach es env).length = ys.size) (hs : (assignEach es env).findIdx? (·.1) = none)
    (q : ∀ h', Heap.ExtBut s.heap.objs.size s.heap h' → wpAny (model P w) A (assignInOrder ((assignEach es env).map (·.2)) ys.toList) Q E { s with heap := h' }) : wpAny (model P w) A (assign (.Tuple es k pos) env (.ref l)) Q E s := by
  rw [arm_assign_Tuple]
  refine wpAny_bind (wpAny_standAt ?_)
  unfold unpack
  rw [hn, hs]
  exact wpAny_bind (wpAny_holding (unpack_lst hh gl q))
end
section
variable {X : Cx} {pos : Pos}
def gLst (K : PySem.W.Frag) (n : Nat) (t : TGs) : TG := fun v σ H Q => ∃ a xs, v = .ref a ∧ SqL K H a xs ∧ xs.length = n ∧ t xs σ H Q
theorem pg_lst {es : List Expr} {k : Nat} {t : TGs} {n : Nat} (hc : X.calm = true) (h : PGs X es t) (hn : (assignEach es X.env).length = n := by rfl) (hst : (assignEach es X.env).findIdx? (·.1) = none := by rfl) : PG X (.Tuple es k pos) (gLst X.K n t) := by
  intro pins s σ H v u Q I r hw
  obtain ⟨a, xs, e1, hq, hl, hw⟩ := hw
  subst e1
  cases r
  obtain ⟨its, rv, ht, hz⟩ := I.list hq
  refine assign_lst (I.ok.hd hc) ht.isList (by simp [hn, ← hl, rv.length]) hst fun h' hx => ?_
  have I1 : Inv X pins σ H { s with heap := h' } := I.kept (t' := s.toks) fun b o e => hx b o (Nat.ne_of_lt (Heap.lt_size e)) e
  exact h pins _ σ H xs _ Q I1 (by simpa using rv) hw
end
end L2

namespace Ep
open PySem L2 PySem.SeqAt
end Ep
namespace Ep
open PySem L2 PySem.SeqAt
end Ep
namespace Ep
open PySem L2 PySem.SeqAt
end Ep
namespace Ep
open PySem L2 PySem.SeqAt
end Ep
namespace Ep
open PySem L2 PySem.SeqAt
end Ep
namespace Ep
open PySem L2 PySem.SeqAt
end Ep
namespace Ep
open PySem L2 PySem.SeqAt
end Ep

namespace L2
open PySem PySem.Spec PyProof.Rows
variable {X : Cx}
end L2
namespace Ep
open PySem L2 PySem.SeqAt
end Ep

namespace L2
open PySem PySem.Spec PyProof.Rows
section
variable {X : Cx}
end
end L2
namespace Ep
open PySem L2 PySem.SeqAt
def pw (k : Nat) : Int := ((2 ^ k : Nat) : Int)
def acrossM (wide : Int) : List (Int × Int) := (List.range (wide / 2).toNat).map fun k : Nat => ((k : Int), wide - 1 - (k : Int))
def blkM : Nat → List (Int × Int)
  | 0 => []
  | k + 1 => acrossM (pw (k + 1)) ++ (blkM k ++ (blkM k).map (lift (pw k)))
def halved (i : Int) : Prop := i = 1 ∨ i = 2 ∨ i = 4 ∨ i = 8
instance (i : Int) : Decidable (halved i) := inferInstanceAs (Decidable (i = 1 ∨ i = 2 ∨ i = 4 ∨ i = 8))
def SqW (H : Hp) (l : Addr) (ws : List (Int × Int)) : Prop := ∃ rs, (H l = some (.lst rs) ∨ H l = some (.tup rs)) ∧ Refs H rs ws
inductive SpMakesGP (vs : List V) (H : Hp) (Q : VK) : Prop
  | mk (wide : Int) (l : Addr) (ws : List (Int × Int)) (h1 : vs = [.int wide, .ref l]) (h2 : SqW H l ws) (h3 : 1 ≤ wide) (h4 : wide ≤ 8) (h5 : WOk wide ws) (h6 : ws.length ≤ 40) (h7 : ∀ H', Same H H' → Q (.bl true) H') : SpMakesGP vs H Q
def spMakesG : Sp := fun vs H Q _ => SpMakesGP  vs H Q
theorem makes_of (vs : List V) (H : Hp) (Q : VK) (E : XK) (h : spMakes vs H Q E) : spMakesG vs H Q E := by
  obtain ⟨wide, l, ws, rfl, ⟨rs, hl, hr⟩, r1, r2, r3, r4, r5⟩ := h
  exact ⟨wide, l, ws, rfl, ⟨rs, .inl hl, hr⟩, r1, r2, r3, r4, r5⟩
end Ep

namespace L2
open PySem PySem.Spec PyProof.Rows
section
variable {X : Cx}
end
end L2
namespace Ep
open PySem L2 PySem.SeqAt
def wsD (ws : List (Int × Int)) : PyData := .list (ws.map fun x => .tuple [.int x.1, .int x.2])
theorem dat_ws {H : Hp} {l : Addr} {rs : List V} {ws : List (Int × Int)} (h : H l = some (.lst rs)) (r : Refs H rs ws) : Dat H (.ref l) (wsD ws) := .lst h (dats_refs r)
theorem shaped_ws (ws : List (Int × Int)) : shaped (wsD ws) = true := by
  obtain ⟨a, b⟩ := lay_pairs ws
  show (PyData.canLay0 (.list _) && decide (PyData.depth (.list _) ≤ 64)) = true
  rw [Bool.and_eq_true]
  constructor
  · simp only [PyData.canLay0, a]
  · refine decide_eq_true ?_
    simp only [PyData.depth]
    (first | lia | omega)
end Ep

namespace L2
open PySem PySem.Spec PyProof.Rows
section
variable {X : Cx} {C : Addr} {m : Str} {k : Nat} {ps : List Str} {sp : Sp} {o e : Expr} {es : List Expr} {ta : TE} {t : TA} {pos apos : Pos}
end
end L2
namespace Ep
open PySem L2 PySem.SeqAt
end Ep

namespace L2
open PySem PySem.Spec PyProof.Rows
section
variable {κ : Type} [DecidableEq κ]
def valV (kvs : List (κ × V)) (k : κ) : Option V := (kvs.find? fun kv => decide (kv.1 = k)).map (·.2)
def putK (kvs : List (κ × V)) (k : κ) (v : V) : List (κ × V) :=
  if (kvs.any fun kv => decide (kv.1 = k)) = true then kvs.map (fun kv => if kv.1 = k then (kv.1, v) else kv) else kvs ++ [(k, v)]
theorem valV_pos {p : κ × V} {r : List (κ × V)} {k : κ} (e : p.1 = k) : valV (p :: r) k = some p.2 := by simp [valV, List.find?_cons, e]
theorem valV_neg {p : κ × V} {r : List (κ × V)} {k : κ} (e : ¬ p.1 = k) : valV (p :: r) k = valV r k := by simp [valV, List.find?_cons, e]
theorem valV_any (k : κ) : ∀ kvs : List (κ × V), (kvs.any fun kv => decide (kv.1 = k)) = (valV kvs k).isSome
  | [] => rfl
  | p :: r => by
    rw [List.any_cons]
    by_cases e : p.1 = k
    · simp only [valV_pos e, decide_eq_true e, Bool.true_or, Option.isSome_some]
    · rw [valV_neg e, decide_eq_false e, Bool.false_or]; exact valV_any k r
theorem valV_map (k j : κ) (y : V) : ∀ kvs : List (κ × V), valV (kvs.map fun kv => if kv.1 = k then (kv.1, y) else kv) j = (valV kvs j).map fun x => if j = k then y else x
  | [] => rfl
  | p :: r => by
    have ih := valV_map k j y r
    rw [List.map_cons]
    by_cases h : p.1 = k
    · rw [if_pos h]
      by_cases e : p.1 = j
      · rw [valV_pos (p := (p.1, y)) e, valV_pos e, Option.map_some, if_pos (e.symm.trans h)]
      · rw [valV_neg (p := (p.1, y)) e, valV_neg e, ih]
    · rw [if_neg h]
      by_cases e : p.1 = j
      · rw [valV_pos (p := p) e, valV_pos e, Option.map_some, if_neg (fun z => h (e.trans z))]
      · rw [valV_neg (p := p) e, valV_neg e, ih]
theorem valV_snoc (k j : κ) (y : V) : ∀ kvs : List (κ × V), valV kvs k = none → valV (kvs ++ [(k, y)]) j = if j = k then some y else valV kvs j
  | [], _ => by
    by_cases e : k = j
    · rw [if_pos e.symm]; exact valV_pos (p := (k, y)) e
    · rw [if_neg (fun z => e z.symm)]; exact valV_neg (p := (k, y)) e
  | p :: r, hn => by
    rw [List.cons_append]
    have hk : ¬ p.1 = k := fun z => by rw [valV_pos z] at hn; cases hn
    rw [valV_neg hk] at hn
    have ih := valV_snoc k j y r hn
    by_cases e : p.1 = j
    · rw [valV_pos e, valV_pos e, if_neg (fun z => hk (e.trans z))]
    · rw [valV_neg e, valV_neg e, ih]
theorem valV_put (kvs : List (κ × V)) (k j : κ) (y : V) : valV (putK kvs k y) j = if j = k then some y else valV kvs j := by
  unfold putK
  by_cases a : (kvs.any fun kv => decide (kv.1 = k)) = true
  · rw [if_pos a, valV_map]
    rw [valV_any] at a
    by_cases e : j = k
    · obtain ⟨x, hx⟩ := Option.isSome_iff_exists.mp a
      rw [if_pos e, e, hx, Option.map_some, if_pos rfl]
    · rw [if_neg e]
      cases valV kvs j with
      | none => rfl
      | some x => rw [Option.map_some, if_neg e]
  · rw [if_neg a]
    refine valV_snoc k j y kvs ?_
    rw [valV_any] at a
    cases q : valV kvs k with
    | none => rfl
    | some x => rw [q] at a; exact (a rfl).elim
theorem length_putK (kvs : List (κ × V)) (k : κ) (v : V) : (putK kvs k v).length ≤ kvs.length + 1 := by
  unfold putK
  split
  · rw [List.length_map]; (first | lia | omega)
  · rw [List.length_append, List.length_cons, List.length_nil]; (first | lia | omega)
theorem RelO.isSome_eq {o : Option V} {u : Option Value} (r : RelO o u) : o.isSome = u.isSome := by
  cases o with
  | none => cases u with
    | none => rfl
    | some _ => exact (show False from r).elim
  | some _ => cases u with
    | none => exact (show False from r).elim
    | some _ => rfl
theorem RelO.getD {o : Option V} {u : Option Value} {d : V} {d' : Value} (r : RelO o u) (rd : RelV d d') : RelV (o.getD d) (u.getD d') := by
  cases o with
  | none => cases u with
    | none => exact rd
    | some _ => exact (show False from r).elim
  | some _ => cases u with
    | none => exact (show False from r).elim
    | some _ => exact r

theorem KV.val {kvs : List (κ × V)} {vs : List (κ × Value)} (r : KV kvs vs) (k : κ) : RelO (valV kvs k) (valueAt vs k) := by
  unfold KV at r
  induction r with
  | nil => exact True.intro
  | @cons p q ps qs h t ih =>
    obtain ⟨h1, h2⟩ := h
    by_cases e : p.1 = k
    · have e' : q.1 = k := h1.symm.trans e
      have b : valueAt (q :: qs) k = some q.2 := by simp [valueAt, List.find?_cons, e']
      rw [valV_pos e, b]; exact h2
    · have e' : ¬ q.1 = k := fun z => e (h1.trans z)
      have b : valueAt (q :: qs) k = valueAt qs k := by simp [valueAt, List.find?_cons, e']
      rw [valV_neg e, b]; exact ih
theorem KV.any {kvs : List (κ × V)} {vs : List (κ × Value)} (r : KV kvs vs) (k : κ) : (kvs.any fun kv => decide (kv.1 = k)) = vs.any fun kv => decide (kv.1 = k) := by
  unfold KV at r
  induction r with
  | nil => rfl
  | cons h t ih => rw [List.any_cons, List.any_cons, ih, h.1]
theorem KV.repl {kvs : List (κ × V)} {vs : List (κ × Value)} (r : KV kvs vs) (k : κ) {y : V} {u : Value} (ry : RelV y u) :
    KV (kvs.map fun kv => if kv.1 = k then (kv.1, y) else kv) (vs.map fun kv => if kv.1 = k then (kv.1, u) else kv) := by
  unfold KV at r ⊢
  induction r with
  | nil => exact .nil
  | @cons p q ps qs h t ih =>
    rw [List.map_cons, List.map_cons]
    refine .cons ?_ ih
    obtain ⟨h1, h2⟩ := h
    by_cases e : p.1 = k
    · rw [if_pos e, if_pos (h1.symm.trans e)]; exact ⟨h1, ry⟩
    · rw [if_neg e, if_neg (fun z => e (h1.trans z))]; exact ⟨h1, h2⟩
theorem KV.put {kvs : List (κ × V)} {vs : List (κ × Value)} (r : KV kvs vs) (k : κ) {y : V} {u : Value} (ry : RelV y u) : KV (putK kvs k y) (stored vs k u) := by
  unfold putK stored
  rw [r.any k]
  by_cases e : (vs.any fun kv => decide (kv.1 = k)) = true
  · rw [if_pos e, if_pos e]; exact r.repl k ry
  · rw [if_neg e, if_neg e]; exact Paired.snoc r ⟨rfl, ry⟩
theorem KV.keys {kvs : List (κ × V)} {vs : List (κ × Value)} (r : KV kvs vs) : kvs.map (·.1) = vs.map (·.1) := by
  unfold KV at r
  induction r with
  | nil => rfl
  | cons h t ih => rw [List.map_cons, List.map_cons, ih, h.1]
theorem KV.length {kvs : List (κ × V)} {vs : List (κ × Value)} (r : KV kvs vs) : kvs.length = vs.length := Paired.length r
end


theorem kV_is {P : Program} {w : World} {k : Key} {u : Value} (r : RelV (kV k) u) : (mixKind P w).is k u = true := by
  cases k with
  | inl i => obtain ⟨t, e⟩ := (show ∃ t, u = Value.int i t from r); subst e; exact mixKind_int P w i t
  | inr x => obtain ⟨t, e⟩ := (show ∃ t, u = Value.str x t from r); subst e; exact mixKind_str P w x t
theorem items_are {P : Program} {w : World} : ∀ {ks : List Key} {us : List Value}, Vals (ks.map kV) us → ItemsAre (mixKind P w) ks us
  | [], _, r => by rw [List.map_nil] at r; cases r; exact .nil
  | k :: ks, _, r => by
    rw [List.map_cons] at r
    cases r with
    | cons h t => exact .cons (kV_is h) (items_are t)

abbrev KT (H : Hp) : List (List Key × V) → List (List Key × Addr × Value) → Prop := Paired fun p q => p.1 = q.1 ∧ H q.2.1 = some (.tup (p.1.map kV)) ∧ RelV p.2 q.2.2
theorem KT.val {H : Hp} {kvs : List (List Key × V)} {xs : List (List Key × Addr × Value)} (r : KT H kvs xs) (k : List Key) : RelO (valV kvs k) ((atKey xs k).map (·.2)) := by
  induction r with
  | nil => exact True.intro
  | @cons p q ps qs h t ih =>
    obtain ⟨h1, _, h2⟩ := h
    by_cases e : p.1 = k
    · have e' : q.1 = k := h1.symm.trans e
      have b : atKey (q :: qs) k = some q.2 := by simp [atKey, List.find?_cons, e']
      rw [valV_pos e, b]; exact h2
    · have e' : ¬ q.1 = k := fun z => e (h1.trans z)
      have b : atKey (q :: qs) k = atKey qs k := by simp [atKey, List.find?_cons, e']
      rw [valV_neg e, b]; exact ih
theorem KT.repl {H : Hp} {kvs : List (List Key × V)} {xs : List (List Key × Addr × Value)} (r : KT H kvs xs) (k : List Key) {y : V} {u : Value} (ry : RelV y u) :
    KT H (kvs.map fun kv => if kv.1 = k then (kv.1, y) else kv) (xs.map (putAt k u)) := by
  induction r with
  | nil => exact .nil
  | @cons p q ps qs h t ih =>
    rw [List.map_cons, List.map_cons]
    refine .cons ?_ ih
    obtain ⟨h1, h2, h3⟩ := h
    unfold putAt
    by_cases e : p.1 = k
    · rw [if_pos e, if_pos (h1.symm.trans e)]; exact ⟨h1, h2, ry⟩
    · rw [if_neg e, if_neg (fun z => e (h1.trans z))]; exact ⟨h1, h2, h3⟩
theorem KT.put {H : Hp} {kvs : List (List Key × V)} {xs : List (List Key × Addr × Value)} (r : KT H kvs xs) (k : List Key) {b : Addr} {y : V} {u : Value} (hb : H b = some (.tup (k.map kV))) (ry : RelV y u) :
    KT H (putK kvs k y) (storedH xs k b u) := by
  have e : (kvs.any fun kv => decide (kv.1 = k)) = (atKey xs k).isSome := by
    rw [valV_any, (r.val k).isSome_eq, Option.isSome_map]
  unfold putK storedH
  rw [e]
  by_cases q : (atKey xs k).isSome = true
  · rw [if_pos q, if_pos q]; exact r.repl k ry
  · rw [if_neg q, if_neg q]; exact Paired.snoc r ⟨rfl, hb, ry⟩
theorem KT.keeps {H H' : Hp} {kvs : List (List Key × V)} {xs : List (List Key × Addr × Value)} (r : KT H kvs xs) (ht : ∀ b ys, H b = some (.tup ys) → H' b = some (.tup ys)) : KT H' kvs xs :=
  Paired.mapP r fun _ _ z => ⟨z.1, ht _ _ z.2.1, z.2.2⟩

section
variable {P : Program} {w : World} {H : Hp} {h : Heap} {a : Addr}
theorem rd_of {u : HO} (ok : HOk P w H h) (e : Rd H a u) : ObjOk P w H h a u := e.ok ok
theorem dk_rd {kvs : List (Key × V)} (ok : HOk P w H h) (e : Rd H a (.dK kvs)) : kvs.length ≤ sizeLine ∧ (a == sysModules) = false ∧ ∃ vs, KV kvs vs ∧ h.DictOf (mixKind P w) a vs :=
  show ObjOk P w H h a (.dK kvs) from rd_of ok e
theorem dk_of {kvs : List (Key × V)} (ok : HOk P w H h) (e : H a = some (.dK kvs)) : kvs.length ≤ sizeLine ∧ (a == sysModules) = false ∧ ∃ vs, KV kvs vs ∧ h.DictOf (mixKind P w) a vs := dk_rd ok (.inl e)
theorem key_of {ks : List Key} (ok : HOk P w H h) (e : H a = some (.tup (ks.map kV))) : (tupleKind (mixKind P w)).is h ks a := by
  obtain ⟨_, its, r, o, h1, h2, n, h3, _⟩ := (show ObjOk P w H h a (.tup (ks.map kV)) from ok a _ e)
  exact ⟨o, its.toArray, n, h1, h2, h3, by simpa using items_are r⟩
theorem dt_rd {kvs : List (List Key × V)} (ok : HOk P w H h) (e : Rd H a (.dT kvs)) : kvs.length ≤ sizeLine ∧ (a == sysModules) = false ∧
    ∃ xs, KT H kvs xs ∧ h.DictOfH (tupleKind (mixKind P w)) a xs := by
  obtain ⟨z, y, xs, r, o, es, ep, h1, h2, h3, h4, h5⟩ := (show ObjOk P w H h a (.dT kvs) from rd_of ok e)
  refine ⟨z, y, xs, r, o, es, ep, h1, h2, h3, h4, fun x hx => ?_, h5⟩
  have all : ∀ {l : List (List Key × V)} {m : List (List Key × Addr × Value)}, KT H l m → ∀ x ∈ m, (tupleKind (mixKind P w)).is h x.1 x.2.1 := by
    intro l m q
    induction q with
    | nil => intro x hx; exact nomatch hx
    | @cons p q ps qs hq t ih =>
      intro x hx
      rcases List.mem_cons.mp hx with e | hx
      · subst e
        exact key_of ok (by rw [← hq.1]; exact hq.2.1)
      · exact ih x hx
  exact all r x hx
theorem dt_of {kvs : List (List Key × V)} (ok : HOk P w H h) (e : H a = some (.dT kvs)) : kvs.length ≤ sizeLine ∧ (a == sysModules) = false ∧
    ∃ xs, KT H kvs xs ∧ h.DictOfH (tupleKind (mixKind P w)) a xs := dt_rd ok (.inl e)
end

def DGet (H : Hp) (a : Addr) (y : V) (r : Option V) : Prop :=
  (∃ kvs k, Rd H a (.dK kvs) ∧ y = kV k ∧ r = valV kvs k) ∨ ∃ kvs k b, Rd H a (.dT kvs) ∧ y = .ref b ∧ H b = some (.tup (k.map kV)) ∧ r = valV kvs k
def DPut (H : Hp) (a : Addr) (y v : V) (H' : Hp) : Prop :=
  (∃ kvs k, H a = some (.dK kvs) ∧ y = kV k ∧ kvs.length < sizeLine ∧ H' = upd H a (.dK (putK kvs k v))) ∨
  ∃ kvs k b, H a = some (.dT kvs) ∧ y = .ref b ∧ H b = some (.tup (k.map kV)) ∧ kvs.length < sizeLine ∧ H' = upd H a (.dT (putK kvs k v))
theorem DGet.k {H : Hp} {a : Addr} {kvs : List (Key × V)} {k : Key} (e : H a = some (.dK kvs)) : DGet H a (kV k) (valV kvs k) := .inl ⟨kvs, k, .inl e, rfl, rfl⟩
theorem DPut.k {H : Hp} {a : Addr} {kvs : List (Key × V)} {k : Key} {v : V} (e : H a = some (.dK kvs)) (hl : kvs.length < sizeLine) : DPut H a (kV k) v (upd H a (.dK (putK kvs k v))) := .inl ⟨kvs, k, e, rfl, hl, rfl⟩
section
variable {X : Cx} {pins : List (Addr × Obj)} {σ : St} {H : Hp} {s : Shared} {a : Addr} {y v : V} {u r : Value} {o : Option V} {A : Around} {E : Value → Shared → Prop}

theorem Inv.big (I : Inv X pins σ H s) : sysModules < s.heap.objs.size := by
  have h : mainGlobals < s.heap.objs.size := (I.mod.glob.keeps I.bk).lt
  exact Nat.lt_trans (by decide) h

theorem d_getItem {Q : Value → Shared → Prop} (hu : A.units + 1 < cLine) (I : Inv X pins σ H s) (g : DGet H a y (some v)) (ry : RelV y u) (h : ∀ w' s', Inv X pins σ H s' → RelV v w' → Q w' s') :
    wpAny (model X.prog X.w) A (getItem (.ref a) u) Q E s := by
  rcases g with ⟨kvs, k, e, ey, l⟩ | ⟨kvs, k, b, e, ey, eb, l⟩
  · subst ey
    obtain ⟨z, hd, vs, rel, dd⟩ := dk_rd I.hok e
    obtain ⟨w', hw, rw'⟩ := RelO.some_of (v := v) (o := valueAt vs k) (by rw [l]; exact rel.val k)
    exact wpAny_getItem_of (kV_is ry) dd.mapOf hw (h w' _ (I.tok _) rw')
  · subst ey
    cases (show u = Value.ref b from ry)
    obtain ⟨z, hd, xs, rel, dd⟩ := dt_rd I.hok e
    obtain ⟨w', hw, rw'⟩ := RelO.some_of (v := v) (o := (atKey xs k).map (·.2)) (by rw [l]; exact rel.val k)
    obtain ⟨p, hp, hp2⟩ := Option.map_eq_some_iff.mp hw
    refine wpAny_getItem_heap (tupleKind_room_in1 hu) (key_of I.hok eb) dd hp ?_
    rw [hp2]
    exact h w' _ (I.tok _) rw'
theorem d_write {h' : Heap} {t' : Nat} {ob : HO} (I : Inv X pins σ H s) (mu : Mut (H a)) (hs : Heap.SameBut a s.heap h') (he : ∃ q, h'.get? a = some q) (new : ObjOk X.prog X.w (upd H a ob) h' a ob) :
    Inv X pins σ (upd H a ob) { s with heap := h', toks := t' } :=
  I.write (x := a) (e := a) mu (.inl rfl) (fun b q hb z => (hs.2 b hb).trans z) he new
theorem dk_new {P : Program} {w : World} {H' : Hp} {h' : Heap} {kvs : List (Key × V)} {vs : List (Key × Value)} (z : kvs.length ≤ sizeLine) (hd : (a == sysModules) = false) (rel : KV kvs vs) (dd : h'.DictOf (mixKind P w) a vs) :
    ObjOk P w H' h' a (.dK kvs) := ⟨z, hd, vs, rel, dd⟩
theorem d_setItem {H' : Hp} {Q : Unit → Shared → Prop} (hu : A.units + 1 < cLine) (I : Inv X pins σ H s) (g : DPut H a y v H') (ry : RelV y u) (rv : RelV v r) (h : ∀ s', Inv X pins σ H' s' → Q () s') :
    wpAny (model X.prog X.w) A (setItem (.ref a) u r) Q E s := by
  rcases g with ⟨kvs, k, e, ey, l, eH⟩ | ⟨kvs, k, b, e, ey, eb, l, eH⟩
  · subst ey eH
    obtain ⟨z, hd, vs, rel, dd⟩ := dk_of I.hok e
    have hz : vs.length ≤ sizeLine := by rw [← rel.length]; exact z
    have hl : (putK kvs k v).length ≤ sizeLine := by have := length_putK kvs k v; (first | lia | omega)
    refine wpAny_setItem_pairs (hsz := hz) (kV_is ry) dd fun h' dd' hs => h _ ?_
    have he : ∃ q, h'.get? a = some q := let ⟨q, _, _, hq, _⟩ := dd'; ⟨q, hq⟩
    exact d_write I (by rw [e]; exact True.intro) hs he (dk_new hl hd (rel.put k rv) dd')
  · subst ey eH
    cases (show u = Value.ref b from ry)
    obtain ⟨z, hd, xs, rel, dd⟩ := dt_of I.hok e
    have hz : xs.length ≤ sizeLine := by rw [← Paired.length rel]; exact z
    have hl : (putK kvs k v).length ≤ sizeLine := by have := length_putK kvs k v; (first | lia | omega)
    refine wpAny_setItem_heap (hsz := hz) (tupleKind_room_in1 hu) (key_of I.hok eb) dd fun h' dd' hs => h _ ?_
    obtain ⟨q, es, ep, hq, h2, h3, h4, _, h5⟩ := dd'
    refine d_write I (by rw [e]; exact True.intro) hs ⟨q, hq⟩ ⟨hl, hd, _, (rel.put k eb rv).keeps fun c ys ec => ?_, q, es, ep, hq, h2, h3, h4, h5⟩
    rw [upd_ne (ne_of ec e (fun z => nomatch z))]
    exact ec
end

section
variable {X : Cx} {pins : List (Addr × Obj)} {σ : St} {H : Hp} {s : Shared} {a : Addr} {kvs : List (Key × V)} {k : Key} {u : Value} {A : Around} {E : Value → Shared → Prop}
end


def NoSl (i : Expr) : Prop := ∀ ov iv, subscripted i false ov iv = operate [ov, iv] (getItem ov iv)
theorem subD_of {prog : Program} {w : World} {A : Around} {E : Value → Shared → Prop} {s : Shared} {env : Env} {value slice : Expr} {pos : Pos} {T id : String} {Q : Value → Shared → Prop}
    (hl : typeLookup (.type T) "__getitem__" = pure (some (.builtin id))) (hs : NoSl slice)
    (h : wpAny (model prog w) A (eval value env) (fun o s₁ => wpAny (model prog w) A (eval slice env) (fun i s₂ => s₂.TypeIs o T ∧ wpAny (model prog w) A (getItem o i) Q E s₂) E s₁) E s) :
    wpAny (model prog w) A (eval (.Subscript value slice pos) env) Q E s := by
  refine Subscript_ (wpAny_mono h (fun o s₁ h₁ => wpAny_mono h₁ (fun i s₂ h₂ => ?_) fun _ _ x => x) fun _ _ x => x)
  obtain ⟨hT, h₂⟩ := h₂
  unfold subscriptTail
  refine wpAny_bind ?_
  rw [getitemInPython_of_ne hT.not_modules]
  refine wpAny_bind (wpAny_specialOf hT hl ?_)
  have fin : wpAny (model prog w) A (subscripted slice false o i) (fun r s₃ => wpAny (model prog w) A (letTemporaryGo value o r >>= fun _ => pure r) Q E s₃) E s₂ := by
    rw [hs o i]
    exact wpAny_operating (wpAny_mono h₂ (fun r s₃ h₃ => wpAny_bind (wpAny_letTemporaryGo (wpAny_pure h₃))) fun _ _ x => x)
  first
    | exact wpAny_pure (wpAny_bind fin)
    | exact wpAny_bind (wpAny_pure (wpAny_bind fin))
    | exact wpAny_bind fin

theorem dict_typeIs {X : Cx} {pins : List (Addr × Obj)} {σ : St} {H : Hp} {s : Shared} {a : Addr} {y : V} {o : Option V} (I : Inv X pins σ H s) (g : DGet H a y o) : s.TypeIs (.ref a) "dict" := by
  rcases g with ⟨kvs, k, e, _, _⟩ | ⟨kvs, k, b, e, _, _, _⟩
  · obtain ⟨_, _, vs, _, dd⟩ := dk_rd I.hok e
    exact dd.typeIs
  · obtain ⟨_, _, xs, _, dd⟩ := dt_rd I.hok e
    exact dd.typeIs
def tDGet (td ty : TE) : TE := fun σ H Q => td σ H fun x H1 => ty σ H1 fun y H2 => ∃ a v, x = .ref a ∧ DGet H2 a y (some v) ∧ Q v H2
def sDPut (td ty tv : TE) : TS := fun D σ H => tv σ H fun v H1 => td σ H1 fun x H2 => ty σ H2 fun y H3 => ∃ a H4, x = .ref a ∧ DPut H3 a y v H4 ∧ D.nx σ H4
section
variable {X : Cx} {o i e value : Expr} {pos pos' tpos : Pos} {td ty tv : TE}
theorem pe_dget (hu : X.A.units + 1 < cLine) (ho : PE X o td) (hi : PE X i ty) (hs : NoSl i) : PE X (.Subscript o i pos) (tDGet td ty) := by
  intro pins s σ H Q I h
  refine subD_of PySem.F.slot_dict_getitem.lookup hs (thn (ho pins s σ H _ I h) fun u s1 ⟨x, H1, I1, rx, q1⟩ => thn (hi pins s1 σ H1 _ I1 q1) fun iv s2 ⟨y, H2, I2, ry, a, v, ex, g, q2⟩ => ?_)
  subst ex
  obtain rfl : u = Value.ref a := rx
  exact ⟨dict_typeIs I2 g, d_getItem hu I2 g ry fun w' s3 I3 rw' => ⟨v, H2, I3, rw', q2⟩⟩
theorem ps_dput (hu : X.A.units + 1 < cLine) (ho : PE X o td) (hi : PE X i ty) (hv : PE X value tv) (hs : swapsWith value (some (.Subscript o i pos')) pos.line X.env = pure false) :
    PS X (.Assign [.Subscript o i pos'] value pos) (sDPut td ty tv) := by
  intro pins s σ H D I h
  refine wpAny_Assign_Subscript (thn (hv pins s σ H _ I h) fun r s1 ⟨v, H1, I1, rv, q1⟩ => thn (ho pins s1 σ H1 _ I1 q1) fun u s2 ⟨x, H2, I2, rx, q2⟩ => thn (hi pins s2 σ H2 _ I2 q2) fun iv s3 ⟨y, H3, I3, ry, a, H4, ex, g, q3⟩ => ?_) hs
  subst ex
  obtain rfl : u = Value.ref a := rx
  exact d_setItem hu I3 g ry rv fun s4 I4 => ⟨σ, H4, I4, q3⟩
end


theorem dk_empty {P : Program} {w : World} {H : Hp} (h : Heap) (hb : sysModules < h.objs.size) : ObjOk P w H (h.push { cls := .type "dict", data := .dict #[] }) h.objs.size (.dK []) :=
  ⟨Nat.zero_le _, beq_eq_false_iff_ne.mpr (Ne.symm (Nat.ne_of_lt hb)), [], .nil, Heap.DictOf.new h⟩
def tDNewK : TE := fun _ H Q => ∀ p, H p = none → Q (.ref p) (upd H p (.dK []))
section
variable {X : Cx} {pos : Pos}
theorem pe_dnewK : PE X (.Dict [] [] pos) tDNewK := fun pins s σ H Q I h =>
  wpAny_Dict_empty ⟨.ref s.heap.objs.size, _, I.laid (a := s.heap.objs.size) (o := .dK []) (t' := s.toks) (fun _ _ q => Heap.get?_push_of_some _ q) (Nat.le_refl _) (dk_empty s.heap I.big), rfl, h _ (I.hok.fresh (Nat.le_refl _))⟩
end

def tPairs : List (TE × TE) → St → Hp → (List (V × V) → Hp → Prop) → Prop
  | [], _, H, Q => Q [] H
  | (tk, tv) :: r, σ, H, Q => tk σ H fun x H1 => tv σ H1 fun y H2 => tPairs r σ H2 fun ps H3 => Q ((x, y) :: ps) H3
abbrev VV : List (V × V) → List (Value × Value) → Prop := Paired fun p q => RelV p.1 q.1 ∧ RelV p.2 q.2
def PPs (X : Cx) (pos : Pos) (keys : List (Option Expr)) (values : List Expr) (trs : List (TE × TE)) : Prop :=
  ∀ (pins : List (Addr × Obj)) (s : Shared) (σ : St) (H : Hp) (Q : List (V × V) → Hp → Prop), Inv X pins σ H s → tPairs trs σ H Q →
    wpAny (model X.prog X.w) X.A (evalPairs (pairTrees keys values X.env pos)) (fun vs s' => ∃ ps H', Inv X pins σ H' s' ∧ VV ps vs ∧ Q ps H') X.xe s
theorem pps_nil {X : Cx} {pos : Pos} : PPs X pos [] [] [] := fun pins s σ H Q I h => pairTrees_nil_walk ⟨[], H, I, .nil, h⟩
theorem pps_cons {X : Cx} {pos : Pos} {k v : Expr} {ks : List (Option Expr)} {vs : List Expr} {tk tv : TE} {trs : List (TE × TE)} (hk : PE X k tk) (hv : PE X v tv) (hr : PPs X pos ks vs trs) :
    PPs X pos (some k :: ks) (v :: vs) ((tk, tv) :: trs) := fun pins s σ H Q I h =>
  pairTrees_cons_walk (thn (hk pins s σ H _ I h) fun u s1 ⟨x, H1, I1, rx, q1⟩ => thn (hv pins s1 σ H1 _ I1 q1) fun w2 s2 ⟨y, H2, I2, ry, q2⟩ =>
    thn (hr pins s2 σ H2 _ I2 q2) fun ws s3 ⟨ps, H3, I3, rel, q3⟩ => ⟨(x, y) :: ps, H3, I3, .cons ⟨rx, ry⟩ rel, q3⟩)

def mergeK (kvs more : List (Key × V)) : List (Key × V) := more.foldl (fun acc kv => putK acc kv.1 kv.2) kvs
theorem KV.merge : ∀ {more : List (Key × V)} {rs : List (Key × Value)} {kvs : List (Key × V)} {vs : List (Key × Value)}, KV more rs → KV kvs vs → KV (mergeK kvs more) (merged vs rs) := by
  intro more rs kvs vs r
  unfold KV at r
  induction r generalizing kvs vs with
  | nil => intro q; exact q
  | @cons p q ps qs h t ih =>
    intro r0
    have e : KV (putK kvs p.1 p.2) (stored vs q.1 q.2) := by
      have := r0.put p.1 h.2
      rw [← h.1]; exact this
    exact ih e
theorem length_mergeK : ∀ (more kvs : List (Key × V)), (mergeK kvs more).length ≤ kvs.length + more.length
  | [], kvs => by show kvs.length ≤ kvs.length + 0; (first | lia | omega)
  | p :: r, kvs => by
    have h1 := length_mergeK r (putK kvs p.1 p.2)
    have h2 := length_putK kvs p.1 p.2
    show (mergeK (putK kvs p.1 p.2) r).length ≤ _
    rw [List.length_cons]; (first | lia | omega)
theorem carries_of {P : Program} {w : World} : ∀ {kvs : List (Key × V)} {ws : List (Value × Value)}, VV (kvs.map fun kv => (kV kv.1, kv.2)) ws → ∃ rs, Carries (mixKind P w) ws rs ∧ KV kvs rs
  | [], _, r => by rw [List.map_nil] at r; cases r; exact ⟨[], True.intro, .nil⟩
  | p :: kvs, _, r => by
    rw [List.map_cons] at r
    cases r with
    | @cons a b as bs h t =>
      obtain ⟨rs, c, q⟩ := carries_of (P := P) (w := w) t
      obtain ⟨b1, b2⟩ := b
      exact ⟨(p.1, b2) :: rs, ⟨kV_is h.1, rfl, c⟩, .cons ⟨rfl, h.2⟩ q⟩
def tDisp (trs : List (TE × TE)) : TE := fun σ H Q => ∀ p, H p = none → tPairs trs σ (upd H p (.dK [])) fun ps H2 => H2 p = some (.dK []) ∧ ∃ kvs : List (Key × V), ps = kvs.map (fun kv => (kV kv.1, kv.2)) ∧ kvs.length ≤ 15 ∧ Q (.ref p) (upd H2 p (.dK (mergeK [] kvs)))
theorem pe_disp {X : Cx} {pos : Pos} {keys : List (Option Expr)} {values : List Expr} {trs : List (TE × TE)} (h : PPs X pos keys values trs) (hall : keys.all (·.isSome) = true) (hl : keys.length = values.length) (h0 : keys ≠ [])
    (h15 : keys.length ≤ 15) : PE X (.Dict keys values pos) (tDisp trs) := by
  intro pins s σ H Q I q
  have hn := I.hok.fresh (Nat.le_refl s.heap.objs.size)
  have I1 := I.laid (a := s.heap.objs.size) (o := .dK []) (h' := s.heap.push { cls := .type "dict", data := .dict #[] }) (t' := s.toks) (fun _ _ q => Heap.get?_push_of_some _ q) (Nat.le_refl _) (dk_empty s.heap I.big)
  refine wpAny_Dict_walk (knd := mixKind X.prog X.w) hall hl h0 h15 (thn (h pins _ σ _ _ I1 (q _ hn)) fun ws s2 ⟨ps, H2, I2, rel, e, kvs, ep, lk, q2⟩ => ?_)
  subst ep
  obtain ⟨rs, c, rk⟩ := carries_of (P := X.prog) (w := X.w) rel
  obtain ⟨z, hd, vs0, r0, dd⟩ := dk_of I2.hok e
  cases r0
  refine ⟨rs, c, dd, fun h' dd' hs => ⟨.ref s.heap.objs.size, _, ?_, rfl, q2⟩⟩
  have hz : (mergeK [] kvs).length ≤ sizeLine := by
    have h1 := length_mergeK kvs []
    rw [List.length_nil] at h1
    rw [sizeLine_eq]; (first | lia | omega)
  have he : ∃ q, h'.get? s.heap.objs.size = some q := let ⟨q, _, _, hq, _⟩ := dd'; ⟨q, hq⟩
  exact d_write I2 (by rw [e]; exact True.intro) hs he (dk_new hz hd (rk.merge .nil) dd')


structure M2 (X : Cx) (o : Expr) (m : Str) (apos : Pos) (e f : Expr) (cpos : Pos) : Prop where
  base : attributeBase o m X.env (eval o X.env) = eval o X.env
  few : ((backTo cpos (starEach [e, f] X.env)).all (fun x => !x.1) && (backToKw cpos (keywordEach [] X.env)).all (fun x => x.1.isSome)
    && decide (([e, f] : List Expr).length + ([] : List Keyword).length + (if ([] : List Keyword).isEmpty then 0 else 1) < 30)) = true
  line : (apos.endLine == cpos.line) = true
  trees : backTo cpos (starEach [e, f] X.env) = [(false, eval e X.env), (false, eval f X.env)]

def IsD (H : Hp) (a : Addr) : Prop := (∃ kvs, Rd H a (.dK kvs)) ∨ ∃ kvs, Rd H a (.dT kvs)
theorem isD_at {X : Cx} {pins : List (Addr × Obj)} {σ : St} {H : Hp} {s : Shared} {a : Addr} (I : Inv X pins σ H s) (d : IsD H a) :
    s.TypeIs (.ref a) "dict" ∧ (∀ b, Value.ref a = .ref b → ∃ ob, s.heap.get? b = some ob ∧ ob.dict = none) ∧ (a == sysModules) = false := by
  rcases d with ⟨kvs, e⟩ | ⟨kvs, e⟩
  · obtain ⟨_, hd, vs, _, dd⟩ := dk_rd I.hok e
    refine ⟨dd.typeIs, fun b q => ?_, hd⟩
    cases q
    obtain ⟨ob, _, _, h1, h2, _⟩ := dd
    exact ⟨ob, h1, h2.2.1⟩
  · obtain ⟨_, hd, xs, _, dd⟩ := dt_rd I.hok e
    refine ⟨dd.typeIs, fun b q => ?_, hd⟩
    cases q
    obtain ⟨ob, _, _, h1, h2, _⟩ := dd
    exact ⟨ob, h1, h2.2.1⟩

section
variable {X : Cx} {pins : List (Addr × Obj)} {σ : St} {H : Hp} {s : Shared} {a : Addr} {y d : V} {u r : Value} {o : Option V} {A : Around} {E : Value → Shared → Prop}
theorem d_get2 {Q : Value → Shared → Prop} (hu : A.units + 1 < cLine) (I : Inv X pins σ H s) (g : DGet H a y o) (ry : RelV y u) (rd : RelV d r) (h : ∀ w' s', Inv X pins σ H s' → RelV (o.getD d) w' → Q w' s') :
    wpAny (model X.prog X.w) A (call (.builtin "dict.get") [.ref a, u, r]) Q E s := by
  rcases g with ⟨kvs, k, e, ey, l⟩ | ⟨kvs, k, b, e, ey, eb, l⟩
  · subst ey
    obtain ⟨z, hd, vs, rel, dd⟩ := dk_rd I.hok e
    refine call_meetsIn PySem.F.slot_dict_get dd.typeIs PySem.F.entry_dict_get (PySem.F.args_dict_get_3 _ _ _) (meets_dict_get_default (mixKind X.prog X.w) a (kV_is ry) hd r) ⟨_, dd.mapOf, h _ _ (I.tok _) ?_⟩
    rw [l]
    exact (rel.val k).getD rd
  · subst ey
    cases (show u = Value.ref b from ry)
    obtain ⟨z, hd, xs, rel, dd⟩ := dt_rd I.hok e
    refine call_meetsIn PySem.F.slot_dict_get dd.typeIs PySem.F.entry_dict_get (PySem.F.args_dict_get_3 _ _ _) (meetsH_dict_get_default (tupleKind (mixKind X.prog X.w)) a b hd r) ⟨tupleKind_room_in1 hu, k, xs, key_of I.hok eb, dd, h _ _ (I.tok _) ?_⟩
    rw [l]
    exact (rel.val k).getD rd
end

def tDGet2 (td ty tx : TE) : TE := fun σ H Q => td σ H fun x H1 => ∃ a, x = .ref a ∧ IsD H1 a ∧ ty σ H1 fun y H2 => tx σ H2 fun z H3 => ∃ o, DGet H3 a y o ∧ Q (o.getD z) H3
section
variable {X : Cx} {o e f : Expr} {apos cpos : Pos} {td ty tx : TE}
theorem pe_dget2 (hu : X.A.units + 1 < cLine) (ho : PE X o td) (he : PE X e ty) (hf : PE X f tx) (m : M2 X o "get" apos e f cpos) : PE X (.Call (.Attribute o "get" apos) [e, f] [] cpos) (tDGet2 td ty tx) := by
  intro pins s σ H Q I h
  refine wpAny_Call_method m.base m.few m.line PySem.F.plainAttrs_dict PySem.F.slot_dict_get PySem.F.type_dict_get (thn (ho pins s σ H _ I h) fun u s1 ⟨x, H1, I1, rx, a, ex, d, q1⟩ => ?_)
  subst ex
  obtain rfl : u = Value.ref a := rx
  obtain ⟨t1, t2, _⟩ := isD_at I1 d
  refine ⟨t1, t2, ?_⟩
  rw [m.trees]
  refine Calls.callWith_builtin rfl (Calls.evalArgs_plain (Calls.spliced_cons (thn (he pins s1 σ H1 _ I1 q1) fun iv s2 ⟨y, H2, I2, ry, q2⟩ =>
    Calls.spliced_cons (thn (hf pins s2 σ H2 _ I2 q2) fun fv s3 ⟨z, H3, I3, rz, ov, g, q3⟩ => Calls.spliced_nil ?_))))
  exact d_get2 hu I3 g ry rz fun w' s4 I4 rw' => ⟨_, H3, I4, rw', q3⟩
end

section
variable {X : Cx} {pins : List (Addr × Obj)} {σ : St} {H : Hp} {s : Shared} {a : Addr} {kvs : List (Key × V)} {A : Around} {E : Value → Shared → Prop}
end


section
variable {X : Cx} {pins : List (Addr × Obj)} {σ : St} {H : Hp} {s : Shared} {a : Addr} {y : V} {u : Value} {A : Around} {E : Value → Shared → Prop}
end
end L2

namespace Ep
open PySem L2 PySem.SeqAt
def shM (q : Int) (c : List Int) : List Int := c.map fun x => x + q
theorem eb2 : blkM 1 = [(0, 1)] := by decide
end Ep

namespace Ep
open PySem L2 PySem.SeqAt
theorem sh4 (q a b c d : Int) : shM q [a, b, c, d] = [a + q, b + q, c + q, d + q] := rfl
theorem sh2 (q a b : Int) : shM q [a, b] = [a + q, b + q] := rfl
end Ep

namespace L2
open PySem PySem.Spec PyProof.Rows
open AutoSeq1 (wpAny_loadPart')
section
variable {prog : Program} {w : World} {A : Around} {E : Value → Shared → Prop} {s : Shared}
end
section
variable {prog : Program} {w : World} {A : Around} {E : Value → Shared → Prop} {s : Shared}
end
variable {X : Cx}
end L2

namespace Ep
open PySem L2 PySem.SeqAt
theorem at0 (y : V) (ys : List V) : atI (y :: ys) 0 = some y := by
  unfold atI ixN
  simp
end Ep

namespace L2
open PySem PySem.Spec PyProof.Rows
section
variable {prog : Program} {w : World} {A : Around} {E : Value → Shared → Prop} {s : Shared}
end
variable {X : Cx}
end L2

namespace L2
open PySem PySem.Spec PyProof.Rows
open PySem.W (CodeHd tabObj kla_fn kla_obj envX)
section
variable {X : Cx} {pins : List (Addr × Obj)} {σ : St} {H : Hp} {s : Shared} {A : Around} {E : Value → Shared → Prop} {Q : Value → Shared → Prop} {c P : Addr} {params : Arguments} {body : Expr} {scope : Scope} {pos : Pos} {clos : List (Str × Addr)}
end
section
variable {X : Cx} {pins : List (Addr × Obj)} {σ : St} {H : Hp} {s : Shared} {A : Around} {params : Arguments} {body : Expr} {scope : Scope} {x y qual : Str} {j : Nat} {f c' cy P : Addr} {pm ctv u : Value} {v wv : V} {tb : TE} {Q : VK} {q : Str × Int × Int}
end
section
variable {X : Cx} {pins : List (Addr × Obj)} {σ : St} {rows : List V} {l q S It : Addr} {J : Hp → Heap → Prop} {kf : Nat → Int}
end
end L2

namespace L2
open PySem PySem.Spec PyProof.Rows
open AutoSeq1 (wpAny_loadPart')
variable {X : Cx}
end L2

namespace Ep
open PySem L2 PySem.SeqAt PyProof.Rows
end Ep

namespace Ep
open PySem L2
end Ep
namespace L2
open PySem PySem.Spec PyProof.Rows
variable {X : Cx}
end L2

namespace Ep
open PySem L2 PySem.SeqAt
end Ep

namespace L2
end L2
namespace Ep
open PySem L2 PySem.SeqAt
end Ep

namespace L2
open PySem PySem.Spec PyProof.Rows
section
variable {X : Cx} (K : PySem.W.Frag) (hK : X.K = K)
include hK
theorem pe_fldK {e : Expr} {f : Str} {pos : Pos} {ta : TE} (he : PE X e ta) (hb : attributeBase e f X.env (eval e X.env) = eval e X.env) : PE X (.Attribute e f pos) (tFld K ta f) := by subst hK; exact pe_fld he hb
end
end L2
namespace Ep
open PySem L2 PySem.SeqAt
def numsM (wide lane low : Int) (n : Nat) : List Int := (List.range n).map fun (j : Nat) => lane + wide * (low + (j : Int))
def numsD (wide lane : Int) (n : Nat) : List Int := (List.range n).map fun (j : Nat) => lane - wide * (1 + (j : Int))
def standG (wide : Int) : Nat → List Int → List Int
  | _, [] => []
  | i, c :: r => numsM wide i 0 c.toNat ++ standG wide (i + 1) r
def owedG (wide : Int) : Nat → List Int → List Int
  | _, [] => []
  | i, c :: r => numsM wide i c (-c).toNat ++ owedG wide (i + 1) r
def owedD (wide : Int) : Nat → List Int → List Int
  | _, [] => []
  | i, c :: r => numsD wide i (-c).toNat ++ owedD wide (i + 1) r
def absS : List Int → Nat
  | [] => 0
  | c :: r => c.natAbs + absS r
theorem numsM_len (wide lane low : Int) (n : Nat) : (numsM wide lane low n).length = n := by simp [numsM]
theorem numsD_len (wide lane : Int) (n : Nat) : (numsD wide lane n).length = n := by simp [numsD]
theorem standG_len (wide : Int) : ∀ (i : Nat) (t : List Int), (standG wide i t).length ≤ absS t
  | _, [] => Nat.le_refl _
  | i, c :: r => by
    show (numsM wide i 0 c.toNat ++ standG wide (i + 1) r).length ≤ c.natAbs + absS r
    rw [List.length_append, numsM_len]
    have := standG_len wide (i + 1) r
    (first | lia | omega)
theorem owedG_len (wide : Int) : ∀ (i : Nat) (t : List Int), (owedG wide i t).length ≤ absS t
  | _, [] => Nat.le_refl _
  | i, c :: r => by
    show (numsM wide i c (-c).toNat ++ owedG wide (i + 1) r).length ≤ c.natAbs + absS r
    rw [List.length_append, numsM_len]
    have := owedG_len wide (i + 1) r
    (first | lia | omega)
theorem owedD_len (wide : Int) : ∀ (i : Nat) (t : List Int), (owedD wide i t).length ≤ absS t
  | _, [] => Nat.le_refl _
  | i, c :: r => by
    show (numsD wide i (-c).toNat ++ owedD wide (i + 1) r).length ≤ c.natAbs + absS r
    rw [List.length_append, numsD_len]
    have := owedD_len wide (i + 1) r
    (first | lia | omega)
theorem numsD_rev (wide lane c : Int) : (numsD wide lane (-c).toNat) = (numsM wide lane c (-c).toNat).reverse := by
  refine List.ext_getElem? fun j => ?_
  by_cases h : j < (-c).toNat
  · rw [List.getElem?_reverse (by rw [numsM_len]; exact h), numsM_len]
    unfold numsD numsM
    rw [List.getElem?_map, List.getElem?_map, List.getElem?_range h, List.getElem?_range (by (first | lia | omega))]
    show some (lane - wide * (1 + (j : Int))) = some (lane + wide * (c + (((-c).toNat - 1 - j : Nat) : Int)))
    rw [show c + (((-c).toNat - 1 - j : Nat) : Int) = -(1 + (j : Int)) by (first | lia | omega), Int.mul_neg]
    rfl
  · rw [List.getElem?_eq_none (by rw [numsD_len]; (first | lia | omega)), List.getElem?_eq_none (by rw [List.length_reverse, numsM_len]; (first | lia | omega))]
theorem owed_perm (wide : Int) : ∀ (i : Nat) (t : List Int), (owedD wide i t).Perm (owedG wide i t)
  | _, [] => .nil
  | i, c :: r => by
    refine List.Perm.append ?_ (owed_perm wide (i + 1) r)
    rw [numsD_rev]
    exact List.reverse_perm _
theorem standG_snoc (wide c : Int) : ∀ (i : Nat) (t : List Int), standG wide i (t ++ [c]) = standG wide i t ++ numsM wide ((i + t.length : Nat) : Int) 0 c.toNat
  | i, [] => by simp [standG]
  | i, d :: r => by
    show numsM wide i 0 d.toNat ++ standG wide (i + 1) (r ++ [c]) = (numsM wide i 0 d.toNat ++ standG wide (i + 1) r) ++ _
    rw [standG_snoc wide c (i + 1) r, List.append_assoc]
    have e : i + 1 + r.length = i + (d :: r).length := by simp; (first | lia | omega)
    rw [e]
theorem owedG_snoc (wide c : Int) : ∀ (i : Nat) (t : List Int), owedG wide i (t ++ [c]) = owedG wide i t ++ numsM wide ((i + t.length : Nat) : Int) c (-c).toNat
  | i, [] => by simp [owedG]
  | i, d :: r => by
    show numsM wide i d (-d).toNat ++ owedG wide (i + 1) (r ++ [c]) = (numsM wide i d (-d).toNat ++ owedG wide (i + 1) r) ++ _
    rw [owedG_snoc wide c (i + 1) r, List.append_assoc]
    have e : i + 1 + r.length = i + (d :: r).length := by simp; (first | lia | omega)
    rw [e]
theorem owedD_snoc (wide c : Int) : ∀ (i : Nat) (t : List Int), owedD wide i (t ++ [c]) = owedD wide i t ++ numsD wide ((i + t.length : Nat) : Int) (-c).toNat
  | i, [] => by simp [owedD]
  | i, d :: r => by
    show numsD wide i (-d).toNat ++ owedD wide (i + 1) (r ++ [c]) = (numsD wide i (-d).toNat ++ owedD wide (i + 1) r) ++ _
    rw [owedD_snoc wide c (i + 1) r, List.append_assoc]
    have e : i + 1 + r.length = i + (d :: r).length := by simp; (first | lia | omega)
    rw [e]
theorem numsM_mem {wide lane low x : Int} {n : Nat} : x ∈ numsM wide lane low n ↔ ∃ j : Nat, j < n ∧ x = lane + wide * (low + (j : Int)) := by
  unfold numsM
  rw [List.mem_map]
  constructor
  · rintro ⟨j, hj, e⟩
    exact ⟨j, List.mem_range.mp hj, e.symm⟩
  · rintro ⟨j, hj, e⟩
    exact ⟨j, List.mem_range.mpr hj, e.symm⟩
theorem standG_mem {wide x : Int} : ∀ {i : Nat} {t : List Int}, x ∈ standG wide i t ↔ ∃ (l j : Nat), l < t.length ∧ (j : Int) < t.getD l 0 ∧ x = ((i + l : Nat) : Int) + wide * (j : Int)
  | i, [] => by simp [standG]
  | i, c :: r => by
    show x ∈ numsM wide i 0 c.toNat ++ standG wide (i + 1) r ↔ _
    rw [List.mem_append, numsM_mem, standG_mem (i := i + 1) (t := r)]
    constructor
    · rintro (⟨j, hj, e⟩ | ⟨l, j, hl, hj, e⟩)
      · exact ⟨0, j, by simp, by simp; (first | lia | omega), by rw [e]; simp⟩
      · refine ⟨l + 1, j, by simp; (first | lia | omega), by simpa using hj, ?_⟩
        rw [e, show i + 1 + l = i + (l + 1) by (first | lia | omega)]
    · rintro ⟨l, j, hl, hj, e⟩
      cases l with
      | zero => exact .inl ⟨j, by simp at hj; (first | lia | omega), by rw [e]; simp⟩
      | succ l =>
        refine .inr ⟨l, j, by simp at hl; (first | lia | omega), by simpa using hj, ?_⟩
        rw [e, show i + 1 + l = i + (l + 1) by (first | lia | omega)]
theorem stand_iff {wide : Int} {t : List Int} (w1 : 1 ≤ wide) (hl : t.length = wide.toNat) {n : Int} (hn : 0 ≤ n) : n ∈ standG wide 0 t ↔ n / wide < t.getD (n % wide).toNat 0 := by
  rw [standG_mem]
  have m0 := Int.emod_nonneg n (show wide ≠ 0 by (first | lia | omega))
  have m1 := Int.emod_lt_of_pos n (show 0 < wide by (first | lia | omega))
  have d0 := Int.ediv_nonneg hn (show 0 ≤ wide by (first | lia | omega))
  have dm := Int.emod_add_mul_ediv n wide
  constructor
  · rintro ⟨l, j, h1, h2, e⟩
    have l1 : (l : Int) < wide := by (first | lia | omega)
    have em : n % wide = (l : Int) := by
      rw [e, Nat.zero_add, Int.add_mul_emod_self_left]
      exact Int.emod_eq_of_lt (by (first | lia | omega)) l1
    have ed : n / wide = (j : Int) := by
      rw [e, Nat.zero_add, Int.add_mul_ediv_left _ _ (by (first | lia | omega)), Int.ediv_eq_zero_of_lt (by (first | lia | omega)) l1]
      (first | lia | omega)
    rw [em, ed, Int.toNat_natCast]
    exact h2
  · intro h
    refine ⟨(n % wide).toNat, (n / wide).toNat, by (first | lia | omega), ?_, ?_⟩
    · rw [Int.toNat_of_nonneg d0]; exact h
    · rw [Nat.zero_add, Int.toNat_of_nonneg m0, Int.toNat_of_nonneg d0]; exact dm.symm
theorem absS_take : ∀ (t : List Int) (i : Nat), absS (t.take i) ≤ absS t
  | [], i => by simp
  | c :: r, 0 => Nat.zero_le _
  | c :: r, i + 1 => by
    have := absS_take r i
    show c.natAbs + absS (r.take i) ≤ c.natAbs + absS r
    (first | lia | omega)
theorem numsM_succ (wide lane low : Int) (n : Nat) : numsM wide lane low (n + 1) = numsM wide lane low n ++ [lane + wide * (low + (n : Int))] := by
  unfold numsM
  rw [List.range_succ, List.map_append]
  rfl
theorem numsD_succ (wide lane : Int) (n : Nat) : numsD wide lane (n + 1) = numsD wide lane n ++ [lane - wide * (1 + (n : Int))] := by
  unfold numsD
  rw [List.range_succ, List.map_append]
  rfl
theorem absS_ge {t : List Int} : ∀ (l : Nat), (t.getD l 0).natAbs ≤ absS t := by
  induction t with
  | nil => intro l; simp
  | cons c r ih =>
    intro l
    show _ ≤ c.natAbs + absS r
    cases l with
    | zero => simp
    | succ l =>
      have := ih l
      simp only [List.getD_cons_succ]
      (first | lia | omega)
theorem stand_nonneg {wide : Int} {t : List Int} (w1 : 1 ≤ wide) {x : Int} (h : x ∈ standG wide 0 t) : 0 ≤ x := by
  obtain ⟨l, j, _, _, e⟩ := standG_mem.mp h
  have : 0 ≤ wide * (j : Int) := Int.mul_nonneg (by (first | lia | omega)) (by (first | lia | omega))
  (first | lia | omega)
theorem stand_lt {wide : Int} {t : List Int} (w1 : 1 ≤ wide) (w8 : wide ≤ 8) (hl : t.length = wide.toNat) (b : absS t ≤ 63) {x : Int} (h : x ∈ standG wide 0 t) : x < 600 := by
  obtain ⟨l, j, hl', hj, e⟩ := standG_mem.mp h
  have a := absS_ge (t := t) l
  have j63 : (j : Int) ≤ 63 := by (first | lia | omega)
  have : wide * (j : Int) ≤ 8 * 63 := Int.mul_le_mul w8 j63 (by (first | lia | omega)) (by (first | lia | omega))
  (first | lia | omega)
def IsGr (wide : Int) (t : List Int) (g : Int) : Prop := g ∈ 0 :: standG wide 0 t ∧ ∀ x ∈ 0 :: standG wide 0 t, x ≤ g
theorem IsGr.eq {wide : Int} {t : List Int} {g h : Int} (a : IsGr wide t g) (b : IsGr wide t h) : g = h := Int.le_antisymm (b.2 _ a.1) (a.2 _ b.1)
theorem IsGr.nonneg {wide : Int} {t : List Int} {g : Int} (a : IsGr wide t g) : 0 ≤ g := a.2 0 (by simp)
theorem IsGr.lt {wide : Int} {t : List Int} {g : Int} (w1 : 1 ≤ wide) (w8 : wide ≤ 8) (hl : t.length = wide.toNat) (b : absS t ≤ 63) (a : IsGr wide t g) : g < 600 := by
  rcases List.mem_cons.mp a.1 with e | e
  · (first | lia | omega)
  · exact stand_lt w1 w8 hl b e
theorem isGr_none {wide : Int} {t ns : List Int} (hp : ns.Perm (standG wide 0 t)) (e : ns = []) : IsGr wide t 0 := by
  subst e
  have e := hp.symm.eq_nil
  unfold IsGr
  rw [e]
  exact ⟨by simp, fun x hx => by simp at hx; (first | lia | omega)⟩
theorem isGr_max {wide : Int} {t ns : List Int} {m : Int} (w1 : 1 ≤ wide) (hp : ns.Perm (standG wide 0 t)) (h : IsMax ns m) : IsGr wide t m := by
  refine ⟨List.mem_cons_of_mem _ (hp.mem_iff.mp h.1), fun x hx => ?_⟩
  rcases List.mem_cons.mp hx with rfl | hx
  · exact stand_nonneg w1 (hp.mem_iff.mp h.1)
  · exact h.2 x (hp.mem_iff.mpr hx)
def lackM (wide : Int) (t : List Int) (n : Nat) : List Int := ((List.range n).map fun (k : Nat) => (k : Int)).filter fun k => decide (t.getD (k % wide).toNat 0 ≤ k / wide)
theorem lackM_succ (wide : Int) (t : List Int) (n : Nat) : lackM wide t (n + 1) = lackM wide t n ++ (if t.getD ((n : Int) % wide).toNat 0 ≤ (n : Int) / wide then [(n : Int)] else []) := by
  unfold lackM
  rw [List.range_succ, List.map_append, List.filter_append]
  congr 1
  rw [List.map_cons, List.map_nil, List.filter_cons]
  by_cases h : t.getD ((n : Int) % wide).toNat 0 ≤ (n : Int) / wide
  · rw [if_pos h, if_pos (by simpa using h)]; rfl
  · rw [if_neg h, if_neg (by simpa using h)]; rfl
theorem lackM_len (wide : Int) (t : List Int) (n : Nat) : (lackM wide t n).length ≤ n := by
  unfold lackM
  refine Nat.le_trans (List.length_filter_le _ _) ?_
  simp
theorem sorted_eq {a b c : List Int} (h1 : a.Perm c) (h2 : b.Perm c) (s1 : a.Pairwise (· ≤ ·)) (s2 : b.Pairwise (· ≤ ·)) : a = b :=
  List.Perm.eq_of_pairwise (fun x y _ _ h g => Int.le_antisymm h g) s1 s2 (h1.trans h2.symm)
def ToldN (wide : Int) (t : List Int) (w : Str) (ns : List Int) : Prop :=
  (w = "standing" ∧ ns.Perm (standG wide 0 t) ∧ ns.Pairwise (· ≤ ·)) ∨ (w = "owed" ∧ ns.Perm (owedG wide 0 t) ∧ ns.Pairwise (· ≤ ·)) ∨ (w = "lacking" ∧ ∃ g, IsGr wide t g ∧ ns = lackM wide t g.toNat)
theorem ToldN.eq {wide : Int} {t : List Int} {w : Str} {a b : List Int} (x : ToldN wide t w a) (y : ToldN wide t w b) : a = b := by
  have n1 : ¬ ("standing" : Str) = "owed" := by decide +kernel
  have n2 : ¬ ("standing" : Str) = "lacking" := by decide +kernel
  have n3 : ¬ ("owed" : Str) = "lacking" := by decide +kernel
  rcases x with ⟨rfl, p, s⟩ | ⟨rfl, p, s⟩ | ⟨rfl, g, hg, rfl⟩
  · rcases y with ⟨_, p', s'⟩ | ⟨e, _⟩ | ⟨e, _⟩
    · exact sorted_eq p p' s s'
    · exact absurd e n1
    · exact absurd e n2
  · rcases y with ⟨e, _⟩ | ⟨_, p', s'⟩ | ⟨e, _⟩
    · exact absurd e.symm n1
    · exact sorted_eq p p' s s'
    · exact absurd e n3
  · rcases y with ⟨e, _⟩ | ⟨e, _⟩ | ⟨_, g', hg', rfl⟩
    · exact absurd e.symm n2
    · exact absurd e.symm n3
    · rw [hg.eq hg']
theorem ToldN.len {wide : Int} {t : List Int} {w : Str} {a : List Int} (w1 : 1 ≤ wide) (w8 : wide ≤ 8) (hl : t.length = wide.toNat) (b : absS t ≤ 63) (x : ToldN wide t w a) : a.length ≤ 1000 := by
  rcases x with ⟨_, p, _⟩ | ⟨_, p, _⟩ | ⟨_, g, hg, rfl⟩
  · rw [p.length_eq]; have := standG_len wide 0 t; (first | lia | omega)
  · rw [p.length_eq]; have := owedG_len wide 0 t; (first | lia | omega)
  · have := lackM_len wide t g.toNat
    have := hg.lt w1 w8 hl b
    (first | lia | omega)
def outN : List Place → Nat
  | [] => 0
  | pl :: r => (if isOut pl then 1 else 0) + outN r
theorem outN_le : ∀ ps : List Place, outN ps ≤ ps.length
  | [] => Nat.le_refl _
  | pl :: r => by
    have := outN_le r
    show (if isOut pl then 1 else 0) + outN r ≤ r.length + 1
    split <;> (first | lia | omega)
theorem outN_snoc (pl : Place) : ∀ ps : List Place, outN (ps ++ [pl]) = outN ps + if isOut pl then 1 else 0
  | [] => by simp [outN]
  | q :: r => by
    show (if isOut q then 1 else 0) + outN (r ++ [pl]) = (if isOut q then 1 else 0) + outN r + _
    rw [outN_snoc pl r]
    (first | lia | omega)
theorem outN_set (pl' : Place) : ∀ (ps : List Place) (i : Nat) (pl : Place), ps[i]? = some pl → outN (ps.set i pl') + (if isOut pl then 1 else 0) = outN ps + if isOut pl' then 1 else 0
  | [], i, pl, h => by simp at h
  | q :: r, 0, pl, h => by
    have e : q = pl := by simpa using h
    subst e
    show (if isOut pl' then 1 else 0) + outN r + _ = (if isOut q then 1 else 0) + outN r + _
    (first | lia | omega)
  | q :: r, i + 1, pl, h => by
    have := outN_set pl' r i pl (by simpa using h)
    show (if isOut q then 1 else 0) + outN (r.set i pl') + _ = (if isOut q then 1 else 0) + outN r + _
    (first | lia | omega)
theorem absS_set {x c : Int} (hc : c = 1 ∨ c = -1) : ∀ (t : List Int) (l : Nat), x = t.getD l 0 + c → absS (t.set l x) ≤ absS t + 1
  | [], l, _ => by simp [absS]
  | d :: r, 0, h => by
    show x.natAbs + absS r ≤ d.natAbs + absS r + 1
    simp at h
    (first | lia | omega)
  | d :: r, l + 1, h => by
    have := absS_set hc r l (by simpa using h)
    show d.natAbs + absS (r.set l x) ≤ d.natAbs + absS r + 1
    (first | lia | omega)
theorem absS_rep (n : Nat) : absS (List.replicate n 0) = 0 := by
  induction n with
  | zero => rfl
  | succ n ih => rw [List.replicate_succ]; show Int.natAbs 0 + _ = 0; rw [ih]; rfl
def Few (st : PlS) : Prop := absS st.tal ≤ outN st.pla
theorem Few.start (wide : Int) (ws : List (Int × Int)) : Few (startM wide ws) := by
  show absS (List.replicate wide.toNat 0) ≤ outN []
  rw [absS_rep]
  exact Nat.le_refl _
theorem Few.enter {ws : List (Int × Int)} {st : PlS} {lane c : Int} (h : Few st) : Few (enterM ws st lane c) := by
  show absS st.tal ≤ outN (st.pla ++ [placeM ws lane 0])
  rw [outN_snoc]
  have : absS st.tal ≤ outN st.pla := h
  (first | lia | omega)
theorem Few.step {wide : Int} {ws : List (Int × Int)} {st : PlS} {i : Nat} {pl : Place} (h : Few st) (wf : Wf wide ws st) (hi : st.pla[i]? = some pl) : Few (stepS wide ws st i pl) := by
  have h' : absS st.tal ≤ outN st.pla := h
  have il : i < st.pla.length := (List.getElem?_eq_some_iff.mp hi).1
  have cl := wf.cl
  cases pl with
  | out l n => exact h
  | before k l =>
    show absS st.tal ≤ outN (st.pla.set i (stepP wide ws st i (.before k l)))
    have := outN_set (stepP wide ws st i (.before k l)) st.pla i _ hi
    have e : isOut (.before k l) = false := rfl
    rw [e, if_neg (by decide), Nat.add_zero] at this
    rw [this]
    (first | lia | omega)
  | exit l =>
    show absS (st.tal.set l.toNat (st.tal.getD l.toNat 0 + st.chg.getD i 0)) ≤ outN (st.pla.set i (.out l (leaveN wide st l (st.chg.getD i 0))))
    have a := absS_set (x := st.tal.getD l.toNat 0 + st.chg.getD i 0) (wf.cs i (by (first | lia | omega))) st.tal l.toNat rfl
    have b := outN_set (.out l (leaveN wide st l (st.chg.getD i 0))) st.pla i _ hi
    have e1 : isOut (.exit l) = false := rfl
    have e2 : isOut (.out l (leaveN wide st l (st.chg.getD i 0))) = true := rfl
    rw [e1, e2, if_neg (by decide), if_pos rfl, Nat.add_zero] at b
    rw [b]
    (first | lia | omega)
theorem Few.run {wide : Int} {ws : List (Int × Int)} {i : Nat} {st a : PlS} (ok : WOk wide ws) (r : Run wide ws i st a) : Wf wide ws st → Few st → Few a := by
  induction r with
  | done _ _ => exact fun _ f => f
  | more e o _ ih => exact fun w f => ih (step_wf ok w e) (f.step w e)
theorem Few.le {st : PlS} (h : Few st) : absS st.tal ≤ st.pla.length := Nat.le_trans h (outN_le _)
theorem mk_play {C : Addr} {Hd : Hp} {v : V} {wide : Int} {ws : List (Int × Int)} (nt : NetOk Hd v wide ws) (x dx : Addr) (fx : Hd x = none) (fdx : Hd dx = none) {R : Hp → Prop} (h : ∀ (L : PlL) (H' : Hp), (∀ b ∈ L.own x, Hd b = none) → PlayAt C H' x v L (startM wide ws) → Same Hd H' → R H') :
    spPInit C (.ref x :: ([v] ++ [])) (upd (upd Hd dx (.own x)) x (.ins C dx [])) (fun v2 H2 => v2 = .non ∧ R H2) E0 := by
  have s0 : Same Hd (upd (upd Hd dx (HO.own x)) x (HO.ins C dx [])) := Same.put fx (Same.put fdx (Same.refl Hd))
  have x0 : (upd (upd Hd dx (HO.own x)) x (HO.ins C dx [])) x = some (.ins C dx []) := upd_same
  generalize upd (upd Hd dx (HO.own x)) x (HO.ins C dx []) = H0 at s0 x0
  refine ⟨x, dx, v, wide, ws, rfl, x0, nt.kt (KT.same s0 (KT.refl _)), fun L H1 f1 f2 f3 f4 pa1 kp1 => ⟨rfl, ?_⟩⟩
  refine h L H1 (fun b hb => ?_) pa1 (fun b o e => kp1 b o (s0 b o e) (ne_of_none e fx))
  rcases own_mem.mp hb with rfl | rfl | rfl | rfl | rfl
  · exact fx
  · exact s0.free f1
  · exact s0.free f2
  · exact s0.free f3
  · exact s0.free f4
inductive SpNumsP (vs : List V) (H : Hp) (Q : VK) : Prop
  | mk (wide lane lo hi : Int) (h1 : vs = [.int wide, .int lane, .int lo, .int hi]) (h2 : 1 ≤ wide) (h3 : wide ≤ 8) (h4 : (-1000 ≤ lo ∧ lo ≤ 1000) ∧ (-1000 ≤ hi ∧ hi ≤ 1000)) (h5 : ∀ (a : Addr) (H' : Hp), H a = none → Same H H' → H' a = some (.lst ((numsM wide lane lo (hi - lo).toNat).map V.int)) → Q (.ref a) H') : SpNumsP vs H Q
def spNums : Sp := fun vs H Q _ => SpNumsP vs H Q
inductive SpStandP (C : Addr) (vs : List V) (H : Hp) (Q : VK) : Prop
  | mk (p : Addr) (v : V) (wide : Int) (ws : List (Int × Int)) (L : PlL) (st : PlS) (h1 : vs = [.ref p]) (h2 : NetOk H v wide ws) (h3 : PlayAt C H p v L st) (h4 : st.tal.length = wide.toNat) (h5 : absS st.tal ≤ 63) (h6 : ∀ (a : Addr) (ns : List Int) (H' : Hp), H a = none → Same H H' → ns.Perm (standG wide 0 st.tal) → ns.Pairwise (· ≤ ·) → H' a = some (.lst (ns.map V.int)) → Q (.ref a) H') : SpStandP C vs H Q
def spStand (C : Addr) : Sp := fun vs H Q _ => SpStandP C vs H Q
inductive SpOwedP (C : Addr) (vs : List V) (H : Hp) (Q : VK) : Prop
  | mk (p : Addr) (v : V) (wide : Int) (ws : List (Int × Int)) (L : PlL) (st : PlS) (h1 : vs = [.ref p]) (h2 : NetOk H v wide ws) (h3 : PlayAt C H p v L st) (h4 : st.tal.length = wide.toNat) (h5 : absS st.tal ≤ 63) (h6 : ∀ (a : Addr) (ns : List Int) (H' : Hp), H a = none → Same H H' → ns.Perm (owedG wide 0 st.tal) → ns.Pairwise (· ≤ ·) → H' a = some (.lst (ns.map V.int)) → Q (.ref a) H') : SpOwedP C vs H Q
def spOwed (C : Addr) : Sp := fun vs H Q _ => SpOwedP C vs H Q
inductive SpLackP (C : Addr) (vs : List V) (H : Hp) (Q : VK) : Prop
  | mk (p : Addr) (v : V) (wide : Int) (ws : List (Int × Int)) (L : PlL) (st : PlS) (h1 : vs = [.ref p]) (h2 : NetOk H v wide ws) (h3 : PlayAt C H p v L st) (h4 : st.tal.length = wide.toNat) (h5 : absS st.tal ≤ 63) (h6 : ∀ (a : Addr) (g : Int) (H' : Hp), H a = none → Same H H' → IsGr wide st.tal g → H' a = some (.lst ((lackM wide st.tal g.toNat).map V.int)) → Q (.ref a) H') : SpLackP C vs H Q
def spLack (C : Addr) : Sp := fun vs H Q _ => SpLackP C vs H Q
inductive SpAskedP (C : Addr) (vs : List V) (H : Hp) (Q : VK) : Prop
  | mk (p : Addr) (v : V) (wide : Int) (ws : List (Int × Int)) (L : PlL) (st : PlS) (w : Str) (h1 : vs = [.ref p, .str w]) (h2 : NetOk H v wide ws) (h3 : PlayAt C H p v L st) (h4 : st.tal.length = wide.toNat) (h5 : absS st.tal ≤ 63) (h6 : w = "standing" ∨ w = "owed" ∨ w = "lacking") (h7 : ∀ (a : Addr) (ns : List Int) (H' : Hp), H a = none → Same H H' → ToldN wide st.tal w ns → H' a = some (.lst (ns.map V.int)) → Q (.ref a) H') : SpAskedP C vs H Q
def spAsked (C : Addr) : Sp := fun vs H Q _ => SpAskedP C vs H Q
inductive SpWord3P (vs : List V) (H : Hp) (Q : VK) : Prop
  | mk (t : Int) (h1 : vs = [.int t]) (h2 : 0 ≤ t) (h3 : t < 6) (h4 : ∀ (a : Addr) (ns : List Str) (H' : Hp), H a = none → Same H H' → ns.length ≤ 3 → (∀ w ∈ ns, w = "standing" ∨ w = "owed" ∨ w = "lacking") → H' a = some (.lst (ns.map V.str)) → Q (.ref a) H') : SpWord3P vs H Q
def spWord3 : Sp := fun vs H Q _ => SpWord3P vs H Q
end Ep
namespace Ep
open PySem L2 PySem.SeqAt
structure One where
  p : Addr
  L : PlL
  A : Sts
section
variable {C : Addr} {H H' : Hp} {v : V} {wide : Int} {ws : List (Int × Int)} {b c : Nat} {x : One} {S : List Addr}
end
section
variable {C : Addr} {G H H' : Hp} {v : V} {wide : Int} {ws : List (Int × Int)} {b c : Nat} {xs : List One} {x : One} {lp ls pn : Addr}
theorem pair_at {α : Type} {R : α → α → Prop} (hs : ∀ a b, R a b → R b a) {l : List α} (h : l.Pairwise R) {i j : Nat} {a b : α} (ha : l[i]? = some a) (hb : l[j]? = some b) (n : i ≠ j) : R a b := by
  obtain ⟨hi, ea⟩ := List.getElem?_eq_some_iff.mp ha
  obtain ⟨hj, eb⟩ := List.getElem?_eq_some_iff.mp hb
  rw [List.pairwise_iff_getElem] at h
  rcases Nat.lt_or_gt_of_ne n with z | z
  · rw [← ea, ← eb]; exact h i j hi hj z
  · rw [← ea, ← eb]; exact hs _ _ (h j i hj hi z)
end
end Ep

namespace L2
open PySem PySem.Spec PyProof.Rows
section
variable {X : Cx} {pins : List (Addr × Obj)} {σ : St} {H : Hp} {s : Shared} {a : Addr} {kvs : List (Key × V)}
theorem upd_id {a : Addr} {o : HO} (h : H a = some o) : upd H a o = H := by
  funext b
  unfold upd
  by_cases e : b = a
  · rw [if_pos e, e, h]
  · rw [if_neg e]
theorem Inv.freeze (I : Inv X pins σ H s) (e : Rd H a (.dK kvs)) : ∃ o, s.heap.get? a = some o ∧ Inv X pins σ (upd H a (.frz o (.dK kvs))) s := by
  rcases e with e | ⟨o, e⟩
  · obtain ⟨z, hd, vs, r, o, es, ep, h1, h2⟩ := dk_of I.hok e
    refine ⟨o, h1, ?_⟩
    exact I.write (h' := s.heap) (t' := s.toks) (o := .frz o (.dK kvs)) (e := a) (by rw [e]; exact True.intro) (.inl rfl) (fun _ _ _ q => q) ⟨o, h1⟩ ⟨h1, z, hd, vs, r, o, es, ep, h1, h2⟩
  · obtain ⟨h1, _⟩ := (show ObjOk X.prog X.w H s.heap a (.frz o (.dK kvs)) from I.hok a _ e)
    exact ⟨o, h1, by rw [upd_id e]; exact I⟩
end
def Itk (a : Addr) (o : Obj) (kvs : List (Key × V)) : It :=
  ⟨fun i H => H a = some (.frz o (.dK kvs)) ∧ i < kvs.length, fun i H x H' => H' = H ∧ ∃ kv, kvs[i]? = some kv ∧ x = kV kv.1, fun i H => H a = some (.frz o (.dK kvs)) ∧ kvs.length ≤ i⟩
def epOf (o : Obj) : Nat := match o.data with
  | .dict _ ep => ep
  | _ => 0
theorem relKey {k : Key} {v : Value} (h : keyIs k v = true) : RelV (kV k) v := by
  rcases keyIs_shape h with ⟨i, t, rfl, rfl⟩ | ⟨x, t, rfl, rfl⟩
  · exact ⟨t, rfl⟩
  · exact ⟨t, rfl⟩
theorem dict_frz {P : Program} {w : World} {H : Hp} {h : Heap} {a : Addr} {o : Obj} {kvs : List (Key × V)} (x : ObjOk P w H h a (.frz o (.dK kvs))) : ∃ vs, KV kvs vs ∧ h.DictAt (mixKind P w) a vs (epOf o) ∧ (a == sysModules) = false := by
  obtain ⟨h1, z, hd, vs, r, o', es, ep, h2, h3, h4, h5⟩ := x
  rw [h1] at h2
  cases h2
  refine ⟨vs, r, ⟨o, es, h1, h3, ?_, h5⟩, hd⟩
  have : epOf o = ep := by unfold epOf; rw [h4]
  rw [this]
  exact h4
theorem turn_keys {P : Program} {w : World} {K : PySem.W.Frag} {tg : Expr} (a it : Addr) (o : Obj) (kvs : List (Key × V)) : Turn P w K tg (Itk a o kvs) [it] it (fun i h => h.IsKeyIter it a i kvs.length (epOf o)) where
  mem := by simp
  obj := fun i h st b hb => by
    have e : b = it := by simpa using hb
    subst e
    obtain ⟨o, e, c, d⟩ := st
    exact ⟨o, e, fun v z => by rw [d] at z; cases z⟩
  keep := fun i h h' st k => st.at fun o e => k it (by simp) o e
  item := by
    intro X hP hw hK hc i pins s σ H E I hf st hg
    subst hP hw hK
    obtain ⟨ha, hi⟩ := hg
    obtain ⟨vs, r, dd, _⟩ := dict_frz (I.hok a _ ha)
    have hl := r.length
    obtain ⟨f0, f1, f2, f3, f4, f5⟩ := hf it (by simp)
    have hx : vs[i]? = some (vs[i]'(by (first | lia | omega))) := by simp [show i < vs.length by (first | lia | omega)]
    have hk : kvs[i]? = some kvs[i] := by simp [hi]
    have hkey : kvs[i].1 = (vs[i]'(by (first | lia | omega))).1 := by
      have e := r.keys
      have e1 : (kvs.map (·.1))[i]? = some kvs[i].1 := by rw [List.getElem?_map, hk]; rfl
      rw [e, List.getElem?_map, hx] at e1
      exact (Option.some.inj e1).symm
    rw [hl] at st
    refine wpAny_pyNext_dict_item st dd (k := (vs[i]'(by (first | lia | omega))).1) (v := (vs[i]'(by (first | lia | omega))).2) hx fun key h' hkk st' sb => ?_
    have I1 : Inv X pins σ H { s with heap := h' } := I.turned (t' := s.toks) (fun b o hb e => sb.extBut b o hb e) f0 f1 f3 f4 f5
    obtain ⟨o1, e1, c1, d1⟩ := id st'
    rw [← hl] at st'
    exact ⟨key, rfl, go_of (s := { s with heap := h' }) e1 c1 d1 (by decide) ⟨kV kvs[i].1, H, I1, by rw [hkey]; exact relKey hkk, ⟨rfl, _, hk, rfl⟩, st', fun b hb => (hf b hb).1⟩⟩
  done := by
    intro X hP hw hK hc i pins s σ H E I hf st hg
    subst hP hw hK
    obtain ⟨ha, hi⟩ := hg
    obtain ⟨vs, r, dd, _⟩ := dict_frz (I.hok a _ ha)
    have hl := r.length
    obtain ⟨f0, f1, f2, f3, f4, f5⟩ := hf it (by simp)
    rw [hl] at st
    exact wpAny_pyNext_dict_end (I.ok.hd hc) st dd (by simp; (first | lia | omega)) fun h' eb => ⟨rfl, I.turned (t' := s.toks) (fun b o hb e => eb b o hb e) f0 f1 f3 f4 f5⟩
  self := fun _ _ _ _ _ st h => wpAny_pyIter_keyiter st h
def iDict (td : TE) : TI := fun σ H R => td σ H fun x H1 => ∃ a kvs, x = .ref a ∧ Rd H1 a (.dK kvs) ∧ ∀ o, R (Itk a o kvs) (upd H1 a (.frz o (.dK kvs)))
section
variable {X : Cx} {tg : Expr}
theorem pi_dict {l : Expr} {tl : TE} (hl : PE X l tl) : PI X tg l (iDict tl) := by
  intro pins s σ H R I h
  refine thn (hl pins s σ H _ I h) fun v s1 ⟨x, H1, I1, r1, q1⟩ => ?_
  obtain ⟨a, kvs, e, hq, q⟩ := q1
  subst e
  cases r1
  obtain ⟨o, ho, I2⟩ := I1.freeze hq
  obtain ⟨vs, r, dd, hd⟩ := dict_frz (I2.hok a _ upd_same)
  have hln := r.length
  refine wpAny_pyIter_dict hd dd ?_
  rw [← hln]
  refine ⟨s1.heap.objs.size, [s1.heap.objs.size], _, _, upd H1 a (.frz o (.dK kvs)), rfl, I2.kept (t' := s1.toks) fun b o e => Heap.get?_push_of_some _ e, turn_keys a _ o kvs, ⟨_, Heap.get?_push_size _ rfl, rfl, rfl⟩, fun b hb => ?_, q o⟩
  have e : b = s1.heap.objs.size := by simpa using hb
  subst e
  exact I2.fpOk (Nat.le_refl _) (I2.hok.fresh (Nat.le_refl _))
theorem comp_keys {a : Addr} {o : Obj} {kvs : List (Key × V)} {own : Nat} {caps : List Nat} {g : TG} {tt : TT} {te : TE} {σ : St} {R : Hp → Prop} {l : Addr} {H1 : Hp} (Pv : Nat → List V → Hp → Prop) (h0 : Pv 0 [] (upd H1 l (.lst []))) (hz : kvs.length ≤ sizeLine)
    (hl : ∀ i ys H, i ≤ kvs.length → Pv i ys H → H a = some (.frz o (.dK kvs)) ∧ H l = some (.lst ys) ∧ ys.length ≤ i)
    (hs : ∀ i kv ys H, kvs[i]? = some kv → Pv i ys H → g (kV kv.1) (stC own caps σ) H fun σ2 H2 => Wk (stC own caps σ) σ2 ∧
      tt σ2 H2 fun b H3 => if b = true then te σ2 H3 fun y H4 => H4 l = some (.lst ys) ∧ Pv (i + 1) (ys ++ [y]) (upd H4 l (.lst (ys ++ [y]))) else Pv (i + 1) ys H3)
    (hd : ∀ ys H, Pv kvs.length ys H → R H) :
    ∃ W : Nat → Nat → List V → Hp → Prop, (∃ m, W 0 m [] (upd H1 l (.lst []))) ∧
      ∀ i m ys H, W i m ys H → H l = some (.lst ys) ∧ (((Itk a o kvs).stop i H ∧ R H) ∨ ((Itk a o kvs).go i H ∧ ys.length < sizeLine ∧ ∃ N : List V → Hp → Prop, (∀ ys' H', N ys' H' → ∃ m', m' < m ∧ W (i + 1) m' ys' H') ∧
        ∀ x H', (Itk a o kvs).yld i H x H' → g x (stC own caps σ) H' fun σ2 H2 => Wk (stC own caps σ) σ2 ∧
        tt σ2 H2 fun b H3 => if b = true then te σ2 H3 fun y H4 => H4 l = some (.lst ys) ∧ N (ys ++ [y]) (upd H4 l (.lst (ys ++ [y]))) else N ys H3)) := by
  refine ⟨fun i m ys H => m = kvs.length - i ∧ i ≤ kvs.length ∧ Pv i ys H, ⟨kvs.length, by simp, Nat.zero_le _, h0⟩, ?_⟩
  rintro i m ys H ⟨rfl, hi, p⟩
  obtain ⟨q, e1, e2⟩ := hl i ys H hi p
  refine ⟨e1, ?_⟩
  by_cases hlt : i < kvs.length
  · refine .inr ⟨⟨q, hlt⟩, by (first | lia | omega), Pv (i + 1), fun ys' H' p' => ⟨kvs.length - (i + 1), by (first | lia | omega), rfl, hlt, p'⟩, fun x H' y => ?_⟩
    obtain ⟨e, kv, hk, rfl⟩ := y
    subst e
    exact hs i kv ys _ hk p
  · have e : i = kvs.length := by (first | lia | omega)
    subst e
    exact .inl ⟨⟨q, Nat.le_refl _⟩, hd ys H p⟩
end
end L2

namespace L2
open PySem
theorem call_absK {X : Cx} (K : PySem.W.Frag) (hK : X.K = K) : CallR X (.builtin "abs") (P_call_abs K) := by subst hK; exact call_abs
end L2
namespace Ep
open PySem L2 PySem.SeqAt
theorem same_nilW (ws : List (Int × Int)) : PySem.Spec.same (wsD ws) (.list []) = decide (ws = []) := by
  cases ws <;> rfl
theorem noMix_nilW (ws : List (Int × Int)) : PySem.SeqAt.noMix (wsD ws) (.list []) = true := by
  cases ws <;> rfl
def gainOf : List (Int × Int) → Int → Int
  | [], _ => 0
  | t :: r, n => (if t.1 = n then t.2 else 0) + gainOf r n
theorem gainOf_snoc (m g n : Int) : ∀ ts : List (Int × Int), gainOf (ts ++ [(m, g)]) n = gainOf ts n + if m = n then g else 0
  | [] => by simp [gainOf]
  | t :: r => by
    show (if t.1 = n then t.2 else 0) + gainOf (r ++ [(m, g)]) n = (if t.1 = n then t.2 else 0) + gainOf r n + _
    rw [gainOf_snoc m g n r]
    (first | lia | omega)
theorem gainOf_none {n : Int} : ∀ {ts : List (Int × Int)}, (∀ t ∈ ts, t.1 ≠ n) → gainOf ts n = 0
  | [], _ => rfl
  | t :: r, h => by
    show (if t.1 = n then t.2 else 0) + gainOf r n = 0
    rw [if_neg (h t (by simp)), gainOf_none fun x hx => h x (by simp [hx])]
    rfl
def mk1 (d q : Int) : Int := if 0 ≤ q ∧ q < d then 1 else if d ≤ q ∧ q < 0 then -1 else 0
theorem mk1_up (d q : Int) : mk1 d q + (if d = q then 1 else 0) = mk1 (d + 1) q := by
  unfold mk1
  by_cases e : d = q
  · rw [if_pos e]
    by_cases h : 0 ≤ q
    · rw [if_neg (show ¬ (0 ≤ q ∧ q < d) by (first | lia | omega)), if_neg (show ¬ (d ≤ q ∧ q < 0) by (first | lia | omega)), if_pos (show 0 ≤ q ∧ q < d + 1 by (first | lia | omega))]; rfl
    · rw [if_neg (show ¬ (0 ≤ q ∧ q < d) by (first | lia | omega)), if_pos (show d ≤ q ∧ q < 0 by (first | lia | omega)), if_neg (show ¬ (0 ≤ q ∧ q < d + 1) by (first | lia | omega)), if_neg (show ¬ (d + 1 ≤ q ∧ q < 0) by (first | lia | omega))]; rfl
  · rw [if_neg e, Int.add_zero]
    by_cases h : 0 ≤ q ∧ q < d
    · rw [if_pos h, if_pos (show 0 ≤ q ∧ q < d + 1 by (first | lia | omega))]
    · rw [if_neg h, if_neg (show ¬ (0 ≤ q ∧ q < d + 1) by (first | lia | omega))]
      by_cases g : d ≤ q ∧ q < 0
      · rw [if_pos g, if_pos (show d + 1 ≤ q ∧ q < 0 by (first | lia | omega))]
      · rw [if_neg g, if_neg (show ¬ (d + 1 ≤ q ∧ q < 0) by (first | lia | omega))]
theorem mk1_down (d q : Int) : mk1 d q + (if d + -1 = q then -1 else 0) = mk1 (d + -1) q := by
  have h := mk1_up (d + -1) q
  rw [show d + -1 + 1 = d by (first | lia | omega)] at h
  by_cases e : d + -1 = q
  · rw [if_pos e] at h ⊢; (first | lia | omega)
  · rw [if_neg e] at h ⊢; (first | lia | omega)
def markM (wide : Int) (t : List Int) (n : Int) : Int := mk1 (t.getD (n % wide).toNat 0) (n / wide)
def Acc (wide : Int) (t : List Int) (ts : List (Int × Int)) : Prop := ∀ n, gainOf ts n = markM wide t n
theorem Acc.start (wide : Int) : Acc wide (List.replicate wide.toNat 0) [] := fun n => by
  have e : (List.replicate wide.toNat (0 : Int)).getD (n % wide).toNat 0 = 0 := by
    rw [List.getD_eq_getElem?_getD, List.getElem?_replicate]
    split <;> rfl
  unfold markM
  rw [e]
  show (0 : Int) = mk1 0 _
  unfold mk1
  rw [if_neg (by (first | lia | omega)), if_neg (by (first | lia | omega))]
theorem num_at {wide l q : Int} (w1 : 1 ≤ wide) (l0 : 0 ≤ l) (l1 : l < wide) : (l + wide * q) % wide = l ∧ (l + wide * q) / wide = q := by
  constructor
  · rw [Int.add_mul_emod_self_left]
    exact Int.emod_eq_of_lt l0 l1
  · rw [Int.add_mul_ediv_left _ _ (by (first | lia | omega)), Int.ediv_eq_zero_of_lt l0 l1]
    (first | lia | omega)
theorem Acc.leave {wide : Int} {t : List Int} {ts : List (Int × Int)} {l c : Int} (w1 : 1 ≤ wide) (hl : t.length = wide.toNat) (A : Acc wide t ts) (l0 : 0 ≤ l) (l1 : l < wide) (hc : c = 1 ∨ c = -1) :
    Acc wide (t.set l.toNat (t.getD l.toNat 0 + c)) (ts ++ [(l + wide * (if c = 1 then t.getD l.toNat 0 else t.getD l.toNat 0 + c), c)]) := fun n => by
  rw [gainOf_snoc, A n]
  have m0 := Int.emod_nonneg n (show wide ≠ 0 by (first | lia | omega))
  have m1 := Int.emod_lt_of_pos n (show 0 < wide by (first | lia | omega))
  have dm := Int.emod_add_mul_ediv n wide
  have key : ∀ q : Int, l + wide * q = n ↔ n % wide = l ∧ n / wide = q := fun q => by
    constructor
    · rintro rfl
      exact num_at w1 l0 l1
    · rintro ⟨a, b⟩
      rw [← a, ← b]
      exact dm
  unfold markM
  rw [getD_set (by (first | lia | omega))]
  by_cases e : n % wide = l
  · have e1 : (n % wide).toNat = l.toNat := by rw [e]
    rw [if_pos e1, e1]
    rcases hc with rfl | rfl
    · rw [if_pos rfl, ← mk1_up]
      congr 1
      by_cases g : t.getD l.toNat 0 = n / wide
      · rw [if_pos ((key _).mpr ⟨e, g.symm⟩), if_pos g]
      · rw [if_neg (fun z => g ((key _).mp z).2.symm), if_neg g]
    · rw [if_neg (show ¬ (-1 : Int) = 1 by decide), ← mk1_down]
      congr 1
      by_cases g : t.getD l.toNat 0 + -1 = n / wide
      · rw [if_pos ((key _).mpr ⟨e, g.symm⟩), if_pos g]
      · rw [if_neg (fun z => g ((key _).mp z).2.symm), if_neg g]
  · rw [if_neg (show ¬ (n % wide).toNat = l.toNat by (first | lia | omega)), if_neg (fun z => e ((key _).mp z).1), Int.add_zero]
theorem owedG_mem {wide x : Int} : ∀ {i : Nat} {t : List Int}, x ∈ owedG wide i t ↔ ∃ (l : Nat) (q : Int), l < t.length ∧ t.getD l 0 ≤ q ∧ q < 0 ∧ x = ((i + l : Nat) : Int) + wide * q
  | i, [] => by simp [owedG]
  | i, c :: r => by
    show x ∈ numsM wide i c (-c).toNat ++ owedG wide (i + 1) r ↔ _
    rw [List.mem_append, numsM_mem, owedG_mem (i := i + 1) (t := r)]
    constructor
    · rintro (⟨j, hj, e⟩ | ⟨l, q, hl, h1, h2, e⟩)
      · exact ⟨0, c + j, by simp, by show c ≤ _; (first | lia | omega), by (first | lia | omega), by rw [e]; simp⟩
      · refine ⟨l + 1, q, by simp; (first | lia | omega), by simpa using h1, h2, ?_⟩
        rw [e, show i + 1 + l = i + (l + 1) by (first | lia | omega)]
    · rintro ⟨l, q, hl, h1, h2, e⟩
      cases l with
      | zero =>
        have h1' : c ≤ q := by simpa using h1
        exact .inl ⟨(q - c).toNat, by (first | lia | omega), by rw [e, Int.toNat_of_nonneg (by (first | lia | omega))]; simp; congr 1; (first | lia | omega)⟩
      | succ l =>
        refine .inr ⟨l, q, by simp at hl; (first | lia | omega), by simpa using h1, h2, ?_⟩
        rw [e, show i + 1 + l = i + (l + 1) by (first | lia | omega)]
theorem owed_iff {wide : Int} {t : List Int} (w1 : 1 ≤ wide) (hl : t.length = wide.toNat) {n : Int} : n ∈ owedG wide 0 t ↔ t.getD (n % wide).toNat 0 ≤ n / wide ∧ n / wide < 0 := by
  rw [owedG_mem]
  have m0 := Int.emod_nonneg n (show wide ≠ 0 by (first | lia | omega))
  have m1 := Int.emod_lt_of_pos n (show 0 < wide by (first | lia | omega))
  have dm := Int.emod_add_mul_ediv n wide
  constructor
  · rintro ⟨l, q, h1, h2, h3, e⟩
    obtain ⟨e1, e2⟩ := num_at (wide := wide) (l := (l : Int)) (q := q) w1 (by (first | lia | omega)) (by (first | lia | omega))
    rw [Nat.zero_add] at e
    rw [e, e1, e2, Int.toNat_natCast]
    exact ⟨h2, h3⟩
  · rintro ⟨h1, h2⟩
    refine ⟨(n % wide).toNat, n / wide, by (first | lia | omega), h1, h2, ?_⟩
    rw [Nat.zero_add, Int.toNat_of_nonneg m0]
    exact dm.symm
theorem stand_iff' {wide : Int} {t : List Int} (w1 : 1 ≤ wide) (hl : t.length = wide.toNat) {n : Int} : n ∈ standG wide 0 t ↔ 0 ≤ n / wide ∧ n / wide < t.getD (n % wide).toNat 0 := by
  by_cases hn : 0 ≤ n
  · rw [stand_iff w1 hl hn]
    have := Int.ediv_nonneg hn (show 0 ≤ wide by (first | lia | omega))
    constructor
    · exact fun h => ⟨this, h⟩
    · exact fun h => h.2
  · constructor
    · intro h
      exact absurd (stand_nonneg w1 h) hn
    · rintro ⟨h, _⟩
      have := Int.ediv_neg_of_neg_of_pos (show n < 0 by (first | lia | omega)) (show 0 < wide by (first | lia | omega))
      (first | lia | omega)
theorem Acc.pos {wide : Int} {t : List Int} {ts : List (Int × Int)} (w1 : 1 ≤ wide) (hl : t.length = wide.toNat) (A : Acc wide t ts) (n : Int) : 0 < gainOf ts n ↔ n ∈ standG wide 0 t := by
  rw [A n, stand_iff' w1 hl]
  unfold markM mk1
  split
  · rename_i h; exact ⟨fun _ => h, fun _ => by decide⟩
  · rename_i h
    constructor
    · intro z; split at z <;> (first | lia | omega)
    · exact fun z => absurd z h
theorem Acc.neg {wide : Int} {t : List Int} {ts : List (Int × Int)} (w1 : 1 ≤ wide) (hl : t.length = wide.toNat) (A : Acc wide t ts) (n : Int) : gainOf ts n < 0 ↔ n ∈ owedG wide 0 t := by
  rw [A n, owed_iff w1 hl]
  unfold markM mk1
  split
  · rename_i h
    constructor
    · intro z; (first | lia | omega)
    · intro z; (first | lia | omega)
  · split
    · rename_i h; exact ⟨fun _ => h, fun _ => by decide⟩
    · rename_i h
      constructor
      · intro z; (first | lia | omega)
      · exact fun z => absurd z h
theorem Acc.small {wide : Int} {t : List Int} {ts : List (Int × Int)} (A : Acc wide t ts) (n : Int) : (if gainOf ts n < 0 then -gainOf ts n else gainOf ts n) ≤ 1 := by
  rw [A n]
  unfold markM mk1
  split
  · decide
  · split <;> decide
theorem numsM_nodup {wide lane low : Int} (w1 : 1 ≤ wide) (n : Nat) : (numsM wide lane low n).Nodup := by
  unfold numsM
  refine List.Pairwise.map _ (R := fun a b => a < b) (fun a b h z => ?_) List.pairwise_lt_range
  have : wide * (low + (a : Int)) = wide * (low + (b : Int)) := by (first | lia | omega)
  have := Int.eq_of_mul_eq_mul_left (by (first | lia | omega)) this
  (first | lia | omega)
theorem standG_nodup {wide : Int} (w1 : 1 ≤ wide) : ∀ (i : Nat) (t : List Int), (i : Int) + t.length ≤ wide → (standG wide i t).Nodup
  | _, [], _ => List.nodup_nil
  | i, c :: r, h => by
    show (numsM wide i 0 c.toNat ++ standG wide (i + 1) r).Nodup
    rw [List.length_cons] at h
    refine List.nodup_append.mpr ⟨numsM_nodup w1 _, standG_nodup w1 (i + 1) r (by (first | lia | omega)), fun a ha b hb z => ?_⟩
    subst z
    obtain ⟨j, _, e⟩ := numsM_mem.mp ha
    obtain ⟨l, j', hl, _, e'⟩ := standG_mem.mp hb
    have h1 := (num_at (wide := wide) (l := (i : Int)) (q := 0 + (j : Int)) w1 (by (first | lia | omega)) (by (first | lia | omega))).1
    have h2 := (num_at (wide := wide) (l := ((i + 1 + l : Nat) : Int)) (q := (j' : Int)) w1 (by (first | lia | omega)) (by (first | lia | omega))).1
    rw [← e] at h1
    rw [← e'] at h2
    (first | lia | omega)
theorem owedG_nodup {wide : Int} (w1 : 1 ≤ wide) : ∀ (i : Nat) (t : List Int), (i : Int) + t.length ≤ wide → (owedG wide i t).Nodup
  | _, [], _ => List.nodup_nil
  | i, c :: r, h => by
    show (numsM wide i c (-c).toNat ++ owedG wide (i + 1) r).Nodup
    rw [List.length_cons] at h
    refine List.nodup_append.mpr ⟨numsM_nodup w1 _, owedG_nodup w1 (i + 1) r (by (first | lia | omega)), fun a ha b hb z => ?_⟩
    subst z
    obtain ⟨j, _, e⟩ := numsM_mem.mp ha
    obtain ⟨l, q, hl, _, _, e'⟩ := owedG_mem.mp hb
    have h1 := (num_at (wide := wide) (l := (i : Int)) (q := c + (j : Int)) w1 (by (first | lia | omega)) (by (first | lia | omega))).1
    have h2 := (num_at (wide := wide) (l := ((i + 1 + l : Nat) : Int)) (q := q) w1 (by (first | lia | omega)) (by (first | lia | omega))).1
    rw [← e] at h1
    rw [← e'] at h2
    (first | lia | omega)
structure LeftIs (ts : List (Int × Int)) (kvs : List (Key × V)) : Prop where
  nd : (kvs.map (·.1)).Nodup
  ev : ∀ kv ∈ kvs, ∃ n, kv = (Sum.inl n, V.int (gainOf ts n))
  al : ∀ t ∈ ts, (Sum.inl t.1 : Key) ∈ kvs.map (·.1)
  ln : kvs.length ≤ ts.length
theorem valV_none_of {kvs : List (Key × V)} {k : Key} (h : k ∉ kvs.map (·.1)) : valV kvs k = none := by
  induction kvs with
  | nil => rfl
  | cons p r ih =>
    rw [List.map_cons] at h
    rw [valV_neg (fun z => h (by rw [z]; simp))]
    exact ih fun z => h (List.mem_cons_of_mem _ z)
theorem LeftIs.val {ts : List (Int × Int)} {kvs : List (Key × V)} (L : LeftIs ts kvs) (n : Int) : (valV kvs (Sum.inl n)).getD (.int 0) = .int (gainOf ts n) := by
  by_cases h : (Sum.inl n : Key) ∈ kvs.map (·.1)
  · have ev := L.ev
    clear L
    induction kvs with
    | nil => simp at h
    | cons p r ih =>
      by_cases e : p.1 = Sum.inl n
      · rw [valV_pos e]
        obtain ⟨m, hm⟩ := ev p (by simp)
        rw [hm] at e ⊢
        have e' : m = n := Sum.inl.inj e
        rw [e']
        rfl
      · rw [valV_neg e]
        rw [List.map_cons, List.mem_cons] at h
        exact ih (h.resolve_left fun z => e z.symm) fun kv hkv => ev kv (List.mem_cons_of_mem _ hkv)
  · rw [valV_none_of h, gainOf_none fun t ht z => h (by rw [← z]; exact L.al t ht)]
    rfl
theorem LeftIs.has {ts : List (Int × Int)} {kvs : List (Key × V)} (L : LeftIs ts kvs) {kv : Key × V} (h : kv ∈ kvs) : ∃ n, kv.1 = Sum.inl n ∧ valV kvs (Sum.inl n) = some (.int (gainOf ts n)) := by
  obtain ⟨n, e⟩ := L.ev kv h
  refine ⟨n, by rw [e], ?_⟩
  have v := L.val n
  cases q : valV kvs (Sum.inl n) with
  | some x => rw [q] at v; exact congrArg some v
  | none =>
    have a := valV_any (κ := Key) (Sum.inl n) kvs
    rw [q, Option.isSome_none] at a
    have : (kvs.any fun kv => decide (kv.1 = Sum.inl n)) = true := List.any_eq_true.mpr ⟨kv, h, by rw [e]; simp⟩
    rw [this] at a
    cases a
theorem LeftIs.nil : LeftIs [] [] := ⟨List.nodup_nil, fun _ h => (nomatch h), fun _ h => (nomatch h), Nat.le_refl _⟩
theorem LeftIs.put {ts : List (Int × Int)} {kvs : List (Key × V)} (L : LeftIs ts kvs) (n g : Int) : LeftIs (ts ++ [(n, g)]) (putK kvs (Sum.inl n) (.int (gainOf ts n + g))) := by
  have key : ∀ m, gainOf (ts ++ [(n, g)]) m = gainOf ts m + if n = m then g else 0 := fun m => gainOf_snoc n g m ts
  have len := length_putK kvs (Sum.inl n) (V.int (gainOf ts n + g))
  have ln := L.ln
  by_cases a : (kvs.any fun kv => decide (kv.1 = Sum.inl n)) = true
  · have e : putK kvs (Sum.inl n) (.int (gainOf ts n + g)) = kvs.map (fun kv => if kv.1 = Sum.inl n then (kv.1, V.int (gainOf ts n + g)) else kv) := by unfold putK; rw [if_pos a]
    rw [e] at len ⊢
    have ek : (kvs.map (fun kv => if kv.1 = Sum.inl n then (kv.1, V.int (gainOf ts n + g)) else kv)).map (·.1) = kvs.map (·.1) := by
      rw [List.map_map]
      refine List.map_congr_left fun kv _ => ?_
      show (if kv.1 = Sum.inl n then (kv.1, V.int (gainOf ts n + g)) else kv).1 = kv.1
      split <;> rfl
    refine ⟨by rw [ek]; exact L.nd, fun kv hkv => ?_, fun t ht => ?_, Nat.le_trans len (by rw [List.length_append, List.length_singleton]; exact Nat.add_le_add_right ln 1)⟩
    · obtain ⟨p, hp, rfl⟩ := List.mem_map.mp hkv
      obtain ⟨m, rfl⟩ := L.ev p hp
      refine ⟨m, ?_⟩
      by_cases z : m = n
      · subst z
        rw [if_pos rfl, key, if_pos rfl]
      · rw [if_neg (fun h => z (Sum.inl.inj h)), key, if_neg (Ne.symm z), Int.add_zero]
    · rw [ek]
      rcases List.mem_append.mp ht with h | h
      · exact L.al t h
      · rw [List.mem_singleton.mp h]
        obtain ⟨kv, h1, h2⟩ := List.any_eq_true.mp a
        exact List.mem_map.mpr ⟨kv, h1, of_decide_eq_true h2⟩
  · have no : (Sum.inl n : Key) ∉ kvs.map (·.1) := fun h => by
      obtain ⟨kv, h1, h2⟩ := List.mem_map.mp h
      exact a (List.any_eq_true.mpr ⟨kv, h1, decide_eq_true h2⟩)
    have e : putK kvs (Sum.inl n) (.int (gainOf ts n + g)) = kvs ++ [(Sum.inl n, V.int (gainOf ts n + g))] := by unfold putK; rw [if_neg a]
    rw [e] at len ⊢
    refine ⟨?_, fun kv hkv => ?_, fun t ht => ?_, Nat.le_trans len (by rw [List.length_append, List.length_singleton]; exact Nat.add_le_add_right ln 1)⟩
    · rw [List.map_append]
      refine List.nodup_append.mpr ⟨L.nd, by simp, fun x hx y hy z => no ?_⟩
      have : y = Sum.inl n := by simpa using hy
      rw [← this, ← z]
      exact hx
    · rcases List.mem_append.mp hkv with h | h
      · obtain ⟨m, rfl⟩ := L.ev kv h
        refine ⟨m, ?_⟩
        have z : n ≠ m := fun z => no (by rw [z]; exact List.mem_map.mpr ⟨_, h, rfl⟩)
        rw [key, if_neg z, Int.add_zero]
      · rw [List.mem_singleton.mp h]
        refine ⟨n, ?_⟩
        rw [key, if_pos rfl]
    · rw [List.map_append]
      rcases List.mem_append.mp ht with h | h
      · exact List.mem_append_left _ (L.al t h)
      · rw [List.mem_singleton.mp h]
        exact List.mem_append_right _ (by simp)
def keyI : Key → Int
  | .inl n => n
  | .inr _ => 0
def keysI (kvs : List (Key × V)) : List Int := kvs.map fun kv => keyI kv.1
theorem LeftIs.keys_nodup {ts : List (Int × Int)} {kvs : List (Key × V)} (L : LeftIs ts kvs) : (keysI kvs).Nodup := by
  have nd := L.nd
  have ev := L.ev
  clear L
  induction kvs with
  | nil => exact List.nodup_nil
  | cons p r ih =>
    rw [List.map_cons, List.nodup_cons] at nd
    show (keyI p.1 :: keysI r).Nodup
    refine List.nodup_cons.mpr ⟨fun h => nd.1 ?_, ih nd.2 fun kv hkv => ev kv (List.mem_cons_of_mem _ hkv)⟩
    obtain ⟨kv, h1, h2⟩ := List.mem_map.mp h
    obtain ⟨m, em⟩ := ev kv (List.mem_cons_of_mem _ h1)
    obtain ⟨n, en⟩ := ev p (by simp)
    have e1 : kv.1 = Sum.inl m := by rw [em]
    have e2 : p.1 = Sum.inl n := by rw [en]
    have : m = n := by
      have h2' : keyI kv.1 = keyI p.1 := h2
      rw [e1, e2] at h2'
      exact h2'
    exact List.mem_map.mpr ⟨kv, h1, by rw [e1, e2, this]⟩
theorem LeftIs.mem {ts : List (Int × Int)} {kvs : List (Key × V)} (L : LeftIs ts kvs) {n : Int} (h : gainOf ts n ≠ 0) : n ∈ keysI kvs := by
  by_cases g : ∃ t ∈ ts, t.1 = n
  · obtain ⟨t, ht, rfl⟩ := g
    obtain ⟨kv, h1, h2⟩ := List.mem_map.mp (L.al t ht)
    exact List.mem_map.mpr ⟨kv, h1, by rw [h2]; rfl⟩
  · exact absurd (gainOf_none fun t ht z => g ⟨t, ht, z⟩) h
theorem LeftIs.sorted {ts : List (Int × Int)} {kvs : List (Key × V)} (L : LeftIs ts kvs) {f : Int → Bool} {c ns : List Int} (hc : c.Nodup) (h : ∀ n, n ∈ c ↔ f n = true) (h0 : ∀ n, f n = true → gainOf ts n ≠ 0) (p : ns.Perm c) (s : ns.Pairwise (· ≤ ·)) {ns' : List Int} (p' : ns'.Perm ((keysI kvs).filter f)) (s' : ns'.Pairwise (· ≤ ·)) : ns' = ns := by
  refine sorted_eq p' (p.trans ?_) s' s
  refine (List.perm_ext_iff_of_nodup hc (List.Pairwise.filter _ L.keys_nodup)).mpr fun n => ?_
  rw [List.mem_filter, h]
  exact ⟨fun z => ⟨L.mem (h0 n z), z⟩, fun z => z.2⟩
theorem Run.leaves {wide : Int} {ws : List (Int × Int)} {i : Nat} {st a : PlS} (ok : WOk wide ws) (r : Run wide ws i st a) : Wf wide ws st → ∀ pl, st.pla[i]? = some pl → isOut pl = false → ∃ l, 0 ≤ l ∧ l < wide ∧ a.pla[i]? = some (.out l (leaveN wide st l (st.chg.getD i 0))) ∧ a.tal = (leaveM st l (st.chg.getD i 0)).tal ∧ a.chg = st.chg := by
  induction r with
  | done e o =>
    intro wf pl h no
    rw [e] at h
    cases h
    rw [o] at no
    cases no
  | @more st st' pl e o r ih =>
    intro wf pl' h no
    rw [e] at h
    cases h
    have ps := wf.ps pl (List.mem_of_getElem? e)
    cases pl with
    | out l n => cases no
    | exit l =>
      have e2 := step_at (wide := wide) (ws := ws) e
      refine ⟨l, ps.1, ps.2, ?_⟩
      have fin : st' = stepS wide ws st i (.exit l) := by
        cases r with
        | done _ _ => rfl
        | more e' o' _ =>
          rw [e2] at e'
          cases e'
          cases o'
      rw [fin]
      exact ⟨e2, rfl, rfl⟩
    | before k l =>
      have e2 := step_at (wide := wide) (ws := ws) e
      have no2 : isOut (stepP wide ws st i (.before k l)) = false := by
        show isOut (placeM ws _ (k + 1)) = false
        cases hp : placeM ws (passL ws st k (st.chg.getD i 0)) (k + 1) with
        | before _ _ => rfl
        | exit _ => rfl
        | out l n => exact absurd hp placeF_out
      exact ih (step_wf ok wf e) _ e2 no2
theorem IsGr.of_perm {wide : Int} {t ns : List Int} {g : Int} (pm : ns.Perm (standG wide 0 t)) (h : IsMax (0 :: ns) g) : IsGr wide t g := by
  have e : ∀ x, x ∈ 0 :: ns ↔ x ∈ 0 :: standG wide 0 t := fun x => by rw [List.mem_cons, List.mem_cons, pm.mem_iff]
  exact ⟨(e g).mp h.1, fun x hx => h.2 x ((e x).mpr hx)⟩
inductive SpNum2P (vs : List V) (H : Hp) (Q : VK) : Prop
  | mk (v : V) (wide : Int) (ws : List (Int × Int)) (c : Addr) (t : List Int) (h1 : vs = [v, .ref c]) (h2 : NetOk H v wide ws) (h3 : H c = some (.lst (t.map V.int))) (h4 : t.length = wide.toNat) (h5 : absS t ≤ 63) (h6 : ∀ (a b c : Addr) (ns ms : List Int) (H' : Hp), H a = none → H b = none → H c = none → Same H H' → ns.Perm (standG wide 0 t) → ns.Pairwise (· ≤ ·) → ms.Perm (owedG wide 0 t) → ms.Pairwise (· ≤ ·) → H' a = some (.lst (ns.map V.int)) → H' b = some (.lst (ms.map V.int)) → H' c = some (.lst [.ref a, .ref b]) → Q (.ref c) H') : SpNum2P vs H Q
def spNum2 : Sp := fun vs H Q _ => SpNum2P vs H Q
inductive SpRight23P (C : Addr) (vs : List V) (H : Hp) (Q : VK) : Prop
  | mk (p : Addr) (v : V) (wide : Int) (ws : List (Int × Int)) (L : PlL) (st : PlS) (lt : Addr) (ts : List (Int × Int)) (t : Int) (h1 : vs = [.ref p, v, .ref lt, .int t]) (h2 : NetOk H v wide ws) (h3 : PlayAt C H p v L st) (h4 : st.tal.length = wide.toNat) (h5 : absS st.tal ≤ 63) (h6 : WsL H lt ts) (h7 : ts.length ≤ 60) (h8 : Acc wide st.tal ts) (h9 : 0 ≤ t) (h10 : t < 6) (h11 : ∀ (H' : Hp), Same H H' → Q (.bl true) H') : SpRight23P C vs H Q
def spRight23 (C : Addr) : Sp := fun vs H Q _ => SpRight23P C vs H Q
inductive SpOutP (C : Addr) (vs : List V) (H : Hp) (Q : VK) : Prop
  | mk (p : Addr) (v : V) (wide : Int) (ws : List (Int × Int)) (L : PlL) (st : PlS) (i : Nat) (pl : Place) (h1 : vs = [.ref p, .int i]) (h2 : NetOk H v wide ws) (h3 : PlayAt C H p v L st) (h4 : Wf wide ws st) (h5 : st.pla[i]? = some pl) (h6 : ∀ (st' : PlS) (l m : Int) (H' : Hp), Run wide ws i st st' → st'.pla[i]? = some (.out l m) → PlayAt C H' p v L st' → KpL L H H' → Q (.int m) H') : SpOutP C vs H Q
def spOut (C : Addr) : Sp := fun vs H Q _ => SpOutP C vs H Q
end Ep
namespace L2
open PySem
theorem while_d {c : TT} {tb : TS} {D : Ends} {σ : St} {H : Hp} (Pv : Nat → St → Hp → Prop) (m0 : Nat) (h0 : Pv m0 σ H)
    (hs : ∀ m σ H, Pv m σ H → c σ H fun b H1 => if b = true then ∃ N : St → Hp → Prop, (∀ σ' H', N σ' H' → ∃ m', m' < m ∧ Pv m' σ' H') ∧ tb { D with nx := N, ct := N, bk := D.nx } σ H1 else D.nx σ H1) : tWhile c tb D σ H := ⟨Pv, ⟨m0, h0⟩, hs⟩
end L2
namespace Ep
open PySem L2 PySem.SeqAt
theorem Refs.erase {H : Hp} : ∀ {rs : List V} {ws : List (Int × Int)} (j : Nat), Refs H rs ws → Refs H (rs.eraseIdx j) (ws.eraseIdx j)
  | _, _, _, .nil => .nil
  | _, _, 0, .cons _ t => t
  | _, _, j + 1, .cons h t => .cons h (Refs.erase j t)
structure W23 (C : Addr) (G H : Hp) (p : Addr) (v : V) (wide : Int) (ws : List (Int × Int)) (L : PlL) (st : PlS) (lt : Addr) (ts : List (Int × Int)) (li : Addr) (is : List (Int × Int)) (pn : Addr) : Prop where
  sm : Same G H
  pl : PlayAt C H p v L st
  wf : Wf wide ws st
  few : Few st
  td : WsL H lt ts
  ins : WsL H li is
  acc : Acc wide st.tal ts
  cnt : ts.length + is.length = st.pla.length
  iv : ∀ w ∈ is, ∃ i pl, w.1 = ((i : Nat) : Int) ∧ st.pla[i]? = some pl ∧ isOut pl = false ∧ st.chg.getD i 0 = w.2
  nd : (is.map (·.1)).Nodup
  pe : Pen H pn
  fr : ∀ a ∈ L.own p, G a = none
  ft : G lt = none
  fi : G li = none
  fp : G pn = none
  n1 : lt ∉ L.own p
  n2 : li ∉ L.own p
  n3 : pn ∉ L.own p
  d1 : lt ≠ li
  d2 : pn ≠ lt
  d3 : pn ≠ li
section
variable {C : Addr} {G H H' : Hp} {p : Addr} {v : V} {wide : Int} {ws : List (Int × Int)} {L : PlL} {st : PlS} {lt li pn : Addr} {ts is : List (Int × Int)}
theorem W23.same (W : W23 C G H p v wide ws L st lt ts li is pn) (s : Same H H') : W23 C G H' p v wide ws L st lt ts li is pn :=
  ⟨Same.trans W.sm s, W.pl.same s, W.wf, W.few, W.td.same s, W.ins.same s, W.acc, W.cnt, W.iv, W.nd, let ⟨_, _, _, h⟩ := W.pe; ⟨_, _, _, s _ _ h⟩, W.fr, W.ft, W.fi, W.fp, W.n1, W.n2, W.n3, W.d1, W.d2, W.d3⟩
theorem WsL.put {a : Addr} {xs : List V} {o : HO} {l : Addr} {us : List (Int × Int)} (h : WsL H l us) (ha : H a = some (.lst xs)) (n : l ≠ a) : WsL (upd H a o) l us := WsL.kp Kp.upd ha n h
theorem one_dj {S : List Addr} {y : Addr} (h : y ∉ S) : Dj S [y] := fun a ha hm => h (by simp at hm; rw [← hm]; exact ha)
theorem W23.take (W : W23 C G H p v wide ws L st lt ts li is pn) (i j k : Int) : W23 C G (upd H pn (.lst [.int i, .int j, .int k])) p v wide ws L st lt ts li is pn := by
  obtain ⟨_, _, _, hp⟩ := W.pe
  exact ⟨Same.put W.fp W.sm, W.pl.keep (S := [pn]) (KpS.upd (by simp)) (KT.lst hp (KT.refl _)) (one_dj W.n3), W.wf, W.few, WsL.put W.td hp (Ne.symm W.d2), WsL.put W.ins hp (Ne.symm W.d3), W.acc, W.cnt, W.iv, W.nd, ⟨_, _, _, upd_same⟩, W.fr, W.ft, W.fi, W.fp, W.n1, W.n2, W.n3, W.d1, W.d2, W.d3⟩
theorem W23.pen {p' : Addr} (W : W23 C G H p v wide ws L st lt ts li is pn) (f : H p' = none) (i j k : Int) : W23 C G (upd H p' (.lst [.int i, .int j, .int k])) p v wide ws L st lt ts li is p' := by
  have s : Same H (upd H p' (.lst [.int i, .int j, .int k])) := same_new f _
  have W' := W.same s
  obtain ⟨r1, h1, _⟩ := W.td
  obtain ⟨r2, h2, _⟩ := W.ins
  exact ⟨W'.sm, W'.pl, W'.wf, W'.few, W'.td, W'.ins, W'.acc, W'.cnt, W'.iv, W'.nd, ⟨_, _, _, upd_same⟩, W.fr, W.ft, W.fi, W.sm.free f, W.n1, W.n2, fun z => W.pl.live _ z f, W.d1, Ne.symm (ne_of_none h1 f), Ne.symm (ne_of_none h2 f)⟩
theorem KpL.smG (k : KpL L H H') (s : Same G H) (fr : ∀ a ∈ L.own p, G a = none) : Same G H' := fun b o e => by
  have nn : ∀ {x : Addr}, x ∈ L.own p → b ≠ x := fun hx z => by rw [z, fr _ hx] at e; cases e
  exact k b o (s b o e) (nn (by simp [PlL.own])) (nn (by simp [PlL.own])) (nn (by simp [PlL.own])) (nn (by simp [PlL.own]))
theorem WsL.kpl {l : Addr} {us : List (Int × Int)} (h : WsL H l us) (P : PlayAt C H p v L st) (k : KpL L H H') (n : l ∉ L.own p) : WsL H' l us := by
  obtain ⟨rs, a, b⟩ := h
  exact ⟨rs, (KpL.own (p := p) k) _ _ a n, b.mono fun x xs e => KpL.kt P k _ _ e⟩
theorem Pen.kpl (h : Pen H pn) (k : KpL L H H') (n : pn ∉ L.own p) : Pen H' pn := let ⟨_, _, _, e⟩ := h; ⟨_, _, _, (KpL.own (p := p) k) _ _ e n⟩
theorem W23.enter {lane c : Int} {t6 : Addr} {rs : List V} (W : W23 C G H p v wide ws L st lt ts li is pn) (ml : st.pla.length < 400) (l0 : 0 ≤ lane) (l1 : lane < wide) (hc : c = 1 ∨ c = -1) (pl' : PlayAt C H' p v L (enterM ws st lane c)) (k : KpL L H H') (f6 : H' t6 = none) (e : (upd H' t6 (.tup [.int st.pla.length, .int c])) li = some (.lst rs)) :
    W23 C G (upd (upd H' t6 (.tup [.int st.pla.length, .int c])) li (.lst (rs ++ [.ref t6]))) p v wide ws L (enterM ws st lane c) lt ts li (is ++ [((st.pla.length : Int), c)]) pn := by
  have td1 := WsL.kpl W.td W.pl k W.n1
  have in1 := WsL.kpl W.ins W.pl k W.n2
  have pe1 := Pen.kpl W.pe k W.n3
  have sm1 := KpL.smG k W.sm W.fr
  have s6 : Same H' (upd H' t6 (.tup [.int st.pla.length, .int c])) := same_new f6 _
  have x6 : (upd H' t6 (.tup [.int st.pla.length, .int c])) t6 = some (.tup [.int st.pla.length, .int c]) := upd_same
  generalize upd H' t6 (.tup [.int st.pla.length, .int c]) = H6 at s6 x6 e
  have wf' := enter_wf W.wf l0 l1 hc ml
  have cl := W.wf.cl
  obtain ⟨rs', er, rr⟩ := in1.same s6
  rw [e] at er
  cases er
  obtain ⟨_, _, _, hp⟩ := pe1
  refine ⟨Same.put W.fi (Same.trans sm1 s6), (pl'.same s6).keep (S := [li]) (KpS.upd (by simp)) (KT.lst e (KT.refl _)) (one_dj W.n2), wf', W.few.enter, WsL.put (td1.same s6) e W.d1, ⟨_, upd_same, ?_⟩, W.acc, ?_, fun w hw => ?_, ?_, ⟨_, _, _, (upd_ne W.d3).trans (s6 _ _ hp)⟩, W.fr, W.ft, W.fi, W.fp, W.n1, W.n2, W.n3, W.d1, W.d2, W.d3⟩
  · have kt : KT H6 (upd H6 li (.lst (rs ++ [.ref t6]))) := KT.lst e (KT.refl _)
    exact Refs.app (rr.mono fun b xs z => kt _ _ z) (.cons ⟨t6, rfl, kt _ _ x6⟩ .nil)
  · show ts.length + (is ++ [_]).length = (st.pla ++ [_]).length
    have := W.cnt
    simp
    (first | lia | omega)
  · rcases List.mem_append.mp hw with h | h
    · obtain ⟨i, pl, a, b, d, g⟩ := W.iv w h
      have il : i < st.pla.length := (List.getElem?_eq_some_iff.mp b).1
      refine ⟨i, pl, a, ?_, d, ?_⟩
      · show (st.pla ++ [_])[i]? = _
        rw [List.getElem?_append_left il]
        exact b
      · show (st.chg ++ [c]).getD i 0 = _
        rw [List.getD_eq_getElem?_getD, List.getElem?_append_left (by (first | lia | omega)), ← List.getD_eq_getElem?_getD]
        exact g
    · rw [List.mem_singleton.mp h]
      refine ⟨st.pla.length, placeM ws lane 0, rfl, ?_, ?_, ?_⟩
      · show (st.pla ++ [_])[_]? = _
        simp
      · cases hp : placeM ws lane 0 with
        | before _ _ => rfl
        | exit _ => rfl
        | out l n => exact absurd hp placeF_out
      · show (st.chg ++ [c]).getD st.pla.length 0 = c
        rw [List.getD_eq_getElem?_getD, ← cl]
        simp
  · rw [List.map_append]
    refine List.nodup_append.mpr ⟨W.nd, by simp, fun a ha b hb z => ?_⟩
    have eb : b = (st.pla.length : Int) := by simpa using hb
    obtain ⟨w, hw, rfl⟩ := List.mem_map.mp ha
    obtain ⟨i, pl, a, h, _⟩ := W.iv w hw
    have il : i < st.pla.length := (List.getElem?_eq_some_iff.mp h).1
    (first | lia | omega)
theorem W23.out {i j : Nat} {w : Int × Int} {pl0 : Place} {st' : PlS} {l m : Int} {t6 : Addr} {rs rt : List V} {H2 : Hp} (ok : WOk wide ws) (w1 : 1 ≤ wide) (W : W23 C G H p v wide ws L st lt ts li is pn) (hj : is[j]? = some w) (ei : w.1 = ((i : Nat) : Int)) (hi : st.pla[i]? = some pl0) (no : isOut pl0 = false) (hg : st.chg.getD i 0 = w.2) (e : H li = some (.lst rs)) (run : Run wide ws i st st') (ho : st'.pla[i]? = some (.out l m))
    (pl' : PlayAt C H2 p v L st') (k : KpL L (upd H li (.lst (rs.eraseIdx j))) H2) (f6 : H2 t6 = none) (et : (upd H2 t6 (.tup [.int m, .int w.2])) lt = some (.lst rt)) :
    W23 C G (upd (upd H2 t6 (.tup [.int m, .int w.2])) lt (.lst (rt ++ [.ref t6]))) p v wide ws L st' lt (ts ++ [(m, w.2)]) li (is.eraseIdx j) pn := by
  obtain ⟨rs', er, rr⟩ := W.ins
  rw [e] at er
  cases er
  have kt0 : KT H (upd H li (.lst (rs.eraseIdx j))) := KT.lst e (KT.refl _)
  have pl0 := W.pl.keep (S := [li]) (KpS.upd (by simp)) kt0 (one_dj W.n2)
  have td0 := WsL.put (o := .lst (rs.eraseIdx j)) W.td e W.d1
  have in0 : WsL (upd H li (.lst (rs.eraseIdx j))) li (is.eraseIdx j) := ⟨_, upd_same, Refs.erase j (rr.mono fun b xs z => kt0 _ _ z)⟩
  have sm0 : Same G (upd H li (.lst (rs.eraseIdx j))) := Same.put W.fi W.sm
  have pe0 : Pen (upd H li (.lst (rs.eraseIdx j))) pn := let ⟨_, _, _, h⟩ := W.pe; ⟨_, _, _, (upd_ne W.d3).trans h⟩
  generalize upd H li (.lst (rs.eraseIdx j)) = H1 at k kt0 pl0 td0 in0 sm0 pe0
  have td1 := WsL.kpl td0 pl0 k W.n1
  have in1 := WsL.kpl in0 pl0 k W.n2
  have pe1 := Pen.kpl pe0 k W.n3
  have sm1 := KpL.smG k sm0 W.fr
  have s6 : Same H2 (upd H2 t6 (.tup [.int m, .int w.2])) := same_new f6 _
  have x6 : (upd H2 t6 (.tup [.int m, .int w.2])) t6 = some (.tup [.int m, .int w.2]) := upd_same
  generalize upd H2 t6 (.tup [.int m, .int w.2]) = H6 at s6 x6 et
  obtain ⟨rt', er, rtt⟩ := td1.same s6
  rw [et] at er
  cases er
  obtain ⟨_, _, _, hp⟩ := pe1
  have il : i < st.pla.length := (List.getElem?_eq_some_iff.mp hi).1
  have cl := W.wf.cl
  have lv := run.leaves ok W.wf _ hi no
  obtain ⟨l', l0, l1, ep, etl, ech⟩ := lv
  rw [ho] at ep
  have el : l = l' ∧ m = leaveN wide st l' (st.chg.getD i 0) := by
    injection ep with ep
    injection ep with a b
    exact ⟨a, b⟩
  obtain ⟨oth, len, _⟩ := run.other
  have jl : j < is.length := (List.getElem?_eq_some_iff.mp hj).1
  have kt6 : KT H6 (upd H6 lt (.lst (rt ++ [.ref t6]))) := KT.lst et (KT.refl _)
  refine ⟨Same.put W.ft (Same.trans sm1 s6), (pl'.same s6).keep (S := [lt]) (KpS.upd (by simp)) kt6 (one_dj W.n1), run.wf ok W.wf, Few.run ok run W.wf W.few, ⟨_, upd_same, Refs.app (rtt.mono fun b xs z => kt6 _ _ z) (.cons ⟨t6, rfl, kt6 _ _ x6⟩ .nil)⟩, WsL.put (in1.same s6) et (Ne.symm W.d1), ?_, ?_, fun u hu => ?_, ?_, ⟨_, _, _, (upd_ne W.d2).trans (s6 _ _ hp)⟩, W.fr, W.ft, W.fi, W.fp, W.n1, W.n2, W.n3, W.d1, W.d2, W.d3⟩
  · have := Acc.leave (c := w.2) w1 W.wf.tl W.acc l0 l1 (by rw [← hg]; exact W.wf.cs i (by (first | lia | omega)))
    rw [etl, el.2]
    rw [← hg] at this ⊢
    exact this
  · have := W.cnt
    rw [len, List.length_append, List.length_eraseIdx_of_lt jl, List.length_singleton]
    (first | lia | omega)
  · obtain ⟨j', nj, hj'⟩ := List.mem_eraseIdx_iff_getElem?.mp hu
    obtain ⟨i', pl', a, b, d, g⟩ := W.iv u (List.mem_of_getElem? hj')
    have ne : i' ≠ i := fun z => by
      have d1 : (is.map (·.1))[j']? = some u.1 := by rw [List.getElem?_map, hj']; rfl
      have d2 : (is.map (·.1))[j]? = some w.1 := by rw [List.getElem?_map, hj]; rfl
      exact pair_at (R := fun a b : Int => a ≠ b) (fun _ _ h => Ne.symm h) W.nd d1 d2 nj (by rw [a, ei, z])
    exact ⟨i', pl', a, by rw [oth i' ne]; exact b, d, by rw [ech]; exact g⟩
  · exact List.Pairwise.sublist ((List.eraseIdx_sublist _ _).map _) W.nd
end
end Ep

namespace L2
open PySem PySem.Spec PyProof.Rows
variable {X : Cx}
end L2


namespace Ep
open PySem L2
def top (i : Nat) : Stmt := PySem.Challenge.pw_evenpass_k23_numbers_that_stand_and_lack.main.body.getD i (.Pass ⟨0, 0, 0, 0⟩)
abbrev s_is_whole : Stmt := top 6
abbrev s_is_lane : Stmt := top 7
abbrev s_place_on : Stmt := top 9
abbrev s_numbers_of : Stmt := top 10
abbrev s_Play_init : Stmt := inClass (top 11) 0
abbrev s_Play_enter : Stmt := inClass (top 11) 1
abbrev s_Play_enter_back : Stmt := inClass (top 11) 2
abbrev s_Play_come_in : Stmt := inClass (top 11) 3
abbrev s_Play_where : Stmt := inClass (top 11) 4
abbrev s_Play_step : Stmt := inClass (top 11) 5
abbrev s_Play_leave : Stmt := inClass (top 11) 6
abbrev s_Play_pass_wicket : Stmt := inClass (top 11) 7
abbrev s_Play_turn : Stmt := inClass (top 11) 8
abbrev s_Play_inside : Stmt := inClass (top 11) 9
abbrev s_Play_shown : Stmt := inClass (top 11) 10
abbrev s_Play_counts : Stmt := inClass (top 11) 11
abbrev s_Play_standing : Stmt := inClass (top 11) 12
abbrev s_Play_owed : Stmt := inClass (top 11) 13
abbrev s_Play_lacking : Stmt := inClass (top 11) 14
abbrev s_Play_rest : Stmt := inClass (top 11) 15
abbrev s_Play_twin : Stmt := inClass (top 11) 16
abbrev s_pen : Stmt := top 13
abbrev s_take : Stmt := top 14
abbrev s_wickets : Stmt := top 15
abbrev s_lifted : Stmt := top 16
abbrev s_folded : Stmt := top 17
abbrev s_block : Stmt := top 18
abbrev s_brick : Stmt := top 19
abbrev s_rounds : Stmt := top 20
abbrev s_bent : Stmt := top 21
abbrev s_net : Stmt := top 22
abbrev s_whole_list : Stmt := top 23
abbrev s_numbers : Stmt := top 24
abbrev s_asked : Stmt := top 25
abbrev s_words : Stmt := top 26
abbrev s_right : Stmt := top 27
abbrev s_come_in : Stmt := top 28
abbrev s_out : Stmt := top 29
abbrev s_law : Stmt := top 30
end Ep

namespace Ep
open PySem L2 PySem.SeqAt
local macro_rules | `(tactic| walk_at "cm") => `(tactic| first | exact .inr ⟨by decide, by decide⟩ | exact .inl ⟨by decide, by decide⟩ | exact .inl ⟨by omega, by omega⟩ | exact .inr ⟨by omega, by omega⟩)
local macro_rules | `(tactic| walk_at "side") => `(tactic| first
  | (show (0 : Int) < _; first | decide | omega)
  | (show CMul _ _; walk_at "cm")
  | (show List.length _ ≤ sizeLine; exact lenLine (by simp only [List.length_cons, List.length_nil] <;> omega))
  | (show tyV _ _ _ _; exact .inl ⟨rfl, _, SqL.of (by walk_at "hh")⟩)
  | (show CPow _ _; exact ⟨by decide, by decide, by decide⟩)
  | (show _ ∧ _; exact ⟨by first | decide | omega, by first | decide | omega⟩)
  | omega)
local macro_rules | `(tactic| walk_at "rd1") => `(tactic| first
  | refine ⟨_, rfl, ?_⟩
  | refine ⟨_, _, rfl, rfl, ?_⟩
  | refine ⟨_, _, _, _, rfl, rfl, SqL.of (by assumption), by first | rfl | assumption, ?_⟩
  | refine ⟨_, _, _, _, rfl, rfl, SqT.of (by assumption), by first | rfl | assumption, ?_⟩
  | refine ⟨_, _, rfl, rfl, by walk_at "side", ?_⟩
  | refine REqP.mk rfl ?_
  | refine RNeP.mk rfl ?_
  | refine NewOb.mk (by walk_at "side") ?_
  | refine And.intro rfl ?_
  | refine And.intro (by walk_at "side") ?_
  | refine Or.inr ⟨_, rfl, ?_⟩)
local macro_rules | `(tactic| walk_at "rd") => `(tactic| repeat walk_at "rd1")
local macro_rules | `(tactic| walk_at "ne") => `(tactic| first
  | assumption
  | exact Ne.symm (by assumption)
  | exact ne1 (by assumption) (by walk_at "hh")
  | exact ne2 (by assumption) (by walk_at "hh")
  | exact ne3 (by assumption) (by walk_at "hh")
  | exact ne4 (by assumption) (by walk_at "hh"))
local macro_rules | `(tactic| walk_at "hh") => `(tactic| first
  | assumption
  | exact upd_same
  | exact (upd_ne (by walk_at "ne")).trans (by walk_at "hh")
  | exact (by assumption : Same _ _) _ _ (by walk_at "hh")
  | exact (by assumption : Kp _ _ _) _ _ (by walk_at "hh") (by walk_at "ne"))
local macro_rules | `(tactic| walk_at "fr") => `(tactic| first
  | assumption
  | exact free2 (by assumption) (by walk_at "sm"))
local macro_rules | `(tactic| walk_at "sm") => `(tactic| first
  | assumption
  | exact Same.refl _
  | exact Same.put (by walk_at "fr") (by walk_at "sm")
  | exact trans2 (by assumption) (by walk_at "sm"))
local macro_rules | `(tactic| walk_at "kt") => `(tactic| first
  | exact KT.refl _
  | assumption
  | exact KT.new (by assumption) (by walk_at "kt")
  | exact KT.lst (by walk_at "hh") (by walk_at "kt")
  | exact KT.same (by assumption) (by walk_at "kt")
  | exact KT.kp (by assumption) (by walk_at "hh") (by walk_at "kt"))

section
variable {P : Program} {w : World} {K : PySem.W.Frag} {mg : Str → Option Value} {base : Heap} {f : Addr} {fd : FuncData}
theorem sc_take : FnScope ["_law_pen_here", "_law_size", "_law_found", "_law_number"] ["_law_pen_here", "_law_size"] (defScope s_take) := ⟨rfl, rfl, rfl, by decide +kernel, rfl, by decide +kernel, by decide +kernel⟩
theorem ok_take (F : Here K mg "_law_take" s_take f fd) : FnOk P w K mg base CX0 1 f fd ["_law_pen_here", "_law_size"] spTake := by
  refine F.fn.ok sc_take (fun vs H Q E h => ?_) (fun cdv A outer s H vs Q E hr h => ?_)
  · obtain ⟨p, a, b, c, n, rfl, _⟩ := h
    rfl
  · obtain ⟨p, a, b, c, n, rfl, hp, h0, h1, k⟩ := h
    refine ⟨_, (pss_cons (ps_if (pt_cmpR op_gt (pe_ix ix_list (pv 0) pe_int (fun _ _ => rfl)) pe_int (nomark _))
    (pss_cons (ps_set (i := 2) sc_take.nd rfl (by first | exact Or.inl rfl | exact Or.inr rfl) (pe_op op_mod (pe_ix ix_list (pv 0) pe_int (fun _ _ => rfl)) (pv 1)))
    (pss_cons (ps_asg (pe_op op_fdivB (pe_ix ix_list (pv 0) pe_int (fun _ _ => rfl)) (pv 1)) (pg_sub (pv 0) pe_int set_list))
    (pss_one (ps_ret (pv 2)))))
    pss_nil)
    (pss_cons (ps_asg (pe_op op_add (pe_ix ix_list (pv 0) pe_int (fun _ _ => rfl)) pe_int) (pg_sub (pv 0) pe_int set_list))
    (pss_cons (ps_set (i := 3) sc_take.nd rfl (by first | exact Or.inl rfl | exact Or.inr rfl) (pe_op op_mod (pe_op op_mul (pe_op op_add (pe_ix ix_list (pv 0) pe_int (fun _ _ => rfl)) (pe_op op_mul pe_int (pe_ix ix_list (pv 0) pe_int (fun _ _ => rfl)))) pe_int) pe_int))
    (pss_cons (ps_set (i := 3) sc_take.nd rfl (by first | exact Or.inl rfl | exact Or.inr rfl) (pe_op op_mod (pe_op op_add (pe_op op_mul (pv 3) (pv 3)) (pe_op op_mul pe_int (pe_ix ix_list (pv 0) pe_int (fun _ _ => rfl)))) pe_int))
    (pss_cons (ps_set (i := 3) sc_take.nd rfl (by first | exact Or.inl rfl | exact Or.inr rfl) (pe_op op_mod (pe_op op_mul (pv 3) (pe_op op_add (pe_op op_mod (pv 3) pe_int) (pe_ix ix_list (pv 0) pe_int (fun _ _ => rfl)))) pe_int))
    (pss_one (ps_ret (pe_op op_mod (pe_op op_fdivB (pv 3) pe_int) (pv 1))))))))), ?_⟩
    walk_at "rd"
    refine ite2 (fun g => ?_) (fun g => ?_)
    · walk_at "rd"
      refine ⟨p, _, _, _, rfl, rfl, hp, rfl, ?_⟩
      walk_at "rd"
      exact k _ _ _ _ (Int.emod_nonneg _ (by (first | lia | omega))) (Int.emod_lt_of_pos _ h0)
    · walk_at "rd"
      refine ⟨p, _, _, _, rfl, rfl, hp, rfl, ?_⟩
      have hp2 : (upd H p (HO.lst [V.int a, V.int (b + 1), V.int c])) p = some (.lst [V.int a, V.int (b + 1), V.int c]) := upd_same
      walk_at "rd"
      exact k _ _ _ _ (Int.emod_nonneg _ (by (first | lia | omega))) (Int.emod_lt_of_pos _ h0)
end
section
variable {P : Program} {w : World} {K : PySem.W.Frag} {mg : Str → Option Value} {base : Heap} {f : Addr} {fd : FuncData}
theorem sc_pen : FnScope ["_law_script", "_law_k", "_law_cell"] ["_law_script", "_law_k"] (defScope s_pen) := ⟨rfl, rfl, rfl, by decide +kernel, rfl, by decide +kernel, by decide +kernel⟩
theorem ok_pen (T : Bn mg) (F : Here K mg "_law_pen" s_pen f fd) : FnOk P w K mg base CX0 1 f fd ["_law_script", "_law_k"] (spPen K) := by
  refine F.fn.ok sc_pen (fun vs H Q E h => ?_) (fun cdv A outer s H vs Q E hr h => ?_)
  · obtain ⟨a, ns, k, rfl, _⟩ := h
    rfl
  · obtain ⟨a, ns, k, rfl, hS, h63, h0, h1, q⟩ := h
    refine ⟨_, (pss_cons (ps_set (i := 2) sc_pen.nd rfl (by first | exact Or.inl rfl | exact Or.inr rfl) (pe_op op_add (pe_op op_mul pe_int (pv 1)) pe_int))
    (pss_cons (ps_if (pt_cmpR op_gt (pe_callB call_len_seq rfl T.n_len PySem.boot_len (pa_cons (pv 0) pa_nil)) pe_int (nomark _))
    (pss_cons (ps_set (i := 2) sc_pen.nd rfl (by first | exact Or.inl rfl | exact Or.inr rfl) (pe_ix ix_list (pv 0) (pe_op op_mod (pv 1) (pe_callB call_len_seq rfl T.n_len PySem.boot_len (pa_cons (pv 0) pa_nil))) (fun _ _ => rfl)))
    (pss_one (ps_if (pt_cmpR op_ge (pv 1) (pe_callB call_len_seq rfl T.n_len PySem.boot_len (pa_cons (pv 0) pa_nil)) (nomark _))
    (pss_one (ps_set (i := 2) sc_pen.nd rfl (by first | exact Or.inl rfl | exact Or.inr rfl) (pe_op op_add (pe_op op_mod (pv 2) pe_int) (pe_op op_mul pe_int (pv 1)))))
    pss_nil)))
    pss_nil)
    (pss_cons (ps_if (pt_cmpR op_ge (pv 2) (pe_op op_pow pe_int pe_int) (nomark _))
    (pss_one (ps_ret (pe_lst (pa_cons (pe_op op_sub (pv 2) (pe_op op_pow pe_int pe_int)) (pa_cons pe_int (pa_cons (pe_op op_add (pe_op op_mod (pv 2) pe_int) (pv 1)) pa_nil))))))
    pss_nil)
    (pss_one (ps_ret (pe_lst (pa_cons pe_int (pa_cons pe_int (pa_cons (pe_op op_add (pe_op op_mod (pv 2) pe_int) (pe_op op_mul pe_int (pv 1))) pa_nil))))))))), ?_⟩
    have hl : (ns.map V.int).length = ns.length := List.length_map _
    walk_at "rd"
    refine ⟨_, _, rfl, .inl hS, ?_⟩
    walk_at "rd"
    refine ite2 (fun g => ?_) (fun g => ?_)
    · have g' := of_decide_eq_true g
      rw [hl] at g'
      walk_at "rd"
      refine ⟨_, _, rfl, .inl hS, ?_⟩
      walk_at "rd"
      refine ⟨a, _, _, _, rfl, rfl, hS, atI_int (Int.emod_nonneg _ (by (first | lia | omega))) (by rw [hl]; exact Int.emod_lt_of_pos _ (by (first | lia | omega))), ?_⟩
      walk_at "rd"
      refine ⟨_, _, rfl, .inl hS, ?_⟩
      walk_at "rd"
      refine ite2 (fun g => ?_) (fun g => ?_)
      all_goals
        walk_at "rd"
        refine ite2 (fun g => ?_) (fun g => ?_)
        · walk_at "rd"
          intro p hp
          exact q p _ _ _ hp
        · walk_at "rd"
          intro p hp
          exact q p _ _ _ hp
    · walk_at "rd"
      refine ite2 (fun g => ?_) (fun g => ?_)
      · walk_at "rd"
        intro p hp
        exact q p _ _ _ hp
      · walk_at "rd"
        intro p hp
        exact q p _ _ _ hp
end
section
variable {P : Program} {w : World} {K : PySem.W.Frag} {mg : Str → Option Value} {base : Heap} {f : Addr} {fd : FuncData}
theorem sc_wickets : FnScope ["_law_pen_here", "_law_wide", "_law_many", "_law_found", "_law_k", "_law_first"] ["_law_pen_here", "_law_wide", "_law_many"] (defScope s_wickets) := ⟨rfl, rfl, rfl, by decide +kernel, rfl, by decide +kernel, by decide +kernel⟩
theorem ok_wickets (T : Bn mg) (F : Here K mg "_law_wickets" s_wickets f fd) (C_law_take : Callee P w K mg base "_law_take" 1 ["_law_pen_here", "_law_size"] spTake) :
    FnOk P w K mg base CX0 2 f fd ["_law_pen_here", "_law_wide", "_law_many"] spWickets := by
  refine F.fn.ok sc_wickets (fun vs H Q E h => ?_) (fun cdv A outer s H vs Q E hr h => ?_)
  · obtain ⟨p, wide, many, rfl, _⟩ := h
    rfl
  · obtain ⟨p, wide, many, rfl, ⟨a0, b0, c0, hp0⟩, w1, w8, m0, m41, q⟩ := h
    refine ⟨_, (pss_cons (ps_set (i := 3) sc_wickets.nd rfl (by first | exact Or.inl rfl | exact Or.inr rfl) (pe_lst pa_nil))
    (pss_cons (ps_for PassesOwn.never rfl  (pi_range1 rfl T.n_range (pa_cons (pe_op op_mul (pv 2) (pe_callTy call_int1 rfl T.n_int boot_intT (pa_cons (pe_cmpR op_gt (pv 1) pe_int (nomark _)) pa_nil))) pa_nil)) (pg_name (i := 4) sc_wickets.nd rfl (by first | exact Or.inl rfl | exact Or.inr rfl))
    (pss_cons (ps_set (i := 5) sc_wickets.nd rfl (by first | exact Or.inl rfl | exact Or.inr rfl) (pe_callC C_law_take (hr.mono (by first | decide | (first | lia | omega))) rfl (pa_cons (pv 0) (pa_cons (pv 1) pa_nil))))
    (pss_one (ps_expr (pe_bm PySem.F.plainAttrs_list PySem.F.slot_list_append PySem.F.type_list_append mt_append (pv 3) (pa_cons (pe_tup (pa_cons (pv 5) (pa_cons (pe_op op_mod (pe_op op_add (pe_op op_add (pv 5) pe_int) (pe_callC C_law_take (hr.mono (by first | decide | (first | lia | omega))) rfl (pa_cons (pv 0) (pa_cons (pe_op op_sub (pv 1) pe_int) pa_nil)))) (pv 1)) pa_nil))) pa_nil))))))
    (pss_one (ps_ret (pv 3))))), ?_⟩
    walk_at "rd"
    intro l hl
    have npl : p ≠ l := ne_of_none hp0 hl
    walk_at "rd"
    have hj : ∃ j : Nat, many * (if decide (1 < wide) = true then (1 : Int) else 0) = (j : Int) ∧ (j : Int) ≤ many ∧ (0 < j → 1 < wide) := by
      by_cases hw : 1 < wide
      · exact ⟨many.toNat, by rw [if_pos (decide_eq_true hw)]; (first | lia | omega), by (first | lia | omega), fun _ => hw⟩
      · exact ⟨0, by rw [if_neg (by simpa using hw)]; (first | lia | omega), by (first | lia | omega), fun z => absurd z (by (first | lia | omega))⟩
    obtain ⟨j, ej, jm, jw⟩ := hj
    show -(2 ^ 62) ≤ many * (if decide (1 < wide) = true then (1 : Int) else 0) ∧ _
    rw [ej]
    refine ⟨by (first | lia | omega), by (first | lia | omega), ?_⟩
    refine for_range (n := (j : Int).toNat) (fun i σ Hc => ∃ (v4 v5 : Option V) (ws : List (Int × Int)), σ = [some (.ref p), some (.int wide), some (.int many), some (.ref l), v4, v5] ∧ Kp p H Hc ∧ Pen Hc p ∧ WsL Hc l ws ∧ WOk wide ws ∧ ws.length = i)
      ⟨none, none, [], rfl, Kp.put hl (Kp.refl _ _), ⟨a0, b0, c0, by rw [upd_ne npl]; exact hp0⟩, ⟨[], upd_same, .nil⟩, WOk.nil, rfl⟩ ?_ ?_
    · rintro i σ Hc hlt ⟨v4, v5, ws, rfl, kp, ⟨a, b, c, hp⟩, ⟨rs, hls, hrs⟩, ok, len⟩
      have hw : 1 < wide := jw (by (first | lia | omega))
      walk_at "rd"
      refine ⟨p, a, b, c, wide, rfl, hp, by (first | lia | omega), by (first | lia | omega), fun v a' b' c' v0 vw => ?_⟩
      have hl1 : (upd Hc p (HO.lst [V.int a', V.int b', V.int c'])) l = some (.lst rs) := by rw [upd_ne (Ne.symm npl)]; exact hls
      walk_at "rd"
      refine ⟨p, a', b', c', wide - 1, rfl, upd_same, by (first | lia | omega), by (first | lia | omega), fun u a2 b2 c2 u0 uw => ?_⟩
      walk_at "rd"
      intro t ht
      have kp2 : Kp p Hc (upd (upd (upd Hc p (HO.lst [V.int a', V.int b', V.int c'])) p (HO.lst [V.int a2, V.int b2, V.int c2])) t (HO.tup [V.int v, V.int ((v + 1 + u) % wide)])) :=
        Kp.trans (Kp.trans Kp.upd Kp.upd) (Kp.same (same_new ht _))
      have ntl : t ≠ l := fun z => by
        rw [z, upd_ne (Ne.symm npl), upd_ne (Ne.symm npl), hls] at ht
        cases ht
      have ntp : t ≠ p := fun z => by
        rw [z, upd_same] at ht
        cases ht
      refine ⟨l, rs, _, rfl, rfl, kp2 l _ hls (Ne.symm npl), lenLt (by have := hrs.len; (first | lia | omega)), ?_⟩
      have hv : (v + 1 + u) % wide ≠ v ∧ 0 ≤ (v + 1 + u) % wide ∧ (v + 1 + u) % wide < wide := by
        refine ⟨fun z => ?_, Int.emod_nonneg _ (by (first | lia | omega)), Int.emod_lt_of_pos _ (by (first | lia | omega))⟩
        by_cases hh : v + 1 + u < wide
        · rw [Int.emod_eq_of_lt (by (first | lia | omega)) hh] at z
          (first | lia | omega)
        · have e2 : (v + 1 + u) % wide = v + 1 + u - wide := by
            rw [Int.emod_eq_emod_iff_emod_sub_eq_zero.mpr (show (v + 1 + u - (v + 1 + u - wide)) % wide = 0 by rw [show v + 1 + u - (v + 1 + u - wide) = wide by (first | lia | omega)]; exact Int.emod_self)]
            exact Int.emod_eq_of_lt (by (first | lia | omega)) (by (first | lia | omega))
          rw [e2] at z
          (first | lia | omega)
      refine ⟨_, _, ws ++ [(v, (v + 1 + u) % wide)], rfl, Kp.put hl (Kp.trans kp kp2), ?_, ?_, ok.app (WOk.one ⟨v0, vw, hv.2.1, hv.2.2, Ne.symm hv.1⟩), by simp [len]⟩
      · exact ⟨a2, b2, c2, by rw [upd_ne npl, upd_ne (Ne.symm ntp), upd_same]⟩
      · refine ⟨_, upd_same, ?_⟩
        have hr2 := hrs.kp kp2 hp
        refine (hr2.app (.cons ⟨t, rfl, upd_same⟩ .nil)).mono fun b xs e => ?_
        rw [upd_ne (fun z => ?_)]
        · exact e
        · subst z
          rw [kp2 _ _ hls (Ne.symm npl)] at e
          cases e
    · rintro σ Hc ⟨v4, v5, ws, rfl, kp, pn, wl, ok, len⟩
      walk_at "rd"
      exact q l ws Hc hl kp pn wl ok (by (first | lia | omega))
end
section
variable {P : Program} {w : World} {K : PySem.W.Frag} {mg : Str → Option Value} {base : Heap} {f : Addr} {fd : FuncData}
theorem sc_lifted : FnScope ["_law_wickets_here", "_law_by"] ["_law_wickets_here", "_law_by"] (defScope s_lifted) := ⟨rfl, rfl, rfl, by decide +kernel, rfl, by decide +kernel, by decide +kernel⟩
theorem ok_lifted (F : Here K mg "_law_lifted" s_lifted f fd) : FnOk P w K mg base CX0 1 f fd ["_law_wickets_here", "_law_by"] spLifted := by
  refine F.fn.ok sc_lifted (fun vs H Q E h => ?_) (fun cdv A outer s H vs Q E hr h => ?_)
  · obtain ⟨a, ws, k, rfl, _⟩ := h
    rfl
  · obtain ⟨a, ws, k, rfl, ⟨rs, ha, hrs⟩, hlen, q⟩ := h
    have el := hrs.len
    refine ⟨_, (pss_one (ps_ret (pe_comp ["_law_first", "_law_second"] [("_law_by", 1)] rfl (pi_list (pv 0)) (fun _ _ _ _ _ _ => by exact (pg_tupK K rfl (n := 2) rfl (pgs_cons (pg_name (i := 0) (show List.Nodup (["_law_first", "_law_second", "_law_by"] : List Str) by decide +kernel) rfl (by first | exact Or.inl rfl | exact Or.inr rfl)) (pgs_cons (pg_name (i := 1) (show List.Nodup (["_law_first", "_law_second", "_law_by"] : List Str) by decide +kernel) rfl (by first | exact Or.inl rfl | exact Or.inr rfl)) pgs_nil)))) (fun _ _ _ _ _ _ => by exact pts_nil) (fun _ _ _ _ _ _ => by exact (pe_tup (pa_cons (pe_op op_add (pv 0) (pv 2)) (pa_cons (pe_op op_add (pv 1) (pv 2)) pa_nil))))))), ?_⟩
    walk_at "rd"
    refine ⟨⟨_, SqL.of ha⟩, fun l hl => ?_⟩
    refine comp_list (xs := rs) (fun i ys Hc => Same H Hc ∧ Hc l = some (.lst ys) ∧ Refs Hc ys ((ws.take i).map (lift k))) ⟨Same.put hl (Same.refl H), upd_same, .nil⟩ (lenLine (by (first | lia | omega))) (fun i ys Hc hi ⟨s1, e1, r1⟩ => ⟨SqL.of (s1 a _ ha), e1, by have := r1.len; simp at this; (first | lia | omega)⟩) ?_ ?_
    · rintro i x ys Hc hx ⟨s1, e1, r1⟩
      obtain ⟨w1, t, hw1, rfl, ht⟩ := hrs.get hx
      have ht1 := s1 t _ ht
      refine ⟨t, _, rfl, SqT.of ht1, rfl, ?_⟩
      refine ⟨_, _, rfl, _, _, rfl, rfl, ?_⟩
      refine ⟨⟨.inl rfl, .inl rfl, .inr rfl, trivial⟩, ?_⟩
      refine tru_if ?_
      walk_at "rd"
      intro u hu
      have nul : u ≠ l := fun z => by rw [z, e1] at hu; cases hu
      refine ⟨by rw [upd_ne (Ne.symm nul)]; exact e1, Same.put hl (Same.trans s1 (same_new hu _)), upd_same, ?_⟩
      have et : (ws.take (i + 1)).map (lift k) = (ws.take i).map (lift k) ++ [lift k w1] := by
        rw [List.take_add_one, hw1]; simp
      rw [et]
      have r2 : Refs (upd Hc u (HO.tup [V.int (w1.1 + k), V.int (w1.2 + k)])) (ys ++ [V.ref u]) ((ws.take i).map (lift k) ++ [lift k w1]) :=
        (r1.same (same_new hu _)).app (.cons ⟨u, rfl, upd_same⟩ .nil)
      refine r2.mono fun b xs e => ?_
      rw [upd_ne (fun z => ?_)]
      · exact e
      · subst z
        rw [upd_ne (Ne.symm nul), e1] at e
        cases e
    · rintro ys Hc ⟨s1, e1, r1⟩
      rw [el, List.take_length] at r1
      exact q l Hc hl s1 ⟨ys, e1, r1⟩
end
section
variable {P : Program} {w : World} {K : PySem.W.Frag} {mg : Str → Option Value} {base : Heap} {f : Addr} {fd : FuncData}
theorem sc_folded : FnScope ["_law_wide", "_law_half", "_law_below", "_law_found", "_law_gap"] ["_law_wide"] (defScope s_folded) := ⟨rfl, rfl, rfl, by decide +kernel, rfl, by decide +kernel, by decide +kernel⟩
def gapOf (σ : St) : Nat := match σ[4]? with
  | some (some (V.int g)) => g.toNat
  | _ => 0
theorem ok_folded0 : FnOk P w K mg base CX0 1 f fd ["_law_wide"] (spBuilt 0) :=
  ⟨fun vs H Q E ⟨wide, _, h1, h2, _⟩ => absurd h2 (by rcases h1 with h | h | h | h <;> subst h <;> decide), fun A outer s H args us vs Q E _ _ _ _ ⟨wide, _, h1, h2, _⟩ => absurd h2 (by rcases h1 with h | h | h | h <;> subst h <;> decide)⟩
theorem ok_folded1 {n m : Nat} (T : Bn mg) (F : Here K mg "_law_folded" s_folded f fd) (C_law_lifted : Callee P w K mg base "_law_lifted" 1 ["_law_wickets_here", "_law_by"] spLifted)
    (C_law_folded : Callee P w K mg base "_law_folded" (m + 1) ["_law_wide"] (spBuilt n)) : FnOk P w K mg base CX0 (m + 2) f fd ["_law_wide"] (spBuilt (n + 1)) := by
  refine F.fn.ok sc_folded (fun vs H Q E h => ?_) (fun cdv A outer s H vs Q E hr h => ?_)
  · obtain ⟨wide, rfl, _⟩ := h
    rfl
  · obtain ⟨wide, rfl, hp2, hn, q⟩ := h
    refine ⟨_, (pss_cons (ps_if (pt_cmpR op_eq (pv 0) pe_int (nomark _))
    (pss_one (ps_ret (pe_lst pa_nil)))
    pss_nil)
    (pss_cons (ps_set (i := 1) sc_folded.nd rfl (by first | exact Or.inl rfl | exact Or.inr rfl) (pe_op op_fdiv (pv 0) pe_int))
    (pss_cons (ps_set (i := 2) sc_folded.nd rfl (by first | exact Or.inl rfl | exact Or.inr rfl) (pe_callC C_law_folded (hr.mono (by first | decide | (first | lia | omega))) rfl (pa_cons (pv 1) pa_nil)))
    (pss_cons (ps_set (i := 3) sc_folded.nd rfl (by first | exact Or.inl rfl | exact Or.inr rfl) (pe_op op_cat (pe_op op_cat (pv 2) (pe_callC C_law_lifted (hr.mono (by first | decide | (first | lia | omega))) rfl (pa_cons (pv 2) (pa_cons (pv 1) pa_nil)))) (pe_comp ["_law_k"] [("_law_wide", 0)] rfl (pi_range1 rfl T.n_range (pa_cons (pv 1) pa_nil)) (fun _ _ _ _ _ _ => by exact (pg_name (i := 0) (show List.Nodup (["_law_k", "_law_wide"] : List Str) by decide +kernel) rfl (by first | exact Or.inl rfl | exact Or.inr rfl))) (fun _ _ _ _ _ _ => by exact pts_nil) (fun _ _ _ _ _ _ => by exact (pe_tup (pa_cons (pv 0) (pa_cons (pe_op op_sub (pe_op op_sub (pv 1) pe_int) (pv 0)) pa_nil)))))))
    (pss_cons (ps_set (i := 4) sc_folded.nd rfl (by first | exact Or.inl rfl | exact Or.inr rfl) (pe_op op_fdiv (pv 1) pe_int))
    (pss_cons (ps_while PassesOwn.never  (pt_cmpR op_gt (pv 4) pe_int (nomark _))
    (pss_cons (ps_set (i := 3) sc_folded.nd rfl (by first | exact Or.inl rfl | exact Or.inr rfl) (pe_op op_cat (pv 3) (pe_comp ["_law_k"] [("_law_gap", 4)] rfl (pi_range1 rfl T.n_range (pa_cons (pv 0) pa_nil)) (fun _ _ _ _ _ _ => by exact (pg_name (i := 0) (show List.Nodup (["_law_k", "_law_gap"] : List Str) by decide +kernel) rfl (by first | exact Or.inl rfl | exact Or.inr rfl))) (fun _ _ _ _ _ _ => by exact (pts_one (pt_cmpR op_eq (pe_op op_mod (pe_op op_fdiv (pv 0) (pv 1)) pe_int) pe_int (nomark _)))) (fun _ _ _ _ _ _ => by exact (pe_tup (pa_cons (pv 0) (pa_cons (pe_op op_add (pv 0) (pv 1)) pa_nil)))))))
    (pss_one (ps_set (i := 4) sc_folded.nd rfl (by first | exact Or.inl rfl | exact Or.inr rfl) (pe_op op_fdiv (pv 4) pe_int)))))
    (pss_one (ps_ret (pv 3))))))))), ?_⟩
    walk_at "rd"
    refine ite2 (fun g => ?_) (fun g => ?_)
    · walk_at "rd"
      intro l hl
      exact q l [] _ hl (same_new hl _) ⟨[], upd_same, .nil⟩ WOk.nil (by rcases hp2 with h | h | h | h <;> subst h <;> decide)
    · have hw : wide ≠ 1 := vne g
      obtain ⟨half, eh, hp3, hh⟩ : ∃ half, wide = 2 * half ∧ pow2 half ∧ half ≤ 4 := by
        rcases hp2 with h | h | h | h
        · exact absurd h hw
        · exact ⟨1, by (first | lia | omega), .inl rfl, by decide⟩
        · exact ⟨2, by (first | lia | omega), .inr (.inl rfl), by decide⟩
        · exact ⟨4, by (first | lia | omega), .inr (.inr (.inl rfl)), by decide⟩
      have e2 : wide / 2 = half := by (first | lia | omega)
      have hhn : half < 2 ^ n := by
        have e3 : (2 : Int) ^ (n + 1) = 2 * 2 ^ n := by rw [Int.pow_succ]; (first | lia | omega)
        (first | lia | omega)
      walk_at "rd"
      refine ⟨_, rfl, by rw [e2]; exact hp3, by rw [e2]; exact hhn, fun bl ws1 H1 fb s1 wl1 ok1 len1 => ?_⟩
      rw [e2] at ok1 len1
      obtain ⟨rs1, hb1, hr1⟩ := wl1
      have lr1 := hr1.len
      have half0 : 0 < half := by rcases hp3 with h | h | h | h <;> (first | lia | omega)
      have b64 : half * half ≤ 16 := by rcases hp3 with h | h | h | h <;> subst h <;> first | decide | (first | lia | omega)
      walk_at "rd"
      refine ⟨bl, ws1, wide / 2, rfl, ⟨rs1, hb1, hr1⟩, by (first | lia | omega), fun ll H2 fl2 s2 wl2 => ?_⟩
      obtain ⟨rs2, hb2, hr2⟩ := wl2
      have lr2 := hr2.len
      rw [List.length_map] at lr2
      refine ⟨bl, ll, rs1, rs2, rfl, rfl, s2 _ _ hb1, hb2, lenLine (by (first | lia | omega)), fun c1 fc1 => ?_⟩
      have okl : WOk wide (ws1 ++ ws1.map (lift (wide / 2))) := by
        refine WOk.app (fun w hw => ?_) (fun w hw => ?_)
        · have := ok1 w hw; (first | lia | omega)
        · obtain ⟨u, hu, rfl⟩ := List.mem_map.mp hw
          have := ok1 u hu
          show 0 ≤ u.1 + wide / 2 ∧ u.1 + wide / 2 < wide ∧ 0 ≤ u.2 + wide / 2 ∧ u.2 + wide / 2 < wide ∧ u.1 + wide / 2 ≠ u.2 + wide / 2
          (first | lia | omega)
      have rf1 : Refs (upd H2 c1 (HO.lst (rs1 ++ rs2))) (rs1 ++ rs2) (ws1 ++ ws1.map (lift (wide / 2))) := ((hr1.same s2).app hr2).same (same_new fc1 _)
      have sc1 : Same H (upd H2 c1 (HO.lst (rs1 ++ rs2))) := Same.trans (Same.trans s1 s2) (same_new fc1 _)
      generalize hH3 : upd H2 c1 (HO.lst (rs1 ++ rs2)) = H3 at rf1 sc1
      have hc1 : H3 c1 = some (.lst (rs1 ++ rs2)) := by rw [← hH3]; exact upd_same
      walk_at "rd"
      intro l3 fl3
      refine comp_range (n := (wide / 2).toNat) (CompW H3 l3 fun w => 0 ≤ w.1 ∧ w.1 < wide ∧ 0 ≤ w.2 ∧ w.2 < wide ∧ w.1 ≠ w.2) (CompW.start fl3) (lenLine (by (first | lia | omega))) (fun i ys Hc h => h.len) ?_ ?_
      · intro i ys Hc hi cw
        refine ⟨⟨.inl rfl, .inr rfl, trivial⟩, tru_if ?_⟩
        walk_at "rd"
        intro u hu
        exact cw.more fl3 hu (by show 0 ≤ 0 + (i : Int) ∧ 0 + (i : Int) < wide ∧ 0 ≤ wide - 1 - (0 + (i : Int)) ∧ wide - 1 - (0 + (i : Int)) < wide ∧ 0 + (i : Int) ≠ wide - 1 - (0 + (i : Int)); (first | lia | omega))
      rintro ys H4 ⟨s4, e4, us4, r4, g4, le4⟩
      have l4 := r4.len
      have lw : (rs1 ++ rs2).length = ws1.length + ws1.length := by rw [List.length_append]; (first | lia | omega)
      refine ⟨c1, l3, _, _, rfl, rfl, s4 _ _ hc1, e4, lenLine (by (first | lia | omega)), fun c5 fc5 => ?_⟩
      have rf5 : Refs (upd H4 c5 (HO.lst ((rs1 ++ rs2) ++ ys))) ((rs1 ++ rs2) ++ ys) ((ws1 ++ ws1.map (lift (wide / 2))) ++ us4) := ((rf1.same s4).app r4).same (same_new fc5 _)
      have sc5 : Same H (upd H4 c5 (HO.lst ((rs1 ++ rs2) ++ ys))) := Same.trans (Same.trans sc1 s4) (same_new fc5 _)
      have fr5 : H c5 = none := (Same.trans sc1 s4).free fc5
      walk_at "rd"
      refine while_by (fun σ Hc => ∃ (gap : Int) (fl : Addr) (ws : List (Int × Int)), σ = [some (.int wide), some (.int (wide / 2)), some (.ref bl), some (.ref fl), some (.int gap)] ∧ H fl = none ∧ Same H Hc ∧ WsL Hc fl ws ∧ WOk wide ws ∧ 0 ≤ gap ∧ gap ≤ 2 ∧ (gap = 2 → wide = 8) ∧ (1 ≤ gap → 4 ≤ wide) ∧ (ws.length : Int) + wide * gap ≤ wide * wide)
        (fun σ _ => gapOf σ) ⟨wide / 2 / 2, c5, _, rfl, fr5, sc5, ⟨_, upd_same, rf5⟩, okl.app g4, by (first | lia | omega), by (first | lia | omega), by (first | lia | omega), by (first | lia | omega), ?_⟩ ?_ ?_
      · rw [List.length_append, List.length_append, List.length_map]
        rcases hp3 with h | h | h | h <;> subst h <;> subst eh <;> simp at len1 le4 ⊢ <;> (first | lia | omega)
      · rintro σ Hc ⟨gap, fl, ws, rfl, frl, sc, ⟨rs, hfl, hrs⟩, ok, g0, g2, g8, g4', hlen⟩
        have lrs := hrs.len
        walk_at "rd"
        refine ite2 (fun g => ?_) (fun g => ?_)
        · have gp : 0 < gap := of_decide_eq_true g
          walk_at "rd"
          intro l6 fl6
          refine comp_range (n := wide.toNat) (CompW Hc l6 fun w => 0 ≤ w.1 ∧ w.1 < wide ∧ 0 ≤ w.2 ∧ w.2 < wide ∧ w.1 ≠ w.2) (CompW.start fl6) (lenLine (by (first | lia | omega))) (fun i ys Hc h => h.len) ?_ ?_
          · intro i ys Hd hi cw
            refine ⟨⟨.inl rfl, .inr rfl, trivial⟩, ?_⟩
            walk_at "rd"
            refine ite2 (fun g => ?_) (fun g => ?_)
            · have ge := veq g
              walk_at "rd"
              intro u hu
              refine cw.more fl6 hu ?_
              show 0 ≤ 0 + (i : Int) ∧ 0 + (i : Int) < wide ∧ 0 ≤ 0 + (i : Int) + gap ∧ 0 + (i : Int) + gap < wide ∧ 0 + (i : Int) ≠ 0 + (i : Int) + gap
              have g12 : gap = 1 ∨ gap = 2 := by (first | lia | omega)
              rcases g12 with h | h
              · subst h
                rcases hp3 with h | h | h | h <;> (first | lia | omega)
              · subst h
                (first | lia | omega)
            · exact cw.skip
          rintro ys H7 ⟨s7, e7, us7, r7, g7, le7⟩
          have l7 := r7.len
          have w64 : wide * wide ≤ 64 ∧ 0 ≤ wide * gap := ⟨by rcases hp3 with h | h | h | h <;> subst h <;> subst eh <;> first | decide | (first | lia | omega), Int.mul_nonneg (by (first | lia | omega)) (by (first | lia | omega))⟩
          refine ⟨fl, l6, _, _, rfl, rfl, s7 _ _ hfl, e7, lenLine (by (first | lia | omega)), fun c8 fc8 => ?_⟩
          walk_at "rd"
          refine ⟨⟨gap / 2, c8, ws ++ us7, rfl, (Same.trans sc s7).free fc8, Same.trans (Same.trans sc s7) (same_new fc8 _), ⟨_, upd_same, ((hrs.same s7).app r7).same (same_new fc8 _)⟩, ok.app g7, by (first | lia | omega), by (first | lia | omega), by (first | lia | omega), by (first | lia | omega), ?_⟩, ?_⟩
          · rw [List.length_append]
            have g12 : gap = 1 ∨ gap = 2 := by (first | lia | omega)
            rcases g12 with h | h <;> subst h
            · have : (1 : Int) / 2 = 0 := by decide
              rw [this]; (first | lia | omega)
            · have : (2 : Int) / 2 = 1 := by decide
              rw [this]; (first | lia | omega)
          · show (gap / 2).toNat < gap.toNat
            (first | lia | omega)
        · walk_at "rd"
          exact q fl ws Hc frl sc ⟨rs, hfl, hrs⟩ ok (by
            have : 0 ≤ wide * gap := Int.mul_nonneg (by (first | lia | omega)) g0
            (first | lia | omega))
      · rintro σ Hc Q1 Q2 hm ⟨v, e, h⟩
        refine ⟨v, e, ?_⟩
        obtain ⟨i, j, e1, e2, b, e3, h⟩ := h
        exact ⟨i, j, e1, e2, b, e3, hm _ _ h⟩
end
section
variable {P : Program} {w : World} {K : PySem.W.Frag} {mg : Str → Option Value} {base : Heap} {f : Addr} {fd : FuncData}
theorem sc_block : FnScope ["_law_wide", "_law_half", "_law_below"] ["_law_wide"] (defScope s_block) := ⟨rfl, rfl, rfl, by decide +kernel, rfl, by decide +kernel, by decide +kernel⟩
theorem ok_block0 : FnOk P w K mg base CX0 1 f fd ["_law_wide"] (spBuilt 0) :=
  ⟨fun vs H Q E ⟨wide, _, h1, h2, _⟩ => absurd h2 (by rcases h1 with h | h | h | h <;> subst h <;> decide), fun A outer s H args us vs Q E _ _ _ _ ⟨wide, _, h1, h2, _⟩ => absurd h2 (by rcases h1 with h | h | h | h <;> subst h <;> decide)⟩
theorem ok_block1 {n m : Nat} (T : Bn mg) (F : Here K mg "_law_block" s_block f fd) (C_law_lifted : Callee P w K mg base "_law_lifted" 1 ["_law_wickets_here", "_law_by"] spLifted)
    (C_law_block : Callee P w K mg base "_law_block" (m + 1) ["_law_wide"] (spBuilt n)) : FnOk P w K mg base CX0 (m + 2) f fd ["_law_wide"] (spBuilt (n + 1)) := by
  refine F.fn.ok sc_block (fun vs H Q E h => ?_) (fun cdv A outer s H vs Q E hr h => ?_)
  · obtain ⟨wide, rfl, _⟩ := h
    rfl
  · obtain ⟨wide, rfl, hp2, hn, q⟩ := h
    refine ⟨_, (pss_cons (ps_if (pt_cmpR op_eq (pv 0) pe_int (nomark _))
    (pss_one (ps_ret (pe_lst pa_nil)))
    pss_nil)
    (pss_cons (ps_set (i := 1) sc_block.nd rfl (by first | exact Or.inl rfl | exact Or.inr rfl) (pe_op op_fdiv (pv 0) pe_int))
    (pss_cons (ps_set (i := 2) sc_block.nd rfl (by first | exact Or.inl rfl | exact Or.inr rfl) (pe_callC C_law_block (hr.mono (by first | decide | (first | lia | omega))) rfl (pa_cons (pv 1) pa_nil)))
    (pss_one (ps_ret (pe_op op_cat (pe_op op_cat (pe_comp ["_law_k"] [("_law_wide", 0)] rfl (pi_range1 rfl T.n_range (pa_cons (pv 1) pa_nil)) (fun _ _ _ _ _ _ => by exact (pg_name (i := 0) (show List.Nodup (["_law_k", "_law_wide"] : List Str) by decide +kernel) rfl (by first | exact Or.inl rfl | exact Or.inr rfl))) (fun _ _ _ _ _ _ => by exact pts_nil) (fun _ _ _ _ _ _ => by exact (pe_tup (pa_cons (pv 0) (pa_cons (pe_op op_sub (pe_op op_sub (pv 1) pe_int) (pv 0)) pa_nil))))) (pv 2)) (pe_callC C_law_lifted (hr.mono (by first | decide | (first | lia | omega))) rfl (pa_cons (pv 2) (pa_cons (pv 1) pa_nil))))))))), ?_⟩
    walk_at "rd"
    refine ite2 (fun g => ?_) (fun g => ?_)
    · walk_at "rd"
      intro l hl
      exact q l [] _ hl (same_new hl _) ⟨[], upd_same, .nil⟩ WOk.nil (by rcases hp2 with h | h | h | h <;> subst h <;> decide)
    · have hw : wide ≠ 1 := vne g
      obtain ⟨half, eh, hp3, hh⟩ : ∃ half, wide = 2 * half ∧ pow2 half ∧ half ≤ 4 := by
        rcases hp2 with h | h | h | h
        · exact absurd h hw
        · exact ⟨1, by (first | lia | omega), .inl rfl, by decide⟩
        · exact ⟨2, by (first | lia | omega), .inr (.inl rfl), by decide⟩
        · exact ⟨4, by (first | lia | omega), .inr (.inr (.inl rfl)), by decide⟩
      have e2 : wide / 2 = half := by (first | lia | omega)
      have hhn : half < 2 ^ n := by
        have e3 : (2 : Int) ^ (n + 1) = 2 * 2 ^ n := by rw [Int.pow_succ]; (first | lia | omega)
        (first | lia | omega)
      walk_at "rd"
      refine ⟨_, rfl, by rw [e2]; exact hp3, by rw [e2]; exact hhn, fun bl ws1 H1 fb s1 wl1 ok1 len1 => ?_⟩
      rw [e2] at ok1 len1
      obtain ⟨rs1, hb1, hr1⟩ := wl1
      have lr1 := hr1.len
      have half0 : 0 < half := by rcases hp3 with h | h | h | h <;> (first | lia | omega)
      have b64 : half * half ≤ 16 := by rcases hp3 with h | h | h | h <;> subst h <;> first | decide | (first | lia | omega)
      walk_at "rd"
      intro l3 fl3
      refine comp_range (n := (wide / 2).toNat) (CompW H1 l3 fun w => 0 ≤ w.1 ∧ w.1 < wide ∧ 0 ≤ w.2 ∧ w.2 < wide ∧ w.1 ≠ w.2) (CompW.start fl3) (lenLine (by (first | lia | omega))) (fun i ys Hc h => h.len) ?_ ?_
      · intro i ys Hc hi cw
        refine ⟨⟨.inl rfl, .inr rfl, trivial⟩, tru_if ?_⟩
        walk_at "rd"
        intro u hu
        exact cw.more fl3 hu (by show 0 ≤ 0 + (i : Int) ∧ 0 + (i : Int) < wide ∧ 0 ≤ wide - 1 - (0 + (i : Int)) ∧ wide - 1 - (0 + (i : Int)) < wide ∧ 0 + (i : Int) ≠ wide - 1 - (0 + (i : Int)); (first | lia | omega))
      rintro ys H4 ⟨s4, e4, us4, r4, g4, le4⟩
      have l4 := r4.len
      walk_at "rd"
      refine ⟨l3, bl, _, _, rfl, rfl, e4, s4 _ _ hb1, lenLine (by (first | lia | omega)), fun c5 fc5 => ?_⟩
      have rf5 : Refs (upd H4 c5 (HO.lst (ys ++ rs1))) (ys ++ rs1) (us4 ++ ws1) := (r4.app (hr1.same s4)).same (same_new fc5 _)
      have sc5 : Same H1 (upd H4 c5 (HO.lst (ys ++ rs1))) := Same.trans s4 (same_new fc5 _)
      walk_at "rd"
      refine ⟨bl, ws1, wide / 2, rfl, ⟨rs1, sc5 _ _ hb1, hr1.same sc5⟩, by (first | lia | omega), fun ll H6 fl6 s6 wl6 => ?_⟩
      obtain ⟨rs6, hb6, hr6⟩ := wl6
      have lr6 := hr6.len
      rw [List.length_map] at lr6
      have le5 : (ys ++ rs1).length = us4.length + ws1.length := by rw [List.length_append]; (first | lia | omega)
      refine ⟨c5, ll, _, _, rfl, rfl, s6 _ _ upd_same, hb6, lenLine (by (first | lia | omega)), fun c7 fc7 => ?_⟩
      have okl : WOk wide ((us4 ++ ws1) ++ ws1.map (lift (wide / 2))) := by
        refine WOk.app (WOk.app g4 (fun w hw => ?_)) (fun w hw => ?_)
        · have := ok1 w hw; (first | lia | omega)
        · obtain ⟨u, hu, rfl⟩ := List.mem_map.mp hw
          have := ok1 u hu
          show 0 ≤ u.1 + wide / 2 ∧ u.1 + wide / 2 < wide ∧ 0 ≤ u.2 + wide / 2 ∧ u.2 + wide / 2 < wide ∧ u.1 + wide / 2 ≠ u.2 + wide / 2
          (first | lia | omega)
      refine q c7 _ _ ((Same.trans s1 (Same.trans sc5 s6)).free fc7) (Same.trans (Same.trans s1 (Same.trans sc5 s6)) (same_new fc7 _)) ⟨_, upd_same, ((rf5.same s6).app hr6).same (same_new fc7 _)⟩ okl ?_
      rw [List.length_append, List.length_append, List.length_map]
      rcases hp3 with h | h | h | h <;> subst h <;> subst eh <;> simp at len1 le4 ⊢ <;> (first | lia | omega)
end
section
variable {P : Program} {w : World} {K : PySem.W.Frag} {mg : Str → Option Value} {base : Heap} {f : Addr} {fd : FuncData}
theorem sc_brick : FnScope ["_law_wide", "_law_found", "_law_row"] ["_law_wide"] (defScope s_brick) := ⟨rfl, rfl, rfl, by decide +kernel, rfl, by decide +kernel, by decide +kernel⟩
theorem ok_brick (T : Bn mg) (F : Here K mg "_law_brick" s_brick f fd) : FnOk P w K mg base CX0 1 f fd ["_law_wide"] spBrick := by
  refine F.fn.ok sc_brick (fun vs H Q E h => ?_) (fun cdv A outer s H vs Q E hr h => ?_)
  · obtain ⟨wide, rfl, _⟩ := h
    rfl
  · obtain ⟨wide, rfl, w1, w8, q⟩ := h
    refine ⟨_, (pss_cons (ps_set (i := 1) sc_brick.nd rfl (by first | exact Or.inl rfl | exact Or.inr rfl) (pe_lst pa_nil))
    (pss_cons (ps_for PassesOwn.never rfl  (pi_range1 rfl T.n_range (pa_cons (pv 0) pa_nil)) (pg_name (i := 2) sc_brick.nd rfl (by first | exact Or.inl rfl | exact Or.inr rfl))
    (pss_one (ps_set (i := 1) sc_brick.nd rfl (by first | exact Or.inl rfl | exact Or.inr rfl) (pe_op op_cat (pv 1) (pe_comp ["_law_k"] [("_law_row", 2)] rfl (pi_range1 rfl T.n_range (pa_cons (pe_op op_sub (pv 0) pe_int) pa_nil)) (fun _ _ _ _ _ _ => by exact (pg_name (i := 0) (show List.Nodup (["_law_k", "_law_row"] : List Str) by decide +kernel) rfl (by first | exact Or.inl rfl | exact Or.inr rfl))) (fun _ _ _ _ _ _ => by exact (pts_one (pt_cmpR op_eq (pe_op op_mod (pv 0) pe_int) (pe_op op_mod (pv 1) pe_int) (nomark _)))) (fun _ _ _ _ _ _ => by exact (pe_tup (pa_cons (pv 0) (pa_cons (pe_op op_add (pv 0) pe_int) pa_nil)))))))))
    (pss_one (ps_ret (pv 1))))), ?_⟩
    walk_at "rd"
    intro l hl
    walk_at "rd"
    refine for_range (n := wide.toNat) (fun i σ Hc => ∃ (v2 : Option V) (fl : Addr) (ws : List (Int × Int)), σ = [some (.int wide), some (.ref fl), v2] ∧ H fl = none ∧ Same H Hc ∧ WsL Hc fl ws ∧ WOk wide ws ∧ ws.length ≤ i * 8)
      ⟨none, l, [], rfl, hl, Same.put hl (Same.refl H), ⟨[], upd_same, .nil⟩, WOk.nil, Nat.zero_le _⟩ ?_ ?_
    · rintro i σ Hc hlt ⟨v2, fl, ws, rfl, frl, sc, ⟨rs, hfl, hrs⟩, ok, len⟩
      have lrs := hrs.len
      walk_at "rd"
      intro l3 fl3
      refine comp_range (n := (wide - 1).toNat) (CompW Hc l3 fun w => 0 ≤ w.1 ∧ w.1 < wide ∧ 0 ≤ w.2 ∧ w.2 < wide ∧ w.1 ≠ w.2) (CompW.start fl3) (lenLine (by (first | lia | omega))) (fun i ys Hc h => h.len) ?_ ?_
      · intro j ys Hd hj cw
        refine ⟨⟨.inl rfl, .inr rfl, trivial⟩, ?_⟩
        walk_at "rd"
        refine ite2 (fun g => ?_) (fun g => ?_)
        · walk_at "rd"
          intro u hu
          exact cw.more fl3 hu (by show 0 ≤ 0 + (j : Int) ∧ 0 + (j : Int) < wide ∧ 0 ≤ 0 + (j : Int) + 1 ∧ 0 + (j : Int) + 1 < wide ∧ 0 + (j : Int) ≠ 0 + (j : Int) + 1; (first | lia | omega))
        · exact cw.skip
      rintro ys H7 ⟨s7, e7, us7, r7, g7, le7⟩
      have l7 := r7.len
      refine ⟨fl, l3, _, _, rfl, rfl, s7 _ _ hfl, e7, lenLine (by (first | lia | omega)), fun c8 fc8 => ?_⟩
      exact ⟨_, c8, ws ++ us7, rfl, (Same.trans sc s7).free fc8, Same.trans (Same.trans sc s7) (same_new fc8 _), ⟨_, upd_same, ((hrs.same s7).app r7).same (same_new fc8 _)⟩, ok.app g7, by rw [List.length_append]; (first | lia | omega)⟩
    · rintro σ Hc ⟨v2, fl, ws, rfl, frl, sc, wl, ok, len⟩
      walk_at "rd"
      exact q fl ws Hc frl sc wl ok (by (first | lia | omega))
end
section
variable {P : Program} {w : World} {K : PySem.W.Frag} {mg : Str → Option Value} {base : Heap} {f : Addr} {fd : FuncData}
theorem sc_rounds : FnScope ["_law_wide"] ["_law_wide"] (defScope s_rounds) := ⟨rfl, rfl, rfl, by decide +kernel, rfl, by decide +kernel, by decide +kernel⟩
theorem ok_rounds (F : Here K mg "_law_rounds" s_rounds f fd) (C_law_block : Callee P w K mg base "_law_block" 6 ["_law_wide"] (spBuilt 4)) : FnOk P w K mg base CX0 7 f fd ["_law_wide"] spRounds := by
  refine F.fn.ok sc_rounds (fun vs H Q E h => ?_) (fun cdv A outer s H vs Q E hr h => ?_)
  · obtain ⟨wide, rfl, _⟩ := h
    rfl
  · obtain ⟨wide, rfl, hp2, q⟩ := h
    refine ⟨_, (pss_one (ps_ret (pe_op op_rep (pe_callC C_law_block (hr.mono (by first | decide | (first | lia | omega))) rfl (pa_cons (pv 0) pa_nil)) (pe_ix ix_list (pe_lst (pa_cons pe_int (pa_cons pe_int (pa_cons pe_int (pa_cons pe_int (pa_cons pe_int (pa_cons pe_int (pa_cons pe_int (pa_cons pe_int (pa_cons pe_int pa_nil)))))))))) (pv 0) (fun _ _ => rfl))))), ?_⟩
    walk_at "rd"
    have wb : 0 ≤ wide ∧ wide < 9 ∧ wide * wide ≤ 64 := by rcases hp2 with h | h | h | h <;> subst h <;> decide
    refine ⟨_, rfl, hp2, by rcases hp2 with h | h | h | h <;> subst h <;> decide, fun bl ws1 H1 fb s1 wl1 ok1 len1 => ?_⟩
    obtain ⟨rs1, hb1, hr1⟩ := wl1
    have lr1 := hr1.len
    walk_at "rd"
    intro l2 fl2
    walk_at "rd"
    obtain ⟨k, ek, k0, k3⟩ : ∃ k : Int, atI [V.int 0, V.int 0, V.int 1, V.int 0, V.int 2, V.int 0, V.int 0, V.int 0, V.int 3] wide = some (.int k) ∧ 0 ≤ k ∧ k ≤ 3 := by
      rcases hp2 with h | h | h | h <;> subst h
      · exact ⟨0, rfl, by decide, by decide⟩
      · exact ⟨1, rfl, by decide, by decide⟩
      · exact ⟨2, rfl, by decide, by decide⟩
      · exact ⟨3, rfl, by decide, by decide⟩
    refine ⟨l2, _, wide, _, rfl, rfl, SqL.of upd_same, ek, ?_⟩
    have le : rs1.length * k.toNat ≤ 192 := by
      have : rs1.length ≤ 64 := by (first | lia | omega)
      calc rs1.length * k.toNat ≤ 64 * 3 := Nat.mul_le_mul this (by (first | lia | omega))
        _ = 192 := rfl
    refine ⟨bl, k, rs1, rfl, rfl, (same_new fl2 _) _ _ hb1, by (first | lia | omega), by (first | lia | omega), lenLine (by (first | lia | omega)), fun l3 fl3 => ?_⟩
    have sc : Same H (upd (upd H1 l2 (HO.lst [V.int 0, V.int 0, V.int 1, V.int 0, V.int 2, V.int 0, V.int 0, V.int 0, V.int 3])) l3 (HO.lst (List.replicate k.toNat rs1).flatten)) := Same.trans (Same.trans s1 (same_new fl2 _)) (same_new fl3 _)
    refine q l3 (List.replicate k.toNat ws1).flatten _ ((Same.trans s1 (same_new fl2 _)).free fl3) sc ⟨_, upd_same, ((hr1.same (same_new fl2 _)).same (same_new fl3 _)).rep _⟩ (ok1.rep _) ?_
    rw [len_rep, ← lr1, Nat.mul_comm]
    (first | lia | omega)
end
section
variable {P : Program} {w : World} {K : PySem.W.Frag} {mg : Str → Option Value} {base : Heap} {f : Addr} {fd : FuncData}
theorem sc_bent : FnScope ["_law_pen_here", "_law_wide", "_law_wickets_here", "_law_at", "_law_first", "_law_second", "_law_way", "_law_put"] ["_law_pen_here", "_law_wide", "_law_wickets_here"] (defScope s_bent) := ⟨rfl, rfl, rfl, by decide +kernel, rfl, by decide +kernel, by decide +kernel⟩
theorem ok_bent (T : Bn mg) (F : Here K mg "_law_bent" s_bent f fd) (C_law_take : Callee P w K mg base "_law_take" 1 ["_law_pen_here", "_law_size"] spTake)
    (C_law_wickets : Callee P w K mg base "_law_wickets" 2 ["_law_pen_here", "_law_wide", "_law_many"] spWickets) : FnOk P w K mg base CX0 3 f fd ["_law_pen_here", "_law_wide", "_law_wickets_here"] spBent := by
  refine F.fn.ok sc_bent (fun vs H Q E h => ?_) (fun cdv A outer s H vs Q E hr h => ?_)
  · obtain ⟨p, wide, a, ws, rfl, _⟩ := h
    rfl
  · obtain ⟨p, wide, a, ws, rfl, ⟨a0, b0, c0, hp0⟩, w1, w8, nap, ⟨rs, ha, hrs⟩, ok, len, q⟩ := h
    have lrs := hrs.len
    refine ⟨_, (pss_cons (ps_if (pt_cmpR (op_eqNil hr.units0) (pv 2) (pe_lst pa_nil) (nomark _))
    (pss_one (ps_ret (pv 2)))
    pss_nil)
    (pss_cons (ps_set (i := 3) sc_bent.nd rfl (by first | exact Or.inl rfl | exact Or.inr rfl) (pe_callC C_law_take (hr.mono (by first | decide | (first | lia | omega))) rfl (pa_cons (pv 0) (pa_cons (pe_callB call_len_seq rfl T.n_len PySem.boot_len (pa_cons (pv 2) pa_nil)) pa_nil))))
    (pss_cons (ps_asg (pe_ix ix_list (pv 2) (pv 3) (fun _ _ => rfl)) (pg_tup rfl (pgs_cons (pg_name (i := 4) sc_bent.nd rfl (by first | exact Or.inl rfl | exact Or.inr rfl)) (pgs_cons (pg_name (i := 5) sc_bent.nd rfl (by first | exact Or.inl rfl | exact Or.inr rfl)) pgs_nil))))
    (pss_cons (ps_set (i := 6) sc_bent.nd rfl (by first | exact Or.inl rfl | exact Or.inr rfl) (pe_callC C_law_take (hr.mono (by first | decide | (first | lia | omega))) rfl (pa_cons (pv 0) (pa_cons pe_int pa_nil))))
    (pss_cons (ps_set (i := 7) sc_bent.nd rfl (by first | exact Or.inl rfl | exact Or.inr rfl) (pe_ix ix_list (pe_lst (pa_cons (pe_lst pa_nil) (pa_cons (pe_lst (pa_cons (pe_tup (pa_cons (pv 5) (pa_cons (pv 4) pa_nil))) pa_nil)) (pa_cons (pe_op op_rep (pe_lst (pa_cons (pe_tup (pa_cons (pv 4) (pa_cons (pv 5) pa_nil))) pa_nil)) pe_int) (pa_cons (pe_op op_cat (pe_callC C_law_wickets (hr.mono (by first | decide | (first | lia | omega))) rfl (pa_cons (pv 0) (pa_cons (pv 1) (pa_cons pe_int pa_nil)))) (pe_lst (pa_cons (pe_tup (pa_cons (pv 4) (pa_cons (pv 5) pa_nil))) pa_nil))) pa_nil))))) (pv 6) (fun _ _ => rfl)))
    (pss_one (ps_ret (pe_op op_cat (pe_op op_cat (pe_slice sl_list (pv 2) po_none (po_some (pv 3))) (pv 7)) (pe_slice sl_list (pv 2) (po_some (pe_op op_add (pv 3) pe_int)) po_none))))))))), ?_⟩
    walk_at "rd"
    intro l0 f0
    obtain ⟨k1, hp1, x1, n1⟩ := fresh_step hp0 f0 (.lst [])
    generalize hH1 : upd H l0 (HO.lst []) = H1 at k1 hp1 x1
    refine ⟨a, l0, rs, rfl, rfl, SqL.of (k1 a _ ha nap), SqL.of x1, _, rfl, ?_⟩
    refine ite2 (fun g => ?_) (fun g => ?_)
    · walk_at "rd"
      exact q a ws H1 nap k1 ⟨a0, b0, c0, hp1⟩ ⟨rs, k1 a _ ha nap, hrs.kp k1 hp0⟩ ok (by (first | lia | omega))
    · have ne : rs ≠ [] := not_dec g
      have lpos : 0 < rs.length := List.length_pos_iff.mpr ne
      walk_at "rd"
      refine ⟨_, _, rfl, .inl (SqL.of (k1 a _ ha nap)), ?_⟩
      walk_at "rd"
      refine ⟨p, a0, b0, c0, rs.length, rfl, hp1, by (first | lia | omega), by (first | lia | omega), fun at_ a2 b2 c2 at0 atl => ?_⟩
      have k2 : Kp p H (upd H1 p (.lst [.int a2, .int b2, .int c2])) := Kp.trans k1 Kp.upd
      have hp2 : (upd H1 p (.lst [.int a2, .int b2, .int c2])) p = some (.lst [.int a2, .int b2, .int c2]) := upd_same
      generalize hH2 : upd H1 p (HO.lst [V.int a2, V.int b2, V.int c2]) = H2 at k2 hp2
      walk_at "rd"
      obtain ⟨t, w0, et, mw0, _, ht⟩ := atI_ref hrs at0 atl
      refine ⟨a, _, _, _, rfl, rfl, SqL.of (k2 a _ ha nap), et, ?_⟩
      refine ⟨t, _, rfl, SqT.of (k2.tup hp0 ht), rfl, ?_⟩
      refine ⟨_, _, rfl, _, _, rfl, rfl, ?_⟩
      obtain ⟨o1, o2, o3, o4, o5⟩ := ok w0 mw0
      walk_at "rd"
      refine ⟨p, a2, b2, c2, 4, rfl, hp2, by decide, by decide, fun way a3 b3 c3 way0 way4 => ?_⟩
      have k3 : Kp p H (upd H2 p (.lst [.int a3, .int b3, .int c3])) := Kp.trans k2 Kp.upd
      have hp3 : (upd H2 p (.lst [.int a3, .int b3, .int c3])) p = some (.lst [.int a3, .int b3, .int c3]) := upd_same
      generalize hH3 : upd H2 p (HO.lst [V.int a3, V.int b3, V.int c3]) = H3 at k3 hp3
      walk_at "rd"
      intro e0 f0'
      obtain ⟨k4, hp4, x4, n4⟩ := fresh_step hp3 f0' (.lst [])
      generalize hH4 : upd H3 e0 (HO.lst []) = H4 at k4 hp4 x4
      walk_at "rd"
      intro t1 f1
      obtain ⟨k5, hp5, x5, n5⟩ := fresh_step hp4 f1 (.tup [.int w0.2, .int w0.1])
      generalize hH5 : upd H4 t1 (HO.tup [V.int w0.2, V.int w0.1]) = H5 at k5 hp5 x5
      walk_at "rd"
      intro e1 f1'
      obtain ⟨k6, hp6, x6, n6⟩ := fresh_step hp5 f1' (.lst [.ref t1])
      generalize hH6 : upd H5 e1 (HO.lst [V.ref t1]) = H6 at k6 hp6 x6
      walk_at "rd"
      intro t2 f2
      obtain ⟨k7, hp7, x7, n7⟩ := fresh_step hp6 f2 (.tup [.int w0.1, .int w0.2])
      generalize hH7 : upd H6 t2 (HO.tup [V.int w0.1, V.int w0.2]) = H7 at k7 hp7 x7
      walk_at "rd"
      intro e2 f2'
      obtain ⟨k8, hp8, x8, n8⟩ := fresh_step hp7 f2' (.lst [.ref t2])
      generalize hH8 : upd H7 e2 (HO.lst [V.ref t2]) = H8 at k8 hp8 x8
      walk_at "rd"
      refine ⟨e2, 2, _, rfl, rfl, x8, by decide, by decide, lenLine (by show 1 * 2 ≤ 100000; decide), fun e3 f3 => ?_⟩
      obtain ⟨k9, hp9, x9, n9⟩ := fresh_step hp8 f3 (.lst [.ref t2, .ref t2])
      show tCons _ _ _ (upd H8 e3 (HO.lst [V.ref t2, V.ref t2])) _
      generalize hH9 : upd H8 e3 (HO.lst [V.ref t2, V.ref t2]) = H9 at k9 hp9 x9
      walk_at "rd"
      refine ⟨p, wide, 1, rfl, ⟨_, _, _, hp9⟩, w1, w8, by decide, by decide, fun e4 us4 H10 f4 k10 ⟨a10, b10, c10, hp10⟩ ⟨rs4, x10, hr10⟩ ok4 len4 => ?_⟩
      have n10 : e4 ≠ p := Ne.symm (ne_of_none hp9 f4)
      have l4 := hr10.len
      walk_at "rd"
      intro t3 f3'
      obtain ⟨k11, hp11, x11, n11⟩ := fresh_step hp10 f3' (.tup [.int w0.1, .int w0.2])
      generalize hH11 : upd H10 t3 (HO.tup [V.int w0.1, V.int w0.2]) = H11 at k11 hp11 x11
      walk_at "rd"
      intro e5 f5
      obtain ⟨k12, hp12, x12, n12⟩ := fresh_step hp11 f5 (.lst [.ref t3])
      generalize hH12 : upd H11 e5 (HO.lst [V.ref t3]) = H12 at k12 hp12 x12
      walk_at "rd"
      refine ⟨e4, e5, rs4, [.ref t3], rfl, rfl, k12 _ _ (k11 _ _ x10 n10) n10, x12, lenLine (by simp; (first | lia | omega)), fun e6 f6 => ?_⟩
      obtain ⟨k13, hp13, x13, n13⟩ := fresh_step hp12 f6 (.lst (rs4 ++ [.ref t3]))
      generalize hH13 : upd H12 e6 (HO.lst (rs4 ++ [V.ref t3])) = H13 at k13 hp13 x13
      walk_at "rd"
      intro e7 f7
      obtain ⟨k14, hp14, x14, n14⟩ := fresh_step hp13 f7 (.lst [.ref e0, .ref e1, .ref e3, .ref e6])
      generalize hH14 : upd H13 e7 (HO.lst [V.ref e0, V.ref e1, V.ref e3, V.ref e6]) = H14 at k14 hp14 x14
      -- all that was made stands at H14
      have kk13 : Kp p H12 H14 := Kp.trans k13 k14
      have kk12 : Kp p H11 H14 := Kp.trans k12 kk13
      have kk11 : Kp p H10 H14 := Kp.trans k11 kk12
      have kk10 : Kp p H9 H14 := Kp.trans k10 kk11
      have kk9 : Kp p H8 H14 := Kp.trans k9 kk10
      have kk8 : Kp p H7 H14 := Kp.trans k8 kk9
      have kk7 : Kp p H6 H14 := Kp.trans k7 kk8
      have kk6 : Kp p H5 H14 := Kp.trans k6 kk7
      have kk5 : Kp p H4 H14 := Kp.trans k5 kk6
      have kk4 : Kp p H H14 := Kp.trans k3 (Kp.trans k4 kk5)
      have put : ∃ (e : Addr) (qs : List V) (us : List (Int × Int)), atI [V.ref e0, V.ref e1, V.ref e3, V.ref e6] way = some (.ref e) ∧ e ≠ p ∧ H14 e = some (.lst qs) ∧ Refs H14 qs us ∧ WOk wide us ∧ us.length ≤ 3 := by
        have wc : way = 0 ∨ way = 1 ∨ way = 2 ∨ way = 3 := by (first | lia | omega)
        rcases wc with h | h | h | h <;> subst h
        · exact ⟨e0, [], [], rfl, n4, kk5 _ _ x4 n4, .nil, WOk.nil, by decide⟩
        · exact ⟨e1, [.ref t1], [(w0.2, w0.1)], rfl, n6, kk7 _ _ x6 n6, .cons ⟨t1, rfl, kk6 _ _ x5 n5⟩ .nil, WOk.one ⟨o3, o4, o1, o2, Ne.symm o5⟩, by simp⟩
        · exact ⟨e3, [.ref t2, .ref t2], [(w0.1, w0.2), (w0.1, w0.2)], rfl, n9, kk10 _ _ x9 n9, .cons ⟨t2, rfl, kk8 _ _ x7 n7⟩ (.cons ⟨t2, rfl, kk8 _ _ x7 n7⟩ .nil),
            WOk.app (WOk.one ⟨o1, o2, o3, o4, o5⟩) (WOk.one ⟨o1, o2, o3, o4, o5⟩), by simp⟩
        · exact ⟨e6, rs4 ++ [.ref t3], us4 ++ [(w0.1, w0.2)], rfl, n13, k14 _ _ x13 n13, (hr10.kp kk11 hp10).app (.cons ⟨t3, rfl, kk12 _ _ x11 n11⟩ .nil), ok4.app (WOk.one ⟨o1, o2, o3, o4, o5⟩), by simp; (first | lia | omega)⟩
      obtain ⟨e, qs, us, ee, ne', xe, hq, okq, lq⟩ := put
      have lqs := hq.len
      refine ⟨_, rfl, ?_⟩
      refine ⟨e7, _, _, _, rfl, rfl, SqL.of x14, ee, ?_⟩
      have ha14 := kk4 a _ ha nap
      have hr14 := hrs.kp kk4 hp0
      refine ⟨_, rfl, _, rfl, _, rfl, ?_⟩
      refine ⟨a, rs, rfl, SqL.of ha14, fun s1 fs1 => ?_⟩
      obtain ⟨us1, hc1, sub1, len1⟩ := hr14.cut none (some at_)
      obtain ⟨k15, hp15, x15, n15⟩ := fresh_step hp14 fs1 (.lst (cutV rs none (some at_)))
      generalize hH15 : upd H14 s1 (HO.lst (cutV rs none (some at_))) = H15 at k15 hp15 x15
      have lc1 := hc1.len
      walk_at "rd"
      refine ⟨s1, e, _, _, rfl, rfl, x15, k15 _ _ xe ne', lenLine (by (first | lia | omega)), fun s2 fs2 => ?_⟩
      obtain ⟨k16, hp16, x16, n16⟩ := fresh_step hp15 fs2 (.lst (cutV rs none (some at_) ++ qs))
      generalize hH16 : upd H15 s2 (HO.lst (cutV rs none (some at_) ++ qs)) = H16 at k16 hp16 x16
      refine ⟨_, rfl, _, rfl, _, _, rfl, rfl, _, rfl, ?_⟩
      refine ⟨a, rs, rfl, SqL.of (k16 _ _ (k15 _ _ ha14 nap) nap), fun s3 fs3 => ?_⟩
      obtain ⟨us3, hc3, sub3, len3⟩ := hr14.cut (some (at_ + 1)) none
      obtain ⟨k17, hp17, x17, n17⟩ := fresh_step hp16 fs3 (.lst (cutV rs (some (at_ + 1)) none))
      generalize hH17 : upd H16 s3 (HO.lst (cutV rs (some (at_ + 1)) none)) = H17 at k17 hp17 x17
      have lc3 := hc3.len
      refine ⟨s2, s3, _, _, rfl, rfl, k17 _ _ x16 n16, x17, lenLine (by rw [List.length_append]; (first | lia | omega)), fun s4 fs4 => ?_⟩
      obtain ⟨k18, hp18, x18, n18⟩ := fresh_step hp17 fs4 (.lst ((cutV rs none (some at_) ++ qs) ++ cutV rs (some (at_ + 1)) none))
      have kk14 : Kp p H14 _ := Kp.trans k15 (Kp.trans k16 (Kp.trans k17 k18))
      refine q s4 ((us1 ++ us) ++ us3) _ n18 (Kp.trans kk4 kk14) ⟨_, _, _, hp18⟩ ⟨_, x18, (((hc1.app hq).app hc3).kp kk14 hp14)⟩ (WOk.app (WOk.app (ok.sub sub1) okq) (ok.sub sub3)) ?_
      rw [List.length_append, List.length_append]
      (first | lia | omega)
end
section
variable {P : Program} {w : World} {K : PySem.W.Frag} {mg : Str → Option Value} {base : Heap} {f : Addr} {fd : FuncData}
theorem sc_net : FnScope ["_law_pen_here", "_law_way", "_law_wide", "_law_found"] ["_law_pen_here"] (defScope s_net) := ⟨rfl, rfl, rfl, by decide +kernel, rfl, by decide +kernel, by decide +kernel⟩
theorem ok_net (T : Bn mg) (F : Here K mg "_law_net" s_net f fd) (C_law_take : Callee P w K mg base "_law_take" 1 ["_law_pen_here", "_law_size"] spTake)
    (C_law_wickets : Callee P w K mg base "_law_wickets" 2 ["_law_pen_here", "_law_wide", "_law_many"] spWickets) (C_law_folded : Callee P w K mg base "_law_folded" 6 ["_law_wide"] (spBuilt 4))
    (C_law_rounds : Callee P w K mg base "_law_rounds" 7 ["_law_wide"] spRounds) (C_law_brick : Callee P w K mg base "_law_brick" 1 ["_law_wide"] spBrick)
    (C_law_bent : Callee P w K mg base "_law_bent" 3 ["_law_pen_here", "_law_wide", "_law_wickets_here"] spBent) : FnOk P w K mg base CX0 8 f fd ["_law_pen_here"] spNet := by
  refine F.fn.ok sc_net (fun vs H Q E h => ?_) (fun cdv A outer s H vs Q E hr h => ?_)
  · obtain ⟨p, rfl, _⟩ := h
    rfl
  · obtain ⟨p, rfl, ⟨a0, b0, c0, hp0⟩, q⟩ := h
    -- the last row
    have fin : ∀ (way wide : Int) (fl : Addr) (ws : List (Int × Int)) (Hc : Hp), Kp p H Hc → Pen Hc p → WsL Hc fl ws → 1 ≤ wide → wide ≤ 8 → WOk wide ws →
        tRet (tTup (tCons (tVar 2) (tCons (tCB (P_call_tuple_of K) (tCons (tSl (rSlL K) (tVar 3) tNoPart (tPart (tC (.int 40)))) tNil)) tNil))) { nx := fun _ H' => Q .non H', rt := Q } [some (.ref p), some (.int way), some (.int wide), some (.ref fl)] Hc := by
      rintro way wide fl ws Hc kp ⟨a1, b1, c1, hp1⟩ ⟨rs, hfl, hrs⟩ w1 w8 ok
      refine ⟨_, rfl, _, rfl, _, rfl, ?_⟩
      refine ⟨fl, rs, rfl, SqL.of hfl, fun s1 fs1 => ?_⟩
      have hc1 : Refs Hc (cutV rs none (some 40)) ((ws.drop (HT.sIx rs.length 0 none)).take (HT.sIx rs.length rs.length (some 40) - HT.sIx rs.length 0 none)) := (hrs.drop _).take _
      have sub1 : ∀ w ∈ (ws.drop (HT.sIx rs.length 0 none)).take (HT.sIx rs.length rs.length (some 40) - HT.sIx rs.length 0 none), w ∈ ws := fun w hw => List.mem_of_mem_drop (List.mem_of_mem_take hw)
      have le1 : ((ws.drop (HT.sIx rs.length 0 none)).take (HT.sIx rs.length rs.length (some 40) - HT.sIx rs.length 0 none)).length ≤ 40 := by
        rw [List.length_take]
        have e : HT.sIx rs.length rs.length (some ((40 : Nat) : Int)) = min 40 rs.length := HT.sIx_nat _ _ 40
        have e' : HT.sIx rs.length rs.length (some 40) = min 40 rs.length := e
        rw [e']
        (first | lia | omega)
      generalize (ws.drop (HT.sIx rs.length 0 none)).take (HT.sIx rs.length rs.length (some 40) - HT.sIx rs.length 0 none) = us at hc1 sub1 le1
      obtain ⟨k2, hp2, x2, n2⟩ := fresh_step hp1 fs1 (.lst (cutV rs none (some 40)))
      generalize hH2 : upd Hc s1 (HO.lst (cutV rs none (some 40))) = H2 at k2 hp2 x2
      refine ⟨s1, _, rfl, .inl ⟨SqL.of x2, fun t3 ft3 => ?_⟩⟩
      obtain ⟨k3, hp3, x3, n3⟩ := fresh_step hp2 ft3 (.tup (cutV rs none (some 40)))
      generalize hH3 : upd H2 t3 (HO.tup (cutV rs none (some 40))) = H3 at k3 hp3 x3
      refine ⟨lenLine (by show 2 ≤ 100000; decide), fun n4 fn4 => ?_⟩
      obtain ⟨k4, hp4, x4, m4⟩ := fresh_step hp3 fn4 (.tup [.int wide, .ref t3])
      exact q (.ref n4) wide us _ (Kp.trans kp (Kp.trans k2 (Kp.trans k3 k4))) ⟨_, _, _, hp4⟩ ⟨n4, t3, _, rfl, x4, k4 _ _ x3 n3, hc1.kp (Kp.trans k2 (Kp.trans k3 k4)) hp1⟩ w1 w8 (ok.sub sub1) (by (first | lia | omega))
    refine ⟨_, (pss_cons (ps_set (i := 1) sc_net.nd rfl (by first | exact Or.inl rfl | exact Or.inr rfl) (pe_callC C_law_take (hr.mono (by first | decide | (first | lia | omega))) rfl (pa_cons (pv 0) (pa_cons pe_int pa_nil))))
    (pss_cons (ps_if (pt_cmpR op_lt (pv 1) pe_int (nomark _))
    (pss_cons (ps_set (i := 2) sc_net.nd rfl (by first | exact Or.inl rfl | exact Or.inr rfl) (pe_op op_add pe_int (pe_callC C_law_take (hr.mono (by first | decide | (first | lia | omega))) rfl (pa_cons (pv 0) (pa_cons pe_int pa_nil)))))
    (pss_one (ps_ret (pe_tup (pa_cons (pv 2) (pa_cons (pe_callTy call_tuple_of rfl T.n_tuple boot_tupleT (pa_cons (pe_callC C_law_wickets (hr.mono (by first | decide | (first | lia | omega))) rfl (pa_cons (pv 0) (pa_cons (pv 2) (pa_cons (pe_callC C_law_take (hr.mono (by first | decide | (first | lia | omega))) rfl (pa_cons (pv 0) (pa_cons (pe_ix ix_list (pe_lst (pa_cons pe_int (pa_cons pe_int (pa_cons pe_int pa_nil)))) (pv 1) (fun _ _ => rfl)) pa_nil))) pa_nil)))) pa_nil)) pa_nil))))))
    pss_nil)
    (pss_cons (ps_set (i := 2) sc_net.nd rfl (by first | exact Or.inl rfl | exact Or.inr rfl) (pe_ix ix_list (pe_lst (pa_cons pe_int (pa_cons pe_int (pa_cons pe_int (pa_cons pe_int (pa_cons pe_int pa_nil)))))) (pe_callC C_law_take (hr.mono (by first | decide | (first | lia | omega))) rfl (pa_cons (pv 0) (pa_cons pe_int pa_nil))) (fun _ _ => rfl)))
    (pss_cons (ps_set (i := 3) sc_net.nd rfl (by first | exact Or.inl rfl | exact Or.inr rfl) (pe_ix ix_list (pe_lst (pa_cons (pe_callC C_law_folded (hr.mono (by first | decide | (first | lia | omega))) rfl (pa_cons (pv 2) pa_nil)) (pa_cons (pe_callC C_law_rounds (hr.mono (by first | decide | (first | lia | omega))) rfl (pa_cons (pv 2) pa_nil)) pa_nil))) (pe_callC C_law_take (hr.mono (by first | decide | (first | lia | omega))) rfl (pa_cons (pv 0) (pa_cons pe_int pa_nil))) (fun _ _ => rfl)))
    (pss_cons (ps_if (pt_cmpR op_eq (pv 1) pe_int (nomark _))
    (pss_cons (ps_set (i := 2) sc_net.nd rfl (by first | exact Or.inl rfl | exact Or.inr rfl) (pe_op op_add pe_int (pe_callC C_law_take (hr.mono (by first | decide | (first | lia | omega))) rfl (pa_cons (pv 0) (pa_cons pe_int pa_nil)))))
    (pss_one (ps_set (i := 3) sc_net.nd rfl (by first | exact Or.inl rfl | exact Or.inr rfl) (pe_callC C_law_brick (hr.mono (by first | decide | (first | lia | omega))) rfl (pa_cons (pv 2) pa_nil)))))
    pss_nil)
    (pss_cons (ps_if (pt_cmpR op_eq (pv 1) pe_int (nomark _))
    (pss_one (ps_set (i := 3) sc_net.nd rfl (by first | exact Or.inl rfl | exact Or.inr rfl) (pe_callC C_law_bent (hr.mono (by first | decide | (first | lia | omega))) rfl (pa_cons (pv 0) (pa_cons (pv 2) (pa_cons (pv 3) pa_nil))))))
    pss_nil)
    (pss_cons (ps_if (pt_cmpR op_eq (pv 1) pe_int (nomark _))
    (pss_one (ps_set (i := 3) sc_net.nd rfl (by first | exact Or.inl rfl | exact Or.inr rfl) (pe_op op_cat (pe_callC C_law_wickets (hr.mono (by first | decide | (first | lia | omega))) rfl (pa_cons (pv 0) (pa_cons (pv 2) (pa_cons (pe_callC C_law_take (hr.mono (by first | decide | (first | lia | omega))) rfl (pa_cons (pv 0) (pa_cons pe_int pa_nil))) pa_nil)))) (pv 3))))
    pss_nil)
    (pss_cons (ps_if (pt_cmpR op_eq (pv 1) pe_int (nomark _))
    (pss_one (ps_set (i := 3) sc_net.nd rfl (by first | exact Or.inl rfl | exact Or.inr rfl) (pe_op op_cat (pv 3) (pe_callC C_law_wickets (hr.mono (by first | decide | (first | lia | omega))) rfl (pa_cons (pv 0) (pa_cons (pv 2) (pa_cons (pe_callC C_law_take (hr.mono (by first | decide | (first | lia | omega))) rfl (pa_cons (pv 0) (pa_cons pe_int pa_nil))) pa_nil)))))))
    pss_nil)
    (pss_one (ps_ret (pe_tup (pa_cons (pv 2) (pa_cons (pe_callTy call_tuple_of rfl T.n_tuple boot_tupleT (pa_cons (pe_slice sl_list (pv 3) po_none (po_some pe_int)) pa_nil)) pa_nil))))))))))))), ?_⟩
    walk_at "rd"
    refine ⟨p, a0, b0, c0, 8, rfl, hp0, by decide, by decide, fun way a1 b1 c1 way0 way8 => ?_⟩
    have k1 : Kp p H (upd H p (.lst [.int a1, .int b1, .int c1])) := Kp.upd
    have hp1 : (upd H p (.lst [.int a1, .int b1, .int c1])) p = some (.lst [.int a1, .int b1, .int c1]) := upd_same
    generalize hH1 : upd H p (HO.lst [V.int a1, V.int b1, V.int c1]) = H1 at k1 hp1
    walk_at "rd"
    refine ite2 (fun g => ?_) (fun g => ?_)
    · have g3 : way < 3 := of_decide_eq_true g
      walk_at "rd"
      refine ⟨p, _, _, _, 8, rfl, hp1, by decide, by decide, fun v2 a2 b2 c2 v20 v28 => ?_⟩
      have k2 : Kp p H (upd H1 p (.lst [.int a2, .int b2, .int c2])) := Kp.trans k1 Kp.upd
      have hp2 : (upd H1 p (.lst [.int a2, .int b2, .int c2])) p = some (.lst [.int a2, .int b2, .int c2]) := upd_same
      generalize hH2 : upd H1 p (HO.lst [V.int a2, V.int b2, V.int c2]) = H2 at k2 hp2
      walk_at "rd"
      intro l3 fl3
      obtain ⟨k3, hp3, x3, n3⟩ := fresh_step hp2 fl3 (.lst [.int 4, .int 12, .int 41])
      generalize hH3 : upd H2 l3 (HO.lst [V.int 4, V.int 12, V.int 41]) = H3 at k3 hp3 x3
      obtain ⟨z, ez, z0, z41⟩ : ∃ z : Int, atI [V.int 4, V.int 12, V.int 41] way = some (.int z) ∧ 0 < z ∧ z ≤ 41 := by
        have wc : way = 0 ∨ way = 1 ∨ way = 2 := by (first | lia | omega)
        rcases wc with h | h | h <;> subst h
        · exact ⟨4, rfl, by decide, by decide⟩
        · exact ⟨12, rfl, by decide, by decide⟩
        · exact ⟨41, rfl, by decide, by decide⟩
      walk_at "rd"
      refine ⟨p, _, _, _, z, rfl, hp3, by (first | lia | omega), by (first | lia | omega), fun many a4 b4 c4 m0 mz => ?_⟩
      have k4 : Kp p H (upd H3 p (.lst [.int a4, .int b4, .int c4])) := Kp.trans k2 (Kp.trans k3 Kp.upd)
      have hp4 : (upd H3 p (.lst [.int a4, .int b4, .int c4])) p = some (.lst [.int a4, .int b4, .int c4]) := upd_same
      generalize hH4 : upd H3 p (HO.lst [V.int a4, V.int b4, V.int c4]) = H4 at k4 hp4
      refine ⟨p, 1 + v2, many, rfl, ⟨_, _, _, hp4⟩, by (first | lia | omega), by (first | lia | omega), m0, by (first | lia | omega), fun l5 ws5 H5 f5 k5 ⟨a5, b5, c5, hp5⟩ ⟨rs5, x5, hr5⟩ ok5 len5 => ?_⟩
      refine ⟨l5, _, rfl, .inl ⟨SqL.of x5, fun t6 ft6 => ?_⟩⟩
      obtain ⟨k6, hp6, x6, n6⟩ := fresh_step hp5 ft6 (.tup rs5)
      generalize hH6 : upd H5 t6 (HO.tup rs5) = H6 at k6 hp6 x6
      refine ⟨lenLine (by show 2 ≤ 100000; decide), fun n7 fn7 => ?_⟩
      obtain ⟨k7, hp7, x7, m7⟩ := fresh_step hp6 fn7 (.tup [.int (1 + v2), .ref t6])
      exact q (.ref n7) (1 + v2) ws5 _ (Kp.trans k4 (Kp.trans k5 (Kp.trans k6 k7))) ⟨_, _, _, hp7⟩ ⟨n7, t6, _, rfl, x7, k7 _ _ x6 n6, hr5.kp (Kp.trans k6 k7) hp5⟩ (by (first | lia | omega)) (by (first | lia | omega)) ok5 (by (first | lia | omega))
    · have g3 : ¬ way < 3 := not_dec g
      walk_at "rd"
      intro l2 fl2
      obtain ⟨k2, hp2, x2, n2⟩ := fresh_step hp1 fl2 (.lst [.int 2, .int 4, .int 4, .int 8, .int 1])
      generalize hH2 : upd H1 l2 (HO.lst [V.int 2, V.int 4, V.int 4, V.int 8, V.int 1]) = H2 at k2 hp2 x2
      walk_at "rd"
      refine ⟨p, _, _, _, 5, rfl, hp2, by decide, by decide, fun v3 a3 b3 c3 v30 v35 => ?_⟩
      have k3 : Kp p H (upd H2 p (.lst [.int a3, .int b3, .int c3])) := Kp.trans k1 (Kp.trans k2 Kp.upd)
      have hp3 : (upd H2 p (.lst [.int a3, .int b3, .int c3])) p = some (.lst [.int a3, .int b3, .int c3]) := upd_same
      have x3 : (upd H2 p (.lst [.int a3, .int b3, .int c3])) l2 = some (.lst [.int 2, .int 4, .int 4, .int 8, .int 1]) := by rw [upd_ne n2]; exact x2
      generalize hH3 : upd H2 p (HO.lst [V.int a3, V.int b3, V.int c3]) = H3 at k3 hp3 x3
      obtain ⟨wide, ez, hpw⟩ : ∃ z : Int, atI [V.int 2, V.int 4, V.int 4, V.int 8, V.int 1] v3 = some (.int z) ∧ pow2 z := by
        have wc : v3 = 0 ∨ v3 = 1 ∨ v3 = 2 ∨ v3 = 3 ∨ v3 = 4 := by (first | lia | omega)
        rcases wc with h | h | h | h | h <;> subst h
        · exact ⟨2, rfl, .inr (.inl rfl)⟩
        · exact ⟨4, rfl, .inr (.inr (.inl rfl))⟩
        · exact ⟨4, rfl, .inr (.inr (.inl rfl))⟩
        · exact ⟨8, rfl, .inr (.inr (.inr rfl))⟩
        · exact ⟨1, rfl, .inl rfl⟩
      have w18 : 1 ≤ wide ∧ wide ≤ 8 ∧ wide * wide ≤ 64 ∧ wide < 2 ^ 4 := by rcases hpw with h | h | h | h <;> subst h <;> decide
      refine ⟨l2, _, _, _, rfl, rfl, SqL.of x3, ez, ?_⟩
      refine ⟨_, rfl, wide, rfl, hpw, w18.2.2.2, fun l4 ws4 H4 f4 s4 ⟨rs4, x4, hr4⟩ ok4 len4 => ?_⟩
      refine ⟨_, rfl, wide, rfl, hpw, fun l5 ws5 H5 f5 s5 ⟨rs5, x5, hr5⟩ ok5 len5 => ?_⟩
      have hp5 := s5 _ _ (s4 _ _ hp3)
      have k5 : Kp p H H5 := Kp.trans k3 (Kp.same (Same.trans s4 s5))
      have n4 : l4 ≠ p := Ne.symm (ne_of_none hp3 f4)
      have n5 : l5 ≠ p := Ne.symm (ne_of_none (s4 _ _ hp3) f5)
      walk_at "rd"
      intro l6 f6
      obtain ⟨k6, hp6, x6, n6⟩ := fresh_step hp5 f6 (.lst [.ref l4, .ref l5])
      generalize hH6 : upd H5 l6 (HO.lst [V.ref l4, V.ref l5]) = H6 at k6 hp6 x6
      walk_at "rd"
      refine ⟨p, _, _, _, 2, rfl, hp6, by decide, by decide, fun v7 a7 b7 c7 v70 v72 => ?_⟩
      have k67 : Kp p H5 (upd H6 p (.lst [.int a7, .int b7, .int c7])) := Kp.trans k6 Kp.upd
      have hp7 : (upd H6 p (.lst [.int a7, .int b7, .int c7])) p = some (.lst [.int a7, .int b7, .int c7]) := upd_same
      have x7 : (upd H6 p (.lst [.int a7, .int b7, .int c7])) l6 = some (.lst [.ref l4, .ref l5]) := by rw [upd_ne n6]; exact x6
      generalize hH7 : upd H6 p (HO.lst [V.int a7, V.int b7, V.int c7]) = H7 at k67 hp7 x7
      have k7 : Kp p H H7 := Kp.trans k5 k67
      obtain ⟨fl, ws, efl, nfl, wlf, okf, lef⟩ : ∃ (fl : Addr) (ws : List (Int × Int)), atI [V.ref l4, V.ref l5] v7 = some (.ref fl) ∧ fl ≠ p ∧ WsL H7 fl ws ∧ WOk wide ws ∧ ws.length ≤ 200 := by
        have wc : v7 = 0 ∨ v7 = 1 := by (first | lia | omega)
        rcases wc with h | h <;> subst h
        · exact ⟨l4, ws4, rfl, n4, WsL.kp k67 hp5 n4 ⟨rs4, s5 _ _ x4, hr4.same s5⟩, ok4, by (first | lia | omega)⟩
        · exact ⟨l5, ws5, rfl, n5, WsL.kp k67 hp5 n5 ⟨rs5, x5, hr5⟩, ok5, by (first | lia | omega)⟩
      refine ⟨l6, _, _, _, rfl, rfl, SqL.of x7, efl, ?_⟩
      have wc : way = 3 ∨ way = 4 ∨ way = 5 ∨ way = 6 ∨ way = 7 := by (first | lia | omega)
      rcases wc with h | h | h | h | h <;> subst h
      · -- brick
        refine ⟨_, rfl, rfl, _, rfl, iteTd (by decide) ?_⟩
        walk_at "rd"
        refine ⟨p, _, _, _, 8, rfl, hp7, by decide, by decide, fun v8 a8 b8 c8 v80 v88 => ?_⟩
        have k8 : Kp p H (upd H7 p (.lst [.int a8, .int b8, .int c8])) := Kp.trans k7 Kp.upd
        have hp8 : (upd H7 p (.lst [.int a8, .int b8, .int c8])) p = some (.lst [.int a8, .int b8, .int c8]) := upd_same
        generalize hH8 : upd H7 p (HO.lst [V.int a8, V.int b8, V.int c8]) = H8 at k8 hp8
        walk_at "rd"
        refine ⟨_, rfl, by (first | lia | omega), by (first | lia | omega), fun l9 ws9 H9 f9 s9 wl9 ok9 len9 => ?_⟩
        refine ⟨_, rfl, rfl, _, rfl, iteFd (by decide) ?_⟩
        refine ⟨_, rfl, rfl, _, rfl, iteFd (by decide) ?_⟩
        refine ⟨_, rfl, rfl, _, rfl, iteFd (by decide) ?_⟩
        exact fin 3 (1 + v8) l9 ws9 H9 (Kp.trans k8 (Kp.same s9)) ⟨_, _, _, s9 _ _ hp8⟩ wl9 (by (first | lia | omega)) (by (first | lia | omega)) ok9
      · -- bent
        refine ⟨_, rfl, rfl, _, rfl, iteFd (by decide) ?_⟩
        refine ⟨_, rfl, rfl, _, rfl, iteTd (by decide) ?_⟩
        walk_at "rd"
        refine ⟨p, wide, fl, ws, rfl, ⟨_, _, _, hp7⟩, w18.1, w18.2.1, nfl, wlf, okf, by (first | lia | omega), fun l9 us9 H9 n9 k9 pn9 wl9 ok9 len9 => ?_⟩
        refine ⟨_, rfl, rfl, _, rfl, iteFd (by decide) ?_⟩
        refine ⟨_, rfl, rfl, _, rfl, iteFd (by decide) ?_⟩
        exact fin 4 wide l9 us9 H9 (Kp.trans k7 k9) pn9 wl9 w18.1 w18.2.1 ok9
      · -- some ahead
        refine ⟨_, rfl, rfl, _, rfl, iteFd (by decide) ?_⟩
        refine ⟨_, rfl, rfl, _, rfl, iteFd (by decide) ?_⟩
        refine ⟨_, rfl, rfl, _, rfl, iteTd (by decide) ?_⟩
        walk_at "rd"
        refine ⟨p, _, _, _, 4, rfl, hp7, by decide, by decide, fun v8 a8 b8 c8 v80 v84 => ?_⟩
        have k78 : Kp p H7 (upd H7 p (.lst [.int a8, .int b8, .int c8])) := Kp.upd
        have hp8 : (upd H7 p (.lst [.int a8, .int b8, .int c8])) p = some (.lst [.int a8, .int b8, .int c8]) := upd_same
        generalize hH8 : upd H7 p (HO.lst [V.int a8, V.int b8, V.int c8]) = H8 at k78 hp8
        refine ⟨p, wide, v8, rfl, ⟨_, _, _, hp8⟩, w18.1, w18.2.1, v80, by (first | lia | omega), fun l9 ws9 H9 f9 k9 ⟨a9, b9, c9, hp9⟩ ⟨rs9, x9, hr9⟩ ok9 len9 => ?_⟩
        obtain ⟨rsf, xf, hrf⟩ := WsL.kp (Kp.trans k78 k9) hp7 nfl wlf
        have lr9 := hr9.len
        have lrf := hrf.len
        walk_at "rd"
        refine ⟨l9, fl, _, _, rfl, rfl, x9, xf, lenLine (by (first | lia | omega)), fun l10 f10 => ?_⟩
        obtain ⟨k10, hp10, x10, n10⟩ := fresh_step hp9 f10 (.lst (rs9 ++ rsf))
        generalize hH10 : upd H9 l10 (HO.lst (rs9 ++ rsf)) = H10 at k10 hp10 x10
        refine ⟨_, rfl, rfl, _, rfl, iteFd (by decide) ?_⟩
        exact fin 5 wide l10 (ws9 ++ ws) H10 (Kp.trans k7 (Kp.trans k78 (Kp.trans k9 k10))) ⟨_, _, _, hp10⟩ ⟨_, x10, (hr9.app hrf).kp k10 hp9⟩ w18.1 w18.2.1 (ok9.app okf)
      · -- some behind
        refine ⟨_, rfl, rfl, _, rfl, iteFd (by decide) ?_⟩
        refine ⟨_, rfl, rfl, _, rfl, iteFd (by decide) ?_⟩
        refine ⟨_, rfl, rfl, _, rfl, iteFd (by decide) ?_⟩
        refine ⟨_, rfl, rfl, _, rfl, iteTd (by decide) ?_⟩
        walk_at "rd"
        refine ⟨p, _, _, _, 3, rfl, hp7, by decide, by decide, fun v8 a8 b8 c8 v80 v84 => ?_⟩
        have k78 : Kp p H7 (upd H7 p (.lst [.int a8, .int b8, .int c8])) := Kp.upd
        have hp8 : (upd H7 p (.lst [.int a8, .int b8, .int c8])) p = some (.lst [.int a8, .int b8, .int c8]) := upd_same
        generalize hH8 : upd H7 p (HO.lst [V.int a8, V.int b8, V.int c8]) = H8 at k78 hp8
        refine ⟨p, wide, v8, rfl, ⟨_, _, _, hp8⟩, w18.1, w18.2.1, v80, by (first | lia | omega), fun l9 ws9 H9 f9 k9 ⟨a9, b9, c9, hp9⟩ ⟨rs9, x9, hr9⟩ ok9 len9 => ?_⟩
        obtain ⟨rsf, xf, hrf⟩ := WsL.kp (Kp.trans k78 k9) hp7 nfl wlf
        have lr9 := hr9.len
        have lrf := hrf.len
        refine ⟨fl, l9, _, _, rfl, rfl, xf, x9, lenLine (by (first | lia | omega)), fun l10 f10 => ?_⟩
        obtain ⟨k10, hp10, x10, n10⟩ := fresh_step hp9 f10 (.lst (rsf ++ rs9))
        generalize hH10 : upd H9 l10 (HO.lst (rsf ++ rs9)) = H10 at k10 hp10 x10
        exact fin 6 wide l10 (ws ++ ws9) H10 (Kp.trans k7 (Kp.trans k78 (Kp.trans k9 k10))) ⟨_, _, _, hp10⟩ ⟨_, x10, (hrf.app hr9).kp k10 hp9⟩ w18.1 w18.2.1 (okf.app ok9)
      · refine ⟨_, rfl, rfl, _, rfl, iteFd (by decide) ?_⟩
        refine ⟨_, rfl, rfl, _, rfl, iteFd (by decide) ?_⟩
        refine ⟨_, rfl, rfl, _, rfl, iteFd (by decide) ?_⟩
        refine ⟨_, rfl, rfl, _, rfl, iteFd (by decide) ?_⟩
        exact fin 7 wide fl ws H7 k7 ⟨_, _, _, hp7⟩ wlf w18.1 w18.2.1 okf
end
section
variable {P : Program} {w : World} {K : PySem.W.Frag} {mg : Str → Option Value} {base : Heap} {f : Addr} {fd : FuncData}
theorem sc_is_whole : FnScope ["thing"] ["thing"] (defScope s_is_whole) := ⟨rfl, rfl, rfl, by decide +kernel, rfl, by decide +kernel, by decide +kernel⟩
theorem ok_is_whole (T : Bn mg) (F : Here K mg "is_whole" s_is_whole f fd) : FnOk P w K mg base CX0 1 f fd ["thing"] spIsWhole := by
  refine F.fn.ok sc_is_whole (fun vs H Q E h => ?_) (fun cdv A outer s H vs Q E hr h => ?_)
  · obtain ⟨i, rfl, _⟩ := h
    rfl
  · obtain ⟨i, rfl, q⟩ := h
    refine ⟨_, (pss_one (ps_ret (pe_and (pe_callB call_isinst rfl T.n_isinstance boot_isinstance (pa_cons (pv 0) (pa_cons (pe_bltn (v := V.ty "int") (u := .type "int") rfl T.n_int (by decide +kernel) rfl) pa_nil))) (pe_one (pe_not (pe_callB call_isinst rfl T.n_isinstance boot_isinstance (pa_cons (pv 0) (pa_cons (pe_bltn (v := V.ty "bool") (u := .type "bool") rfl T.n_bool (by decide +kernel) rfl) pa_nil)))))))), ?_⟩
    refine ⟨_, rfl, _, _, _, true, rfl, TyOf.int i, rfl, _, rfl, iteTd rfl ?_⟩
    exact ⟨_, rfl, _, _, _, false, rfl, TyOf.int i, rfl, _, rfl, q⟩
end
section
variable {P : Program} {w : World} {K : PySem.W.Frag} {mg : Str → Option Value} {base : Heap} {f : Addr} {fd : FuncData}
theorem sc_is_lane : FnScope ["wide", "thing"] ["wide", "thing"] (defScope s_is_lane) := ⟨rfl, rfl, rfl, by decide +kernel, rfl, by decide +kernel, by decide +kernel⟩
theorem ok_is_lane (T : Bn mg) (F : Here K mg "is_lane" s_is_lane f fd) (Cis_whole : Callee P w K mg base "is_whole" 1 ["thing"] spIsWhole) : FnOk P w K mg base CX0 2 f fd ["wide", "thing"] spIsLane := by
  refine F.fn.ok sc_is_lane (fun vs H Q E h => ?_) (fun cdv A outer s H vs Q E hr h => ?_)
  · obtain ⟨wide, i, rfl, _⟩ := h
    rfl
  · obtain ⟨wide, i, rfl, h0, h1, q⟩ := h
    refine ⟨_, (pss_one (ps_ret (pe_and (pe_callC Cis_whole (hr.mono (by first | decide | (first | lia | omega))) rfl (pa_cons (pv 1) pa_nil)) (pe_one (pe_chain op_le op_lt pe_int (pv 1) (pv 0)))))), ?_⟩
    refine ⟨_, rfl, i, rfl, _, rfl, iteTd rfl ?_⟩
    refine ⟨_, rfl, _, _, rfl, rfl, _, rfl, iteTd (decide_eq_true h0) ?_⟩
    refine ⟨_, rfl, _, _, rfl, rfl, ?_⟩
    have z : Q (.bl (decide (i < wide))) H := by
      rw [decide_eq_true h1]
      exact q
    exact z
end
section
variable {P : Program} {w : World} {K : PySem.W.Frag} {mg : Str → Option Value} {base : Heap} {f : Addr} {fd : FuncData}
theorem sc_place_on : FnScope ["net", "lane", "start", "number"] ["net", "lane", "start"] (defScope s_place_on) := ⟨rfl, rfl, rfl, by decide +kernel, rfl, by decide +kernel, by decide +kernel⟩
theorem ok_place_on (T : Bn mg) (F : Here K mg "place_on" s_place_on f fd) : FnOk P w K mg base CX0 1 f fd ["net", "lane", "start"] spPlaceOn := by
  refine F.fn.ok sc_place_on (fun vs H Q E h => ?_) (fun cdv A outer s H vs Q E hr h => ?_)
  · obtain ⟨v, wide, ws, l, s, rfl, _⟩ := h
    rfl
  · obtain ⟨v, wide, ws, l, s, rfl, ⟨⟨n, t, rs, rfl, hn, ht, hrs⟩, w1, w8, ok, len⟩, hs, q⟩ := h
    have lrs := hrs.len
    refine ⟨_, (pss_cons (ps_for PassesOwn.never rfl  (pi_range2 rfl T.n_range (pa_cons (pv 2) (pa_cons (pe_callB call_len_seq rfl T.n_len PySem.boot_len (pa_cons (pe_ix ix_tup (pv 0) pe_int (fun _ _ => rfl)) pa_nil)) pa_nil))) (pg_name (i := 3) sc_place_on.nd rfl (by first | exact Or.inl rfl | exact Or.inr rfl))
    (pss_one (ps_if (pt_cmpR op_in_seq (pv 1) (pe_ix ix_tup (pe_ix ix_tup (pv 0) pe_int (fun _ _ => rfl)) (pv 3) (fun _ _ => rfl)) (by with_unfolding_all rfl))
    (pss_one (ps_ret (pe_tup (pa_cons pe_str (pa_cons (pv 3) (pa_cons (pv 1) pa_nil))))))
    pss_nil)))
    (pss_one (ps_ret (pe_tup (pa_cons pe_str (pa_cons (pv 1) pa_nil)))))), ?_⟩
    refine ⟨_, rfl, _, rfl, n, _, _, _, rfl, rfl, SqT.of hn, rfl, t, _, rfl, .inr (SqT.of ht), ?_⟩
    refine ⟨_, _, rfl, ⟨by (first | lia | omega), by (first | lia | omega), by (first | lia | omega), by (first | lia | omega)⟩, ?_⟩
    refine for_range (n := ((rs.length : Int) - (s : Int)).toNat) (fun i σ Hc => ∃ v3, σ = [some (.ref n), some (.int l), some (.int s), v3] ∧ Hc = H ∧ placeM ws l s = placeF ws l (ws.length - s - i) (s + i)) ⟨none, rfl, rfl, rfl⟩ ?_ ?_
    · rintro i σ Hc hi ⟨v3, rfl, rfl, hp⟩
      have il : s + i < ws.length := by (first | lia | omega)
      have e0 : (s : Int) + (i : Int) = ((s + i : Nat) : Int) := by (first | lia | omega)
      rw [e0]
      obtain ⟨t0, w0, et0, _, hw0, ht0⟩ := atI_ref hrs (i := ((s + i : Nat) : Int)) (by (first | lia | omega)) (by (first | lia | omega))
      rw [Int.toNat_natCast] at hw0
      have ew : wAt ws (s + i) = w0 := by simp [wAt, List.getD, hw0]
      have ef : placeF ws l (ws.length - s - i) (s + i) = if hasL w0 l then .before (s + i) l else placeF ws l (ws.length - s - (i + 1)) (s + (i + 1)) := by
        rw [show ws.length - s - i = (ws.length - s - (i + 1)) + 1 by (first | lia | omega)]
        show (if hasL (wAt ws (s + i)) l then _ else _) = _
        rw [ew]
        rfl
      rw [ef] at hp
      refine ⟨_, rfl, _, rfl, n, _, _, _, rfl, rfl, SqT.of hn, rfl, _, rfl, t, _, _, _, rfl, rfl, SqT.of ht, et0, ?_⟩
      refine ⟨t0, _, rfl, .inr (SqT.of ht0), rfl, rfl, _, rfl, ?_⟩
      have ei : inV (.int l) [.int w0.1, .int w0.2] = hasL w0 l := in_pair l w0.1 w0.2
      show if inV (.int l) [.int w0.1, .int w0.2] = true then _ else _
      rw [ei]
      refine ite2 (fun g => ?_) (fun g => ?_)
      · rw [if_pos g] at hp
        refine ⟨_, rfl, _, rfl, lenLine (by show 3 ≤ 100000; decide), fun T1 f1 => ?_⟩
        exact q T1 _ f1 (same_new f1 _) (by rw [upd_same, hp]; rfl)
      · rw [if_neg g] at hp
        exact ⟨_, rfl, rfl, hp⟩
    · rintro σ Hc ⟨v3, rfl, rfl, hp⟩
      have e0 : ws.length - s - ((rs.length : Int) - (s : Int)).toNat = 0 := by (first | lia | omega)
      rw [e0] at hp
      refine ⟨_, rfl, lenLine (by show 2 ≤ 100000; decide), fun T1 f1 => ?_⟩
      exact q T1 _ f1 (same_new f1 _) (by rw [upd_same, hp]; rfl)
end
section
variable {P : Program} {w : World} {K : PySem.W.Frag} {mg : Str → Option Value} {base : Heap} {f : Addr} {fd : FuncData}
theorem sc_numbers_of : FnScope ["wide", "lane", "low", "high"] ["wide", "lane", "low", "high"] (defScope s_numbers_of) := ⟨rfl, rfl, rfl, by decide +kernel, rfl, by decide +kernel, by decide +kernel⟩
theorem ok_numbers_of (T : Bn mg) (F : Here K mg "numbers_of" s_numbers_of f fd) : FnOk P w K mg base CX0 1 f fd ["wide", "lane", "low", "high"] spNums := by
  refine F.fn.ok sc_numbers_of (fun vs H Q E h => ?_) (fun cdv A outer s H vs Q E hr h => ?_)
  · obtain ⟨wide, lane, lo, hi, rfl, _⟩ := h
    rfl
  · obtain ⟨wide, lane, lo, hi, rfl, w1, w8, ⟨⟨b1, b2⟩, b3, b4⟩, q⟩ := h
    refine ⟨_, (pss_one (ps_ret (pe_comp ["count"] [("lane", 1), ("wide", 0)] rfl (pi_range2 rfl T.n_range (pa_cons (pv 2) (pa_cons (pv 3) pa_nil))) (fun _ _ _ _ _ _ => by exact (pg_name (i := 0) (show List.Nodup (["count", "lane", "wide"] : List Str) by decide +kernel) rfl (by first | exact Or.inl rfl | exact Or.inr rfl))) (fun _ _ _ _ _ _ => by exact pts_nil) (fun _ _ _ _ _ _ => by exact (pe_op op_add (pv 1) (pe_op op_mul (pv 2) (pv 0))))))), ?_⟩
    refine ⟨_, rfl, _, rfl, lo, hi, rfl, ⟨by (first | lia | omega), by (first | lia | omega), by (first | lia | omega), by (first | lia | omega)⟩, fun l fl => ?_⟩
    refine comp_range (n := (hi - lo).toNat) (fun j ys Hd => Same H Hd ∧ Hd l = some (.lst ys) ∧ ys = (numsM wide lane lo j).map V.int) ⟨Same.put fl (Same.refl _), upd_same, rfl⟩ (lenLine (by (first | lia | omega)))
      (fun j ys Hd ⟨s4, e4, e5⟩ => ⟨e4, by rw [e5, List.length_map, numsM_len]; exact Nat.le_refl _⟩) ?_ ?_
    · rintro j ys Hd hj ⟨s6, e6, rfl⟩
      refine ⟨⟨.inl rfl, .inr rfl, .inr rfl, trivial⟩, tru_if ?_⟩
      refine ⟨_, rfl, _, rfl, _, rfl, _, _, rfl, rfl, .inl ⟨by (first | lia | omega), by (first | lia | omega)⟩, _, _, rfl, rfl, e6, Same.put fl s6, upd_same, ?_⟩
      rw [numsM_succ, List.map_append]
      rfl
    rintro ys H1 ⟨s1, e1, rfl⟩
    exact q l H1 fl s1 e1
end
section
variable {P : Program} {w : World} {K : PySem.W.Frag} {mg : Str → Option Value} {base : Heap} {f : Addr} {fd : FuncData}
theorem sc_Play_init : FnScope ["self", "net"] ["self", "net"] (defScope s_Play_init) := ⟨rfl, rfl, rfl, by decide +kernel, rfl, by decide +kernel, by decide +kernel⟩
theorem ok_Play_init {C : Addr} (T : Bn mg) (TP : PlayT K C) (F : HereM K mg C "__init__" "Play.__init__" s_Play_init f fd) : FnOk P w K mg base CX0 1 f fd ["self", "net"] (spPInit C) := by
  refine F.fn.ok sc_Play_init (fun vs H Q E h => ?_) (fun cdv A outer s H vs Q E hr h => ?_)
  · obtain ⟨p, dx, v, wide, ws, rfl, _⟩ := h
    rfl
  · obtain ⟨p, dx, v, wide, ws, rfl, hp, ⟨⟨n, t, rs, rfl, hn, ht, hrs⟩, w1, w8, ok, len⟩, q⟩ := h
    have lrs := hrs.len
    refine ⟨_, (pss_cons (ps_fld (pv 0) (pv 1) rfl)
    (pss_cons (ps_fld (pv 0) (pe_comp ["wicket"] [] rfl (pi_tup (pe_ix ix_tup (pv 1) pe_int (fun _ _ => rfl))) (fun _ _ _ _ _ _ => by exact (pg_name (i := 0) (show List.Nodup (["wicket"] : List Str) by decide +kernel) rfl (by first | exact Or.inl rfl | exact Or.inr rfl))) (fun _ _ _ _ _ _ => by exact pts_nil) (fun _ _ _ _ _ _ => by exact (pe_ix (ix_tupK K rfl) (pv 0) pe_int (fun _ _ => rfl)))) rfl)
    (pss_cons (ps_fld (pv 0) (pe_op op_rep (pe_lst (pa_cons pe_int pa_nil)) (pe_ix ix_tup (pv 1) pe_int (fun _ _ => rfl))) rfl)
    (pss_cons (ps_fld (pv 0) (pe_lst pa_nil) rfl)
    (pss_one (ps_fld (pv 0) (pe_lst pa_nil) rfl)))))), ?_⟩
    refine ⟨_, rfl, _, rfl, p, C, dx, [], rfl, hp, TP.cl, TP.nN, (by show 0 < 1000; decide), ?_⟩
    have k1 : ∀ b o, H b = some o → b ≠ p → (upd H p (HO.ins C dx (putF "net" (V.ref n) []))) b = some o := fun b o e ne => (upd_ne ne).trans e
    have hp1 : (upd H p (HO.ins C dx (putF "net" (V.ref n) []))) p = some (.ins C dx (putF "net" (.ref n) [])) := upd_same
    have fr1 : ∀ b, (upd H p (HO.ins C dx (putF "net" (V.ref n) []))) b = none → H b = none ∧ b ≠ p := fun b e => by
      have ne : b ≠ p := fun z => by rw [z, upd_same] at e; cases e
      rw [upd_ne ne] at e
      exact ⟨e, ne⟩
    generalize upd H p (HO.ins C dx (putF "net" (V.ref n) [])) = H1 at k1 hp1 fr1
    have np : n ≠ p := ne_of hn hp (by intro z; cases z)
    have tp : t ≠ p := ne_of ht hp (by intro z; cases z)
    have hn1 := k1 _ _ hn np
    have ht1 := k1 _ _ ht tp
    have hrs1 : Refs H1 rs ws := hrs.mono fun b xs e => k1 _ _ e (ne_of e hp (by intro z; cases z))
    refine ⟨_, rfl, n, _, _, _, rfl, rfl, SqT.of hn1, rfl, t, rfl, ⟨_, SqT.of ht1⟩, fun lf ff => ?_⟩
    refine comp_tup (xs := rs) (fun j ys Hc => Same H1 Hc ∧ Hc lf = some (.lst ys) ∧ ys = ((ws.take j).map (·.1)).map V.int) ⟨Same.put ff (Same.refl _), upd_same, rfl⟩ (lenLine (by (first | lia | omega)))
      (fun j ys Hc hj ⟨s1, e1, r1⟩ => ⟨SqT.of (s1 _ _ ht1), e1, by rw [r1]; simp; (first | lia | omega)⟩) ?_ ?_
    · rintro j x ys Hc hx ⟨s1, e1, rfl⟩
      obtain ⟨w0, t0, hw0, rfl, ht0⟩ := hrs1.get hx
      refine ⟨⟨.inl rfl, trivial⟩, tru_if ?_⟩
      refine ⟨_, rfl, t0, _, _, _, rfl, rfl, SqT.of (s1 _ _ ht0), rfl, e1, Same.put ff s1, upd_same, ?_⟩
      rw [take_snoc hw0, List.map_append, List.map_append]
      rfl
    rintro ys H2 ⟨s2, e2, rfl⟩
    rw [lrs, List.take_length] at e2
    have hp2 := s2 _ _ hp1
    have nfp : lf ≠ p := Ne.symm (ne_of_none hp1 ff)
    refine ⟨_, rfl, p, C, dx, _, rfl, hp2, TP.cl, TP.nF, (by have := putF_len "net" (V.ref n) []; simp at this; (first | lia | omega)), ?_⟩
    have x3 : (upd H2 p (HO.ins C dx (putF "facing" (V.ref lf) (putF "net" (V.ref n) [])))) lf = some (.lst ((ws.map (·.1)).map V.int)) := (upd_ne nfp).trans e2
    have hp3 : (upd H2 p (HO.ins C dx (putF "facing" (V.ref lf) (putF "net" (V.ref n) [])))) p = some (.ins C dx (putF "facing" (.ref lf) (putF "net" (.ref n) []))) := upd_same
    have k3 : ∀ b o, H1 b = some o → b ≠ p → (upd H2 p (HO.ins C dx (putF "facing" (V.ref lf) (putF "net" (V.ref n) [])))) b = some o := fun b o e ne => (upd_ne ne).trans (s2 _ _ e)
    have fr3 : ∀ b, (upd H2 p (HO.ins C dx (putF "facing" (V.ref lf) (putF "net" (V.ref n) [])))) b = none → H1 b = none := fun b e => by
      have ne : b ≠ p := fun z => by rw [z, upd_same] at e; cases e
      rw [upd_ne ne] at e
      exact s2.free e
    generalize upd H2 p (HO.ins C dx (putF "facing" (V.ref lf) (putF "net" (V.ref n) []))) = H3 at x3 hp3 k3 fr3
    have hn3 := k3 _ _ hn1 np
    refine ⟨lenLine (by show 1 ≤ 100000; decide), fun l4 f4 => ?_⟩
    refine ⟨_, rfl, n, _, _, _, rfl, rfl, SqT.of ((same_new f4 _) _ _ hn3), rfl, l4, wide, _, rfl, rfl, upd_same, by (first | lia | omega), by (first | lia | omega), lenLine (by show 1 * wide.toNat ≤ 100000; (first | lia | omega)), fun lt f5 => ?_⟩
    have er : (List.replicate wide.toNat [V.int 0]).flatten = (List.replicate wide.toNat (0 : Int)).map V.int := by
      generalize wide.toNat = k
      induction k with
      | zero => rfl
      | succ k ih => rw [List.replicate_succ, List.flatten_cons, ih, List.replicate_succ, List.map_cons]; rfl
    rw [er]
    have s5 : Same H3 (upd (upd H3 l4 (HO.lst [V.int 0])) lt (HO.lst ((List.replicate wide.toNat (0 : Int)).map V.int))) := Same.trans (same_new f4 _) (same_new f5 _)
    have x5 : (upd (upd H3 l4 (HO.lst [V.int 0])) lt (HO.lst ((List.replicate wide.toNat (0 : Int)).map V.int))) lt = some (.lst ((List.replicate wide.toNat (0 : Int)).map V.int)) := upd_same
    have f5' : H3 lt = none := (same_new f4 _).free f5
    generalize upd (upd H3 l4 (HO.lst [V.int 0])) lt (HO.lst ((List.replicate wide.toNat (0 : Int)).map V.int)) = H5 at s5 x5
    have ntp : lt ≠ p := Ne.symm (ne_of_none hp3 f5')
    have nft : lf ≠ lt := ne_of_none x3 f5'
    refine ⟨_, rfl, p, C, dx, _, rfl, s5 _ _ hp3, TP.cl, TP.nT, (by have h1 := putF_len "net" (V.ref n) []; have h2 := putF_len "facing" (V.ref lf) (putF "net" (V.ref n) []); simp at h1; (first | lia | omega)), ?_⟩
    refine ⟨lenLine (by show 0 ≤ 100000; decide), fun lp f6 => ?_⟩
    have f6' : lp ≠ p := fun z => by rw [z, upd_same] at f6; cases f6
    have f6'' : H5 lp = none := by rw [upd_ne f6'] at f6; exact f6
    have npl : lp ≠ lf := fun z => by rw [z] at f6''; rw [s5 _ _ x3] at f6''; cases f6''
    have npt : lp ≠ lt := fun z => by rw [z, x5] at f6''; cases f6''
    refine ⟨_, rfl, p, C, dx, _, rfl, (upd_ne (Ne.symm f6')).trans upd_same, TP.cl, TP.nP, (by have h1 := putF_len "net" (V.ref n) []; have h2 := putF_len "facing" (V.ref lf) (putF "net" (V.ref n) []); have h3 := putF_len "tally" (V.ref lt) (putF "facing" (V.ref lf) (putF "net" (V.ref n) [])); simp at h1; (first | lia | omega)), ?_⟩
    refine ⟨lenLine (by show 0 ≤ 100000; decide), fun lc f7 => ?_⟩
    have f7' : lc ≠ p := fun z => by rw [z, upd_same] at f7; cases f7
    have f7a : lc ≠ lp := fun z => by rw [z, upd_ne f6', upd_same] at f7; cases f7
    have f7'' : H5 lc = none := by rw [upd_ne f7', upd_ne f7a, upd_ne f7'] at f7; exact f7
    have ncl : lc ≠ lf := fun z => by rw [z] at f7''; rw [s5 _ _ x3] at f7''; cases f7''
    have nct : lc ≠ lt := fun z => by rw [z, x5] at f7''; cases f7''
    refine ⟨_, rfl, p, C, dx, _, rfl, (upd_ne (Ne.symm f7')).trans upd_same, TP.cl, TP.nC, (by have h1 := putF_len "net" (V.ref n) []; have h2 := putF_len "facing" (V.ref lf) (putF "net" (V.ref n) []); have h3 := putF_len "tally" (V.ref lt) (putF "facing" (V.ref lf) (putF "net" (V.ref n) [])); have h4 := putF_len "places" (V.ref lp) (putF "tally" (V.ref lt) (putF "facing" (V.ref lf) (putF "net" (V.ref n) []))); simp at h1; (first | lia | omega)), ?_⟩
    refine q ⟨dx, lf, lt, lp, lc⟩ _ (fr1 _ ff).1 (fr1 _ (fr3 _ f5')).1 (fr1 _ (fr3 _ (s5.free f6''))).1 (fr1 _ (fr3 _ (s5.free f7''))).1 ?_ fun b o e ne => ?_
    · refine ⟨upd_same, ?_, ?_, ⟨[], ?_, .nil⟩, ?_, nft, Ne.symm npl, Ne.symm ncl, Ne.symm npt, Ne.symm nct, Ne.symm f7a⟩
      · show (upd _ p _) lf = _
        rw [upd_ne nfp, upd_ne (Ne.symm ncl), upd_ne nfp, upd_ne (Ne.symm npl), upd_ne nfp]
        exact s5 _ _ x3
      · show (upd _ p _) lt = _
        rw [upd_ne ntp, upd_ne (Ne.symm nct), upd_ne ntp, upd_ne (Ne.symm npt), upd_ne ntp]
        exact x5
      · show (upd _ p _) lp = _
        rw [upd_ne f6', upd_ne (Ne.symm f7a), upd_ne f6', upd_same]
      · show (upd _ p _) lc = _
        rw [upd_ne f7', upd_same]
        rfl
    · have e5 := s5 _ _ (k3 _ _ (k1 b o e ne) ne)
      rw [upd_ne ne, upd_ne (ne_of_none e5 f7''), upd_ne ne, upd_ne (ne_of_none e5 f6''), upd_ne ne]
      exact e5
end
section
variable {P : Program} {w : World} {K : PySem.W.Frag} {mg : Str → Option Value} {base : Heap} {f : Addr} {fd : FuncData}
theorem sc_Play_come_in : FnScope ["self", "lane", "change"] ["self", "lane", "change"] (defScope s_Play_come_in) := ⟨rfl, rfl, rfl, by decide +kernel, rfl, by decide +kernel, by decide +kernel⟩
theorem ok_Play_come_in {C : Addr} (T : Bn mg) (TP : PlayT K C) (F : HereM K mg C "come_in" "Play.come_in" s_Play_come_in f fd) (Cis_lane : Callee P w K mg base "is_lane" 2 ["wide", "thing"] spIsLane) (Cplace_on : Callee P w K mg base "place_on" 1 ["net", "lane", "start"] spPlaceOn) : FnOk P w K mg base CX0 3 f fd ["self", "lane", "change"] (spComeIn C) := by
  refine F.fn.ok sc_Play_come_in (fun vs H Q E h => ?_) (fun cdv A outer s H vs Q E hr h => ?_)
  · obtain ⟨p, v, wide, ws, L, st, lane, c, rfl, _⟩ := h
    rfl
  · obtain ⟨p, v, wide, ws, L, st, lane, c, rfl, net, pa, wf, l0, l1, q⟩ := h
    obtain ⟨n, t, rs, rfl, hn, ht, hrs⟩ := id net.1
    refine ⟨_, (pss_cons (ps_if (pt_not (pt_val (pe_callC Cis_lane (hr.mono (by first | decide | (first | lia | omega))) rfl (pa_cons (pe_ix ix_tup (pe_fld (pv 0) rfl) pe_int (fun _ _ => rfl)) (pa_cons (pv 1) pa_nil)))))
    (pss_one ps_never)
    pss_nil)
    (pss_cons (ps_expr (pe_bm PySem.F.plainAttrs_list PySem.F.slot_list_append PySem.F.type_list_append mt_append (pe_fld (pv 0) rfl) (pa_cons (pe_callC Cplace_on (hr.mono (by first | decide | (first | lia | omega))) rfl (pa_cons (pe_fld (pv 0) rfl) (pa_cons (pv 1) (pa_cons pe_int pa_nil)))) pa_nil)))
    (pss_cons (ps_expr (pe_bm PySem.F.plainAttrs_list PySem.F.slot_list_append PySem.F.type_list_append mt_append (pe_fld (pv 0) rfl) (pa_cons (pv 2) pa_nil)))
    (pss_one (ps_ret (pe_op op_sub (pe_callB call_len_seq rfl T.n_len PySem.boot_len (pa_cons (pe_fld (pv 0) rfl) pa_nil)) pe_int)))))), ?_⟩
    refine ⟨_, rfl, p, C, _, _, _, rfl, pa.ob, TP.cl, TP.nN, pfl_net _ _, n, _, _, _, rfl, rfl, SqT.of hn, rfl, _, rfl, wide, lane, rfl, l0, l1, _, rfl, iteFd (by decide) ?_⟩
    obtain ⟨rp, xp, hpl⟩ := pa.pl
    have lrp := Paired.length hpl
    have ml := wf.ml
    refine ⟨_, rfl, p, C, _, _, _, rfl, pa.ob, TP.cl, TP.nP, pfl_places _ _, .inl ⟨rfl, _, SqL.of xp⟩, ?_⟩
    refine ⟨_, rfl, p, C, _, _, _, rfl, pa.ob, TP.cl, TP.nN, pfl_net _ _, _, rfl, .ref n, wide, ws, lane, 0, rfl, net, Nat.zero_le _, fun t1 H1 f1 s1 x1 => ?_⟩
    have pa1 := pa.same s1
    have xp1 := s1 _ _ xp
    refine ⟨L.lp, _, _, rfl, rfl, xp1, lenLt (by (first | lia | omega)), ?_⟩
    obtain ⟨nf, nt, np, nc⟩ := pa.nob
    have ob2 : (upd H1 L.lp (HO.lst (rp ++ [V.ref t1]))) p = some (.ins C L.dx (pfl (.ref n) L)) := (upd_ne np).trans pa1.ob
    have ch2 : (upd H1 L.lp (HO.lst (rp ++ [V.ref t1]))) L.lc = some (.lst (st.chg.map V.int)) := (upd_ne (Ne.symm pa.pc)).trans pa1.ch
    refine ⟨_, rfl, p, C, _, _, _, rfl, ob2, TP.cl, TP.nC, pfl_changes _ _, .inl ⟨rfl, _, SqL.of ch2⟩, ?_⟩
    have cl := wf.cl
    refine ⟨_, rfl, L.lc, _, _, rfl, rfl, ch2, lenLt (by rw [List.length_map]; (first | lia | omega)), ?_⟩
    have kt2 : KT H1 (upd (upd H1 L.lp (HO.lst (rp ++ [V.ref t1]))) L.lc (HO.lst (st.chg.map V.int ++ [V.int c]))) := KT.lst ch2 (KT.lst xp1 (KT.refl _))
    have pa3 : PlayAt C (upd (upd H1 L.lp (HO.lst (rp ++ [V.ref t1]))) L.lc (HO.lst (st.chg.map V.int ++ [V.int c]))) p (.ref n) L (enterM ws st lane c) := by
      refine ⟨(upd_ne nc).trans ob2, ?_, ?_, ⟨rp ++ [.ref t1], ?_, ?_⟩, ?_, pa.ft, pa.fp, pa.fc, pa.tp, pa.tc, pa.pc⟩
      · rw [upd_ne pa.fc, upd_ne pa.fp]; exact pa1.fa
      · rw [upd_ne pa.tc, upd_ne pa.tp]; exact pa1.ta
      · rw [upd_ne pa.pc, upd_same]
      · exact Paired.appP (Paired.mapP hpl fun _ _ z => (z.kt (KT.same s1 (KT.refl _))).kt kt2) (.cons ⟨t1, rfl, kt2 _ _ x1⟩ .nil)
      · rw [upd_same]
        show _ = some (HO.lst ((st.chg ++ [c]).map V.int))
        rw [List.map_append]
        rfl
    have kp3 : KpL L H (upd (upd H1 L.lp (HO.lst (rp ++ [V.ref t1]))) L.lc (HO.lst (st.chg.map V.int ++ [V.int c]))) := fun b o e h1 h2 h3 h4 => by
      rw [upd_ne h4, upd_ne h3]
      exact s1 _ _ e
    generalize upd (upd H1 L.lp (HO.lst (rp ++ [V.ref t1]))) L.lc (HO.lst (st.chg.map V.int ++ [V.int c])) = H3 at pa3 kp3
    obtain ⟨rp3, xp3, hpl3⟩ := pa3.pl
    have lrp3 := Paired.length hpl3
    refine ⟨_, rfl, p, C, _, _, _, rfl, pa3.ob, TP.cl, TP.nP, pfl_places _ _, L.lp, _, rfl, .inl (SqL.of xp3), _, _, rfl, rfl, ?_⟩
    have el : (rp3.length : Int) - 1 = (st.pla.length : Int) := by
      rw [lrp3]
      show (((st.pla ++ [_]).length : Nat) : Int) - 1 = _
      rw [List.length_append, List.length_singleton]
      (first | lia | omega)
    have z : Q (.int ((rp3.length : Int) - 1)) H3 := by
      rw [el]
      exact q H3 pa3 kp3
    exact z
end
section
variable {P : Program} {w : World} {K : PySem.W.Frag} {mg : Str → Option Value} {base : Heap} {f : Addr} {fd : FuncData}
theorem sc_Play_enter : FnScope ["self", "lane"] ["self", "lane"] (defScope s_Play_enter) := ⟨rfl, rfl, rfl, by decide +kernel, rfl, by decide +kernel, by decide +kernel⟩
theorem ok_Play_enter {C : Addr} (T : Bn mg) (TP : PlayT K C) (F : HereM K mg C "enter" "Play.enter" s_Play_enter f fd) (MPlay_come_in : MCal P w K mg base C "come_in" 3 ["self", "lane", "change"] (spComeIn C)) : FnOk P w K mg base CX0 4 f fd ["self", "lane"] (spEnter C 1) := by
  refine F.fn.ok sc_Play_enter (fun vs H Q E h => ?_) (fun cdv A outer s H vs Q E hr h => ?_)
  · obtain ⟨p, v, wide, ws, L, st, lane, rfl, _⟩ := h
    rfl
  · obtain ⟨p, v, wide, ws, L, st, lane, rfl, net, pa, wf, l0, l1, q⟩ := h
    refine ⟨_, (pss_one (ps_ret (pe_methC (pv 0) TP.cl MPlay_come_in (hr.mono (by first | decide | (first | lia | omega))) (pa_cons (pv 1) (pa_cons pe_int pa_nil))))), ?_⟩
    refine ⟨_, rfl, p, _, _, rfl, pa.ob, pfl_no _ _ (by decide +kernel) (by decide +kernel) (by decide +kernel) (by decide +kernel) (by decide +kernel), _, rfl, ?_⟩
    exact ⟨p, v, wide, ws, L, st, lane, 1, rfl, net, pa, wf, l0, l1, q⟩
end
section
variable {P : Program} {w : World} {K : PySem.W.Frag} {mg : Str → Option Value} {base : Heap} {f : Addr} {fd : FuncData}
theorem sc_Play_enter_back : FnScope ["self", "lane"] ["self", "lane"] (defScope s_Play_enter_back) := ⟨rfl, rfl, rfl, by decide +kernel, rfl, by decide +kernel, by decide +kernel⟩
theorem ok_Play_enter_back {C : Addr} (T : Bn mg) (TP : PlayT K C) (F : HereM K mg C "enter_back" "Play.enter_back" s_Play_enter_back f fd) (MPlay_come_in : MCal P w K mg base C "come_in" 3 ["self", "lane", "change"] (spComeIn C)) : FnOk P w K mg base CX0 4 f fd ["self", "lane"] (spEnter C (-1)) := by
  refine F.fn.ok sc_Play_enter_back (fun vs H Q E h => ?_) (fun cdv A outer s H vs Q E hr h => ?_)
  · obtain ⟨p, v, wide, ws, L, st, lane, rfl, _⟩ := h
    rfl
  · obtain ⟨p, v, wide, ws, L, st, lane, rfl, net, pa, wf, l0, l1, q⟩ := h
    refine ⟨_, (pss_one (ps_ret (pe_methC (pv 0) TP.cl MPlay_come_in (hr.mono (by first | decide | (first | lia | omega))) (pa_cons (pv 1) (pa_cons (pe_un un_neg pe_int) pa_nil))))), ?_⟩
    refine ⟨_, rfl, p, _, _, rfl, pa.ob, pfl_no _ _ (by decide +kernel) (by decide +kernel) (by decide +kernel) (by decide +kernel) (by decide +kernel), _, rfl, _, rfl, ?_⟩
    exact ⟨p, v, wide, ws, L, st, lane, -1, rfl, net, pa, wf, l0, l1, q⟩
end
section
variable {P : Program} {w : World} {K : PySem.W.Frag} {mg : Str → Option Value} {base : Heap} {f : Addr} {fd : FuncData}
theorem sc_Play_where : FnScope ["self", "walker"] ["self", "walker"] (defScope s_Play_where) := ⟨rfl, rfl, rfl, by decide +kernel, rfl, by decide +kernel, by decide +kernel⟩
theorem ok_Play_where {C : Addr} (T : Bn mg) (TP : PlayT K C) (F : HereM K mg C "where" "Play.where" s_Play_where f fd) (Cis_whole : Callee P w K mg base "is_whole" 1 ["thing"] spIsWhole) : FnOk P w K mg base CX0 2 f fd ["self", "walker"] (spWhere C) := by
  refine F.fn.ok sc_Play_where (fun vs H Q E h => ?_) (fun cdv A outer s H vs Q E hr h => ?_)
  · obtain ⟨p, v, L, st, i, pl, rfl, _⟩ := h
    rfl
  · obtain ⟨p, v, L, st, i, pl, rfl, pa, hi, q⟩ := h
    obtain ⟨rp, xp, hpl⟩ := pa.pl
    have lrp := Paired.length hpl
    have il : i < st.pla.length := (List.getElem?_eq_some_iff.mp hi).1
    obtain ⟨r, hr0, t, rfl, ht⟩ := Paired.getP hpl hi
    refine ⟨_, (pss_cons (ps_if (PW.pt (pw_or (pt_not (pt_val (pe_callC Cis_whole (hr.mono (by first | decide | (first | lia | omega))) rfl (pa_cons (pv 1) pa_nil)))) (pw_or1 (pt_not (pt_chain op_le op_lt pe_int (pv 1) (pe_callB call_len_seq rfl T.n_len PySem.boot_len (pa_cons (pe_fld (pv 0) rfl) pa_nil)))))))
    (pss_one ps_never)
    pss_nil)
    (pss_one (ps_ret (pe_ix ix_list (pe_fld (pv 0) rfl) (pv 1) (fun _ _ => rfl))))), ?_⟩
    refine ⟨_, rfl, _, rfl, _, rfl, iteFd (by decide) ?_⟩
    refine ⟨_, rfl, _, _, rfl, rfl, _, rfl, iteTd (decide_eq_true (by (first | lia | omega))) ?_⟩
    refine ⟨_, rfl, p, C, _, _, _, rfl, pa.ob, TP.cl, TP.nP, pfl_places _ _, L.lp, _, rfl, .inl (SqL.of xp), _, _, rfl, rfl, _, rfl, iteFd ?_ ?_⟩
    · rw [decide_eq_true (show (i : Int) < (rp.length : Int) by (first | lia | omega))]
      decide
    refine ⟨_, rfl, p, C, _, _, _, rfl, pa.ob, TP.cl, TP.nP, pfl_places _ _, _, rfl, L.lp, _, _, _, rfl, rfl, SqL.of xp, atI_nat hr0, ?_⟩
    exact q t ht
end
section
variable {P : Program} {w : World} {K : PySem.W.Frag} {mg : Str → Option Value} {base : Heap} {f : Addr} {fd : FuncData}
theorem sc_Play_turn : FnScope ["self", "wicket", "lanes"] ["self", "wicket"] (defScope s_Play_turn) := ⟨rfl, rfl, rfl, by decide +kernel, rfl, by decide +kernel, by decide +kernel⟩
theorem ok_Play_turn {C : Addr} (T : Bn mg) (TP : PlayT K C) (F : HereM K mg C "turn" "Play.turn" s_Play_turn f fd) : FnOk P w K mg base CX0 1 f fd ["self", "wicket"] (spTurn C) := by
  refine F.fn.ok sc_Play_turn (fun vs H Q E h => ?_) (fun cdv A outer s H vs Q E hr h => ?_)
  · obtain ⟨p, v, wide, ws, L, st, k, rfl, _⟩ := h
    rfl
  · obtain ⟨p, v, wide, ws, L, st, k, rfl, net, pa, lf, hk, q⟩ := h
    obtain ⟨n, t, rs, rfl, hn, ht, hrs⟩ := id net.1
    have lrs := hrs.len
    obtain ⟨t0, w0, et0, _, hw0, ht0⟩ := atI_ref hrs (i := (k : Int)) (by (first | lia | omega)) (by (first | lia | omega))
    rw [Int.toNat_natCast] at hw0
    have ew : wAt ws k = w0 := by simp [wAt, List.getD, hw0]
    refine ⟨_, (pss_cons (ps_set (i := 2) sc_Play_turn.nd rfl (by first | exact Or.inl rfl | exact Or.inr rfl) (pe_ix ix_tup (pe_ix ix_tup (pe_fld (pv 0) rfl) pe_int (fun _ _ => rfl)) (pv 1) (fun _ _ => rfl)))
    (pss_one (ps_asg (pe_ifExp (pt_cmpR op_eq (pe_ix ix_list (pe_fld (pv 0) rfl) (pv 1) (fun _ _ => rfl)) (pe_ix ix_tup (pv 2) pe_int (fun _ _ => rfl)) (nomark _)) (pe_ix ix_tup (pv 2) pe_int (fun _ _ => rfl)) (pe_ix ix_tup (pv 2) pe_int (fun _ _ => rfl))) (pg_sub (pe_fld (pv 0) rfl) (pv 1) set_list)))), ?_⟩
    refine ⟨_, rfl, p, C, _, _, _, rfl, pa.ob, TP.cl, TP.nN, pfl_net _ _, n, _, _, _, rfl, rfl, SqT.of hn, rfl, _, rfl, t, _, _, _, rfl, rfl, SqT.of ht, et0, ?_⟩
    refine ⟨_, rfl, p, C, _, _, _, rfl, pa.ob, TP.cl, TP.nF, pfl_facing _ _, _, rfl, L.lf, _, _, _, rfl, rfl, SqL.of pa.fa, atI_int (i := (k : Int)) (by (first | lia | omega)) (by (first | lia | omega)), ?_⟩
    refine ⟨_, rfl, t0, _, _, _, rfl, rfl, SqT.of ht0, rfl, rfl, _, rfl, ?_⟩
    rw [Int.toNat_natCast]
    have fin : ∀ z : Int, z = otherL w0 (st.fac.getD k 0) → Q .non (upd H L.lf (HO.lst ((st.fac.map V.int).set k (V.int z)))) := fun z hz => by
      rw [set_map]
      refine q _ ⟨(upd_ne pa.nob.1).trans pa.ob, ?_, (upd_ne (Ne.symm pa.ft)).trans pa.ta, ?_, (upd_ne (Ne.symm pa.fc)).trans pa.ch, pa.ft, pa.fp, pa.fc, pa.tp, pa.tc, pa.pc⟩ fun b o e h1 h2 h3 h4 => (upd_ne h1).trans e
      · rw [upd_same, hz, ← ew]
        rfl
      · obtain ⟨rp, xp, hpl⟩ := pa.pl
        exact ⟨rp, (upd_ne (Ne.symm pa.fp)).trans xp, Paired.mapP hpl fun _ _ z => z.kt (KT.lst pa.fa (KT.refl _))⟩
    refine ite2 (fun g => ?_) (fun g => ?_)
    · have g' := veq g
      refine ⟨_, rfl, t0, _, _, _, rfl, rfl, SqT.of ht0, rfl, ?_⟩
      refine ⟨_, rfl, p, C, _, _, _, rfl, pa.ob, TP.cl, TP.nF, pfl_facing _ _, _, rfl, L.lf, _, (k : Int), k, rfl, rfl, pa.fa, by rw [ixN_of (by (first | lia | omega)) (by rw [List.length_map]; (first | lia | omega)), Int.toNat_natCast], ?_⟩
      exact fin w0.2 (by unfold otherL; rw [if_pos g'])
    · have g' := vne g
      refine ⟨_, rfl, t0, _, _, _, rfl, rfl, SqT.of ht0, rfl, ?_⟩
      refine ⟨_, rfl, p, C, _, _, _, rfl, pa.ob, TP.cl, TP.nF, pfl_facing _ _, _, rfl, L.lf, _, (k : Int), k, rfl, rfl, pa.fa, by rw [ixN_of (by (first | lia | omega)) (by rw [List.length_map]; (first | lia | omega)), Int.toNat_natCast], ?_⟩
      exact fin w0.1 (by unfold otherL; rw [if_neg g'])
end
section
variable {P : Program} {w : World} {K : PySem.W.Frag} {mg : Str → Option Value} {base : Heap} {f : Addr} {fd : FuncData}
theorem sc_Play_pass_wicket : FnScope ["self", "wicket", "change", "before", "lane"] ["self", "wicket", "change"] (defScope s_Play_pass_wicket) := ⟨rfl, rfl, rfl, by decide +kernel, rfl, by decide +kernel, by decide +kernel⟩
theorem ok_Play_pass_wicket {C : Addr} (T : Bn mg) (TP : PlayT K C) (F : HereM K mg C "pass_wicket" "Play.pass_wicket" s_Play_pass_wicket f fd) (MPlay_turn : MCal P w K mg base C "turn" 1 ["self", "wicket"] (spTurn C)) (Cplace_on : Callee P w K mg base "place_on" 1 ["net", "lane", "start"] spPlaceOn) : FnOk P w K mg base CX0 2 f fd ["self", "wicket", "change"] (spPass C) := by
  refine F.fn.ok sc_Play_pass_wicket (fun vs H Q E h => ?_) (fun cdv A outer s H vs Q E hr h => ?_)
  · obtain ⟨p, v, wide, ws, L, st, k, c, rfl, _⟩ := h
    rfl
  · obtain ⟨p, v, wide, ws, L, st, k, c, rfl, net, pa, lf, hk, q⟩ := h
    refine ⟨_, (pss_cons (ps_set (i := 3) sc_Play_pass_wicket.nd rfl (by first | exact Or.inl rfl | exact Or.inr rfl) (pe_ix ix_list (pe_fld (pv 0) rfl) (pv 1) (fun _ _ => rfl)))
    (pss_cons (ps_expr (pe_methC (pv 0) TP.cl MPlay_turn (hr.mono (by first | decide | (first | lia | omega))) (pa_cons (pv 1) pa_nil)))
    (pss_cons (ps_set (i := 4) sc_Play_pass_wicket.nd rfl (by first | exact Or.inl rfl | exact Or.inr rfl) (pe_ifExp (pt_cmpR op_eq (pv 2) pe_int (nomark _)) (pv 3) (pe_ix ix_list (pe_fld (pv 0) rfl) (pv 1) (fun _ _ => rfl))))
    (pss_one (ps_ret (pe_callC Cplace_on (hr.mono (by first | decide | (first | lia | omega))) rfl (pa_cons (pe_fld (pv 0) rfl) (pa_cons (pv 4) (pa_cons (pe_op op_add (pv 1) pe_int) pa_nil))))))))), ?_⟩
    refine ⟨_, rfl, p, C, _, _, _, rfl, pa.ob, TP.cl, TP.nF, pfl_facing _ _, _, rfl, L.lf, _, _, _, rfl, rfl, SqL.of pa.fa, atI_int (i := (k : Int)) (by (first | lia | omega)) (by (first | lia | omega)), ?_⟩
    refine ⟨_, rfl, p, _, _, rfl, pa.ob, pfl_no _ _ (by decide +kernel) (by decide +kernel) (by decide +kernel) (by decide +kernel) (by decide +kernel), _, rfl, p, v, wide, ws, L, st, k, rfl, net, pa, lf, hk, fun H1 pa1 k1 => ?_⟩
    have net1 := net.kt (KpL.kt pa k1)
    have fl1 : (turnM ws st k).fac.length = ws.length := by
      show (st.fac.set k _).length = _
      rw [List.length_set]
      exact lf
    have fin : ∀ z : Int, z = passL ws st k c → tRet (tCall spPlaceOn [] E0 (tCons (tFld K (tVar 0) "net") (tCons (tVar 4) (tCons (tOp (rI0 fun i j => V.int (i + j)) (tVar 1) (tC (.int 1))) tNil)))) { nx := fun _ H' => Q .non H', rt := Q } [some (.ref p), some (.int k), some (.int c), some (.int (st.fac.getD k 0)), some (.int z)] H1 := fun z hz => by
      refine ⟨_, rfl, p, C, _, _, _, rfl, pa1.ob, TP.cl, TP.nN, pfl_net _ _, _, rfl, _, rfl, _, _, rfl, rfl, v, wide, ws, z, k + 1, by rfl, net1, by (first | lia | omega), fun t2 H2 f2 s2 x2 => ?_⟩
      rw [hz] at x2
      exact q t2 H2 (pa1.same s2) (KpL.trans k1 (KpL.same s2)) x2
    refine ⟨_, rfl, rfl, _, rfl, ?_⟩
    refine ite2 (fun g => ?_) (fun g => ?_)
    · have g' := veq g
      refine ⟨_, rfl, ?_⟩
      exact fin _ (by unfold passL; rw [if_pos g', Int.toNat_natCast])
    · have g' := vne g
      refine ⟨_, rfl, p, C, _, _, _, rfl, pa1.ob, TP.cl, TP.nF, pfl_facing _ _, _, rfl, L.lf, _, _, _, rfl, rfl, SqL.of pa1.fa, atI_int (i := (k : Int)) (by (first | lia | omega)) (by (first | lia | omega)), ?_⟩
      refine fin _ ?_
      unfold passL
      rw [if_neg g', Int.toNat_natCast]
      show (st.fac.set k _).getD k 0 = _
      rw [getD_set (by (first | lia | omega)), if_pos rfl]
end
section
variable {P : Program} {w : World} {K : PySem.W.Frag} {mg : Str → Option Value} {base : Heap} {f : Addr} {fd : FuncData}
theorem sc_Play_leave : FnScope ["self", "lane", "change", "before", "count"] ["self", "lane", "change"] (defScope s_Play_leave) := ⟨rfl, rfl, rfl, by decide +kernel, rfl, by decide +kernel, by decide +kernel⟩
theorem ok_Play_leave {C : Addr} (T : Bn mg) (TP : PlayT K C) (F : HereM K mg C "leave" "Play.leave" s_Play_leave f fd) : FnOk P w K mg base CX0 1 f fd ["self", "lane", "change"] (spLeave C) := by
  refine F.fn.ok sc_Play_leave (fun vs H Q E h => ?_) (fun cdv A outer s H vs Q E hr h => ?_)
  · obtain ⟨p, v, wide, ws, L, st, l, c, rfl, _⟩ := h
    rfl
  · obtain ⟨p, v, wide, ws, L, st, l, c, rfl, net, pa, tl, l0, l1, q⟩ := h
    obtain ⟨n, t, rs, rfl, hn, ht, hrs⟩ := id net.1
    have w1 := net.2.1
    have w8 := net.2.2.1
    refine ⟨_, (pss_cons (ps_set (i := 3) sc_Play_leave.nd rfl (by first | exact Or.inl rfl | exact Or.inr rfl) (pe_ix ix_list (pe_fld (pv 0) rfl) (pv 1) (fun _ _ => rfl)))
    (pss_cons (ps_augS (pe_fld (pv 0) rfl) (pv 1) get_list (pv 2) ip_add set_list)
    (pss_cons (ps_set (i := 4) sc_Play_leave.nd rfl (by first | exact Or.inl rfl | exact Or.inr rfl) (pe_ifExp (pt_cmpR op_eq (pv 2) pe_int (nomark _)) (pv 3) (pe_ix ix_list (pe_fld (pv 0) rfl) (pv 1) (fun _ _ => rfl))))
    (pss_one (ps_ret (pe_tup (pa_cons pe_str (pa_cons (pv 1) (pa_cons (pe_op op_add (pv 1) (pe_op op_mul (pe_ix ix_tup (pe_fld (pv 0) rfl) pe_int (fun _ _ => rfl)) (pv 4))) pa_nil))))))))), ?_⟩
    refine ⟨_, rfl, p, C, _, _, _, rfl, pa.ob, TP.cl, TP.nT, pfl_tally _ _, _, rfl, L.lt, _, _, _, rfl, rfl, SqL.of pa.ta, atI_int l0 (by (first | lia | omega)), ?_⟩
    have hg : (st.tal.map V.int)[l.toNat]? = some (.int (st.tal.getD l.toNat 0)) := by
      rw [List.getElem?_map, getD_lt (show l.toNat < st.tal.length by (first | lia | omega))]
      rfl
    refine ⟨_, rfl, p, C, _, _, _, rfl, pa.ob, TP.cl, TP.nT, pfl_tally _ _, _, rfl, L.lt, _, l, _, rfl, rfl, SqL.of pa.ta, l0, hg, _, rfl, _, _, rfl, rfl, L.lt, _, l, l.toNat, rfl, rfl, pa.ta, ixN_of l0 (by rw [List.length_map]; (first | lia | omega)), ?_⟩
    rw [set_map]
    have pa1 : PlayAt C (upd H L.lt (HO.lst ((st.tal.set l.toNat (st.tal.getD l.toNat 0 + c)).map V.int))) p (.ref n) L (leaveM st l c) := by
      refine ⟨(upd_ne pa.nob.2.1).trans pa.ob, (upd_ne pa.ft).trans pa.fa, upd_same, ?_, (upd_ne (Ne.symm pa.tc)).trans pa.ch, pa.ft, pa.fp, pa.fc, pa.tp, pa.tc, pa.pc⟩
      obtain ⟨rp, xp, hpl⟩ := pa.pl
      exact ⟨rp, (upd_ne (Ne.symm pa.tp)).trans xp, Paired.mapP hpl fun _ _ z => z.kt (KT.lst pa.ta (KT.refl _))⟩
    have k1 : KpL L H (upd H L.lt (HO.lst ((st.tal.set l.toNat (st.tal.getD l.toNat 0 + c)).map V.int))) := fun b o e h1 h2 h3 h4 => (upd_ne h2).trans e
    generalize upd H L.lt (HO.lst ((st.tal.set l.toNat (st.tal.getD l.toNat 0 + c)).map V.int)) = H1 at pa1 k1
    have hn1 := (KpL.kt pa k1) _ _ hn
    have fin : ∀ z : Int, l + wide * z = leaveN wide st l c → tRet (tTup (tCons (tC (.str "out")) (tCons (tVar 1) (tCons (tOp (rI0 fun i j => V.int (i + j)) (tVar 1) (tOp (rI CMul fun i j => V.int (i * j)) (tOp (rIxT K) (tFld K (tVar 0) "net") (tC (.int 0))) (tVar 4))) tNil)))) { nx := fun _ H' => Q .non H', rt := Q } [some (.ref p), some (.int l), some (.int c), some (.int (st.tal.getD l.toNat 0)), some (.int z)] H1 := fun z hz => by
      refine ⟨_, rfl, _, rfl, _, rfl, p, C, _, _, _, rfl, pa1.ob, TP.cl, TP.nN, pfl_net _ _, n, _, _, _, rfl, rfl, SqT.of hn1, rfl, _, rfl, _, _, rfl, rfl, .inl ⟨by (first | lia | omega), by (first | lia | omega)⟩, _, _, rfl, rfl, lenLine (by show 3 ≤ 100000; decide), fun t2 f2 => ?_⟩
      refine q t2 _ (pa1.same (same_new f2 _)) (KpL.trans k1 (KpL.same (same_new f2 _))) ?_
      rw [upd_same, ← hz]
      rfl
    refine ⟨_, rfl, rfl, _, rfl, ?_⟩
    refine ite2 (fun g => ?_) (fun g => ?_)
    · have g' := veq g
      refine ⟨_, rfl, ?_⟩
      exact fin _ (by unfold leaveN; rw [if_pos g'])
    · have g' := vne g
      have lt1 : (leaveM st l c).tal.length = wide.toNat := by
        show (st.tal.set _ _).length = _
        rw [List.length_set]
        exact tl
      refine ⟨_, rfl, p, C, _, _, _, rfl, pa1.ob, TP.cl, TP.nT, pfl_tally _ _, _, rfl, L.lt, _, _, _, rfl, rfl, SqL.of pa1.ta, atI_int l0 (by (first | lia | omega)), ?_⟩
      refine fin _ ?_
      unfold leaveN
      rw [if_neg g']
      show l + wide * (st.tal.set l.toNat _).getD l.toNat 0 = _
      rw [getD_set (by (first | lia | omega)), if_pos rfl]
end
section
variable {P : Program} {w : World} {K : PySem.W.Frag} {mg : Str → Option Value} {base : Heap} {f : Addr} {fd : FuncData}
theorem sc_Play_step : FnScope ["self", "walker", "place"] ["self", "walker"] (defScope s_Play_step) := ⟨rfl, rfl, rfl, by decide +kernel, rfl, by decide +kernel, by decide +kernel⟩
theorem ok_Play_step {C : Addr} (T : Bn mg) (TP : PlayT K C) (F : HereM K mg C "step" "Play.step" s_Play_step f fd) (MPlay_where : MCal P w K mg base C "where" 2 ["self", "walker"] (spWhere C)) (MPlay_leave : MCal P w K mg base C "leave" 1 ["self", "lane", "change"] (spLeave C)) (MPlay_pass_wicket : MCal P w K mg base C "pass_wicket" 2 ["self", "wicket", "change"] (spPass C)) : FnOk P w K mg base CX0 4 f fd ["self", "walker"] (spStep C) := by
  refine F.fn.ok sc_Play_step (fun vs H Q E h => ?_) (fun cdv A outer s H vs Q E hr h => ?_)
  · obtain ⟨p, v, wide, ws, L, st, i, pl, rfl, _⟩ := h
    rfl
  · obtain ⟨p, v, wide, ws, L, st, i, pl, rfl, net, pa, wf, hi, no, q⟩ := h
    have il : i < st.pla.length := (List.getElem?_eq_some_iff.mp hi).1
    have cl := wf.cl
    have psm := wf.ps pl (List.mem_of_getElem? hi)
    refine ⟨_, (pss_cons (ps_set (i := 2) sc_Play_step.nd rfl (by first | exact Or.inl rfl | exact Or.inr rfl) (pe_methC (pv 0) TP.cl MPlay_where (hr.mono (by first | decide | (first | lia | omega))) (pa_cons (pv 1) pa_nil)))
    (pss_cons (ps_if (pt_cmpR op_eq (pe_ix ix_tup (pv 2) pe_int (fun _ _ => rfl)) pe_str (nomark _))
    (pss_one ps_never)
    pss_nil)
    (pss_cons (ps_if (pt_cmpR op_eq (pe_ix ix_tup (pv 2) pe_int (fun _ _ => rfl)) pe_str (nomark _))
    (pss_one (ps_asg (pe_methC (pv 0) TP.cl MPlay_leave (hr.mono (by first | decide | (first | lia | omega))) (pa_cons (pe_ix ix_tup (pv 2) pe_int (fun _ _ => rfl)) (pa_cons (pe_ix ix_list (pe_fld (pv 0) rfl) (pv 1) (fun _ _ => rfl)) pa_nil))) (pg_sub (pe_fld (pv 0) rfl) (pv 1) set_list)))
    (pss_one (ps_asg (pe_methC (pv 0) TP.cl MPlay_pass_wicket (hr.mono (by first | decide | (first | lia | omega))) (pa_cons (pe_ix ix_tup (pv 2) pe_int (fun _ _ => rfl)) (pa_cons (pe_ix ix_list (pe_fld (pv 0) rfl) (pv 1) (fun _ _ => rfl)) pa_nil))) (pg_sub (pe_fld (pv 0) rfl) (pv 1) set_list))))
    (pss_one (ps_ret (pe_ix ix_list (pe_fld (pv 0) rfl) (pv 1) (fun _ _ => rfl))))))), ?_⟩
    refine ⟨_, rfl, p, _, _, rfl, pa.ob, pfl_no _ _ (by decide +kernel) (by decide +kernel) (by decide +kernel) (by decide +kernel) (by decide +kernel), _, rfl, p, v, L, st, i, pl, rfl, pa, hi, fun t ht => ?_⟩
    -- the new place is put
    have fin : ∀ (st1 : PlS) (t1 : Addr) (H1 : Hp), PlayAt C H1 p v L st1 → KpL L H H1 → st1.pla = st.pla → H1 t1 = some (.tup (plV (stepP wide ws st i pl))) → stepS wide ws st i pl = putP st1 i (stepP wide ws st i pl) →
        (gSub (tFld K (tVar 0) "places") (tVar 1) rSetL) (.ref t1) [some (.ref p), some (.int i), some (.ref t)] H1 (fun σ2 H2 => tRet (tOp (rIxL K) (tFld K (tVar 0) "places") (tVar 1)) { nx := fun _ H' => Q .non H', rt := Q } σ2 H2) := fun st1 t1 H1 pa1 k1 e1 x1 es => by
      obtain ⟨rp, xp, hpl⟩ := pa1.pl
      have lrp := Paired.length hpl
      rw [e1] at lrp
      refine ⟨_, rfl, p, C, _, _, _, rfl, pa1.ob, TP.cl, TP.nP, pfl_places _ _, _, rfl, L.lp, _, (i : Int), i, rfl, rfl, xp, by rw [ixN_of (by (first | lia | omega)) (by (first | lia | omega)), Int.toNat_natCast], ?_⟩
      have kt2 : KT H1 (upd H1 L.lp (HO.lst (rp.set i (V.ref t1)))) := KT.lst xp (KT.refl _)
      have pa2 : PlayAt C (upd H1 L.lp (HO.lst (rp.set i (V.ref t1)))) p v L (putP st1 i (stepP wide ws st i pl)) := by
        refine ⟨(upd_ne pa1.nob.2.2.1).trans pa1.ob, (upd_ne pa.fp).trans pa1.fa, (upd_ne pa.tp).trans pa1.ta, ⟨_, upd_same, ?_⟩, (upd_ne (Ne.symm pa.pc)).trans pa1.ch, pa.ft, pa.fp, pa.fc, pa.tp, pa.tc, pa.pc⟩
        exact Paired.setP ⟨t1, rfl, kt2 _ _ x1⟩ i (Paired.mapP hpl fun _ _ z => z.kt kt2)
      have k2 : KpL L H (upd H1 L.lp (HO.lst (rp.set i (V.ref t1)))) := KpL.trans k1 fun b o e h1 h2 h3 h4 => (upd_ne h3).trans e
      have x2 : (upd H1 L.lp (HO.lst (rp.set i (V.ref t1)))) L.lp = some (.lst (rp.set i (.ref t1))) := upd_same
      have xt := kt2 _ _ x1
      generalize upd H1 L.lp (HO.lst (rp.set i (V.ref t1))) = H2 at pa2 k2 x2 xt
      refine ⟨_, rfl, p, C, _, _, _, rfl, pa2.ob, TP.cl, TP.nP, pfl_places _ _, _, rfl, L.lp, _, _, _, rfl, rfl, SqL.of x2, atI_nat (show (rp.set i (V.ref t1))[i]? = some (V.ref t1) by simp [show i < rp.length by (first | lia | omega)]), ?_⟩
      rw [← es] at pa2
      exact q t1 H2 pa2 k2 xt
    have hc : (st.chg.map V.int)[i]? = some (.int (st.chg.getD i 0)) := by
      rw [List.getElem?_map, getD_lt (show i < st.chg.length by (first | lia | omega))]
      rfl
    cases pl with
    | out l n => exact absurd no (by simp [isOut])
    | exit l =>
      have ht' : H t = some (.tup [.str "exit", .int l]) := ht
      refine ⟨_, rfl, t, _, _, _, rfl, rfl, SqT.of ht', rfl, rfl, _, rfl, iteFd (by decide) ?_⟩
      refine ⟨_, rfl, t, _, _, _, rfl, rfl, SqT.of ht', rfl, rfl, _, rfl, iteTd (by decide) ?_⟩
      refine ⟨_, rfl, p, _, _, rfl, pa.ob, pfl_no _ _ (by decide +kernel) (by decide +kernel) (by decide +kernel) (by decide +kernel) (by decide +kernel), _, rfl, t, _, _, _, rfl, rfl, SqT.of ht', rfl, ?_⟩
      refine ⟨_, rfl, p, C, _, _, _, rfl, pa.ob, TP.cl, TP.nC, pfl_changes _ _, _, rfl, L.lc, _, _, _, rfl, rfl, SqL.of pa.ch, atI_nat hc, ?_⟩
      refine ⟨p, v, wide, ws, L, st, l, st.chg.getD i 0, rfl, net, pa, wf.tl, psm.1, psm.2, fun t1 H1 pa1 k1 x1 => ?_⟩
      exact fin _ t1 H1 pa1 k1 rfl x1 rfl
    | before k l =>
      have ht' : H t = some (.tup [.str "before", .int k, .int l]) := ht
      refine ⟨_, rfl, t, _, _, _, rfl, rfl, SqT.of ht', rfl, rfl, _, rfl, iteFd (by decide) ?_⟩
      refine ⟨_, rfl, t, _, _, _, rfl, rfl, SqT.of ht', rfl, rfl, _, rfl, iteFd (by decide) ?_⟩
      refine ⟨_, rfl, p, _, _, rfl, pa.ob, pfl_no _ _ (by decide +kernel) (by decide +kernel) (by decide +kernel) (by decide +kernel) (by decide +kernel), _, rfl, t, _, _, _, rfl, rfl, SqT.of ht', rfl, ?_⟩
      refine ⟨_, rfl, p, C, _, _, _, rfl, pa.ob, TP.cl, TP.nC, pfl_changes _ _, _, rfl, L.lc, _, _, _, rfl, rfl, SqL.of pa.ch, atI_nat hc, ?_⟩
      refine ⟨p, v, wide, ws, L, st, k, st.chg.getD i 0, rfl, net, pa, wf.fl, psm.1, fun t1 H1 pa1 k1 x1 => ?_⟩
      exact fin _ t1 H1 pa1 k1 rfl x1 rfl
end
section
variable {P : Program} {w : World} {K : PySem.W.Frag} {mg : Str → Option Value} {base : Heap} {f : Addr} {fd : FuncData}
theorem sc_Play_counts : FnScope ["self"] ["self"] (defScope s_Play_counts) := ⟨rfl, rfl, rfl, by decide +kernel, rfl, by decide +kernel, by decide +kernel⟩
theorem ok_Play_counts {C : Addr} (T : Bn mg) (TP : PlayT K C) (F : HereM K mg C "counts" "Play.counts" s_Play_counts f fd) : FnOk P w K mg base CX0 1 f fd ["self"] (spCountsP C) := by
  refine F.fn.ok sc_Play_counts (fun vs H Q E h => ?_) (fun cdv A outer s H vs Q E hr h => ?_)
  · obtain ⟨p, v, L, st, rfl, _⟩ := h
    rfl
  · obtain ⟨p, v, L, st, rfl, pa, q⟩ := h
    refine ⟨_, (pss_one (ps_ret (pe_callTy call_list_of rfl T.n_list boot_listT (pa_cons (pe_fld (pv 0) rfl) pa_nil)))), ?_⟩
    refine ⟨_, rfl, p, C, _, _, _, rfl, pa.ob, TP.cl, TP.nT, pfl_tally _ _, L.lt, _, rfl, .inl (SqL.of pa.ta), fun l fl => ?_⟩
    exact q l _ fl (same_new fl _) upd_same
end
section
variable {P : Program} {w : World} {K : PySem.W.Frag} {mg : Str → Option Value} {base : Heap} {f : Addr} {fd : FuncData}
theorem sc_Play_standing : FnScope ["self", "found", "lane", "count"] ["self"] (defScope s_Play_standing) := ⟨rfl, rfl, rfl, by decide +kernel, rfl, by decide +kernel, by decide +kernel⟩
theorem ok_Play_standing {C : Addr} (T : Bn mg) (TP : PlayT K C) (F : HereM K mg C "standing" "Play.standing" s_Play_standing f fd) (Cnumbers_of : Callee P w K mg base "numbers_of" 1 ["wide", "lane", "low", "high"] spNums) : FnOk P w K mg base CX0 2 f fd ["self"] (spStand C) := by
  refine F.fn.ok sc_Play_standing (fun vs H Q E h => ?_) (fun cdv A outer s H vs Q E hr h => ?_)
  · obtain ⟨p, v, wide, ws, L, st, rfl, _⟩ := h
    rfl
  · obtain ⟨p, v, wide, ws, L, st, rfl, net, pa, tl, few, q⟩ := h
    obtain ⟨n, tn, rns, rfl, hn, htn, hrs⟩ := id net.1
    have w1 := net.2.1
    have w8 := net.2.2.1
    refine ⟨_, (pss_cons (ps_set (i := 1) sc_Play_standing.nd rfl (by first | exact Or.inl rfl | exact Or.inr rfl) (pe_lst pa_nil))
    (pss_cons (ps_for PassesOwn.never rfl  (pi_enumL rfl T.n_enumerate (pa_cons (pe_fld (pv 0) rfl) pa_nil)) (pg_tup rfl (pgs_cons (pg_name (i := 2) sc_Play_standing.nd rfl (by first | exact Or.inl rfl | exact Or.inr rfl)) (pgs_cons (pg_name (i := 3) sc_Play_standing.nd rfl (by first | exact Or.inl rfl | exact Or.inr rfl)) pgs_nil)))
    (pss_one (ps_expr (pe_bm PySem.F.plainAttrs_list PySem.F.slot_list_extend PySem.F.type_list_extend mt_extend (pv 1) (pa_cons (pe_callC Cnumbers_of (hr.mono (by first | decide | (first | lia | omega))) rfl (pa_cons (pe_ix ix_tup (pe_fld (pv 0) rfl) pe_int (fun _ _ => rfl)) (pa_cons (pv 2) (pa_cons pe_int (pa_cons (pv 3) pa_nil))))) pa_nil)))))
    (pss_one (ps_ret (pe_callB call_sortedL rfl T.n_sorted PyProof.Rows.boot_sorted (pa_cons (pv 1) pa_nil)))))), ?_⟩
    refine ⟨lenLine (by show 0 ≤ 100000; decide), fun lf ff => ?_⟩
    have s0 : Same H (upd H lf (HO.lst [])) := same_new ff _
    have x0 : (upd H lf (HO.lst [])) lf = some (.lst []) := upd_same
    generalize upd H lf (HO.lst []) = H0 at s0 x0
    have pa0 := pa.same s0
    refine ⟨_, rfl, p, C, _, _, _, rfl, pa0.ob, TP.cl, TP.nT, pfl_tally _ _, L.lt, rfl, ⟨_, SqL.of pa0.ta⟩, ?_⟩
    refine for_enum (xs := st.tal.map V.int) (fun i σ Hc => ∃ v2 v3, σ = [some (.ref p), some (.ref lf), v2, v3] ∧ Same H Hc ∧ Hc lf = some (.lst ((standG wide 0 (st.tal.take i)).map V.int)))
      ⟨none, none, rfl, s0, x0⟩ (fun i σ Hc _ ⟨_, _, _, sc, _⟩ => SqL.of (sc _ _ pa.ta)) ?_ ?_
    · rintro i x T1 σ Hc hx fT ⟨v2, v3, rfl, sc, xc⟩
      obtain ⟨z, hz, rfl⟩ := int_item hx
      have il : i < st.tal.length := (List.getElem?_eq_some_iff.mp hz).1
      have bz := absS_ge (t := st.tal) i
      rw [List.getD_eq_getElem?_getD, hz, Option.getD_some] at bz
      have s1 : Same Hc (upd Hc T1 (HO.tup [V.int i, V.int z])) := same_new fT _
      refine ⟨T1, _, rfl, SqT.of upd_same, rfl, ?_⟩
      generalize upd Hc T1 (HO.tup [V.int i, V.int z]) = H1 at s1
      refine ⟨_, _, rfl, _, _, rfl, rfl, ?_⟩
      have sc1 := Same.trans sc s1
      have pa1 := pa.same sc1
      have ll := standG_len wide 0 (st.tal.take i)
      have la := absS_take st.tal i
      refine ⟨_, rfl, .inl ⟨rfl, _, SqL.of (s1 _ _ xc)⟩, ?_⟩
      refine ⟨_, rfl, p, C, _, _, _, rfl, pa1.ob, TP.cl, TP.nN, pfl_net _ _, n, _, _, _, rfl, rfl, SqT.of (sc1 _ _ hn), rfl, _, rfl, _, rfl, wide, i, 0, z, rfl, w1, w8, ⟨⟨by (first | lia | omega), by (first | lia | omega)⟩, by (first | lia | omega), by (first | lia | omega)⟩, fun a H2 fa s2 xa => ?_⟩
      refine ⟨lf, a, _, _, rfl, rfl, s2 _ _ (s1 _ _ xc), xa, lenLine (by rw [List.length_map, List.length_map, numsM_len]; (first | lia | omega)), ?_⟩
      refine ⟨_, _, rfl, Same.put ff (Same.trans sc1 s2), ?_⟩
      rw [upd_same, take_snoc hz, standG_snoc, List.map_append, List.length_take, Nat.min_eq_left (by (first | lia | omega)), Nat.zero_add, Int.sub_zero]
    · rintro σ Hc ⟨v2, v3, rfl, sc, xc⟩
      rw [List.length_map, List.take_length] at xc
      have ll := standG_len wide 0 st.tal
      refine ⟨_, rfl, lf, _, rfl, SqL.of xc, by (first | lia | omega), fun l ns' fl pm pw => ?_⟩
      exact q l ns' _ (sc.free fl) (Same.put (sc.free fl) sc) pm pw upd_same
end
section
variable {P : Program} {w : World} {K : PySem.W.Frag} {mg : Str → Option Value} {base : Heap} {f : Addr} {fd : FuncData}
theorem sc_Play_owed : FnScope ["self", "found", "lane", "count"] ["self"] (defScope s_Play_owed) := ⟨rfl, rfl, rfl, by decide +kernel, rfl, by decide +kernel, by decide +kernel⟩
theorem ok_Play_owed {C : Addr} (T : Bn mg) (TP : PlayT K C) (F : HereM K mg C "owed" "Play.owed" s_Play_owed f fd) (Cnumbers_of : Callee P w K mg base "numbers_of" 1 ["wide", "lane", "low", "high"] spNums) : FnOk P w K mg base CX0 2 f fd ["self"] (spOwed C) := by
  refine F.fn.ok sc_Play_owed (fun vs H Q E h => ?_) (fun cdv A outer s H vs Q E hr h => ?_)
  · obtain ⟨p, v, wide, ws, L, st, rfl, _⟩ := h
    rfl
  · obtain ⟨p, v, wide, ws, L, st, rfl, net, pa, tl, few, q⟩ := h
    obtain ⟨n, tn, rns, rfl, hn, htn, hrs⟩ := id net.1
    have w1 := net.2.1
    have w8 := net.2.2.1
    refine ⟨_, (pss_cons (ps_set (i := 1) sc_Play_owed.nd rfl (by first | exact Or.inl rfl | exact Or.inr rfl) (pe_lst pa_nil))
    (pss_cons (ps_for PassesOwn.never rfl  (pi_enumL rfl T.n_enumerate (pa_cons (pe_fld (pv 0) rfl) pa_nil)) (pg_tup rfl (pgs_cons (pg_name (i := 2) sc_Play_owed.nd rfl (by first | exact Or.inl rfl | exact Or.inr rfl)) (pgs_cons (pg_name (i := 3) sc_Play_owed.nd rfl (by first | exact Or.inl rfl | exact Or.inr rfl)) pgs_nil)))
    (pss_one (ps_expr (pe_bm PySem.F.plainAttrs_list PySem.F.slot_list_extend PySem.F.type_list_extend mt_extend (pv 1) (pa_cons (pe_callC Cnumbers_of (hr.mono (by first | decide | (first | lia | omega))) rfl (pa_cons (pe_ix ix_tup (pe_fld (pv 0) rfl) pe_int (fun _ _ => rfl)) (pa_cons (pv 2) (pa_cons (pv 3) (pa_cons pe_int pa_nil))))) pa_nil)))))
    (pss_one (ps_ret (pe_callB call_sortedL rfl T.n_sorted PyProof.Rows.boot_sorted (pa_cons (pv 1) pa_nil)))))), ?_⟩
    refine ⟨lenLine (by show 0 ≤ 100000; decide), fun lf ff => ?_⟩
    have s0 : Same H (upd H lf (HO.lst [])) := same_new ff _
    have x0 : (upd H lf (HO.lst [])) lf = some (.lst []) := upd_same
    generalize upd H lf (HO.lst []) = H0 at s0 x0
    have pa0 := pa.same s0
    refine ⟨_, rfl, p, C, _, _, _, rfl, pa0.ob, TP.cl, TP.nT, pfl_tally _ _, L.lt, rfl, ⟨_, SqL.of pa0.ta⟩, ?_⟩
    refine for_enum (xs := st.tal.map V.int) (fun i σ Hc => ∃ v2 v3, σ = [some (.ref p), some (.ref lf), v2, v3] ∧ Same H Hc ∧ Hc lf = some (.lst ((owedG wide 0 (st.tal.take i)).map V.int)))
      ⟨none, none, rfl, s0, x0⟩ (fun i σ Hc _ ⟨_, _, _, sc, _⟩ => SqL.of (sc _ _ pa.ta)) ?_ ?_
    · rintro i x T1 σ Hc hx fT ⟨v2, v3, rfl, sc, xc⟩
      obtain ⟨z, hz, rfl⟩ := int_item hx
      have il : i < st.tal.length := (List.getElem?_eq_some_iff.mp hz).1
      have bz := absS_ge (t := st.tal) i
      rw [List.getD_eq_getElem?_getD, hz, Option.getD_some] at bz
      have s1 : Same Hc (upd Hc T1 (HO.tup [V.int i, V.int z])) := same_new fT _
      refine ⟨T1, _, rfl, SqT.of upd_same, rfl, ?_⟩
      generalize upd Hc T1 (HO.tup [V.int i, V.int z]) = H1 at s1
      refine ⟨_, _, rfl, _, _, rfl, rfl, ?_⟩
      have sc1 := Same.trans sc s1
      have pa1 := pa.same sc1
      have ll := owedG_len wide 0 (st.tal.take i)
      have la := absS_take st.tal i
      refine ⟨_, rfl, .inl ⟨rfl, _, SqL.of (s1 _ _ xc)⟩, ?_⟩
      refine ⟨_, rfl, p, C, _, _, _, rfl, pa1.ob, TP.cl, TP.nN, pfl_net _ _, n, _, _, _, rfl, rfl, SqT.of (sc1 _ _ hn), rfl, _, rfl, _, rfl, wide, i, z, 0, rfl, w1, w8, ⟨⟨by (first | lia | omega), by (first | lia | omega)⟩, by (first | lia | omega), by (first | lia | omega)⟩, fun a H2 fa s2 xa => ?_⟩
      refine ⟨lf, a, _, _, rfl, rfl, s2 _ _ (s1 _ _ xc), xa, lenLine (by rw [List.length_map, List.length_map, numsM_len]; (first | lia | omega)), ?_⟩
      refine ⟨_, _, rfl, Same.put ff (Same.trans sc1 s2), ?_⟩
      rw [upd_same, take_snoc hz, owedG_snoc, List.map_append, List.length_take, Nat.min_eq_left (by (first | lia | omega)), Nat.zero_add, Int.zero_sub]
    · rintro σ Hc ⟨v2, v3, rfl, sc, xc⟩
      rw [List.length_map, List.take_length] at xc
      have ll := owedG_len wide 0 st.tal
      refine ⟨_, rfl, lf, _, rfl, SqL.of xc, by (first | lia | omega), fun l ns' fl pm pw => ?_⟩
      exact q l ns' _ (sc.free fl) (Same.put (sc.free fl) sc) pm pw upd_same
end
section
variable {P : Program} {w : World} {K : PySem.W.Frag} {mg : Str → Option Value} {base : Heap} {f : Addr} {fd : FuncData}
theorem sc_Play_lacking : FnScope ["self", "wide", "greatest"] ["self"] (defScope s_Play_lacking) := ⟨rfl, rfl, rfl, by decide +kernel, rfl, by decide +kernel, by decide +kernel⟩
theorem ok_Play_lacking {C : Addr} (T : Bn mg) (TP : PlayT K C) (F : HereM K mg C "lacking" "Play.lacking" s_Play_lacking f fd) (MPlay_standing : MCal P w K mg base C "standing" 2 ["self"] (spStand C)) : FnOk P w K mg base CX0 3 f fd ["self"] (spLack C) := by
  refine F.fn.ok sc_Play_lacking (fun vs H Q E h => ?_) (fun cdv A outer s H vs Q E hr h => ?_)
  · obtain ⟨p, v, wide, ws, L, st, rfl, _⟩ := h
    rfl
  · obtain ⟨p, v, wide, ws, L, st, rfl, net, pa, tl, few, q⟩ := h
    obtain ⟨n, tn, rns, rfl, hn, htn, hrs⟩ := id net.1
    have w1 := net.2.1
    have w8 := net.2.2.1
    refine ⟨_, (pss_cons (ps_set (i := 1) sc_Play_lacking.nd rfl (by first | exact Or.inl rfl | exact Or.inr rfl) (pe_ix ix_tup (pe_fld (pv 0) rfl) pe_int (fun _ _ => rfl)))
    (pss_cons (ps_set (i := 2) sc_Play_lacking.nd rfl (by first | exact Or.inl rfl | exact Or.inr rfl) (pe_maxD rfl rfl T.n_max (pe_methC0 (pv 0) TP.cl MPlay_standing (hr.mono (by first | decide | (first | lia | omega)))) pe_int))
    (pss_one (ps_ret (pe_comp ["number"] [("wide", 1), ("self", 0)] rfl (pi_range1 rfl T.n_range (pa_cons (pv 2) pa_nil)) (fun _ _ _ _ _ _ => by exact (pg_name (i := 0) (show List.Nodup (["number", "wide", "self"] : List Str) by decide +kernel) rfl (by first | exact Or.inl rfl | exact Or.inr rfl))) (fun _ _ _ _ _ _ => by exact (pts_one (pt_cmpR op_ge (pe_op op_fdiv (pv 0) (pv 1)) (pe_ix (ix_listK K rfl) (pe_fldK K rfl (pv 2) rfl) (pe_op op_mod (pv 0) (pv 1)) (fun _ _ => rfl)) (nomark _)))) (fun _ _ _ _ _ _ => by exact (pv 0))))))), ?_⟩
    refine ⟨_, rfl, p, C, _, _, _, rfl, pa.ob, TP.cl, TP.nN, pfl_net _ _, n, _, _, _, rfl, rfl, SqT.of hn, rfl, ?_⟩
    dsimp only [gName]
    refine seq_gen (a := tAsg _ _) fun N hN => ?_
    refine ⟨_, rfl, p, _, _, rfl, pa.ob, pfl_no _ _ (by decide +kernel) (by decide +kernel) (by decide +kernel) (by decide +kernel) (by decide +kernel), p, .ref n, wide, ws, L, st, rfl, net, pa, tl, few, fun a ns H1 fa s1 pm pw xa => ?_⟩
    have go : ∀ g, IsGr wide st.tal g → N [some (.ref p), some (.int wide), some (.int g)] H1 := fun g hg => hN _ _ (by
      have g0 := hg.nonneg
      have g6 := hg.lt w1 w8 tl few
      refine ⟨_, rfl, _, rfl, by (first | lia | omega), by (first | lia | omega), fun l fl => ?_⟩
      refine comp_range (n := g.toNat) (fun j ys Hd => Same H1 Hd ∧ Hd l = some (.lst ys) ∧ ys = (lackM wide st.tal j).map V.int) ⟨Same.put fl (Same.refl _), upd_same, rfl⟩ (lenLine (by (first | lia | omega)))
        (fun j ys Hd ⟨s4, e4, e5⟩ => ⟨e4, by rw [e5, List.length_map]; exact lackM_len _ _ _⟩) ?_ ?_
      · rintro j ys Hd hj ⟨s6, e6, rfl⟩
        have ej : (0 : Int) + (j : Int) = (j : Int) := Int.zero_add _
        rw [ej]
        have m0 := Int.emod_nonneg (j : Int) (show wide ≠ 0 by (first | lia | omega))
        have m1 := Int.emod_lt_of_pos (j : Int) (show 0 < wide by (first | lia | omega))
        have pa6 := (pa.same s1).same s6
        refine ⟨⟨.inl rfl, .inr rfl, .inr rfl, trivial⟩, ?_⟩
        refine ⟨_, rfl, _, rfl, _, _, rfl, rfl, ⟨by (first | lia | omega), by (first | lia | omega)⟩, _, rfl, p, C, _, _, _, rfl, pa6.ob, TP.cl, TP.nT, pfl_tally _ _, _, rfl, _, rfl, _, _, rfl, rfl, by (first | lia | omega), L.lt, _, _, _, rfl, rfl, SqL.of pa6.ta, atI_int m0 (by (first | lia | omega)), _, _, rfl, rfl, _, rfl, ?_⟩
        refine ite2 (fun g => ?_) (fun g => ?_)
        · refine ⟨_, rfl, e6, Same.put fl s6, upd_same, ?_⟩
          have g' := of_decide_eq_true g
          rw [lackM_succ, if_pos g', List.map_append]
          rfl
        · refine ⟨s6, e6, ?_⟩
          have g' := not_dec g
          rw [lackM_succ, if_neg g', List.append_nil]
      · rintro ys H2 ⟨s2, e2, rfl⟩
        exact q l g H2 (s1.free fl) (Same.trans s1 s2) hg e2)
    exact ⟨a, ns, rfl, SqL.of xa, fun e => go 0 (isGr_none pm e), fun m im => go m (isGr_max w1 pm im)⟩
end
section
variable {P : Program} {w : World} {K : PySem.W.Frag} {mg : Str → Option Value} {base : Heap} {f : Addr} {fd : FuncData}
theorem sc_whole_list : FnScope ["_law_found", "_law_due"] ["_law_found", "_law_due"] (defScope s_whole_list) := ⟨rfl, rfl, rfl, by decide +kernel, rfl, by decide +kernel, by decide +kernel⟩
theorem ok_whole_list (T : Bn mg) (F : Here K mg "_law_whole_list" s_whole_list f fd) : FnOk P w K mg base CX0 1 f fd ["_law_found", "_law_due"] spWholeList := by
  refine F.fn.ok sc_whole_list (fun vs H Q E h => ?_) (fun cdv A outer s H vs Q E hr h => ?_)
  · obtain ⟨a, b, ns, rfl, _⟩ := h
    rfl
  · obtain ⟨a, b, ns, rfl, ha, hb, hl, q⟩ := h
    refine ⟨_, (pss_cons (ps_if (PW.pt (pw_or (pt_not (pt_val (pe_callB call_isinst rfl T.n_isinstance boot_isinstance (pa_cons (pv 0) (pa_cons (pe_bltn (v := V.ty "list") (u := .type "list") rfl T.n_list (by decide +kernel) rfl) pa_nil))))) (pw_or1 (pt_cmpR (op_neL hr.units) (pv 0) (pv 1) (nomark _)))))
    (pss_one (ps_ret pe_bl))
    pss_nil)
    (pss_one (ps_ret (pe_callB (call_allB rfl) rfl T.n_all boot_all (pa_cons (pe_comp ["_law_number"] [] rfl (pi_list (pv 0)) (fun _ _ _ _ _ _ => by exact (pg_name (i := 0) (show List.Nodup (["_law_number"] : List Str) by decide +kernel) rfl (by first | exact Or.inl rfl | exact Or.inr rfl))) (fun _ _ _ _ _ _ => by exact pts_nil) (fun _ _ _ _ _ _ => by exact (pe_and (pe_callB (call_isinstK K rfl) rfl T.n_isinstance boot_isinstance (pa_cons (pv 0) (pa_cons (pe_bltn (v := V.ty "int") (u := .type "int") rfl T.n_int (by decide +kernel) rfl) pa_nil))) (pe_one (pe_not (pe_callB (call_isinstK K rfl) rfl T.n_isinstance boot_isinstance (pa_cons (pv 0) (pa_cons (pe_bltn (v := V.ty "bool") (u := .type "bool") rfl T.n_bool (by decide +kernel) rfl) pa_nil)))))))) pa_nil))))), ?_⟩
    refine ⟨_, rfl, _, _, _, true, rfl, TyOf.lst ha, rfl, _, rfl, iteFd (by decide) ?_⟩
    refine ⟨_, rfl, _, rfl, a, b, ns, ns, rfl, rfl, SqL.of ha, SqL.of hb, _, rfl, iteFd (by simp) ?_⟩
    refine ⟨_, rfl, a, rfl, ⟨_, SqL.of ha⟩, fun l5 f5 => ?_⟩
    refine comp_list (xs := ns.map V.int) (fun j ys Hd => Same H Hd ∧ Hd l5 = some (.lst ys) ∧ ys = (List.replicate j true).map V.bl) ⟨Same.put f5 (Same.refl _), upd_same, rfl⟩ (lenLine (by rw [List.length_map]; (first | lia | omega)))
      (fun j ys Hd hj ⟨s4, e4, e5⟩ => ⟨SqL.of (s4 _ _ ha), e4, by rw [e5]; simp⟩) ?_ ?_
    · rintro j x ys Hd hx ⟨s6, e6, rfl⟩
      obtain ⟨z, hz, rfl⟩ := int_item hx
      refine ⟨⟨.inl rfl, trivial⟩, tru_if ?_⟩
      refine ⟨_, rfl, _, _, _, true, rfl, TyOf.int z, rfl, _, rfl, iteTd rfl ?_⟩
      refine ⟨_, rfl, _, _, _, false, rfl, TyOf.int z, rfl, _, rfl, e6, Same.put f5 s6, upd_same, ?_⟩
      rw [List.replicate_succ', List.map_append]
      rfl
    rintro ys H6 ⟨s6, e6, rfl⟩
    refine ⟨l5, _, rfl, SqL.of e6, ?_⟩
    rw [all_true]
    exact q H6 s6
end
section
variable {P : Program} {w : World} {K : PySem.W.Frag} {mg : Str → Option Value} {base : Heap} {f : Addr} {fd : FuncData}
theorem sc_numbers : FnScope ["_law_net_here", "_law_counts", "_law_standing", "_law_owed", "_law_lane"] ["_law_net_here", "_law_counts"] (defScope s_numbers) := ⟨rfl, rfl, rfl, by decide +kernel, rfl, by decide +kernel, by decide +kernel⟩
theorem ok_numbers (T : Bn mg) (F : Here K mg "_law_numbers" s_numbers f fd) : FnOk P w K mg base CX0 1 f fd ["_law_net_here", "_law_counts"] spNum2 := by
  refine F.fn.ok sc_numbers (fun vs H Q E h => ?_) (fun cdv A outer s H vs Q E hr h => ?_)
  · obtain ⟨v, wide, ws, c, t, rfl, _⟩ := h
    rfl
  · obtain ⟨v, wide, ws, c, t, rfl, net, hc, tl, few, q⟩ := h
    obtain ⟨n, tn, rns, rfl, hn, htn, hrs⟩ := id net.1
    have w1 := net.2.1
    have w8 := net.2.2.1
    refine ⟨_, (pss_cons (ps_set (i := 2) sc_numbers.nd rfl (by first | exact Or.inl rfl | exact Or.inr rfl) (pe_lst pa_nil))
    (pss_cons (ps_set (i := 3) sc_numbers.nd rfl (by first | exact Or.inl rfl | exact Or.inr rfl) (pe_lst pa_nil))
    (pss_cons (ps_for PassesOwn.never rfl  (pi_range1 rfl T.n_range (pa_cons (pe_ix ix_tup (pv 0) pe_int (fun _ _ => rfl)) pa_nil)) (pg_name (i := 4) sc_numbers.nd rfl (by first | exact Or.inl rfl | exact Or.inr rfl))
    (pss_cons (ps_set (i := 2) sc_numbers.nd rfl (by first | exact Or.inl rfl | exact Or.inr rfl) (pe_op op_cat (pv 2) (pe_comp ["_law_k"] [("_law_lane", 4), ("_law_net_here", 0)] rfl (pi_range1 rfl T.n_range (pa_cons (pe_callB (call_max2 rfl) rfl T.n_max PyProof.Rows.boot_max (pa_cons pe_int (pa_cons (pe_ix ix_list (pv 1) (pv 4) (fun _ _ => rfl)) pa_nil))) pa_nil)) (fun _ _ _ _ _ _ => by exact (pg_name (i := 0) (show List.Nodup (["_law_k", "_law_lane", "_law_net_here"] : List Str) by decide +kernel) rfl (by first | exact Or.inl rfl | exact Or.inr rfl))) (fun _ _ _ _ _ _ => by exact pts_nil) (fun _ _ _ _ _ _ => by exact (pe_op op_add (pv 1) (pe_op op_mul (pe_ix (ix_tupK K rfl) (pv 2) pe_int (fun _ _ => rfl)) (pv 0)))))))
    (pss_one (ps_set (i := 3) sc_numbers.nd rfl (by first | exact Or.inl rfl | exact Or.inr rfl) (pe_op op_cat (pv 3) (pe_comp ["_law_k"] [("_law_lane", 4), ("_law_net_here", 0)] rfl (pi_range2 rfl T.n_range (pa_cons pe_int (pa_cons (pe_op op_sub pe_int (pe_ix ix_list (pv 1) (pv 4) (fun _ _ => rfl))) pa_nil))) (fun _ _ _ _ _ _ => by exact (pg_name (i := 0) (show List.Nodup (["_law_k", "_law_lane", "_law_net_here"] : List Str) by decide +kernel) rfl (by first | exact Or.inl rfl | exact Or.inr rfl))) (fun _ _ _ _ _ _ => by exact pts_nil) (fun _ _ _ _ _ _ => by exact (pe_op op_sub (pv 1) (pe_op op_mul (pe_ix (ix_tupK K rfl) (pv 2) pe_int (fun _ _ => rfl)) (pv 0))))))))))
    (pss_one (ps_ret (pe_lst (pa_cons (pe_callB call_sortedL rfl T.n_sorted PyProof.Rows.boot_sorted (pa_cons (pv 2) pa_nil)) (pa_cons (pe_callB call_sortedL rfl T.n_sorted PyProof.Rows.boot_sorted (pa_cons (pv 3) pa_nil)) pa_nil)))))))), ?_⟩
    refine ⟨lenLine (by show 0 ≤ 100000; decide), fun l4 f4 => ?_⟩
    have s0 : Same H (upd H l4 (HO.lst [])) := same_new f4 _
    have x4 : (upd H l4 (HO.lst [])) l4 = some (.lst []) := upd_same
    generalize upd H l4 (HO.lst []) = H0 at s0 x4
    refine ⟨lenLine (by show 0 ≤ 100000; decide), fun l5 f5 => ?_⟩
    have s1 : Same H0 (upd H0 l5 (HO.lst [])) := same_new f5 _
    have x5 : (upd H0 l5 (HO.lst [])) l5 = some (.lst []) := upd_same
    generalize upd H0 l5 (HO.lst []) = H1 at s1 x5
    have sH1 := Same.trans s0 s1
    refine ⟨_, rfl, n, _, _, _, rfl, rfl, SqT.of (sH1 _ _ hn), rfl, wide, rfl, by (first | lia | omega), by (first | lia | omega), ?_⟩
    refine for_range (n := wide.toNat) (fun i σ Hc => ∃ (a4 a5 : Addr) (v6 : Option V), σ = [some (.ref n), some (.ref c), some (.ref a4), some (.ref a5), v6] ∧ Same H Hc ∧ Hc a4 = some (.lst ((standG wide 0 (t.take i)).map V.int)) ∧ Hc a5 = some (.lst ((owedD wide 0 (t.take i)).map V.int)))
      ⟨l4, l5, none, rfl, sH1, s1 _ _ x4, x5⟩ ?_ ?_
    · rintro i σ Hc hi ⟨a4, a5, v6, rfl, sc, xa4, xa5⟩
      have ej : (0 : Int) + (i : Int) = (i : Int) := Int.zero_add _
      rw [ej]
      have il : i < t.length := by (first | lia | omega)
      have hz : t[i]? = some (t.getD i 0) := getD_lt il
      have bz := absS_ge (t := t) i
      have ls := standG_len wide 0 (t.take i)
      have lo := owedD_len wide 0 (t.take i)
      have la := absS_take t i
      have hzV : (t.map V.int)[i]? = some (.int (t.getD i 0)) := by rw [List.getElem?_map, hz]; rfl
      generalize t.getD i 0 = z at hz bz hzV
      have ez : (if z > 0 then z else 0 : Int).toNat = z.toNat := by split <;> (first | lia | omega)
      -- standing
      refine ⟨_, rfl, _, rfl, _, rfl, c, _, _, _, rfl, rfl, SqL.of (sc _ _ hc), atI_nat hzV, 0, z, rfl, _, rfl, by split <;> (first | lia | omega), by split <;> (first | lia | omega), fun la fla => ?_⟩
      rw [ez]
      refine comp_range (n := z.toNat) (fun j ys Hd => Same Hc Hd ∧ Hd la = some (.lst ys) ∧ ys = (numsM wide i 0 j).map V.int) ⟨Same.put fla (Same.refl _), upd_same, rfl⟩ (lenLine (by (first | lia | omega)))
        (fun j ys Hd ⟨s4, e4, e5⟩ => ⟨e4, by rw [e5, List.length_map, numsM_len]; exact Nat.le_refl _⟩) ?_ ?_
      · rintro j ys Hd hj ⟨s6, e6, rfl⟩
        refine ⟨⟨.inl rfl, .inr rfl, .inr rfl, trivial⟩, tru_if ?_⟩
        refine ⟨_, rfl, _, rfl, n, _, _, _, rfl, rfl, SqT.of (s6 _ _ (sc _ _ hn)), rfl, _, rfl, _, _, rfl, rfl, .inl ⟨by (first | lia | omega), by (first | lia | omega)⟩, _, _, rfl, rfl, e6, Same.put fla s6, upd_same, ?_⟩
        rw [numsM_succ, List.map_append]
        rfl
      rintro ys H2 ⟨s2, e2, rfl⟩
      refine ⟨a4, la, _, _, rfl, rfl, s2 _ _ xa4, e2, lenLine (by rw [List.length_map, List.length_map, numsM_len]; (first | lia | omega)), fun b4 fb4 => ?_⟩
      have s3 : Same H2 (upd H2 b4 (HO.lst ((standG wide 0 (t.take i)).map V.int ++ (numsM wide i 0 z.toNat).map V.int))) := same_new fb4 _
      have x3 : (upd H2 b4 (HO.lst ((standG wide 0 (t.take i)).map V.int ++ (numsM wide i 0 z.toNat).map V.int))) b4 = some (.lst ((standG wide 0 (t.take (i + 1))).map V.int)) := by
        rw [upd_same, take_snoc hz, standG_snoc, List.map_append, List.length_take, Nat.min_eq_left (by (first | lia | omega)), Nat.zero_add]
      generalize upd H2 b4 (HO.lst ((standG wide 0 (t.take i)).map V.int ++ (numsM wide i 0 z.toNat).map V.int)) = H3 at s3 x3
      have sc3 := Same.trans sc (Same.trans s2 s3)
      -- owed
      refine ⟨_, rfl, _, rfl, _, rfl, c, _, _, _, rfl, rfl, SqL.of (sc3 _ _ hc), atI_nat hzV, _, _, rfl, rfl, 1, 1 - z, rfl, ⟨by (first | lia | omega), by (first | lia | omega), by (first | lia | omega), by (first | lia | omega)⟩, fun lb flb => ?_⟩
      refine comp_range (n := (1 - z - 1).toNat) (fun j ys Hd => Same H3 Hd ∧ Hd lb = some (.lst ys) ∧ ys = (numsD wide i j).map V.int) ⟨Same.put flb (Same.refl _), upd_same, rfl⟩ (lenLine (by (first | lia | omega)))
        (fun j ys Hd ⟨s4, e4, e5⟩ => ⟨e4, by rw [e5, List.length_map, numsD_len]; exact Nat.le_refl _⟩) ?_ ?_
      · rintro j ys Hd hj ⟨s6, e6, rfl⟩
        refine ⟨⟨.inl rfl, .inr rfl, .inr rfl, trivial⟩, tru_if ?_⟩
        refine ⟨_, rfl, _, rfl, n, _, _, _, rfl, rfl, SqT.of (s6 _ _ (sc3 _ _ hn)), rfl, _, rfl, _, _, rfl, rfl, .inl ⟨by (first | lia | omega), by (first | lia | omega)⟩, _, _, rfl, rfl, e6, Same.put flb s6, upd_same, ?_⟩
        rw [numsD_succ, List.map_append]
        rfl
      rintro ys H4 ⟨s4, e4, rfl⟩
      have ew : (1 - z - 1).toNat = (-z).toNat := by (first | lia | omega)
      rw [ew] at e4
      refine ⟨a5, lb, _, _, rfl, rfl, s4 _ _ (s3 _ _ (s2 _ _ xa5)), e4, lenLine (by rw [List.length_map, List.length_map, numsD_len]; (first | lia | omega)), fun b5 fb5 => ?_⟩
      have s5 : Same H4 (upd H4 b5 (HO.lst ((owedD wide 0 (t.take i)).map V.int ++ (numsD wide i (-z).toNat).map V.int))) := same_new fb5 _
      refine ⟨b4, b5, _, rfl, Same.trans sc3 (Same.trans s4 s5), s5 _ _ (s4 _ _ x3), ?_⟩
      rw [upd_same, take_snoc hz, owedD_snoc, List.map_append, List.length_take, Nat.min_eq_left (by (first | lia | omega)), Nat.zero_add]
    · rintro σ Hc ⟨a4, a5, v6, rfl, sc, xa4, xa5⟩
      rw [← tl, List.take_length] at xa4 xa5
      have ls := standG_len wide 0 t
      have lo := owedD_len wide 0 t
      refine ⟨_, rfl, a4, _, rfl, SqL.of xa4, by (first | lia | omega), fun l1 n1 fl1 pm1 pw1 => ?_⟩
      have s6 : Same Hc (upd Hc l1 (HO.lst (n1.map V.int))) := same_new fl1 _
      have x6 : (upd Hc l1 (HO.lst (n1.map V.int))) l1 = some (.lst (n1.map V.int)) := upd_same
      generalize upd Hc l1 (HO.lst (n1.map V.int)) = H6 at s6 x6
      refine ⟨_, rfl, a5, _, rfl, SqL.of (s6 _ _ xa5), by (first | lia | omega), fun l2 n2 fl2 pm2 pw2 => ?_⟩
      have s7 : Same H6 (upd H6 l2 (HO.lst (n2.map V.int))) := same_new fl2 _
      have x7 : (upd H6 l2 (HO.lst (n2.map V.int))) l2 = some (.lst (n2.map V.int)) := upd_same
      generalize upd H6 l2 (HO.lst (n2.map V.int)) = H7 at s7 x7
      refine ⟨lenLine (by show 2 ≤ 100000; decide), fun l3 fl3 => ?_⟩
      have s8 : Same H7 (upd H7 l3 (HO.lst [V.ref l1, V.ref l2])) := same_new fl3 _
      exact q l1 l2 l3 n1 n2 _ (sc.free fl1) (sc.free (s6.free fl2)) (sc.free (s6.free (s7.free fl3))) (Same.trans sc (Same.trans s6 (Same.trans s7 s8))) pm1 pw1 (pm2.trans (owed_perm _ _ _)) pw2 (s8 _ _ (s7 _ _ x6)) (s8 _ _ x7) upd_same
end
section
variable {P : Program} {w : World} {K : PySem.W.Frag} {mg : Str → Option Value} {base : Heap} {f : Addr} {fd : FuncData}
theorem sc_asked : FnScope ["_law_play", "_law_word"] ["_law_play", "_law_word"] (defScope s_asked) := ⟨rfl, rfl, rfl, by decide +kernel, rfl, by decide +kernel, by decide +kernel⟩
theorem ok_asked {C : Addr} (T : Bn mg) (TP : PlayT K C) (F : Here K mg "_law_asked" s_asked f fd) (MPlay_standing : MCal P w K mg base C "standing" 2 ["self"] (spStand C)) (MPlay_owed : MCal P w K mg base C "owed" 2 ["self"] (spOwed C)) (MPlay_lacking : MCal P w K mg base C "lacking" 3 ["self"] (spLack C)) : FnOk P w K mg base CX0 4 f fd ["_law_play", "_law_word"] (spAsked C) := by
  refine F.fn.ok sc_asked (fun vs H Q E h => ?_) (fun cdv A outer s H vs Q E hr h => ?_)
  · obtain ⟨p, v, wide, ws, L, st, w, rfl, _⟩ := h
    rfl
  · obtain ⟨p, v, wide, ws, L, st, w, rfl, net, pa, tl, few, hw, q⟩ := h
    refine ⟨_, (pss_cons (ps_if (pt_cmpR op_eq (pv 1) pe_str (nomark _))
    (pss_one (ps_ret (pe_methC0 (pv 0) TP.cl MPlay_standing (hr.mono (by first | decide | (first | lia | omega))))))
    pss_nil)
    (pss_cons (ps_if (pt_cmpR op_eq (pv 1) pe_str (nomark _))
    (pss_one (ps_ret (pe_methC0 (pv 0) TP.cl MPlay_owed (hr.mono (by first | decide | (first | lia | omega))))))
    pss_nil)
    (pss_one (ps_ret (pe_methC0 (pv 0) TP.cl MPlay_lacking (hr.mono (by first | decide | (first | lia | omega)))))))), ?_⟩
    rcases hw with rfl | rfl | rfl
    · refine ⟨_, rfl, rfl, _, rfl, iteTd (by decide) ?_⟩
      refine ⟨_, rfl, p, _, _, rfl, pa.ob, pfl_no _ _ (by decide +kernel) (by decide +kernel) (by decide +kernel) (by decide +kernel) (by decide +kernel), ?_⟩
      exact ⟨p, v, wide, ws, L, st, rfl, net, pa, tl, few, fun a ns H' fa s pm pw xa => q a ns H' fa s (.inl ⟨rfl, pm, pw⟩) xa⟩
    · refine ⟨_, rfl, rfl, _, rfl, iteFd (by decide) ?_⟩
      refine ⟨_, rfl, rfl, _, rfl, iteTd (by decide) ?_⟩
      refine ⟨_, rfl, p, _, _, rfl, pa.ob, pfl_no _ _ (by decide +kernel) (by decide +kernel) (by decide +kernel) (by decide +kernel) (by decide +kernel), ?_⟩
      exact ⟨p, v, wide, ws, L, st, rfl, net, pa, tl, few, fun a ns H' fa s pm pw xa => q a ns H' fa s (.inr (.inl ⟨rfl, pm, pw⟩)) xa⟩
    · refine ⟨_, rfl, rfl, _, rfl, iteFd (by decide) ?_⟩
      refine ⟨_, rfl, rfl, _, rfl, iteFd (by decide) ?_⟩
      refine ⟨_, rfl, p, _, _, rfl, pa.ob, pfl_no _ _ (by decide +kernel) (by decide +kernel) (by decide +kernel) (by decide +kernel) (by decide +kernel), ?_⟩
      exact ⟨p, v, wide, ws, L, st, rfl, net, pa, tl, few, fun a g H' fa s hg xa => q a _ H' fa s (.inr (.inr ⟨rfl, g, hg, rfl⟩)) xa⟩
end
section
variable {P : Program} {w : World} {K : PySem.W.Frag} {mg : Str → Option Value} {base : Heap} {f : Addr} {fd : FuncData}
theorem sc_words : FnScope ["_law_turn", "_law_words_here"] ["_law_turn"] (defScope s_words) := ⟨rfl, rfl, rfl, by decide +kernel, rfl, by decide +kernel, by decide +kernel⟩
theorem ok_words (T : Bn mg) (F : Here K mg "_law_words" s_words f fd) : FnOk P w K mg base CX0 1 f fd ["_law_turn"] spWord3 := by
  refine F.fn.ok sc_words (fun vs H Q E h => ?_) (fun cdv A outer s H vs Q E hr h => ?_)
  · obtain ⟨t, rfl, _⟩ := h
    rfl
  · obtain ⟨t, rfl, t0, t6, q⟩ := h
    refine ⟨_, (pss_cons (ps_set (i := 1) sc_words.nd rfl (by first | exact Or.inl rfl | exact Or.inr rfl) (pe_lst (pa_cons pe_str (pa_cons pe_str (pa_cons pe_str pa_nil)))))
    (pss_cons (ps_set (i := 1) sc_words.nd rfl (by first | exact Or.inl rfl | exact Or.inr rfl) (pe_op op_cat (pe_slice sl_list (pv 1) (po_some (pe_op op_mod (pv 0) pe_int)) po_none) (pe_slice sl_list (pv 1) po_none (po_some (pe_op op_mod (pv 0) pe_int)))))
    (pss_cons (ps_if (pt_cmpR op_gt (pv 0) pe_int (nomark _))
    (pss_one (ps_ret (pe_sliceRev (pv 1) (pe_un un_neg pe_int))))
    pss_nil)
    (pss_one (ps_ret (pv 1)))))), ?_⟩
    refine ⟨lenLine (by show 3 ≤ 100000; decide), fun l fl => ?_⟩
    have s1 : Same H (upd H l (HO.lst [V.str "standing", V.str "owed", V.str "lacking"])) := same_new fl _
    have x1 : (upd H l (HO.lst [V.str "standing", V.str "owed", V.str "lacking"])) l = some (.lst [V.str "standing", V.str "owed", V.str "lacking"]) := upd_same
    generalize upd H l (HO.lst [V.str "standing", V.str "owed", V.str "lacking"]) = H1 at s1 x1
    refine ⟨_, rfl, _, rfl, _, _, rfl, rfl, (by show (0 : Int) < 3; decide), _, rfl, l, _, rfl, SqL.of x1, fun a fa => ?_⟩
    have s2 := same_new fa (HO.lst (cutV [V.str "standing", V.str "owed", V.str "lacking"] (some (t % 3)) none))
    refine ⟨_, rfl, _, rfl, _, _, rfl, rfl, (by show (0 : Int) < 3; decide), _, rfl, l, _, rfl, SqL.of (s2 _ _ x1), fun b fb => ?_⟩
    have s3 := same_new fb (HO.lst (cutV [V.str "standing", V.str "owed", V.str "lacking"] none (some (t % 3))))
    have la := cutV_length [V.str "standing", V.str "owed", V.str "lacking"] (some (t % 3)) none
    have lb := cutV_length [V.str "standing", V.str "owed", V.str "lacking"] none (some (t % 3))
    refine ⟨a, b, _, _, rfl, rfl, s3 _ _ upd_same, upd_same, lenLine (by simp at la lb; (first | lia | omega)), fun c fc => ?_⟩
    have s4 := same_new fc (HO.lst (cutV [V.str "standing", V.str "owed", V.str "lacking"] (some (t % 3)) none ++ cutV [V.str "standing", V.str "owed", V.str "lacking"] none (some (t % 3))))
    have sH := Same.trans s1 (Same.trans s2 (Same.trans s3 s4))
    have xc : upd (upd (upd H1 a (HO.lst (cutV [V.str "standing", V.str "owed", V.str "lacking"] (some (t % 3)) none))) b (HO.lst (cutV [V.str "standing", V.str "owed", V.str "lacking"] none (some (t % 3))))) c (HO.lst (cutV [V.str "standing", V.str "owed", V.str "lacking"] (some (t % 3)) none ++ cutV [V.str "standing", V.str "owed", V.str "lacking"] none (some (t % 3)))) c = some (.lst (cutV [V.str "standing", V.str "owed", V.str "lacking"] (some (t % 3)) none ++ cutV [V.str "standing", V.str "owed", V.str "lacking"] none (some (t % 3)))) := upd_same
    have fc' : H c = none := (Same.trans s1 (Same.trans s2 s3)).free fc
    have ww : ∃ ns : List Str, cutV [V.str "standing", V.str "owed", V.str "lacking"] (some (t % 3)) none ++ cutV [V.str "standing", V.str "owed", V.str "lacking"] none (some (t % 3)) = ns.map V.str ∧ ns.length ≤ 3 ∧ ∀ w ∈ ns, w = "standing" ∨ w = "owed" ∨ w = "lacking" := by
      rcases (show t % 3 = 0 ∨ t % 3 = 1 ∨ t % 3 = 2 by (first | lia | omega)) with e | e | e <;> rw [e]
      · exact ⟨["standing", "owed", "lacking"], rfl, by decide, fun w hw => by simpa using hw⟩
      · exact ⟨["owed", "lacking", "standing"], rfl, by decide, fun w hw => by
          rcases (show w = "owed" ∨ w = "lacking" ∨ w = "standing" by simpa using hw) with h | h | h
          · exact .inr (.inl h)
          · exact .inr (.inr h)
          · exact .inl h⟩
      · exact ⟨["lacking", "standing", "owed"], rfl, by decide, fun w hw => by
          rcases (show w = "lacking" ∨ w = "standing" ∨ w = "owed" by simpa using hw) with h | h | h
          · exact .inr (.inr h)
          · exact .inl h
          · exact .inr (.inl h)⟩
    obtain ⟨ns, en, ln, hn⟩ := ww
    rw [en] at sH xc
    rw [en]
    generalize upd (upd (upd H1 a (HO.lst (cutV [V.str "standing", V.str "owed", V.str "lacking"] (some (t % 3)) none))) b (HO.lst (cutV [V.str "standing", V.str "owed", V.str "lacking"] none (some (t % 3))))) c (HO.lst (ns.map V.str)) = H4 at sH xc
    refine ⟨_, rfl, _, _, rfl, rfl, _, rfl, ?_⟩
    refine ite2 (fun g => ?_) (fun g => ?_)
    · refine ⟨_, rfl, _, rfl, c, _, rfl, rfl, SqL.of xc, fun d fd' => ?_⟩
      rw [← List.map_reverse]
      exact q d ns.reverse _ (sH.free fd') (Same.put (sH.free fd') sH) (by rw [List.length_reverse]; exact ln) (fun w hw => hn w (List.mem_reverse.mp hw)) upd_same
    · exact ⟨_, rfl, q c ns H4 fc' sH ln hn xc⟩
end
section
variable {P : Program} {w : World} {K : PySem.W.Frag} {mg : Str → Option Value} {base : Heap} {f : Addr} {fd : FuncData}
theorem sc_right : FnScope ["_law_play", "_law_net_here", "_law_told", "_law_turn", "_law_standing", "_law_owed", "_law_lacking", "_law_due", "_law_word", "_law_found", "_law_left", "_law_number", "_law_gain"] ["_law_play", "_law_net_here", "_law_told", "_law_turn"] (defScope s_right) := ⟨rfl, rfl, rfl, by decide +kernel, rfl, by decide +kernel, by decide +kernel⟩
theorem ok_right {C : Addr} (T : Bn mg) (TP : PlayT K C) (F : Here K mg "_law_right" s_right f fd) (MPlay_counts : MCal P w K mg base C "counts" 1 ["self"] (spCountsP C)) (C_law_numbers : Callee P w K mg base "_law_numbers" 1 ["_law_net_here", "_law_counts"] spNum2) (C_law_words : Callee P w K mg base "_law_words" 1 ["_law_turn"] spWord3) (C_law_whole_list : Callee P w K mg base "_law_whole_list" 1 ["_law_found", "_law_due"] spWholeList) (C_law_asked : Callee P w K mg base "_law_asked" 4 ["_law_play", "_law_word"] (spAsked C)) :
    FnOk P w K mg base CX0 5 f fd ["_law_play", "_law_net_here", "_law_told", "_law_turn"] (spRight23 C) := by
  refine F.fn.ok sc_right (fun vs H Q E h => ?_) (fun cdv A outer s H vs Q E hr h => ?_)
  · obtain ⟨p, v, wide, ws, L, st, lt, ts, t, rfl, _⟩ := h
    rfl
  · obtain ⟨p, v, wide, ws, L, st, lt, ts, t, rfl, net, pa, tl, few, ⟨rs, hlt, hrf⟩, lts, acc, t0, t6, q⟩ := h
    obtain ⟨n, tn, rns, rfl, hn, htn, hrs⟩ := id net.1
    have w1 := net.2.1
    have w8 := net.2.2.1
    have lrs := hrf.len
    refine ⟨_, (pss_cons (ps_asg (pe_callC C_law_numbers (hr.mono (by first | decide | (first | lia | omega))) rfl (pa_cons (pv 1) (pa_cons (pe_methC0 (pv 0) TP.cl MPlay_counts (hr.mono (by first | decide | (first | lia | omega)))) pa_nil))) (pg_lst rfl (pgs_cons (pg_name (i := 4) sc_right.nd rfl (by first | exact Or.inl rfl | exact Or.inr rfl)) (pgs_cons (pg_name (i := 5) sc_right.nd rfl (by first | exact Or.inl rfl | exact Or.inr rfl)) pgs_nil))))
    (pss_cons (ps_setComp (i := 6) sc_right.nd rfl (by first | exact Or.inl rfl | exact Or.inr rfl) ["_law_number"] [("_law_standing", 4)] rfl (pi_range1 rfl T.n_range (pa_cons (pe_callB (call_maxL rfl) rfl T.n_max PyProof.Rows.boot_max (pa_cons (pe_op op_cat (pe_lst (pa_cons pe_int pa_nil)) (pv 4)) pa_nil)) pa_nil)) (fun _ _ _ _ _ _ => by exact (pg_name (i := 0) (show List.Nodup (["_law_number", "_law_standing"] : List Str) by decide +kernel) rfl (by first | exact Or.inl rfl | exact Or.inr rfl))) (fun _ _ _ _ _ _ => by exact (pts_one (pt_cmpR (op_notIn_seqK K rfl) (pv 0) (pv 1) (by with_unfolding_all rfl)))) (fun _ _ _ _ _ _ => by exact (pv 0)))
    (pss_cons (ps_set (i := 7) sc_right.nd rfl (by first | exact Or.inl rfl | exact Or.inr rfl) (pe_disp (pps_cons pe_str (pv 4) (pps_cons pe_str (pv 5) (pps_cons pe_str (pv 6) pps_nil))) rfl rfl (by intro z; cases z) (by decide)))
    (pss_cons (ps_for PassesOwn.never rfl  (pi_list (pe_callC C_law_words (hr.mono (by first | decide | (first | lia | omega))) rfl (pa_cons (pv 3) pa_nil))) (pg_name (i := 8) sc_right.nd rfl (by first | exact Or.inl rfl | exact Or.inr rfl))
    (pss_cons (ps_set (i := 9) sc_right.nd rfl (by first | exact Or.inl rfl | exact Or.inr rfl) (pe_callC C_law_asked (hr.mono (by first | decide | (first | lia | omega))) rfl (pa_cons (pv 0) (pa_cons (pv 8) pa_nil))))
    (pss_cons (ps_if (pt_not (pt_val (pe_callC C_law_whole_list (hr.mono (by first | decide | (first | lia | omega))) rfl (pa_cons (pv 9) (pa_cons (pe_dget (hu_of hr) (pv 7) (pv 8) (fun _ _ => rfl)) pa_nil)))))
    (pss_one (ps_ret pe_bl))
    pss_nil)
    (pss_one (ps_expr (pe_bm PySem.F.plainAttrs_list PySem.F.slot_list_append PySem.F.type_list_append mt_append (pv 9) (pa_cons pe_int pa_nil)))))))
    (pss_cons (ps_set (i := 10) sc_right.nd rfl (by first | exact Or.inl rfl | exact Or.inr rfl) pe_dnewK)
    (pss_cons (ps_for PassesOwn.never rfl  (pi_list (pv 2)) (pg_tup rfl (pgs_cons (pg_name (i := 11) sc_right.nd rfl (by first | exact Or.inl rfl | exact Or.inr rfl)) (pgs_cons (pg_name (i := 12) sc_right.nd rfl (by first | exact Or.inl rfl | exact Or.inr rfl)) pgs_nil)))
    (pss_one (ps_dput (hu_of hr) (pv 10) (pv 11) (pe_op op_add (pe_dget2 (hu_of hr) (pv 10) (pv 11) pe_int (by exact ⟨rfl, rfl, rfl, rfl⟩)) (pv 12)) rfl)))
    (pss_cons (ps_if (pt_cmpR (op_neL hr.units) (pe_callB call_sortedL rfl T.n_sorted PyProof.Rows.boot_sorted (pa_cons (pe_comp ["_law_number"] [("_law_left", 10)] rfl (pi_dict (pv 10)) (fun _ _ _ _ _ _ => by exact (pg_name (i := 0) (show List.Nodup (["_law_number", "_law_left"] : List Str) by decide +kernel) rfl (by first | exact Or.inl rfl | exact Or.inr rfl))) (fun _ _ _ _ _ _ => by exact (pts_one (pt_cmpR op_gt (pe_dget (hu_of hr) (pv 1) (pv 0) (fun _ _ => rfl)) pe_int (nomark _)))) (fun _ _ _ _ _ _ => by exact (pv 0))) pa_nil)) (pv 4) (nomark _))
    (pss_one (ps_ret pe_bl))
    pss_nil)
    (pss_cons (ps_if (pt_cmpR (op_neL hr.units) (pe_callB call_sortedL rfl T.n_sorted PyProof.Rows.boot_sorted (pa_cons (pe_comp ["_law_number"] [("_law_left", 10)] rfl (pi_dict (pv 10)) (fun _ _ _ _ _ _ => by exact (pg_name (i := 0) (show List.Nodup (["_law_number", "_law_left"] : List Str) by decide +kernel) rfl (by first | exact Or.inl rfl | exact Or.inr rfl))) (fun _ _ _ _ _ _ => by exact (pts_one (pt_cmpR op_lt (pe_dget (hu_of hr) (pv 1) (pv 0) (fun _ _ => rfl)) pe_int (nomark _)))) (fun _ _ _ _ _ _ => by exact (pv 0))) pa_nil)) (pv 5) (nomark _))
    (pss_one (ps_ret pe_bl))
    pss_nil)
    (pss_one (ps_ret (pe_cmpR op_eq (pe_callB call_len_seq rfl T.n_len PySem.boot_len (pa_cons (pe_comp ["_law_number"] [("_law_left", 10)] rfl (pi_dict (pv 10)) (fun _ _ _ _ _ _ => by exact (pg_name (i := 0) (show List.Nodup (["_law_number", "_law_left"] : List Str) by decide +kernel) rfl (by first | exact Or.inl rfl | exact Or.inr rfl))) (fun _ _ _ _ _ _ => by exact (pts_one (pt_cmpR op_gt (pe_callB (call_absK K rfl) rfl T.n_abs PyProof.Rows.boot_abs (pa_cons (pe_dget (hu_of hr) (pv 1) (pv 0) (fun _ _ => rfl)) pa_nil)) pe_int (nomark _)))) (fun _ _ _ _ _ _ => by exact (pv 0))) pa_nil)) pe_int (nomark _)))))))))))), ?_⟩
    refine ⟨_, rfl, _, rfl, p, _, _, rfl, pa.ob, pfl_no _ _ (by decide +kernel) (by decide +kernel) (by decide +kernel) (by decide +kernel) (by decide +kernel), p, .ref n, L, st, rfl, pa, fun c0 H0 fc0 s0 xc0 => ?_⟩
    refine ⟨.ref n, wide, ws, c0, st.tal, rfl, net.kt (KT.same s0 (KT.refl _)), xc0, tl, few, fun a4 a5 a6 n1 n2 H1 fa4 fa5 fa6 s1 pm1 pw1 pm2 pw2 xa4 xa5 xa6 => ?_⟩
    refine ⟨a6, _, rfl, SqL.of xa6, rfl, ?_⟩
    refine ⟨_, _, rfl, _, _, rfl, rfl, ?_⟩
    have sH1 := Same.trans s0 s1
    have ls := standG_len wide 0 st.tal
    have ln1 := pm1.length_eq
    have ln2 := pm2.length_eq
    have lo := owedG_len wide 0 st.tal
    -- lacking
    refine ⟨lenLine (by show 1 ≤ 100000; decide), fun lz flz => ?_⟩
    have s1' : Same H1 (upd H1 lz (HO.lst [V.int 0])) := same_new flz _
    have xz : (upd H1 lz (HO.lst [V.int 0])) lz = some (.lst [V.int 0]) := upd_same
    generalize upd H1 lz (HO.lst [V.int 0]) = H2 at s1' xz
    refine ⟨_, rfl, lz, a4, _, _, rfl, rfl, xz, s1' _ _ xa4, lenLine (by rw [List.length_map]; simp; (first | lia | omega)), fun lm flm => ?_⟩
    have s2 : Same H2 (upd H2 lm (HO.lst ([V.int 0] ++ n1.map V.int))) := same_new flm _
    have xm : (upd H2 lm (HO.lst ([V.int 0] ++ n1.map V.int))) lm = some (.lst ((0 :: n1).map V.int)) := upd_same
    generalize upd H2 lm (HO.lst ([V.int 0] ++ n1.map V.int)) = H3 at s2 xm
    have s13 := Same.trans s1' s2
    refine ⟨lm, _, rfl, SqL.of xm, by simp, fun g hg => ?_⟩
    have hgr : IsGr wide st.tal g := IsGr.of_perm pm1 hg
    have g0 := hgr.nonneg
    have g6 := hgr.lt w1 w8 tl few
    refine ⟨_, rfl, by (first | lia | omega), by (first | lia | omega), fun l7 f7 => ?_⟩
    refine comp_range (n := g.toNat) (fun j ys Hd => Same H3 Hd ∧ Hd l7 = some (.lst ys) ∧ ys = (lackM wide st.tal j).map V.int) ⟨Same.put f7 (Same.refl _), upd_same, rfl⟩ (lenLine (by (first | lia | omega)))
      (fun j ys Hd ⟨s4, e4, e5⟩ => ⟨e4, by rw [e5, List.length_map]; exact lackM_len _ _ _⟩) ?_ ?_
    · rintro j ys Hd hj ⟨s6, e6, rfl⟩
      have ej : (0 : Int) + (j : Int) = (j : Int) := Int.zero_add _
      rw [ej]
      refine ⟨⟨.inl rfl, .inr rfl, trivial⟩, ?_⟩
      refine ⟨_, rfl, _, rfl, a4, _, rfl, .inl (SqL.of (s6 _ _ (s13 _ _ xa4))), rfl, by simp [flatV], _, rfl, ?_⟩
      have key := stand_iff (wide := wide) (t := st.tal) w1 tl (n := (j : Int)) (by (first | lia | omega))
      rw [inV_ints]
      refine ite2 (fun g => ?_) (fun g => ?_)
      · refine ⟨_, rfl, e6, Same.put f7 s6, upd_same, ?_⟩
        have g' : ¬ (j : Int) ∈ standG wide 0 st.tal := fun z => by
          rw [← pm1.mem_iff] at z
          simp [z] at g
        rw [key] at g'
        rw [lackM_succ, if_pos (by (first | lia | omega)), List.map_append]
        rfl
      · refine ⟨s6, e6, ?_⟩
        have g' : (j : Int) ∈ standG wide 0 st.tal := by
          rw [← pm1.mem_iff]
          simpa using g
        rw [key] at g'
        rw [lackM_succ, if_neg (by (first | lia | omega)), List.append_nil]
    rintro ys H4 ⟨s4, e4, rfl⟩
    have s14 := Same.trans s13 s4
    have sH4 := Same.trans sH1 s14
    -- the dict
    refine fun d fd' => ?_
    have s5 : Same H4 (upd H4 d (HO.dK [])) := same_new fd' _
    have xd : (upd H4 d (HO.dK [])) d = some (.dK []) := upd_same
    generalize upd H4 d (HO.dK []) = H5 at s5 xd
    refine ⟨_, rfl, _, rfl, _, rfl, xd, [(Sum.inr "standing", .ref a4), (Sum.inr "owed", .ref a5), (Sum.inr "lacking", .ref l7)], rfl, by show 3 ≤ 15; decide, ?_⟩
    have fdH : H d = none := sH4.free fd'
    have n1d : a4 ≠ d := ne_of_none (s14 _ _ xa4) fd'
    have n2d : a5 ≠ d := ne_of_none (s14 _ _ xa5) fd'
    have n7d : l7 ≠ d := ne_of_none e4 fd'
    have sH8 : Same H (upd H5 d (HO.dK (mergeK [] [(Sum.inr "standing", .ref a4), (Sum.inr "owed", .ref a5), (Sum.inr "lacking", .ref l7)]))) := Same.put fdH (Same.trans sH4 s5)
    have xd8 : (upd H5 d (HO.dK (mergeK [] [(Sum.inr "standing", .ref a4), (Sum.inr "owed", .ref a5), (Sum.inr "lacking", .ref l7)]))) d = some (.dK (mergeK [] [(Sum.inr "standing", .ref a4), (Sum.inr "owed", .ref a5), (Sum.inr "lacking", .ref l7)])) := upd_same
    have y1 : (upd H5 d (HO.dK (mergeK [] [(Sum.inr "standing", .ref a4), (Sum.inr "owed", .ref a5), (Sum.inr "lacking", .ref l7)]))) a4 = some (.lst (n1.map V.int)) := (upd_ne n1d).trans (s5 _ _ (s14 _ _ xa4))
    have y2 : (upd H5 d (HO.dK (mergeK [] [(Sum.inr "standing", .ref a4), (Sum.inr "owed", .ref a5), (Sum.inr "lacking", .ref l7)]))) a5 = some (.lst (n2.map V.int)) := (upd_ne n2d).trans (s5 _ _ (s14 _ _ xa5))
    have y7 : (upd H5 d (HO.dK (mergeK [] [(Sum.inr "standing", .ref a4), (Sum.inr "owed", .ref a5), (Sum.inr "lacking", .ref l7)]))) l7 = some (.lst ((lackM wide st.tal g.toNat).map V.int)) := (upd_ne n7d).trans (s5 _ _ e4)
    generalize upd H5 d (HO.dK (mergeK [] [(Sum.inr "standing", .ref a4), (Sum.inr "owed", .ref a5), (Sum.inr "lacking", .ref l7)])) = H8 at sH8 xd8 y1 y2 y7
    have due : ∀ w : Str, (w = "standing" ∨ w = "owed" ∨ w = "lacking") → ∃ b ns, valV (mergeK [] [(Sum.inr "standing", V.ref a4), (Sum.inr "owed", V.ref a5), (Sum.inr "lacking", V.ref l7)]) (Sum.inr w) = some (.ref b) ∧ H8 b = some (.lst (ns.map V.int)) ∧ ToldN wide st.tal w ns := fun w hw => by
      have em : mergeK [] [(Sum.inr "standing", V.ref a4), (Sum.inr "owed", V.ref a5), (Sum.inr "lacking", V.ref l7)] = putK (putK (putK ([] : List (Key × V)) (Sum.inr "standing") (V.ref a4)) (Sum.inr "owed") (V.ref a5)) (Sum.inr "lacking") (V.ref l7) := rfl
      rcases hw with rfl | rfl | rfl
      · exact ⟨a4, n1, by rw [em, valV_put, if_neg (by decide +kernel), valV_put, if_neg (by decide +kernel), valV_put, if_pos rfl], y1, .inl ⟨rfl, pm1, pw1⟩⟩
      · exact ⟨a5, n2, by rw [em, valV_put, if_neg (by decide +kernel), valV_put, if_pos rfl], y2, .inr (.inl ⟨rfl, pm2, pw2⟩)⟩
      · exact ⟨l7, _, by rw [em, valV_put, if_pos rfl], y7, .inr (.inr ⟨rfl, g, hgr, rfl⟩)⟩
    refine ⟨_, rfl, t, rfl, t0, t6, fun lw nw' H9 flw s9 lnw hnw xw => ?_⟩
    have sH9 := Same.trans sH8 s9
    refine ⟨lw, rfl, ⟨_, SqL.of xw⟩, for_list (K := K) (a := lw) (xs := nw'.map V.str) (fun i σ Hc => ∃ (v8 v9 : Option V), σ = [some (.ref p), some (.ref n), some (.ref lt), some (.int t), some (.ref a4), some (.ref a5), some (.ref l7), some (.ref d), v8, v9, none, none, none] ∧ Same H9 Hc)
      ⟨_, _, rfl, Same.refl _⟩ (fun i σ Hc _ ⟨_, _, _, sd⟩ => SqL.of (sd _ _ xw)) ?_ ?_⟩
    · rintro i x σ Hd hx ⟨v8, v9, rfl, sd⟩
      obtain ⟨w, hwi, rfl⟩ : ∃ w, nw'[i]? = some w ∧ x = .str w := by
        rw [List.getElem?_map] at hx
        cases e : nw'[i]? with
        | none => rw [e] at hx; cases hx
        | some w => rw [e] at hx; cases hx; exact ⟨w, rfl, rfl⟩
      have hw := hnw w (List.mem_of_getElem? hwi)
      obtain ⟨b, ns, eb, xb, tb⟩ := due w hw
      have sHd := Same.trans sH9 sd
      refine ⟨_, rfl, _, rfl, p, .ref n, wide, ws, L, st, w, rfl, net.kt (KT.same sHd (KT.refl _)), pa.same sHd, tl, few, hw, fun a na Ha fa sa ta xa => ?_⟩
      have e9 := ta.eq tb
      subst e9
      have sda := Same.trans s9 (Same.trans sd sa)
      refine ⟨_, rfl, _, rfl, _, rfl, d, .ref b, rfl, by rw [← eb]; exact DGet.k (k := Sum.inr w) (sda _ _ xd8), a, b, na, rfl, xa, sda _ _ xb, ta.len w1 w8 tl few, fun Hb sb => ?_⟩
      have lna := ta.len w1 w8 tl few
      refine ⟨_, rfl, iteFd (by decide) ?_⟩
      refine ⟨_, rfl, .inl ⟨rfl, _, SqL.of (sb _ _ xa)⟩, a, _, _, rfl, rfl, sb _ _ xa, lenLt (by rw [List.length_map]; (first | lia | omega)), ?_⟩
      exact ⟨_, _, rfl, Same.put (sd.free fa) (Same.trans sd (Same.trans sa sb))⟩
    rintro σ Hd ⟨v8, v9, rfl, sd⟩
    have sHd := Same.trans sH9 sd
    have z1 := sd _ _ (s9 _ _ y1)
    have z2 := sd _ _ (s9 _ _ y2)
    -- what is left
    refine fun dl fdl => ?_
    have sl : Same Hd (upd Hd dl (HO.dK [])) := same_new fdl _
    have xl : (upd Hd dl (HO.dK [])) dl = some (.dK []) := upd_same
    have fdlH : H dl = none := sHd.free fdl
    have nl4 : a4 ≠ dl := ne_of_none z1 fdl
    have nl5 : a5 ≠ dl := ne_of_none z2 fdl
    generalize upd Hd dl (HO.dK []) = He at sl xl
    refine ⟨_, rfl, lt, rfl, ⟨_, SqL.of (sl _ _ (sHd _ _ hlt))⟩, ?_⟩
    refine for_list (K := K) (a := lt) (xs := rs) (fun i σ Hc => ∃ (v11 v12 : Option V) (kvs : List (Key × V)), σ = [some (.ref p), some (.ref n), some (.ref lt), some (.int t), some (.ref a4), some (.ref a5), some (.ref l7), some (.ref d), v8, v9, some (.ref dl), v11, v12] ∧ Same Hd Hc ∧ Hc dl = some (.dK kvs) ∧ LeftIs (ts.take i) kvs)
      ⟨_, _, [], rfl, sl, xl, LeftIs.nil⟩ (fun i σ Hc _ ⟨_, _, _, _, sc, _⟩ => SqL.of (sc _ _ (sHd _ _ hlt))) ?_ ?_
    · rintro i x σ Hc hx ⟨v11, v12, kvs, rfl, sc, xc, left⟩
      obtain ⟨w0, tw0, hw0, rfl, htw0⟩ := hrf.get hx
      have il : i < ts.length := (List.getElem?_eq_some_iff.mp hw0).1
      have lk := left.ln
      rw [List.length_take] at lk
      refine ⟨tw0, _, rfl, SqT.of (sc _ _ (sHd _ _ htw0)), rfl, ?_⟩
      refine ⟨_, _, rfl, _, _, rfl, rfl, ?_⟩
      refine ⟨_, rfl, dl, rfl, .inl ⟨_, .inl xc⟩, _, rfl, _, DGet.k (k := Sum.inl w0.1) xc, ?_⟩
      rw [left.val]
      refine ⟨_, rfl, _, _, rfl, rfl, _, rfl, _, rfl, dl, _, rfl, DPut.k (k := Sum.inl w0.1) xc (lenLt (by (first | lia | omega))), ?_⟩
      refine ⟨_, _, _, rfl, Same.put fdl sc, upd_same, ?_⟩
      rw [take_snoc hw0]
      exact left.put w0.1 w0.2
    rintro σ Hf ⟨v11, v12, kvs, rfl, sf, xf, left⟩
    rw [lrs, List.take_length] at left
    have lk := left.ln
    have mem_lt : ∀ {i : Nat} {kv : Key × V}, kvs[i]? = some kv → ∃ m, kv.1 = Sum.inl m ∧ valV kvs (Sum.inl m) = some (.int (gainOf ts m)) := fun h => left.has (List.mem_of_getElem? h)
    have kf : ∀ (f : Int → Bool) (i : Nat) (kv : Key × V) (m : Int), kvs[i]? = some kv → kv.1 = Sum.inl m → (keysI (kvs.take (i + 1))).filter f = (keysI (kvs.take i)).filter f ++ (if f m = true then [m] else []) := fun f i kv m h e => by
      rw [take_snoc h]
      unfold keysI
      rw [List.map_append, List.filter_append]
      congr 1
      rw [List.map_cons, List.map_nil, e, List.filter_cons]
      by_cases g : f m = true
      · rw [if_pos g]; show (if f m = true then _ else _) = _; rw [if_pos g]; rfl
      · rw [if_neg g]; show (if f m = true then _ else _) = _; rw [if_neg g]; rfl
    have kl : ∀ (f : Int → Bool) (i : Nat), ((keysI (kvs.take i)).filter f).length ≤ i := fun f i => by
      refine Nat.le_trans (List.length_filter_le _ _) ?_
      unfold keysI
      rw [List.length_map, List.length_take]
      exact Nat.min_le_left _ _
    have kl2 : ∀ (f : Int → Bool), ((keysI kvs).filter f).length ≤ 60 := fun f => by
      refine Nat.le_trans (List.length_filter_le _ _) ?_
      unfold keysI
      rw [List.length_map]
      (first | lia | omega)
    have w0' : (0 : Int) + st.tal.length ≤ wide := by (first | lia | omega)
    have ndS := standG_nodup w1 0 st.tal w0'
    have ndO := owedG_nodup w1 0 st.tal w0'
    -- those that stand
    refine ⟨_, rfl, dl, kvs, rfl, .inl xf, fun o1 => ?_⟩
    have sf1 : Same Hd (upd Hf dl (HO.frz o1 (HO.dK kvs))) := Same.put fdl sf
    have xf1 : (upd Hf dl (HO.frz o1 (HO.dK kvs))) dl = some (.frz o1 (.dK kvs)) := upd_same
    generalize upd Hf dl (HO.frz o1 (HO.dK kvs)) = Hg at sf1 xf1
    refine fun lc flc => ?_
    refine comp_keys (a := dl) (o := o1) (kvs := kvs) (fun j ys Hx => Same Hg Hx ∧ Hx lc = some (.lst ys) ∧ ys = ((keysI (kvs.take j)).filter fun m => decide (0 < gainOf ts m)).map V.int) ⟨Same.put flc (Same.refl _), upd_same, rfl⟩ (lenLine (by (first | lia | omega)))
      (fun j ys Hx _ ⟨a1, a2, a3⟩ => ⟨a1 _ _ xf1, a2, by rw [a3, List.length_map]; exact kl _ _⟩) ?_ ?_
    · rintro j kv ys Hx hk ⟨a1, a2, rfl⟩
      obtain ⟨m, ek, vk⟩ := mem_lt hk
      rw [ek]
      refine ⟨⟨.inl rfl, .inr rfl, trivial⟩, ?_⟩
      refine ⟨_, rfl, _, rfl, dl, .int (gainOf ts m), rfl, .inl ⟨kvs, Sum.inl m, .inr ⟨o1, a1 _ _ xf1⟩, rfl, vk.symm⟩, _, _, rfl, rfl, _, rfl, ?_⟩
      have kf' := kf (fun m => decide (0 < gainOf ts m)) j kv m hk ek
      refine ite2 (fun g => ?_) (fun g => ?_)
      · refine ⟨_, rfl, a2, Same.put flc a1, upd_same, ?_⟩
        rw [kf', if_pos (by simpa using g), List.map_append]
        rfl
      · refine ⟨a1, a2, ?_⟩
        rw [kf', if_neg (by simpa using g), List.append_nil]
    rintro ys Hh ⟨a1, a2, rfl⟩
    rw [List.take_length] at a2
    refine ⟨lc, _, rfl, SqL.of a2, by have := kl2 (fun m => decide (0 < gainOf ts m)); (first | lia | omega), fun l1 m1 fl1 qm1 qw1 => ?_⟩
    have e1 : m1 = n1 := left.sorted ndS (fun m => by rw [← acc.pos w1 tl m]; simp) (fun m h => by simp at h; (first | lia | omega)) pm1 pw1 qm1 qw1
    subst e1
    have sh1 : Same Hh (upd Hh l1 (HO.lst (m1.map V.int))) := same_new fl1 _
    have xh1 : (upd Hh l1 (HO.lst (m1.map V.int))) l1 = some (.lst (m1.map V.int)) := upd_same
    generalize upd Hh l1 (HO.lst (m1.map V.int)) = Hi at sh1 xh1
    have sgi := Same.trans a1 sh1
    have sdi := Same.trans sf1 sgi
    refine ⟨_, rfl, l1, a4, _, _, rfl, rfl, SqL.of xh1, SqL.of (sdi _ _ z1), _, rfl, iteFd (by simp) ?_⟩
    -- those that are owed
    have xi := sgi _ _ xf1
    refine ⟨_, rfl, dl, kvs, rfl, .inr ⟨o1, xi⟩, fun o2 => ?_⟩
    have sf2 : Same Hd (upd Hi dl (HO.frz o2 (HO.dK kvs))) := Same.put fdl sdi
    have xf2 : (upd Hi dl (HO.frz o2 (HO.dK kvs))) dl = some (.frz o2 (.dK kvs)) := upd_same
    generalize upd Hi dl (HO.frz o2 (HO.dK kvs)) = Hj at sf2 xf2
    refine fun lc2 flc2 => ?_
    refine comp_keys (a := dl) (o := o2) (kvs := kvs) (fun j ys Hx => Same Hj Hx ∧ Hx lc2 = some (.lst ys) ∧ ys = ((keysI (kvs.take j)).filter fun m => decide (gainOf ts m < 0)).map V.int) ⟨Same.put flc2 (Same.refl _), upd_same, rfl⟩ (lenLine (by (first | lia | omega)))
      (fun j ys Hx _ ⟨a1, a2, a3⟩ => ⟨a1 _ _ xf2, a2, by rw [a3, List.length_map]; exact kl _ _⟩) ?_ ?_
    · rintro j kv ys Hx hk ⟨a1, a2, rfl⟩
      obtain ⟨m, ek, vk⟩ := mem_lt hk
      rw [ek]
      refine ⟨⟨.inl rfl, .inr rfl, trivial⟩, ?_⟩
      refine ⟨_, rfl, _, rfl, dl, .int (gainOf ts m), rfl, .inl ⟨kvs, Sum.inl m, .inr ⟨o2, a1 _ _ xf2⟩, rfl, vk.symm⟩, _, _, rfl, rfl, _, rfl, ?_⟩
      have kf' := kf (fun m => decide (gainOf ts m < 0)) j kv m hk ek
      refine ite2 (fun g => ?_) (fun g => ?_)
      · refine ⟨_, rfl, a2, Same.put flc2 a1, upd_same, ?_⟩
        rw [kf', if_pos (by simpa using g), List.map_append]
        rfl
      · refine ⟨a1, a2, ?_⟩
        rw [kf', if_neg (by simpa using g), List.append_nil]
    rintro ys Hk ⟨b1, b2, rfl⟩
    rw [List.take_length] at b2
    refine ⟨lc2, _, rfl, SqL.of b2, by have := kl2 (fun m => decide (gainOf ts m < 0)); (first | lia | omega), fun l2 m2 fl2 qm2 qw2 => ?_⟩
    have e2 : m2 = n2 := left.sorted ndO (fun m => by rw [← acc.neg w1 tl m]; simp) (fun m h => by simp at h; (first | lia | omega)) pm2 pw2 qm2 qw2
    subst e2
    have sh2 : Same Hk (upd Hk l2 (HO.lst (m2.map V.int))) := same_new fl2 _
    have xh2 : (upd Hk l2 (HO.lst (m2.map V.int))) l2 = some (.lst (m2.map V.int)) := upd_same
    generalize upd Hk l2 (HO.lst (m2.map V.int)) = Hl at sh2 xh2
    have sjl := Same.trans b1 sh2
    have sdl := Same.trans sf2 sjl
    refine ⟨_, rfl, l2, a5, _, _, rfl, rfl, SqL.of xh2, SqL.of (sdl _ _ z2), _, rfl, iteFd (by simp) ?_⟩
    -- none more than once
    have xl2 := sjl _ _ xf2
    refine ⟨_, rfl, dl, kvs, rfl, .inr ⟨o2, xl2⟩, fun o3 => ?_⟩
    have sf3 : Same Hd (upd Hl dl (HO.frz o3 (HO.dK kvs))) := Same.put fdl sdl
    have xf3 : (upd Hl dl (HO.frz o3 (HO.dK kvs))) dl = some (.frz o3 (.dK kvs)) := upd_same
    generalize upd Hl dl (HO.frz o3 (HO.dK kvs)) = Hm at sf3 xf3
    refine fun lc3 flc3 => ?_
    refine comp_keys (a := dl) (o := o3) (kvs := kvs) (fun j ys Hx => Same Hm Hx ∧ Hx lc3 = some (.lst ys) ∧ ys = []) ⟨Same.put flc3 (Same.refl _), upd_same, rfl⟩ (lenLine (by (first | lia | omega)))
      (fun j ys Hx _ ⟨a1, a2, a3⟩ => ⟨a1 _ _ xf3, a2, by rw [a3]; exact Nat.zero_le _⟩) ?_ ?_
    · rintro j kv ys Hx hk ⟨a1, a2, rfl⟩
      obtain ⟨m, ek, vk⟩ := mem_lt hk
      rw [ek]
      have sm := acc.small m
      refine ⟨⟨.inl rfl, .inr rfl, trivial⟩, ?_⟩
      refine ⟨_, rfl, _, rfl, dl, .int (gainOf ts m), rfl, .inl ⟨kvs, Sum.inl m, .inr ⟨o3, a1 _ _ xf3⟩, rfl, vk.symm⟩, _, rfl, _, _, rfl, rfl, _, rfl, iteFd ?_ ⟨a1, a2, rfl⟩⟩
      simpa using sm
    rintro ys Hn ⟨c1, c2, rfl⟩
    refine ⟨lc3, _, rfl, .inl (SqL.of c2), rfl, ?_⟩
    exact q Hn (Same.trans sHd (Same.trans sf3 c1))
end
section
variable {P : Program} {w : World} {K : PySem.W.Frag} {mg : Str → Option Value} {base : Heap} {f : Addr} {fd : FuncData}
theorem sc_come_in : FnScope ["_law_play", "_law_lane", "_law_back"] ["_law_play", "_law_lane", "_law_back"] (defScope s_come_in) := ⟨rfl, rfl, rfl, by decide +kernel, rfl, by decide +kernel, by decide +kernel⟩
theorem ok_come_in {C : Addr} (T : Bn mg) (TP : PlayT K C) (F : Here K mg "_law_come_in" s_come_in f fd) (MPlay_enter : MCal P w K mg base C "enter" 4 ["self", "lane"] (spEnter C 1)) (MPlay_enter_back : MCal P w K mg base C "enter_back" 4 ["self", "lane"] (spEnter C (-1))) : FnOk P w K mg base CX0 5 f fd ["_law_play", "_law_lane", "_law_back"] (spLComeIn C) := by
  refine F.fn.ok sc_come_in (fun vs H Q E h => ?_) (fun cdv A outer s H vs Q E hr h => ?_)
  · obtain ⟨p, v, wide, ws, L, st, lane, bk, rfl, _⟩ := h
    rfl
  · obtain ⟨p, v, wide, ws, L, st, lane, bk, rfl, net, pa, wf, l0, l1, hb, q⟩ := h
    refine ⟨_, (pss_cons (ps_if (pt_cmpR op_eq (pv 2) pe_int (nomark _))
    (pss_one (ps_ret (pe_methC (pv 0) TP.cl MPlay_enter_back (hr.mono (by first | decide | (first | lia | omega))) (pa_cons (pv 1) pa_nil))))
    pss_nil)
    (pss_one (ps_ret (pe_methC (pv 0) TP.cl MPlay_enter (hr.mono (by first | decide | (first | lia | omega))) (pa_cons (pv 1) pa_nil))))), ?_⟩
    rcases hb with rfl | rfl
    · refine ⟨_, rfl, rfl, _, rfl, iteFd (by decide) ?_⟩
      refine ⟨_, rfl, p, _, _, rfl, pa.ob, pfl_no _ _ (by decide +kernel) (by decide +kernel) (by decide +kernel) (by decide +kernel) (by decide +kernel), _, rfl, ?_⟩
      exact ⟨p, v, wide, ws, L, st, lane, rfl, net, pa, wf, l0, l1, q⟩
    · refine ⟨_, rfl, rfl, _, rfl, iteTd (by decide) ?_⟩
      refine ⟨_, rfl, p, _, _, rfl, pa.ob, pfl_no _ _ (by decide +kernel) (by decide +kernel) (by decide +kernel) (by decide +kernel) (by decide +kernel), _, rfl, ?_⟩
      exact ⟨p, v, wide, ws, L, st, lane, rfl, net, pa, wf, l0, l1, q⟩
end
section
variable {P : Program} {w : World} {K : PySem.W.Frag} {mg : Str → Option Value} {base : Heap} {f : Addr} {fd : FuncData}
theorem sc_out : FnScope ["_law_play", "_law_walker", "_law_place"] ["_law_play", "_law_walker"] (defScope s_out) := ⟨rfl, rfl, rfl, by decide +kernel, rfl, by decide +kernel, by decide +kernel⟩
theorem ok_out {C : Addr} (T : Bn mg) (TP : PlayT K C) (F : Here K mg "_law_out" s_out f fd) (MPlay_where : MCal P w K mg base C "where" 2 ["self", "walker"] (spWhere C)) (MPlay_step : MCal P w K mg base C "step" 4 ["self", "walker"] (spStep C)) : FnOk P w K mg base CX0 5 f fd ["_law_play", "_law_walker"] (spOut C) := by
  refine F.fn.ok sc_out (fun vs H Q E h => ?_) (fun cdv A outer s H vs Q E hr h => ?_)
  · obtain ⟨p, v, wide, ws, L, st, i, pl, rfl, _⟩ := h
    rfl
  · obtain ⟨p, v, wide, ws, L, st, i, pl, rfl, net, pa, wf, hi, q⟩ := h
    have ok := net.2.2.2.1
    have nom : ∀ (m : Str), (¬ m = "changes") → (¬ m = "places") → (¬ m = "tally") → (¬ m = "facing") → (¬ m = "net") → (pfl v L).lookup m = none := fun m => pfl_no _ _
    refine ⟨_, (pss_cons (ps_set (i := 2) sc_out.nd rfl (by first | exact Or.inl rfl | exact Or.inr rfl) (pe_methC (pv 0) TP.cl MPlay_where (hr.mono (by first | decide | (first | lia | omega))) (pa_cons (pv 1) pa_nil)))
    (pss_cons (ps_while PassesOwn.never  (pt_cmpR op_ne (pe_ix ix_tup (pv 2) pe_int (fun _ _ => rfl)) pe_str (nomark _))
    (pss_one (ps_set (i := 2) sc_out.nd rfl (by first | exact Or.inl rfl | exact Or.inr rfl) (pe_methC (pv 0) TP.cl MPlay_step (hr.mono (by first | decide | (first | lia | omega))) (pa_cons (pv 1) pa_nil)))))
    (pss_one (ps_ret (pe_ix ix_tup (pv 2) pe_int (fun _ _ => rfl)))))), ?_⟩
    refine ⟨_, rfl, p, _, _, rfl, pa.ob, nom _ (by decide +kernel) (by decide +kernel) (by decide +kernel) (by decide +kernel) (by decide +kernel), _, rfl, p, v, L, st, i, pl, rfl, pa, hi, fun tw htw => ?_⟩
    refine while_m (fun m σ Hd => ∃ (std : PlS) (pl : Place) (t : Addr), σ = [some (.ref p), some (.int i), some (.ref t)] ∧ PlayAt C Hd p v L std ∧ Wf wide ws std ∧ KpL L H Hd ∧ std.pla[i]? = some pl ∧ Hd t = some (.tup (plV pl)) ∧ m = muPl ws.length pl ∧ ∀ st', Run wide ws i std st' → Run wide ws i st st')
      _ ⟨st, pl, tw, rfl, pa, wf, KpL.refl _ _, hi, htw, rfl, fun st' h => h⟩ ?_ ?_
    · rintro m σ Hd ⟨std, pl, t, rfl, paD, wfD, kD, hjD, ht, rfl, run⟩
      have ktD : KT H Hd := KpL.kt pa kD
      by_cases o : isOut pl = true
      · cases pl with
        | before k' l' => exact absurd o (by simp [isOut])
        | exit l' => exact absurd o (by simp [isOut])
        | out l' n' =>
          refine ⟨_, rfl, t, _, _, _, rfl, rfl, SqT.of ht, rfl, rfl, _, rfl, iteFd (by decide) ?_⟩
          exact ⟨_, rfl, t, _, _, _, rfl, rfl, SqT.of ht, rfl, q std l' n' Hd (run _ (.done hjD o)) hjD paD kD⟩
      · have no' : isOut pl = false := by simpa using o
        have tst : ∀ {R : Bool → Hp → Prop}, R true Hd → tTest (tOp rNe (tOp (rIxT K) (tVar 2) (tC (V.int 0))) (tC (V.str "out"))) [some (.ref p), some (.int i), some (.ref t)] Hd R := fun hR => by
          cases pl with
          | out l' n' => exact absurd no' (by simp [isOut])
          | before k' l' => exact ⟨_, rfl, t, _, _, _, rfl, rfl, SqT.of ht, rfl, rfl, _, rfl, hR⟩
          | exit l' => exact ⟨_, rfl, t, _, _, _, rfl, rfl, SqT.of ht, rfl, rfl, _, rfl, hR⟩
        refine tst (iteTd rfl ?_)
        refine ⟨_, rfl, p, _, _, rfl, paD.ob, nom _ (by decide +kernel) (by decide +kernel) (by decide +kernel) (by decide +kernel) (by decide +kernel), _, rfl, p, v, wide, ws, L, std, i, pl, rfl, net.kt ktD, paD, wfD, hjD, no', fun t5 H5 pa5 k5 x5 => ?_⟩
        exact ⟨_, muPl_step wfD hjD no', _, _, t5, rfl, pa5, step_wf ok wfD hjD, KpL.trans kD k5, step_at hjD, x5, rfl, fun st' h => run st' (.more hjD no' h)⟩
    · rintro σ Hd Q' Q'' hq h
      obtain ⟨y, f0, a1, b1, c1, d1, e1, f1, f2, f3, f4, f5, y2, h2⟩ := h
      exact ⟨y, f0, a1, b1, c1, d1, e1, f1, f2, f3, f4, f5, y2, hq _ _ h2⟩
end
section
variable {P : Program} {w : World} {K : PySem.W.Frag} {mg : Str → Option Value} {base : Heap} {f : Addr} {fd : FuncData}
theorem sc_law : FnScope ["_law_script", "_law_net_here", "_law_play", "_law_pen_here", "_law_most", "_law_share", "_law_told", "_law_inside", "_law_k", "_law_lane", "_law_back", "_law_walker", "_law_gain"] ["_law_script"] (defScope s_law) := ⟨rfl, rfl, rfl, by decide +kernel, rfl, by decide +kernel, by decide +kernel⟩
theorem ok_law {C : Addr} (T : Bn mg) (TP : PlayT K C) (F : Here K mg "law" s_law f fd) (C_law_pen : Callee P w K mg base "_law_pen" 1 ["_law_script", "_law_k"] (spPen K)) (C_law_net : Callee P w K mg base "_law_net" 8 ["_law_pen_here"] spNet) (C_law_take : Callee P w K mg base "_law_take" 1 ["_law_pen_here", "_law_size"] spTake)
    (MkPlay : Maker P w K mg base "Play" C 1 ["self", "net"] (spPInit C)) (C_law_come_in : Callee P w K mg base "_law_come_in" 5 ["_law_play", "_law_lane", "_law_back"] (spLComeIn C)) (C_law_out : Callee P w K mg base "_law_out" 5 ["_law_play", "_law_walker"] (spOut C)) (C_law_right : Callee P w K mg base "_law_right" 5 ["_law_play", "_law_net_here", "_law_told", "_law_turn"] (spRight23 C)) :
    FnOk P w K mg base CX0 9 f fd ["_law_script"] (spLaw K) := by
  refine F.fn.ok sc_law (fun vs H Q E h => ?_) (fun cdv A outer s H vs Q E hr h => ?_)
  · obtain ⟨a, ns, rfl, _⟩ := h
    rfl
  · obtain ⟨a, ns, rfl, hS, h63, q⟩ := h
    refine ⟨_, (pss_cons (ps_set (i := 1) sc_law.nd rfl (by first | exact Or.inl rfl | exact Or.inr rfl) (pe_callC C_law_net (hr.mono (by first | decide | (first | lia | omega))) rfl (pa_cons (pe_callC C_law_pen (hr.mono (by first | decide | (first | lia | omega))) rfl (pa_cons (pv 0) (pa_cons pe_int pa_nil))) pa_nil)))
    (pss_cons (ps_set (i := 2) sc_law.nd rfl (by first | exact Or.inl rfl | exact Or.inr rfl) (pe_makeC MkPlay (hr.mono (by first | decide | (first | lia | omega))) rfl (pa_cons (pv 1) pa_nil)))
    (pss_cons (ps_set (i := 3) sc_law.nd rfl (by first | exact Or.inl rfl | exact Or.inr rfl) (pe_callC C_law_pen (hr.mono (by first | decide | (first | lia | omega))) rfl (pa_cons (pv 0) (pa_cons pe_int pa_nil))))
    (pss_cons (ps_set (i := 4) sc_law.nd rfl (by first | exact Or.inl rfl | exact Or.inr rfl) (pe_callC C_law_take (hr.mono (by first | decide | (first | lia | omega))) rfl (pa_cons (pv 3) (pa_cons (pe_ix ix_tup (pv 1) pe_int (fun _ _ => rfl)) pa_nil))))
    (pss_cons (ps_set (i := 5) sc_law.nd rfl (by first | exact Or.inl rfl | exact Or.inr rfl) (pe_callC C_law_take (hr.mono (by first | decide | (first | lia | omega))) rfl (pa_cons (pv 3) (pa_cons pe_int pa_nil))))
    (pss_cons (ps_set (i := 6) sc_law.nd rfl (by first | exact Or.inl rfl | exact Or.inr rfl) (pe_lst pa_nil))
    (pss_cons (ps_set (i := 7) sc_law.nd rfl (by first | exact Or.inl rfl | exact Or.inr rfl) (pe_lst pa_nil))
    (pss_cons (ps_for PassesOwn.never rfl  (pi_range1 rfl T.n_range (pa_cons pe_int pa_nil)) (pg_name (i := 8) sc_law.nd rfl (by first | exact Or.inl rfl | exact Or.inr rfl))
    (pss_cons (ps_if (pt_cmpR op_eq (pe_op op_mod (pv 8) pe_int) pe_int (nomark _))
    (pss_one (ps_set (i := 3) sc_law.nd rfl (by first | exact Or.inl rfl | exact Or.inr rfl) (pe_callC C_law_pen (hr.mono (by first | decide | (first | lia | omega))) rfl (pa_cons (pv 0) (pa_cons (pe_op op_add pe_int (pe_op op_fdiv (pv 8) pe_int)) pa_nil)))))
    pss_nil)
    (pss_cons (ps_set (i := 9) sc_law.nd rfl (by first | exact Or.inl rfl | exact Or.inr rfl) (pe_ix ix_list (pe_lst (pa_cons (pe_callC C_law_take (hr.mono (by first | decide | (first | lia | omega))) rfl (pa_cons (pv 3) (pa_cons (pe_ix ix_tup (pv 1) pe_int (fun _ _ => rfl)) pa_nil))) (pa_cons (pv 4) pa_nil))) (pe_callTy call_int1 rfl T.n_int boot_intT (pa_cons (pe_cmpR op_eq (pe_callC C_law_take (hr.mono (by first | decide | (first | lia | omega))) rfl (pa_cons (pv 3) (pa_cons pe_int pa_nil))) pe_int (nomark _)) pa_nil)) (fun _ _ => rfl)))
    (pss_cons (ps_set (i := 10) sc_law.nd rfl (by first | exact Or.inl rfl | exact Or.inr rfl) (pe_callTy call_int1 rfl T.n_int boot_intT (pa_cons (pe_cmpR op_lt (pe_callC C_law_take (hr.mono (by first | decide | (first | lia | omega))) rfl (pa_cons (pv 3) (pa_cons pe_int pa_nil))) (pv 5) (nomark _)) pa_nil)))
    (pss_cons (ps_set (i := 11) sc_law.nd rfl (by first | exact Or.inl rfl | exact Or.inr rfl) (pe_callC C_law_come_in (hr.mono (by first | decide | (first | lia | omega))) rfl (pa_cons (pv 2) (pa_cons (pv 9) (pa_cons (pv 10) pa_nil)))))
    (pss_cons (ps_expr (pe_bm PySem.F.plainAttrs_list PySem.F.slot_list_append PySem.F.type_list_append mt_append (pv 7) (pa_cons (pe_tup (pa_cons (pv 11) (pa_cons (pe_op op_sub pe_int (pe_op op_mul pe_int (pv 10))) pa_nil))) pa_nil)))
    (pss_cons (ps_while PassesOwn.never  (PW.pt (pw_and (pt_cmpR (op_neD hr.units) (pv 7) (pe_lst pa_nil) (nomark _)) (pw_and1 (pt_cmpR op_gt (pe_callC C_law_take (hr.mono (by first | decide | (first | lia | omega))) rfl (pa_cons (pv 3) (pa_cons pe_int pa_nil))) pe_int (nomark _)))))
    (pss_cons (ps_asg (pe_bm PySem.F.plainAttrs_list PySem.F.slot_list_pop PySem.F.type_list_pop mt_popAt (pv 7) (pa_cons (pe_callC C_law_take (hr.mono (by first | decide | (first | lia | omega))) rfl (pa_cons (pv 3) (pa_cons (pe_callB call_len_seq rfl T.n_len PySem.boot_len (pa_cons (pv 7) pa_nil)) pa_nil))) pa_nil)) (pg_tup rfl (pgs_cons (pg_name (i := 11) sc_law.nd rfl (by first | exact Or.inl rfl | exact Or.inr rfl)) (pgs_cons (pg_name (i := 12) sc_law.nd rfl (by first | exact Or.inl rfl | exact Or.inr rfl)) pgs_nil))))
    (pss_one (ps_expr (pe_bm PySem.F.plainAttrs_list PySem.F.slot_list_append PySem.F.type_list_append mt_append (pv 6) (pa_cons (pe_tup (pa_cons (pe_callC C_law_out (hr.mono (by first | decide | (first | lia | omega))) rfl (pa_cons (pv 2) (pa_cons (pv 11) pa_nil))) (pa_cons (pv 12) pa_nil))) pa_nil))))))
    (pss_one (ps_if (pt_not (pt_val (pe_callC C_law_right (hr.mono (by first | decide | (first | lia | omega))) rfl (pa_cons (pv 2) (pa_cons (pv 1) (pa_cons (pv 6) (pa_cons (pe_callC C_law_take (hr.mono (by first | decide | (first | lia | omega))) rfl (pa_cons (pv 3) (pa_cons pe_int pa_nil))) pa_nil)))))))
    (pss_one (ps_ret pe_bl))
    pss_nil)))))))))
    (pss_one (ps_ret (pe_callC C_law_right (hr.mono (by first | decide | (first | lia | omega))) rfl (pa_cons (pe_makeC MkPlay (hr.mono (by first | decide | (first | lia | omega))) rfl (pa_cons (pv 1) pa_nil)) (pa_cons (pv 1) (pa_cons (pe_lst pa_nil) (pa_cons (pe_op op_add pe_int (pe_op op_mod (pv 4) pe_int)) pa_nil))))))))))))))), ?_⟩
    refine ⟨_, rfl, a, ns, 0, rfl, hS, h63, by (first | lia | omega), by (first | lia | omega), fun p0 pa pb pc fp => ?_⟩
    refine ⟨p0, rfl, ⟨_, _, _, upd_same⟩, fun v wide ws H1 k1 pn1 net w1 w8 ok len => ?_⟩
    have s1 : Same H H1 := Kp.fresh fp k1
    obtain ⟨n, tn, rns, ev, hn, htn, hrs⟩ := id net
    subst ev
    have nt1 : NetOk H1 (.ref n) wide ws := ⟨net, w1, w8, ok, len⟩
    -- the play
    refine ⟨_, rfl, fun x dx fx fdx ndx => ?_⟩
    refine mk_play nt1 x dx fx fdx (fun L H2 frL pl2 s2 => ?_)
    refine ⟨_, rfl, a, ns, 1, rfl, (Same.trans s1 s2).seq hS, h63, by (first | lia | omega), by (first | lia | omega), fun pn ea eb ec fpn => ?_⟩
    have s3 : Same H2 (upd H2 pn (HO.lst [V.int ea, V.int eb, V.int ec])) := same_new fpn _
    have xpn : (upd H2 pn (HO.lst [V.int ea, V.int eb, V.int ec])) pn = some (.lst [V.int ea, V.int eb, V.int ec]) := upd_same
    generalize upd H2 pn (HO.lst [V.int ea, V.int eb, V.int ec]) = H3 at s3 xpn
    have s13 := Same.trans s2 s3
    refine ⟨_, rfl, _, rfl, n, _, _, _, rfl, rfl, SqT.of (s13 _ _ hn), rfl, pn, ea, eb, ec, wide, rfl, xpn, by (first | lia | omega), by (first | lia | omega), fun most ea1 eb1 ec1 mo0 mo1 => ?_⟩
    have fpn1 : H1 pn = none := s2.free fpn
    have s4 : Same H1 (upd H3 pn (HO.lst [V.int ea1, V.int eb1, V.int ec1])) := Same.put fpn1 s13
    have npn : pn ∉ L.own x := fun z => pl2.live _ z fpn
    have pl4 : PlayAt C (upd H3 pn (HO.lst [V.int ea1, V.int eb1, V.int ec1])) x (.ref n) L (startM wide ws) := (pl2.same s3).keep (S := [pn]) (KpS.upd (by simp)) (KT.lst xpn (KT.refl _)) (one_dj npn)
    have xp4 : (upd H3 pn (HO.lst [V.int ea1, V.int eb1, V.int ec1])) pn = some (.lst [V.int ea1, V.int eb1, V.int ec1]) := upd_same
    generalize upd H3 pn (HO.lst [V.int ea1, V.int eb1, V.int ec1]) = H4 at s4 pl4 xp4
    refine ⟨_, rfl, pn, ea1, eb1, ec1, 4, rfl, xp4, by decide, by decide, fun share ea2 eb2 ec2 sh0 sh4 => ?_⟩
    have s5 : Same H1 (upd H4 pn (HO.lst [V.int ea2, V.int eb2, V.int ec2])) := Same.put fpn1 s4
    have pl5 : PlayAt C (upd H4 pn (HO.lst [V.int ea2, V.int eb2, V.int ec2])) x (.ref n) L (startM wide ws) := pl4.keep (S := [pn]) (KpS.upd (by simp)) (KT.lst xp4 (KT.refl _)) (one_dj npn)
    have xp5 : (upd H4 pn (HO.lst [V.int ea2, V.int eb2, V.int ec2])) pn = some (.lst [V.int ea2, V.int eb2, V.int ec2]) := upd_same
    generalize upd H4 pn (HO.lst [V.int ea2, V.int eb2, V.int ec2]) = H5 at s5 pl5 xp5
    refine ⟨lenLine (by show 0 ≤ 100000; decide), fun lt flt => ?_⟩
    have s6 : Same H5 (upd H5 lt (HO.lst [])) := same_new flt _
    have xt6 : (upd H5 lt (HO.lst [])) lt = some (.lst []) := upd_same
    generalize upd H5 lt (HO.lst []) = H6 at s6 xt6
    refine ⟨lenLine (by show 0 ≤ 100000; decide), fun li fli => ?_⟩
    have s7 : Same H6 (upd H6 li (HO.lst [])) := same_new fli _
    have xi7 : (upd H6 li (HO.lst [])) li = some (.lst []) := upd_same
    generalize upd H6 li (HO.lst []) = H7 at s7 xi7
    have s57 := Same.trans s6 s7
    have w0 : W23 C H1 H7 x (.ref n) wide ws L (startM wide ws) lt [] li [] pn :=
      ⟨Same.trans s5 s57, pl5.same s57, start_wf, Few.start _ _, ⟨[], s7 _ _ xt6, .nil⟩, ⟨[], xi7, .nil⟩, Acc.start _, rfl, fun _ h => (nomatch h), List.nodup_nil, ⟨_, _, _, s57 _ _ xp5⟩, frL, s5.free flt, (Same.trans s5 s6).free fli, fpn1, fun z => pl5.live _ z flt, fun z => (pl5.same s6).live _ z fli, npn, ne_of_none xt6 fli, ne_of_none xp5 flt, ne_of_none (s6 _ _ xp5) fli⟩
    clear pl2 pl4 pl5 xpn xp4 xp5 s13 s4 s5 s6 s7 s57 xt6 xi7 s3
    have ntk : ∀ {Hc : Hp}, Same H1 Hc → NetOk Hc (.ref n) wide ws := fun t => nt1.kt (KT.same t (KT.refl _))
    refine ⟨40, rfl, by decide, by decide, ?_⟩
    refine for_range (n := 40) (fun i σ Hc => ∃ (v8 v9 v10 v11 v12 : Option V) (pn : Addr) (st : PlS) (ts is : List (Int × Int)), σ = [some (.ref a), some (.ref n), some (.ref x), some (.ref pn), some (.int most), some (.int share), some (.ref lt), some (.ref li), v8, v9, v10, v11, v12] ∧ W23 C H1 Hc x (.ref n) wide ws L st lt ts li is pn ∧ st.pla.length = i)
      ⟨none, none, none, none, none, pn, _, _, _, rfl, w0, rfl⟩ ?_ ?_
    · rintro i σ Hc hi ⟨v8, v9, v10, v11, v12, pn, st, ts, is, rfl, wc, lenc⟩
      dsimp only [gName]
      refine seq_gen (a := tIfS _ _ _) fun N hN => ?_
      have go : ∀ (pn : Addr) (Hd : Hp), W23 C H1 Hd x (.ref n) wide ws L st lt ts li is pn → N [some (.ref a), some (.ref n), some (.ref x), some (.ref pn), some (.int most), some (.int share), some (.ref lt), some (.ref li), some (.int (0 + (i : Int))), v9, v10, v11, v12] Hd := fun pn Hd wd => hN _ _ (by
        -- the lane
        refine seq_gen (a := tAsg _ _) fun N2 hN2 => ?_
        have go2 : ∀ (lane : Int) (He : Hp), 0 ≤ lane → lane < wide → W23 C H1 He x (.ref n) wide ws L st lt ts li is pn → N2 [some (.ref a), some (.ref n), some (.ref x), some (.ref pn), some (.int most), some (.int share), some (.ref lt), some (.ref li), some (.int (0 + (i : Int))), some (.int lane), v10, v11, v12] He := fun lane He l0 l1 we => hN2 _ _ (by
          obtain ⟨a2, b2, c2, hp2⟩ := id we.pe
          refine ⟨_, rfl, pn, a2, b2, c2, 4, rfl, hp2, by decide, by decide, fun tv a3 b3 c3 tv0 tv4 => ?_⟩
          have wf := we.take a3 b3 c3
          generalize upd He pn (HO.lst [V.int a3, V.int b3, V.int c3]) = Hf at wf
          obtain ⟨bk, ebk, hbk⟩ : ∃ bk : Int, (bk = 0 ∨ bk = 1) ∧ (if decide (tv < share) then (1 : Int) else 0) = bk := by
            by_cases g : tv < share
            · exact ⟨1, .inr rfl, by simp [g]⟩
            · exact ⟨0, .inl rfl, by simp [g]⟩
          refine ⟨_, rfl, _, _, rfl, rfl, .inr ⟨_, rfl, ?_⟩⟩
          rw [hbk]
          have hc : (1 - 2 * bk = 1) ∨ (1 - 2 * bk = -1) := by (first | lia | omega)
          refine ⟨_, rfl, _, rfl, _, rfl, x, .ref n, wide, ws, L, st, lane, bk, rfl, ntk wf.sm, wf.pl, wf.wf, l0, l1, ebk, fun H8 pl8 k8 => ?_⟩
          -- it is inside
          obtain ⟨r8, e8, rr8⟩ := WsL.kpl wf.ins wf.pl k8 wf.n2
          refine ⟨_, rfl, .inl ⟨rfl, _, SqL.of e8⟩, _, rfl, _, rfl, _, _, rfl, rfl, .inl ⟨by decide, by decide⟩, _, _, rfl, rfl, lenLine (by show 2 ≤ 100000; decide), fun t6 f6 => ?_⟩
          have e9 : (upd H8 t6 (HO.tup [V.int st.pla.length, V.int (1 - 2 * bk)])) li = some (.lst r8) := (same_new f6 _) _ _ e8
          have cn := wf.cnt
          have lr8 := rr8.len
          refine ⟨li, _, _, rfl, rfl, e9, lenLt (by (first | lia | omega)), ?_⟩
          have w9 := wf.enter (t6 := t6) (rs := r8) (by (first | lia | omega)) l0 l1 hc pl8 k8 f6 e9
          have z9 : ∀ {R : Hp → Prop}, R (upd (upd H8 t6 (HO.tup [V.int st.pla.length, V.int (1 - 2 * bk)])) li (HO.lst (r8 ++ [V.ref t6]))) → R (upd (upd H8 t6 (HO.tup [V.int st.pla.length, (fun i j : Int => V.int (i - j)) 1 (2 * bk)])) li (HO.lst (r8 ++ [V.ref t6]))) := fun h => h
          try refine z9 ?_
          generalize upd (upd H8 t6 (HO.tup [V.int st.pla.length, V.int (1 - 2 * bk)])) li (HO.lst (r8 ++ [V.ref t6])) = H9 at w9
          -- some go out
          refine while_d (fun m σ Hg => ∃ (v11 v12 : Option V) (st' : PlS) (ts' is' : List (Int × Int)), σ = [some (.ref a), some (.ref n), some (.ref x), some (.ref pn), some (.int most), some (.int share), some (.ref lt), some (.ref li), some (.int (0 + (i : Int))), some (.int lane), some (.int bk), v11, v12] ∧ W23 C H1 Hg x (.ref n) wide ws L st' lt ts' li is' pn ∧ st'.pla.length = i + 1 ∧ m = is'.length)
            _ ⟨_, _, _, _, _, rfl, w9, by show (st.pla ++ [_]).length = i + 1; simp; (first | lia | omega), rfl⟩ ?_
          rintro m σ Hg ⟨v11, v12, st', ts', is', rfl, wg, leng, rfl⟩
          obtain ⟨rg, eg, rrg⟩ := id wg.ins
          have cng := wg.cnt
          have lrg := rrg.len
          -- the end
          have fin : ∀ Hx, W23 C H1 Hx x (.ref n) wide ws L st' lt ts' li is' pn → (tIfS (tNot (tTest (tCall (spRight23 C) [] E0 (tCons (tVar 2) (tCons (tVar 1) (tCons (tVar 6) (tCons (tCall spTake [] E0 (tCons (tVar 3) (tCons (tC (V.int 6)) tNil))) tNil))))))) (tRet (tC (V.bl false))) tNext) { nx := fun σ Hc => ∃ (v8 v9 v10 v11 v12 : Option V) (pn : Addr) (st : PlS) (ts is : List (Int × Int)), σ = [some (.ref a), some (.ref n), some (.ref x), some (.ref pn), some (.int most), some (.int share), some (.ref lt), some (.ref li), v8, v9, v10, v11, v12] ∧ W23 C H1 Hc x (.ref n) wide ws L st lt ts li is pn ∧ st.pla.length = i + 1, rt := Q, ct := fun σ Hc => ∃ (v8 v9 v10 v11 v12 : Option V) (pn : Addr) (st : PlS) (ts is : List (Int × Int)), σ = [some (.ref a), some (.ref n), some (.ref x), some (.ref pn), some (.int most), some (.int share), some (.ref lt), some (.ref li), v8, v9, v10, v11, v12] ∧ W23 C H1 Hc x (.ref n) wide ws L st lt ts li is pn ∧ st.pla.length = i + 1, bk := fun σ Hc => True } [some (.ref a), some (.ref n), some (.ref x), some (.ref pn), some (.int most), some (.int share), some (.ref lt), some (.ref li), some (.int (0 + (i : Int))), some (.int lane), some (.int bk), v11, v12] Hx := fun Hx wx => by
            obtain ⟨a4, b4, c4, hp4⟩ := id wx.pe
            refine ⟨_, rfl, _, rfl, _, rfl, _, rfl, pn, a4, b4, c4, 6, rfl, hp4, by decide, by decide, fun tv a5 b5 c5 tv0 tv6 => ?_⟩
            have wy := wx.take a5 b5 c5
            generalize upd Hx pn (HO.lst [V.int a5, V.int b5, V.int c5]) = Hy at wy
            have fle := wy.few.le
            refine ⟨x, .ref n, wide, ws, L, st', lt, ts', tv, rfl, ntk wy.sm, wy.pl, wy.wf.tl, by (first | lia | omega), wy.td, by (first | lia | omega), wy.acc, tv0, tv6, fun Hz sz => ?_⟩
            refine ⟨_, rfl, iteFd (by decide) ?_⟩
            exact ⟨_, _, _, _, _, pn, st', ts', is', rfl, wy.same sz, leng⟩
          refine ⟨_, rfl, lenLine (by show 0 ≤ 100000; decide), fun le fle => ?_⟩
          have se : Same Hg (upd Hg le (HO.lst [])) := same_new fle _
          have xe : (upd Hg le (HO.lst [])) le = some (.lst []) := upd_same
          generalize upd Hg le (HO.lst []) = Hh at se xe
          have wh := wg.same se
          refine ⟨wsD is', .list [], dat_ws (se _ _ eg) (rrg.same se), .lst xe .nil, shaped_ws _, by decide +kernel, noMix_nilW _, _, rfl, ?_⟩
          rw [same_nilW]
          by_cases g0 : is' = []
          · refine iteFd (by simp [g0]) (iteFd (by decide) ?_)
            exact fin Hh wh
          · refine iteTd (by simp [g0]) ?_
            have lpos : 0 < is'.length := List.length_pos_iff.mpr g0
            obtain ⟨a4, b4, c4, hp4⟩ := id wh.pe
            refine ⟨_, rfl, pn, a4, b4, c4, 3, rfl, hp4, by decide, by decide, fun tv a5 b5 c5 tv0 tv3 => ?_⟩
            have wi := wh.take a5 b5 c5
            generalize upd Hh pn (HO.lst [V.int a5, V.int b5, V.int c5]) = Hi at wi
            refine ⟨_, _, rfl, rfl, _, rfl, ?_⟩
            refine ite2 (fun g => ?_) (fun g => ?_)
            · refine ⟨_, fun σ' H' z => z, ?_⟩
              obtain ⟨ri, ei, rri⟩ := id wi.ins
              have lri := rri.len
              obtain ⟨a6, b6, c6, hp6⟩ := id wi.pe
              refine ⟨_, rfl, .inl ⟨rfl, _, SqL.of ei⟩, _, rfl, _, rfl, li, _, rfl, .inl (SqL.of ei), pn, a6, b6, c6, _, rfl, hp6, by (first | lia | omega), by (first | lia | omega), fun tj a7 b7 c7 tj0 tj1 => ?_⟩
              have wj := wi.take a7 b7 c7
              have ej : (upd Hi pn (HO.lst [V.int a7, V.int b7, V.int c7])) li = some (.lst ri) := (upd_ne (Ne.symm wi.d3)).trans ei
              generalize upd Hi pn (HO.lst [V.int a7, V.int b7, V.int c7]) = Hj at wj ej
              obtain ⟨j, rfl⟩ : ∃ j : Nat, tj = (j : Int) := ⟨tj.toNat, by (first | lia | omega)⟩
              have jl : j < is'.length := by (first | lia | omega)
              have hjs : is'[j]? = some is'[j] := by simp [jl]
              generalize is'[j] = w at hjs
              obtain ⟨iw, plw, eiw, hiw, now, hgw⟩ := wj.iv w (List.mem_of_getElem? hjs)
              obtain ⟨rj, ejj, rrj⟩ := id wj.ins
              rw [ej] at ejj
              cases ejj
              have hrj : ri[j]? = some (ri[j]'(by (first | lia | omega))) := by simp [show j < ri.length by (first | lia | omega)]
              obtain ⟨w', tw, hw', erw, htw⟩ := rrj.get hrj
              rw [hjs] at hw'
              cases hw'
              rw [erw] at hrj
              refine ⟨li, ri, _, j, _, rfl, rfl, ej, by (first | lia | omega), by (first | lia | omega), ?_, hrj, ?_⟩
              · unfold PySem.seqIndex?
                simp
                (first | lia | omega)
              have kt0 : KT Hj (upd Hj li (HO.lst (ri.eraseIdx j))) := KT.lst ej (KT.refl _)
              have plk := wj.pl.keep (S := [li]) (KpS.upd (H := Hj) (o := HO.lst (ri.eraseIdx j)) (by simp)) kt0 (one_dj wj.n2)
              have sk : Same H1 (upd Hj li (HO.lst (ri.eraseIdx j))) := Same.put wj.fi wj.sm
              have twk := kt0 _ _ htw
              have wtk := WsL.put (o := HO.lst (ri.eraseIdx j)) wj.td ej wj.d1
              refine ⟨tw, _, rfl, SqT.of twk, rfl, ?_⟩
              refine ⟨_, _, rfl, _, _, rfl, rfl, ?_⟩
              obtain ⟨rt0, et0, _⟩ := id wtk
              rw [eiw]
              refine ⟨_, rfl, .inl ⟨rfl, _, SqL.of et0⟩, ?_⟩
              refine ⟨_, rfl, _, rfl, x, .ref n, wide, ws, L, st', iw, plw, rfl, ntk sk, plk, wj.wf, hiw, fun st2 lo mo H10 run ho pl10 k10 => ?_⟩
              obtain ⟨rt, et, rrt⟩ := WsL.kpl wtk plk k10 wj.n1
              refine ⟨_, rfl, lenLine (by show 2 ≤ 100000; decide), fun t7 f7 => ?_⟩
              have et7 : (upd H10 t7 (HO.tup [V.int mo, V.int w.2])) lt = some (.lst rt) := (same_new f7 _) _ _ et
              have lrt := rrt.len
              have cnj := wj.cnt
              refine ⟨lt, _, _, rfl, rfl, et7, lenLt (by (first | lia | omega)), ?_⟩
              have wk := wj.out ok w1 hjs eiw hiw now hgw ej run ho pl10 k10 f7 et7
              have e2 := run.other.2.1
              exact ⟨_, by rw [List.length_eraseIdx_of_lt jl]; (first | lia | omega), _, _, _, _, _, rfl, wk, by rw [e2]; exact leng, rfl⟩
            · exact fin Hi wi)
        obtain ⟨a2, b2, c2, hp2⟩ := id wd.pe
        refine ⟨_, rfl, _, rfl, n, _, _, _, rfl, rfl, SqT.of (wd.sm _ _ hn), rfl, pn, a2, b2, c2, wide, rfl, hp2, by (first | lia | omega), by (first | lia | omega), fun ln a3 b3 c3 ln0 ln1 => ?_⟩
        have we := wd.take a3 b3 c3
        generalize upd Hd pn (HO.lst [V.int a3, V.int b3, V.int c3]) = He at we
        refine ⟨_, rfl, lenLine (by show 2 ≤ 100000; decide), fun lx flx => ?_⟩
        have sx : Same He (upd He lx (HO.lst [V.int ln, V.int most])) := same_new flx _
        have xlx : (upd He lx (HO.lst [V.int ln, V.int most])) lx = some (.lst [V.int ln, V.int most]) := upd_same
        have wx := we.same sx
        obtain ⟨a4, b4, c4, hp4⟩ := id we.pe
        have nlx : lx ≠ pn := Ne.symm (ne_of_none hp4 flx)
        have hp5 := sx _ _ hp4
        generalize upd He lx (HO.lst [V.int ln, V.int most]) = Hx at sx xlx wx hp5
        refine ⟨_, rfl, pn, a4, b4, c4, 3, rfl, hp5, by decide, by decide, fun tv a5 b5 c5 tv0 tv3 => ?_⟩
        have wy := wx.take a5 b5 c5
        have xly : (upd Hx pn (HO.lst [V.int a5, V.int b5, V.int c5])) lx = some (.lst [V.int ln, V.int most]) := (upd_ne nlx).trans xlx
        generalize upd Hx pn (HO.lst [V.int a5, V.int b5, V.int c5]) = Hy at wy xly
        refine ⟨rfl, .inr ⟨_, rfl, ?_⟩⟩
        by_cases g : tv = 0
        · subst g
          exact ⟨lx, _, _, _, rfl, rfl, SqL.of xly, rfl, go2 most Hy mo0 mo1 wy⟩
        · have eg : (if decide (V.int tv = V.int 0) = true then (1 : Int) else 0) = 0 := by
            rw [if_neg]
            intro z
            exact g (by injection (of_decide_eq_true z))
          refine ⟨lx, _, _, V.int ln, rfl, rfl, SqL.of xly, ?_, go2 ln Hy ln0 ln1 wy⟩
          rw [eg]
          rfl)
      refine ⟨_, rfl, _, _, rfl, rfl, (by show (0 : Int) < 10; decide), rfl, _, rfl, ?_⟩
      refine ite2 (fun g => ?_) (fun g => ?_)
      · refine ⟨_, rfl, _, rfl, _, _, rfl, rfl, ⟨by decide, by decide⟩, _, _, rfl, rfl, a, ns, 2 + (0 + (i : Int)) / 10, rfl, (Same.trans s1 wc.sm).seq hS, h63, by (first | lia | omega), by (first | lia | omega), fun pn' ea' eb' ec' f' => ?_⟩
        exact go pn' _ (wc.pen f' ea' eb' ec')
      · exact go pn Hc wc
    · rintro σ Hc ⟨v8, v9, v10, v11, v12, pn, st, ts, is, rfl, wc, lenc⟩
      refine ⟨_, rfl, fun y dy fy fdy ndy => ?_⟩
      refine mk_play (ntk wc.sm) y dy fy fdy (fun Ly Hy frLy ply sy => ?_)
      have sH1y := Same.trans wc.sm sy
      refine ⟨_, rfl, lenLine (by show 0 ≤ 100000; decide), fun le fle => ?_⟩
      have se : Same Hy (upd Hy le (HO.lst [])) := same_new fle _
      have xe : (upd Hy le (HO.lst [])) le = some (.lst []) := upd_same
      generalize upd Hy le (HO.lst []) = Hz at se xe
      refine ⟨_, rfl, _, _, rfl, rfl, (by show (0 : Int) < 4; decide), _, _, rfl, rfl, y, .ref n, wide, ws, Ly, startM wide ws, le, [], _, rfl, ntk (Same.trans sH1y se), ply.same se, start_wf.tl, ?_, ⟨[], xe, .nil⟩, by simp, Acc.start _, by (first | lia | omega), by (first | lia | omega), fun Hw _ => q Hw⟩
      show absS (List.replicate wide.toNat 0) ≤ 63
      rw [absS_rep]
      decide
end
end Ep
namespace Ep
open PySem L2 PySem.SeqAt
theorem us1 {us : List Value} (h : us.length = 1) : ∃ a, us = [a] := by
  cases us with
  | nil => cases h
  | cons a r => cases r with
    | nil => exact ⟨a, rfl⟩
    | cons b r => simp at h
theorem us2 {us : List Value} (h : us.length = 2) : ∃ a b, us = [a, b] := by
  cases us with
  | nil => cases h
  | cons x r =>
    obtain ⟨a, rfl⟩ := us1 (us := r) (by simpa using h)
    exact ⟨x, a, rfl⟩
theorem us3 {us : List Value} (h : us.length = 3) : ∃ a b c, us = [a, b, c] := by
  cases us with
  | nil => cases h
  | cons x r =>
    obtain ⟨a, b, rfl⟩ := us2 (us := r) (by simpa using h)
    exact ⟨x, a, b, rfl⟩
theorem us4 {us : List Value} (h : us.length = 4) : ∃ a b c d, us = [a, b, c, d] := by
  cases us with
  | nil => cases h
  | cons x r =>
    obtain ⟨a, b, c, rfl⟩ := us3 (us := r) (by simpa using h)
    exact ⟨x, a, b, c, rfl⟩
theorem us5 {us : List Value} (h : us.length = 5) : ∃ a b c d e, us = [a, b, c, d, e] := by
  cases us with
  | nil => cases h
  | cons x r =>
    obtain ⟨a, b, c, d, rfl⟩ := us4 (us := r) (by simpa using h)
    exact ⟨x, a, b, c, d, rfl⟩
theorem us6 {us : List Value} (h : us.length = 6) : ∃ a b c d e f, us = [a, b, c, d, e, f] := by
  cases us with
  | nil => cases h
  | cons x r =>
    obtain ⟨a, b, c, d, e, rfl⟩ := us5 (us := r) (by simpa using h)
    exact ⟨x, a, b, c, d, e, rfl⟩
theorem us7 {us : List Value} (h : us.length = 7) : ∃ a b c d e f g, us = [a, b, c, d, e, f, g] := by
  cases us with
  | nil => cases h
  | cons x r =>
    obtain ⟨a, b, c, d, e, f, rfl⟩ := us6 (us := r) (by simpa using h)
    exact ⟨x, a, b, c, d, e, f, rfl⟩
theorem all_mk {l : PySem.W.OpenLaw} {w : World} {K : PySem.W.Frag} {h : Heap} {mg : Str → Option Value} {fa : Addr} (X : K.In h) (G : h.Ns mainGlobals mg) (hfa : mg "law" = some (.ref fa))
    {C : Addr} (aC : PySem.W.nsIn K mainGlobals "Play" = some (some (.ref C))) (pg : PySem.W.plainGet K C Str.empty = true) (hd : PySem.W.hasDictIn K C = true) (po : PySem.W.plainOver K C = true) (sa : PySem.W.findIn K (.ref C) "__setattr__" = some (some (.builtin "object.__setattr__"))) (mk : PySem.W.makesIn K C = true) (kc : PySem.W.keepIn K (.ref C) = true) (n_net : PySem.W.findIn K (.ref C) "net" = some none) (n_facing : PySem.W.findIn K (.ref C) "facing" = some none) (n_tally : PySem.W.findIn K (.ref C) "tally" = some none) (n_places : PySem.W.findIn K (.ref C) "places" = some none) (n_changes : PySem.W.findIn K (.ref C) "changes" = some none)
    {f1 : Addr} {od1 an1 : Option Addr} {sl1 : Array (Option Value)} {oc1 kV1 dc1 pm1 cd1 ct1 : Value}
    (a1 : PySem.W.nsIn K mainGlobals "_law_take" = some (some (.ref f1))) (l1 : K.lookup f1 = some ⟨oc1, od1, .func (PySem.W.fnOf "_law_take" "_law_take" (defArgs s_take) (defBody s_take) (defScope s_take) .none kV1 dc1 pm1 an1 cd1 ct1), sl1⟩) (c1 : PySem.W.codeIn K cd1 "_law_take" = true) (k1 : PySem.W.keepIn K (.ref f1) = true)
    {f2 : Addr} {od2 an2 : Option Addr} {sl2 : Array (Option Value)} {oc2 kV2 dc2 pm2 cd2 ct2 : Value}
    (a2 : PySem.W.nsIn K mainGlobals "_law_pen" = some (some (.ref f2))) (l2 : K.lookup f2 = some ⟨oc2, od2, .func (PySem.W.fnOf "_law_pen" "_law_pen" (defArgs s_pen) (defBody s_pen) (defScope s_pen) .none kV2 dc2 pm2 an2 cd2 ct2), sl2⟩) (c2 : PySem.W.codeIn K cd2 "_law_pen" = true) (k2 : PySem.W.keepIn K (.ref f2) = true)
    {f3 : Addr} {od3 an3 : Option Addr} {sl3 : Array (Option Value)} {oc3 kV3 dc3 pm3 cd3 ct3 : Value}
    (a3 : PySem.W.nsIn K mainGlobals "_law_wickets" = some (some (.ref f3))) (l3 : K.lookup f3 = some ⟨oc3, od3, .func (PySem.W.fnOf "_law_wickets" "_law_wickets" (defArgs s_wickets) (defBody s_wickets) (defScope s_wickets) .none kV3 dc3 pm3 an3 cd3 ct3), sl3⟩) (c3 : PySem.W.codeIn K cd3 "_law_wickets" = true) (k3 : PySem.W.keepIn K (.ref f3) = true)
    {f4 : Addr} {od4 an4 : Option Addr} {sl4 : Array (Option Value)} {oc4 kV4 dc4 pm4 cd4 ct4 : Value}
    (a4 : PySem.W.nsIn K mainGlobals "_law_lifted" = some (some (.ref f4))) (l4 : K.lookup f4 = some ⟨oc4, od4, .func (PySem.W.fnOf "_law_lifted" "_law_lifted" (defArgs s_lifted) (defBody s_lifted) (defScope s_lifted) .none kV4 dc4 pm4 an4 cd4 ct4), sl4⟩) (c4 : PySem.W.codeIn K cd4 "_law_lifted" = true) (k4 : PySem.W.keepIn K (.ref f4) = true)
    {f5 : Addr} {od5 an5 : Option Addr} {sl5 : Array (Option Value)} {oc5 kV5 dc5 pm5 cd5 ct5 : Value}
    (a5 : PySem.W.nsIn K mainGlobals "_law_folded" = some (some (.ref f5))) (l5 : K.lookup f5 = some ⟨oc5, od5, .func (PySem.W.fnOf "_law_folded" "_law_folded" (defArgs s_folded) (defBody s_folded) (defScope s_folded) .none kV5 dc5 pm5 an5 cd5 ct5), sl5⟩) (c5 : PySem.W.codeIn K cd5 "_law_folded" = true) (k5 : PySem.W.keepIn K (.ref f5) = true)
    {f6 : Addr} {od6 an6 : Option Addr} {sl6 : Array (Option Value)} {oc6 kV6 dc6 pm6 cd6 ct6 : Value}
    (a6 : PySem.W.nsIn K mainGlobals "_law_block" = some (some (.ref f6))) (l6 : K.lookup f6 = some ⟨oc6, od6, .func (PySem.W.fnOf "_law_block" "_law_block" (defArgs s_block) (defBody s_block) (defScope s_block) .none kV6 dc6 pm6 an6 cd6 ct6), sl6⟩) (c6 : PySem.W.codeIn K cd6 "_law_block" = true) (k6 : PySem.W.keepIn K (.ref f6) = true)
    {f7 : Addr} {od7 an7 : Option Addr} {sl7 : Array (Option Value)} {oc7 kV7 dc7 pm7 cd7 ct7 : Value}
    (a7 : PySem.W.nsIn K mainGlobals "_law_brick" = some (some (.ref f7))) (l7 : K.lookup f7 = some ⟨oc7, od7, .func (PySem.W.fnOf "_law_brick" "_law_brick" (defArgs s_brick) (defBody s_brick) (defScope s_brick) .none kV7 dc7 pm7 an7 cd7 ct7), sl7⟩) (c7 : PySem.W.codeIn K cd7 "_law_brick" = true) (k7 : PySem.W.keepIn K (.ref f7) = true)
    {f8 : Addr} {od8 an8 : Option Addr} {sl8 : Array (Option Value)} {oc8 kV8 dc8 pm8 cd8 ct8 : Value}
    (a8 : PySem.W.nsIn K mainGlobals "_law_rounds" = some (some (.ref f8))) (l8 : K.lookup f8 = some ⟨oc8, od8, .func (PySem.W.fnOf "_law_rounds" "_law_rounds" (defArgs s_rounds) (defBody s_rounds) (defScope s_rounds) .none kV8 dc8 pm8 an8 cd8 ct8), sl8⟩) (c8 : PySem.W.codeIn K cd8 "_law_rounds" = true) (k8 : PySem.W.keepIn K (.ref f8) = true)
    {f9 : Addr} {od9 an9 : Option Addr} {sl9 : Array (Option Value)} {oc9 kV9 dc9 pm9 cd9 ct9 : Value}
    (a9 : PySem.W.nsIn K mainGlobals "_law_bent" = some (some (.ref f9))) (l9 : K.lookup f9 = some ⟨oc9, od9, .func (PySem.W.fnOf "_law_bent" "_law_bent" (defArgs s_bent) (defBody s_bent) (defScope s_bent) .none kV9 dc9 pm9 an9 cd9 ct9), sl9⟩) (c9 : PySem.W.codeIn K cd9 "_law_bent" = true) (k9 : PySem.W.keepIn K (.ref f9) = true)
    {f10 : Addr} {od10 an10 : Option Addr} {sl10 : Array (Option Value)} {oc10 kV10 dc10 pm10 cd10 ct10 : Value}
    (a10 : PySem.W.nsIn K mainGlobals "_law_net" = some (some (.ref f10))) (l10 : K.lookup f10 = some ⟨oc10, od10, .func (PySem.W.fnOf "_law_net" "_law_net" (defArgs s_net) (defBody s_net) (defScope s_net) .none kV10 dc10 pm10 an10 cd10 ct10), sl10⟩) (c10 : PySem.W.codeIn K cd10 "_law_net" = true) (k10 : PySem.W.keepIn K (.ref f10) = true)
    {f11 : Addr} {od11 an11 : Option Addr} {sl11 : Array (Option Value)} {oc11 kV11 dc11 pm11 cd11 ct11 : Value}
    (a11 : PySem.W.nsIn K mainGlobals "is_whole" = some (some (.ref f11))) (l11 : K.lookup f11 = some ⟨oc11, od11, .func (PySem.W.fnOf "is_whole" "is_whole" (defArgs s_is_whole) (defBody s_is_whole) (defScope s_is_whole) .none kV11 dc11 pm11 an11 cd11 ct11), sl11⟩) (c11 : PySem.W.codeIn K cd11 "is_whole" = true) (k11 : PySem.W.keepIn K (.ref f11) = true)
    {f12 : Addr} {od12 an12 : Option Addr} {sl12 : Array (Option Value)} {oc12 kV12 dc12 pm12 cd12 ct12 : Value}
    (a12 : PySem.W.nsIn K mainGlobals "is_lane" = some (some (.ref f12))) (l12 : K.lookup f12 = some ⟨oc12, od12, .func (PySem.W.fnOf "is_lane" "is_lane" (defArgs s_is_lane) (defBody s_is_lane) (defScope s_is_lane) .none kV12 dc12 pm12 an12 cd12 ct12), sl12⟩) (c12 : PySem.W.codeIn K cd12 "is_lane" = true) (k12 : PySem.W.keepIn K (.ref f12) = true)
    {f13 : Addr} {od13 an13 : Option Addr} {sl13 : Array (Option Value)} {oc13 kV13 dc13 pm13 cd13 ct13 : Value}
    (a13 : PySem.W.nsIn K mainGlobals "place_on" = some (some (.ref f13))) (l13 : K.lookup f13 = some ⟨oc13, od13, .func (PySem.W.fnOf "place_on" "place_on" (defArgs s_place_on) (defBody s_place_on) (defScope s_place_on) .none kV13 dc13 pm13 an13 cd13 ct13), sl13⟩) (c13 : PySem.W.codeIn K cd13 "place_on" = true) (k13 : PySem.W.keepIn K (.ref f13) = true)
    {f14 : Addr} {od14 an14 : Option Addr} {sl14 : Array (Option Value)} {oc14 kV14 dc14 pm14 cd14 ct14 : Value}
    (a14 : PySem.W.nsIn K mainGlobals "numbers_of" = some (some (.ref f14))) (l14 : K.lookup f14 = some ⟨oc14, od14, .func (PySem.W.fnOf "numbers_of" "numbers_of" (defArgs s_numbers_of) (defBody s_numbers_of) (defScope s_numbers_of) .none kV14 dc14 pm14 an14 cd14 ct14), sl14⟩) (c14 : PySem.W.codeIn K cd14 "numbers_of" = true) (k14 : PySem.W.keepIn K (.ref f14) = true)
    {f15 : Addr} {od15 an15 : Option Addr} {sl15 : Array (Option Value)} {oc15 kV15 dc15 pm15 cd15 ct15 : Value}
    (a15 : PySem.W.findIn K (.ref C) "__init__" = some (some (.ref f15))) (i15 : PySem.W.isFn K (.ref f15) = true) (l15 : K.lookup f15 = some ⟨oc15, od15, .func (PySem.W.fnOf "__init__" "Play.__init__" (defArgs s_Play_init) (defBody s_Play_init) (defScope s_Play_init) .none kV15 dc15 pm15 an15 cd15 ct15), sl15⟩) (c15 : PySem.W.codeIn K cd15 "Play.__init__" = true) (k15 : PySem.W.keepIn K (.ref f15) = true)
    {f16 : Addr} {od16 an16 : Option Addr} {sl16 : Array (Option Value)} {oc16 kV16 dc16 pm16 cd16 ct16 : Value}
    (a16 : PySem.W.findIn K (.ref C) "come_in" = some (some (.ref f16))) (i16 : PySem.W.isFn K (.ref f16) = true) (l16 : K.lookup f16 = some ⟨oc16, od16, .func (PySem.W.fnOf "come_in" "Play.come_in" (defArgs s_Play_come_in) (defBody s_Play_come_in) (defScope s_Play_come_in) .none kV16 dc16 pm16 an16 cd16 ct16), sl16⟩) (c16 : PySem.W.codeIn K cd16 "Play.come_in" = true) (k16 : PySem.W.keepIn K (.ref f16) = true)
    {f17 : Addr} {od17 an17 : Option Addr} {sl17 : Array (Option Value)} {oc17 kV17 dc17 pm17 cd17 ct17 : Value}
    (a17 : PySem.W.findIn K (.ref C) "enter" = some (some (.ref f17))) (i17 : PySem.W.isFn K (.ref f17) = true) (l17 : K.lookup f17 = some ⟨oc17, od17, .func (PySem.W.fnOf "enter" "Play.enter" (defArgs s_Play_enter) (defBody s_Play_enter) (defScope s_Play_enter) .none kV17 dc17 pm17 an17 cd17 ct17), sl17⟩) (c17 : PySem.W.codeIn K cd17 "Play.enter" = true) (k17 : PySem.W.keepIn K (.ref f17) = true)
    {f18 : Addr} {od18 an18 : Option Addr} {sl18 : Array (Option Value)} {oc18 kV18 dc18 pm18 cd18 ct18 : Value}
    (a18 : PySem.W.findIn K (.ref C) "enter_back" = some (some (.ref f18))) (i18 : PySem.W.isFn K (.ref f18) = true) (l18 : K.lookup f18 = some ⟨oc18, od18, .func (PySem.W.fnOf "enter_back" "Play.enter_back" (defArgs s_Play_enter_back) (defBody s_Play_enter_back) (defScope s_Play_enter_back) .none kV18 dc18 pm18 an18 cd18 ct18), sl18⟩) (c18 : PySem.W.codeIn K cd18 "Play.enter_back" = true) (k18 : PySem.W.keepIn K (.ref f18) = true)
    {f19 : Addr} {od19 an19 : Option Addr} {sl19 : Array (Option Value)} {oc19 kV19 dc19 pm19 cd19 ct19 : Value}
    (a19 : PySem.W.findIn K (.ref C) "where" = some (some (.ref f19))) (i19 : PySem.W.isFn K (.ref f19) = true) (l19 : K.lookup f19 = some ⟨oc19, od19, .func (PySem.W.fnOf "where" "Play.where" (defArgs s_Play_where) (defBody s_Play_where) (defScope s_Play_where) .none kV19 dc19 pm19 an19 cd19 ct19), sl19⟩) (c19 : PySem.W.codeIn K cd19 "Play.where" = true) (k19 : PySem.W.keepIn K (.ref f19) = true)
    {f20 : Addr} {od20 an20 : Option Addr} {sl20 : Array (Option Value)} {oc20 kV20 dc20 pm20 cd20 ct20 : Value}
    (a20 : PySem.W.findIn K (.ref C) "turn" = some (some (.ref f20))) (i20 : PySem.W.isFn K (.ref f20) = true) (l20 : K.lookup f20 = some ⟨oc20, od20, .func (PySem.W.fnOf "turn" "Play.turn" (defArgs s_Play_turn) (defBody s_Play_turn) (defScope s_Play_turn) .none kV20 dc20 pm20 an20 cd20 ct20), sl20⟩) (c20 : PySem.W.codeIn K cd20 "Play.turn" = true) (k20 : PySem.W.keepIn K (.ref f20) = true)
    {f21 : Addr} {od21 an21 : Option Addr} {sl21 : Array (Option Value)} {oc21 kV21 dc21 pm21 cd21 ct21 : Value}
    (a21 : PySem.W.findIn K (.ref C) "pass_wicket" = some (some (.ref f21))) (i21 : PySem.W.isFn K (.ref f21) = true) (l21 : K.lookup f21 = some ⟨oc21, od21, .func (PySem.W.fnOf "pass_wicket" "Play.pass_wicket" (defArgs s_Play_pass_wicket) (defBody s_Play_pass_wicket) (defScope s_Play_pass_wicket) .none kV21 dc21 pm21 an21 cd21 ct21), sl21⟩) (c21 : PySem.W.codeIn K cd21 "Play.pass_wicket" = true) (k21 : PySem.W.keepIn K (.ref f21) = true)
    {f22 : Addr} {od22 an22 : Option Addr} {sl22 : Array (Option Value)} {oc22 kV22 dc22 pm22 cd22 ct22 : Value}
    (a22 : PySem.W.findIn K (.ref C) "leave" = some (some (.ref f22))) (i22 : PySem.W.isFn K (.ref f22) = true) (l22 : K.lookup f22 = some ⟨oc22, od22, .func (PySem.W.fnOf "leave" "Play.leave" (defArgs s_Play_leave) (defBody s_Play_leave) (defScope s_Play_leave) .none kV22 dc22 pm22 an22 cd22 ct22), sl22⟩) (c22 : PySem.W.codeIn K cd22 "Play.leave" = true) (k22 : PySem.W.keepIn K (.ref f22) = true)
    {f23 : Addr} {od23 an23 : Option Addr} {sl23 : Array (Option Value)} {oc23 kV23 dc23 pm23 cd23 ct23 : Value}
    (a23 : PySem.W.findIn K (.ref C) "step" = some (some (.ref f23))) (i23 : PySem.W.isFn K (.ref f23) = true) (l23 : K.lookup f23 = some ⟨oc23, od23, .func (PySem.W.fnOf "step" "Play.step" (defArgs s_Play_step) (defBody s_Play_step) (defScope s_Play_step) .none kV23 dc23 pm23 an23 cd23 ct23), sl23⟩) (c23 : PySem.W.codeIn K cd23 "Play.step" = true) (k23 : PySem.W.keepIn K (.ref f23) = true)
    {f24 : Addr} {od24 an24 : Option Addr} {sl24 : Array (Option Value)} {oc24 kV24 dc24 pm24 cd24 ct24 : Value}
    (a24 : PySem.W.findIn K (.ref C) "counts" = some (some (.ref f24))) (i24 : PySem.W.isFn K (.ref f24) = true) (l24 : K.lookup f24 = some ⟨oc24, od24, .func (PySem.W.fnOf "counts" "Play.counts" (defArgs s_Play_counts) (defBody s_Play_counts) (defScope s_Play_counts) .none kV24 dc24 pm24 an24 cd24 ct24), sl24⟩) (c24 : PySem.W.codeIn K cd24 "Play.counts" = true) (k24 : PySem.W.keepIn K (.ref f24) = true)
    {f25 : Addr} {od25 an25 : Option Addr} {sl25 : Array (Option Value)} {oc25 kV25 dc25 pm25 cd25 ct25 : Value}
    (a25 : PySem.W.findIn K (.ref C) "standing" = some (some (.ref f25))) (i25 : PySem.W.isFn K (.ref f25) = true) (l25 : K.lookup f25 = some ⟨oc25, od25, .func (PySem.W.fnOf "standing" "Play.standing" (defArgs s_Play_standing) (defBody s_Play_standing) (defScope s_Play_standing) .none kV25 dc25 pm25 an25 cd25 ct25), sl25⟩) (c25 : PySem.W.codeIn K cd25 "Play.standing" = true) (k25 : PySem.W.keepIn K (.ref f25) = true)
    {f26 : Addr} {od26 an26 : Option Addr} {sl26 : Array (Option Value)} {oc26 kV26 dc26 pm26 cd26 ct26 : Value}
    (a26 : PySem.W.findIn K (.ref C) "owed" = some (some (.ref f26))) (i26 : PySem.W.isFn K (.ref f26) = true) (l26 : K.lookup f26 = some ⟨oc26, od26, .func (PySem.W.fnOf "owed" "Play.owed" (defArgs s_Play_owed) (defBody s_Play_owed) (defScope s_Play_owed) .none kV26 dc26 pm26 an26 cd26 ct26), sl26⟩) (c26 : PySem.W.codeIn K cd26 "Play.owed" = true) (k26 : PySem.W.keepIn K (.ref f26) = true)
    {f27 : Addr} {od27 an27 : Option Addr} {sl27 : Array (Option Value)} {oc27 kV27 dc27 pm27 cd27 ct27 : Value}
    (a27 : PySem.W.findIn K (.ref C) "lacking" = some (some (.ref f27))) (i27 : PySem.W.isFn K (.ref f27) = true) (l27 : K.lookup f27 = some ⟨oc27, od27, .func (PySem.W.fnOf "lacking" "Play.lacking" (defArgs s_Play_lacking) (defBody s_Play_lacking) (defScope s_Play_lacking) .none kV27 dc27 pm27 an27 cd27 ct27), sl27⟩) (c27 : PySem.W.codeIn K cd27 "Play.lacking" = true) (k27 : PySem.W.keepIn K (.ref f27) = true)
    {f28 : Addr} {od28 an28 : Option Addr} {sl28 : Array (Option Value)} {oc28 kV28 dc28 pm28 cd28 ct28 : Value}
    (a28 : PySem.W.nsIn K mainGlobals "_law_whole_list" = some (some (.ref f28))) (l28 : K.lookup f28 = some ⟨oc28, od28, .func (PySem.W.fnOf "_law_whole_list" "_law_whole_list" (defArgs s_whole_list) (defBody s_whole_list) (defScope s_whole_list) .none kV28 dc28 pm28 an28 cd28 ct28), sl28⟩) (c28 : PySem.W.codeIn K cd28 "_law_whole_list" = true) (k28 : PySem.W.keepIn K (.ref f28) = true)
    {f29 : Addr} {od29 an29 : Option Addr} {sl29 : Array (Option Value)} {oc29 kV29 dc29 pm29 cd29 ct29 : Value}
    (a29 : PySem.W.nsIn K mainGlobals "_law_numbers" = some (some (.ref f29))) (l29 : K.lookup f29 = some ⟨oc29, od29, .func (PySem.W.fnOf "_law_numbers" "_law_numbers" (defArgs s_numbers) (defBody s_numbers) (defScope s_numbers) .none kV29 dc29 pm29 an29 cd29 ct29), sl29⟩) (c29 : PySem.W.codeIn K cd29 "_law_numbers" = true) (k29 : PySem.W.keepIn K (.ref f29) = true)
    {f30 : Addr} {od30 an30 : Option Addr} {sl30 : Array (Option Value)} {oc30 kV30 dc30 pm30 cd30 ct30 : Value}
    (a30 : PySem.W.nsIn K mainGlobals "_law_asked" = some (some (.ref f30))) (l30 : K.lookup f30 = some ⟨oc30, od30, .func (PySem.W.fnOf "_law_asked" "_law_asked" (defArgs s_asked) (defBody s_asked) (defScope s_asked) .none kV30 dc30 pm30 an30 cd30 ct30), sl30⟩) (c30 : PySem.W.codeIn K cd30 "_law_asked" = true) (k30 : PySem.W.keepIn K (.ref f30) = true)
    {f31 : Addr} {od31 an31 : Option Addr} {sl31 : Array (Option Value)} {oc31 kV31 dc31 pm31 cd31 ct31 : Value}
    (a31 : PySem.W.nsIn K mainGlobals "_law_words" = some (some (.ref f31))) (l31 : K.lookup f31 = some ⟨oc31, od31, .func (PySem.W.fnOf "_law_words" "_law_words" (defArgs s_words) (defBody s_words) (defScope s_words) .none kV31 dc31 pm31 an31 cd31 ct31), sl31⟩) (c31 : PySem.W.codeIn K cd31 "_law_words" = true) (k31 : PySem.W.keepIn K (.ref f31) = true)
    {f32 : Addr} {od32 an32 : Option Addr} {sl32 : Array (Option Value)} {oc32 kV32 dc32 pm32 cd32 ct32 : Value}
    (a32 : PySem.W.nsIn K mainGlobals "_law_right" = some (some (.ref f32))) (l32 : K.lookup f32 = some ⟨oc32, od32, .func (PySem.W.fnOf "_law_right" "_law_right" (defArgs s_right) (defBody s_right) (defScope s_right) .none kV32 dc32 pm32 an32 cd32 ct32), sl32⟩) (c32 : PySem.W.codeIn K cd32 "_law_right" = true) (k32 : PySem.W.keepIn K (.ref f32) = true)
    {f33 : Addr} {od33 an33 : Option Addr} {sl33 : Array (Option Value)} {oc33 kV33 dc33 pm33 cd33 ct33 : Value}
    (a33 : PySem.W.nsIn K mainGlobals "_law_come_in" = some (some (.ref f33))) (l33 : K.lookup f33 = some ⟨oc33, od33, .func (PySem.W.fnOf "_law_come_in" "_law_come_in" (defArgs s_come_in) (defBody s_come_in) (defScope s_come_in) .none kV33 dc33 pm33 an33 cd33 ct33), sl33⟩) (c33 : PySem.W.codeIn K cd33 "_law_come_in" = true) (k33 : PySem.W.keepIn K (.ref f33) = true)
    {f34 : Addr} {od34 an34 : Option Addr} {sl34 : Array (Option Value)} {oc34 kV34 dc34 pm34 cd34 ct34 : Value}
    (a34 : PySem.W.nsIn K mainGlobals "_law_out" = some (some (.ref f34))) (l34 : K.lookup f34 = some ⟨oc34, od34, .func (PySem.W.fnOf "_law_out" "_law_out" (defArgs s_out) (defBody s_out) (defScope s_out) .none kV34 dc34 pm34 an34 cd34 ct34), sl34⟩) (c34 : PySem.W.codeIn K cd34 "_law_out" = true) (k34 : PySem.W.keepIn K (.ref f34) = true)
    {f35 : Addr} {od35 an35 : Option Addr} {sl35 : Array (Option Value)} {oc35 kV35 dc35 pm35 cd35 ct35 : Value}
    (a35 : PySem.W.nsIn K mainGlobals "law" = some (some (.ref f35))) (l35 : K.lookup f35 = some ⟨oc35, od35, .func (PySem.W.fnOf "law" "law" (defArgs s_law) (defBody s_law) (defScope s_law) .none kV35 dc35 pm35 an35 cd35 ct35), sl35⟩) (c35 : PySem.W.codeIn K cd35 "law" = true) (k35 : PySem.W.keepIn K (.ref f35) = true)
    (z1 : PySem.W.nsIn K mainGlobals "len" = some none) (z2 : PySem.W.nsIn K mainGlobals "max" = some none) (z3 : PySem.W.nsIn K mainGlobals "min" = some none) (z4 : PySem.W.nsIn K mainGlobals "int" = some none) (z5 : PySem.W.nsIn K mainGlobals "bool" = some none) (z6 : PySem.W.nsIn K mainGlobals "list" = some none) (z7 : PySem.W.nsIn K mainGlobals "tuple" = some none) (z8 : PySem.W.nsIn K mainGlobals "str" = some none) (z9 : PySem.W.nsIn K mainGlobals "dict" = some none) (z10 : PySem.W.nsIn K mainGlobals "range" = some none) (z11 : PySem.W.nsIn K mainGlobals "isinstance" = some none) (z12 : PySem.W.nsIn K mainGlobals "all" = some none) (z13 : PySem.W.nsIn K mainGlobals "any" = some none) (z14 : PySem.W.nsIn K mainGlobals "enumerate" = some none) (z15 : PySem.W.nsIn K mainGlobals "sum" = some none) (z16 : PySem.W.nsIn K mainGlobals "abs" = some none) (z17 : PySem.W.nsIn K mainGlobals "sorted" = some none) (z18 : PySem.W.nsIn K mainGlobals "reversed" = some none) (z19 : PySem.W.nsIn K mainGlobals "zip" = some none) (z20 : PySem.W.nsIn K mainGlobals "ord" = some none) (z21 : PySem.W.nsIn K mainGlobals "repr" = some none) (z22 : PySem.W.nsIn K mainGlobals "set" = some none) (z23 : PySem.W.nsIn K mainGlobals "divmod" = some none) (z24 : PySem.W.nsIn K mainGlobals "ValueError" = some none) (z25 : PySem.W.nsIn K mainGlobals "KeyError" = some none) :
    ∃ fd : FuncData, (∀ (s : Shared) (v : Value), BindsTo s fd ⟨[v], []⟩ [("_law_script", v)]) ∧ ∀ base : Heap, K.In base → base.Ns mainGlobals mg → FnOk l.prog w K mg base CX0 9 fa fd ["_law_script"] (spLaw K) := by
  have e := hfa.symm.trans (PySem.W.mg_of X G a35)
  cases e
  have TP : PlayT K C := ⟨⟨pg, hd, po, sa⟩, n_net, n_facing, n_tally, n_places, n_changes⟩
  have H_take : Here K mg "_law_take" s_take _ _ := ⟨fun_mk l1 c1 k1, PySem.W.mg_of X G a1⟩
  have H_pen : Here K mg "_law_pen" s_pen _ _ := ⟨fun_mk l2 c2 k2, PySem.W.mg_of X G a2⟩
  have H_wickets : Here K mg "_law_wickets" s_wickets _ _ := ⟨fun_mk l3 c3 k3, PySem.W.mg_of X G a3⟩
  have H_lifted : Here K mg "_law_lifted" s_lifted _ _ := ⟨fun_mk l4 c4 k4, PySem.W.mg_of X G a4⟩
  have H_folded : Here K mg "_law_folded" s_folded _ _ := ⟨fun_mk l5 c5 k5, PySem.W.mg_of X G a5⟩
  have H_block : Here K mg "_law_block" s_block _ _ := ⟨fun_mk l6 c6 k6, PySem.W.mg_of X G a6⟩
  have H_brick : Here K mg "_law_brick" s_brick _ _ := ⟨fun_mk l7 c7 k7, PySem.W.mg_of X G a7⟩
  have H_rounds : Here K mg "_law_rounds" s_rounds _ _ := ⟨fun_mk l8 c8 k8, PySem.W.mg_of X G a8⟩
  have H_bent : Here K mg "_law_bent" s_bent _ _ := ⟨fun_mk l9 c9 k9, PySem.W.mg_of X G a9⟩
  have H_net : Here K mg "_law_net" s_net _ _ := ⟨fun_mk l10 c10 k10, PySem.W.mg_of X G a10⟩
  have H_is_whole : Here K mg "is_whole" s_is_whole _ _ := ⟨fun_mk l11 c11 k11, PySem.W.mg_of X G a11⟩
  have H_is_lane : Here K mg "is_lane" s_is_lane _ _ := ⟨fun_mk l12 c12 k12, PySem.W.mg_of X G a12⟩
  have H_place_on : Here K mg "place_on" s_place_on _ _ := ⟨fun_mk l13 c13 k13, PySem.W.mg_of X G a13⟩
  have H_numbers_of : Here K mg "numbers_of" s_numbers_of _ _ := ⟨fun_mk l14 c14 k14, PySem.W.mg_of X G a14⟩
  have H_Play_init : HereM K mg C "__init__" "Play.__init__" s_Play_init _ _ := ⟨fun_mk l15 c15 k15, ⟨a15, i15, k15⟩⟩
  have H_Play_come_in : HereM K mg C "come_in" "Play.come_in" s_Play_come_in _ _ := ⟨fun_mk l16 c16 k16, ⟨a16, i16, k16⟩⟩
  have H_Play_enter : HereM K mg C "enter" "Play.enter" s_Play_enter _ _ := ⟨fun_mk l17 c17 k17, ⟨a17, i17, k17⟩⟩
  have H_Play_enter_back : HereM K mg C "enter_back" "Play.enter_back" s_Play_enter_back _ _ := ⟨fun_mk l18 c18 k18, ⟨a18, i18, k18⟩⟩
  have H_Play_where : HereM K mg C "where" "Play.where" s_Play_where _ _ := ⟨fun_mk l19 c19 k19, ⟨a19, i19, k19⟩⟩
  have H_Play_turn : HereM K mg C "turn" "Play.turn" s_Play_turn _ _ := ⟨fun_mk l20 c20 k20, ⟨a20, i20, k20⟩⟩
  have H_Play_pass_wicket : HereM K mg C "pass_wicket" "Play.pass_wicket" s_Play_pass_wicket _ _ := ⟨fun_mk l21 c21 k21, ⟨a21, i21, k21⟩⟩
  have H_Play_leave : HereM K mg C "leave" "Play.leave" s_Play_leave _ _ := ⟨fun_mk l22 c22 k22, ⟨a22, i22, k22⟩⟩
  have H_Play_step : HereM K mg C "step" "Play.step" s_Play_step _ _ := ⟨fun_mk l23 c23 k23, ⟨a23, i23, k23⟩⟩
  have H_Play_counts : HereM K mg C "counts" "Play.counts" s_Play_counts _ _ := ⟨fun_mk l24 c24 k24, ⟨a24, i24, k24⟩⟩
  have H_Play_standing : HereM K mg C "standing" "Play.standing" s_Play_standing _ _ := ⟨fun_mk l25 c25 k25, ⟨a25, i25, k25⟩⟩
  have H_Play_owed : HereM K mg C "owed" "Play.owed" s_Play_owed _ _ := ⟨fun_mk l26 c26 k26, ⟨a26, i26, k26⟩⟩
  have H_Play_lacking : HereM K mg C "lacking" "Play.lacking" s_Play_lacking _ _ := ⟨fun_mk l27 c27 k27, ⟨a27, i27, k27⟩⟩
  have H_whole_list : Here K mg "_law_whole_list" s_whole_list _ _ := ⟨fun_mk l28 c28 k28, PySem.W.mg_of X G a28⟩
  have H_numbers : Here K mg "_law_numbers" s_numbers _ _ := ⟨fun_mk l29 c29 k29, PySem.W.mg_of X G a29⟩
  have H_asked : Here K mg "_law_asked" s_asked _ _ := ⟨fun_mk l30 c30 k30, PySem.W.mg_of X G a30⟩
  have H_words : Here K mg "_law_words" s_words _ _ := ⟨fun_mk l31 c31 k31, PySem.W.mg_of X G a31⟩
  have H_right : Here K mg "_law_right" s_right _ _ := ⟨fun_mk l32 c32 k32, PySem.W.mg_of X G a32⟩
  have H_come_in : Here K mg "_law_come_in" s_come_in _ _ := ⟨fun_mk l33 c33 k33, PySem.W.mg_of X G a33⟩
  have H_out : Here K mg "_law_out" s_out _ _ := ⟨fun_mk l34 c34 k34, PySem.W.mg_of X G a34⟩
  have H_law : Here K mg "law" s_law _ _ := ⟨fun_mk l35 c35 k35, PySem.W.mg_of X G a35⟩
  have T : Bn mg := ⟨PySem.W.mg_none_of X G z1, PySem.W.mg_none_of X G z2, PySem.W.mg_none_of X G z3, PySem.W.mg_none_of X G z4, PySem.W.mg_none_of X G z5, PySem.W.mg_none_of X G z6, PySem.W.mg_none_of X G z7, PySem.W.mg_none_of X G z8, PySem.W.mg_none_of X G z9, PySem.W.mg_none_of X G z10, PySem.W.mg_none_of X G z11, PySem.W.mg_none_of X G z12, PySem.W.mg_none_of X G z13, PySem.W.mg_none_of X G z14, PySem.W.mg_none_of X G z15, PySem.W.mg_none_of X G z16, PySem.W.mg_none_of X G z17, PySem.W.mg_none_of X G z18, PySem.W.mg_none_of X G z19, PySem.W.mg_none_of X G z20, PySem.W.mg_none_of X G z21, PySem.W.mg_none_of X G z22, PySem.W.mg_none_of X G z23, PySem.W.mg_none_of X G z24, PySem.W.mg_none_of X G z25⟩
  refine ⟨PySem.W.fnOf "law" "law" (defArgs s_law) (defBody s_law) (defScope s_law) .none kV35 dc35 pm35 an35 cd35 ct35, fun s v => .of_eq rfl, fun base _ _ => ?_⟩
  have C_law_take : Callee l.prog w K mg base "_law_take" 1 ["_law_pen_here", "_law_size"] spTake := H_take.callee (ok_take H_take) (fun _ _ _ _ _ _ u h=>by obtain⟨x0,x1,rfl⟩:=us2 h;rfl)
  have C_law_pen : Callee l.prog w K mg base "_law_pen" 1 ["_law_script", "_law_k"] (spPen K) := H_pen.callee (ok_pen T H_pen) (fun _ _ _ _ _ _ u h=>by obtain⟨x0,x1,rfl⟩:=us2 h;rfl)
  have C_law_wickets : Callee l.prog w K mg base "_law_wickets" 2 ["_law_pen_here", "_law_wide", "_law_many"] spWickets := H_wickets.callee (ok_wickets T H_wickets C_law_take) (fun _ _ _ _ _ _ u h=>by obtain⟨x0,x1,x2,rfl⟩:=us3 h;rfl)
  have C_law_lifted : Callee l.prog w K mg base "_law_lifted" 1 ["_law_wickets_here", "_law_by"] spLifted := H_lifted.callee (ok_lifted H_lifted) (fun _ _ _ _ _ _ u h=>by obtain⟨x0,x1,rfl⟩:=us2 h;rfl)
  have R_folded : ∀ n : Nat, Callee l.prog w K mg base "_law_folded" (n + 1) ["_law_wide"] (spBuilt n) := fun n => by
      induction n with
      | zero => exact H_folded.callee ok_folded0 (fun _ _ _ _ _ _ u h=>by obtain⟨x0,rfl⟩:=us1 h;rfl)
      | succ n ih => exact H_folded.callee (ok_folded1 T H_folded C_law_lifted ih) (fun _ _ _ _ _ _ u h=>by obtain⟨x0,rfl⟩:=us1 h;rfl)
  have C_law_folded : Callee l.prog w K mg base "_law_folded" 6 ["_law_wide"] (spBuilt 4) := (R_folded 4).mono (by decide)
  have R_block : ∀ n : Nat, Callee l.prog w K mg base "_law_block" (n + 1) ["_law_wide"] (spBuilt n) := fun n => by
      induction n with
      | zero => exact H_block.callee ok_block0 (fun _ _ _ _ _ _ u h=>by obtain⟨x0,rfl⟩:=us1 h;rfl)
      | succ n ih => exact H_block.callee (ok_block1 T H_block C_law_lifted ih) (fun _ _ _ _ _ _ u h=>by obtain⟨x0,rfl⟩:=us1 h;rfl)
  have C_law_block : Callee l.prog w K mg base "_law_block" 6 ["_law_wide"] (spBuilt 4) := (R_block 4).mono (by decide)
  have C_law_brick : Callee l.prog w K mg base "_law_brick" 1 ["_law_wide"] spBrick := H_brick.callee (ok_brick T H_brick) (fun _ _ _ _ _ _ u h=>by obtain⟨x0,rfl⟩:=us1 h;rfl)
  have C_law_rounds : Callee l.prog w K mg base "_law_rounds" 7 ["_law_wide"] spRounds := H_rounds.callee (ok_rounds H_rounds C_law_block) (fun _ _ _ _ _ _ u h=>by obtain⟨x0,rfl⟩:=us1 h;rfl)
  have C_law_bent : Callee l.prog w K mg base "_law_bent" 3 ["_law_pen_here", "_law_wide", "_law_wickets_here"] spBent := H_bent.callee (ok_bent T H_bent C_law_take C_law_wickets) (fun _ _ _ _ _ _ u h=>by obtain⟨x0,x1,x2,rfl⟩:=us3 h;rfl)
  have C_law_net : Callee l.prog w K mg base "_law_net" 8 ["_law_pen_here"] spNet := H_net.callee (ok_net T H_net C_law_take C_law_wickets C_law_folded C_law_rounds C_law_brick C_law_bent) (fun _ _ _ _ _ _ u h=>by obtain⟨x0,rfl⟩:=us1 h;rfl)
  have Cis_whole : Callee l.prog w K mg base "is_whole" 1 ["thing"] spIsWhole := H_is_whole.callee (ok_is_whole T H_is_whole) (fun _ _ _ _ _ _ u h=>by obtain⟨x0,rfl⟩:=us1 h;rfl)
  have Cis_lane : Callee l.prog w K mg base "is_lane" 2 ["wide", "thing"] spIsLane := H_is_lane.callee (ok_is_lane T H_is_lane Cis_whole) (fun _ _ _ _ _ _ u h=>by obtain⟨x0,x1,rfl⟩:=us2 h;rfl)
  have Cplace_on : Callee l.prog w K mg base "place_on" 1 ["net", "lane", "start"] spPlaceOn := H_place_on.callee (ok_place_on T H_place_on) (fun _ _ _ _ _ _ u h=>by obtain⟨x0,x1,x2,rfl⟩:=us3 h;rfl)
  have Cnumbers_of : Callee l.prog w K mg base "numbers_of" 1 ["wide", "lane", "low", "high"] spNums := H_numbers_of.callee (ok_numbers_of T H_numbers_of) (fun _ _ _ _ _ _ u h=>by obtain⟨x0,x1,x2,x3,rfl⟩:=us4 h;rfl)
  have MkPlay : Maker l.prog w K mg base "Play" C 1 ["self", "net"] (spPInit C) := ⟨⟨_, _, ok_Play_init T TP H_Play_init, H_Play_init.fn.binds (fun _ _ _ _ _ _ u h=>by obtain⟨x0,x1,rfl⟩:=us2 h;rfl), ⟨mk, a15, i15, kc⟩⟩, PySem.W.mg_of X G aC⟩
  have MPlay_come_in : MCal l.prog w K mg base C "come_in" 3 ["self", "lane", "change"] (spComeIn C) := H_Play_come_in.mcal (ok_Play_come_in T TP H_Play_come_in Cis_lane Cplace_on) (fun _ _ _ _ _ _ u h=>by obtain⟨x0,x1,x2,rfl⟩:=us3 h;rfl)
  have MPlay_enter : MCal l.prog w K mg base C "enter" 4 ["self", "lane"] (spEnter C 1) := H_Play_enter.mcal (ok_Play_enter T TP H_Play_enter MPlay_come_in) (fun _ _ _ _ _ _ u h=>by obtain⟨x0,x1,rfl⟩:=us2 h;rfl)
  have MPlay_enter_back : MCal l.prog w K mg base C "enter_back" 4 ["self", "lane"] (spEnter C (-1)) := H_Play_enter_back.mcal (ok_Play_enter_back T TP H_Play_enter_back MPlay_come_in) (fun _ _ _ _ _ _ u h=>by obtain⟨x0,x1,rfl⟩:=us2 h;rfl)
  have MPlay_where : MCal l.prog w K mg base C "where" 2 ["self", "walker"] (spWhere C) := H_Play_where.mcal (ok_Play_where T TP H_Play_where Cis_whole) (fun _ _ _ _ _ _ u h=>by obtain⟨x0,x1,rfl⟩:=us2 h;rfl)
  have MPlay_turn : MCal l.prog w K mg base C "turn" 1 ["self", "wicket"] (spTurn C) := H_Play_turn.mcal (ok_Play_turn T TP H_Play_turn) (fun _ _ _ _ _ _ u h=>by obtain⟨x0,x1,rfl⟩:=us2 h;rfl)
  have MPlay_pass_wicket : MCal l.prog w K mg base C "pass_wicket" 2 ["self", "wicket", "change"] (spPass C) := H_Play_pass_wicket.mcal (ok_Play_pass_wicket T TP H_Play_pass_wicket MPlay_turn Cplace_on) (fun _ _ _ _ _ _ u h=>by obtain⟨x0,x1,x2,rfl⟩:=us3 h;rfl)
  have MPlay_leave : MCal l.prog w K mg base C "leave" 1 ["self", "lane", "change"] (spLeave C) := H_Play_leave.mcal (ok_Play_leave T TP H_Play_leave) (fun _ _ _ _ _ _ u h=>by obtain⟨x0,x1,x2,rfl⟩:=us3 h;rfl)
  have MPlay_step : MCal l.prog w K mg base C "step" 4 ["self", "walker"] (spStep C) := H_Play_step.mcal (ok_Play_step T TP H_Play_step MPlay_where MPlay_leave MPlay_pass_wicket) (fun _ _ _ _ _ _ u h=>by obtain⟨x0,x1,rfl⟩:=us2 h;rfl)
  have MPlay_counts : MCal l.prog w K mg base C "counts" 1 ["self"] (spCountsP C) := H_Play_counts.mcal (ok_Play_counts T TP H_Play_counts) (fun _ _ _ _ _ _ u h=>by obtain⟨x0,rfl⟩:=us1 h;rfl)
  have MPlay_standing : MCal l.prog w K mg base C "standing" 2 ["self"] (spStand C) := H_Play_standing.mcal (ok_Play_standing T TP H_Play_standing Cnumbers_of) (fun _ _ _ _ _ _ u h=>by obtain⟨x0,rfl⟩:=us1 h;rfl)
  have MPlay_owed : MCal l.prog w K mg base C "owed" 2 ["self"] (spOwed C) := H_Play_owed.mcal (ok_Play_owed T TP H_Play_owed Cnumbers_of) (fun _ _ _ _ _ _ u h=>by obtain⟨x0,rfl⟩:=us1 h;rfl)
  have MPlay_lacking : MCal l.prog w K mg base C "lacking" 3 ["self"] (spLack C) := H_Play_lacking.mcal (ok_Play_lacking T TP H_Play_lacking MPlay_standing) (fun _ _ _ _ _ _ u h=>by obtain⟨x0,rfl⟩:=us1 h;rfl)
  have C_law_whole_list : Callee l.prog w K mg base "_law_whole_list" 1 ["_law_found", "_law_due"] spWholeList := H_whole_list.callee (ok_whole_list T H_whole_list) (fun _ _ _ _ _ _ u h=>by obtain⟨x0,x1,rfl⟩:=us2 h;rfl)
  have C_law_numbers : Callee l.prog w K mg base "_law_numbers" 1 ["_law_net_here", "_law_counts"] spNum2 := H_numbers.callee (ok_numbers T H_numbers) (fun _ _ _ _ _ _ u h=>by obtain⟨x0,x1,rfl⟩:=us2 h;rfl)
  have C_law_asked : Callee l.prog w K mg base "_law_asked" 4 ["_law_play", "_law_word"] (spAsked C) := H_asked.callee (ok_asked T TP H_asked MPlay_standing MPlay_owed MPlay_lacking) (fun _ _ _ _ _ _ u h=>by obtain⟨x0,x1,rfl⟩:=us2 h;rfl)
  have C_law_words : Callee l.prog w K mg base "_law_words" 1 ["_law_turn"] spWord3 := H_words.callee (ok_words T H_words) (fun _ _ _ _ _ _ u h=>by obtain⟨x0,rfl⟩:=us1 h;rfl)
  have C_law_right : Callee l.prog w K mg base "_law_right" 5 ["_law_play", "_law_net_here", "_law_told", "_law_turn"] (spRight23 C) := H_right.callee (ok_right T TP H_right MPlay_counts C_law_numbers C_law_words C_law_whole_list C_law_asked) (fun _ _ _ _ _ _ u h=>by obtain⟨x0,x1,x2,x3,rfl⟩:=us4 h;rfl)
  have C_law_come_in : Callee l.prog w K mg base "_law_come_in" 5 ["_law_play", "_law_lane", "_law_back"] (spLComeIn C) := H_come_in.callee (ok_come_in T TP H_come_in MPlay_enter MPlay_enter_back) (fun _ _ _ _ _ _ u h=>by obtain⟨x0,x1,x2,rfl⟩:=us3 h;rfl)
  have C_law_out : Callee l.prog w K mg base "_law_out" 5 ["_law_play", "_law_walker"] (spOut C) := H_out.callee (ok_out T TP H_out MPlay_where MPlay_step) (fun _ _ _ _ _ _ u h=>by obtain⟨x0,x1,rfl⟩:=us2 h;rfl)
  exact ok_law T TP H_law C_law_pen C_law_net C_law_take MkPlay C_law_come_in C_law_out C_law_right
theorem walk {l : PySem.W.OpenLaw} {q : Program} {loose : List Str} {XP : (Str → Option Value) → Heap → Prop} {YP : World → Heap → Prop} {d : DefRec} {K : Params → PySem.W.Frag} (hn : l.most = some 63) (hdf : d.params.defaults = [])
    (hY : ∀ (w : World) (h : Heap), YP w h → (K w.params).In h)
    (F : ∀ (w : World) (mg : Str → Option Value) (fa : Addr) (h : Heap), (K w.params).In h → h.Ns mainGlobals mg → mg d.name = some (.ref fa) →
      ∃ fd : FuncData, (∀ (s : Shared) (u : Value), BindsTo s fd ⟨[u], []⟩ [("_law_script", u)]) ∧ ∀ base : Heap, (K w.params).In base → base.Ns mainGlobals mg → FnOk l.prog w (K w.params) mg base CX0 9 fa fd ["_law_script"] (spLaw (K w.params))) :
    PySem.W.WalkO q loose XP YP l.row.toRowW d [] (fun f vs => PySem.call f vs) :=
  L2.walk_of (n := 63) (k := 9) (x := "_law_script") (CX := fun _ => CX0) (sp := fun w => spLaw (K w.params)) hn (by decide) hdf ⟨rfl, by decide, by decide, rfl⟩ hY F (fun _ _ a ns hl _ hS => ⟨a, ns, rfl, hS, hl, fun _ => rfl⟩) fun _ _ _ _ _ z => z
end Ep
open PySem PySem.W PyProof.Rows
set_option maxRecDepth 100000 in
set_option maxHeartbeats 0 in
theorem PySem.Challenge.cw_evenpass_k23_numbers_that_stand_and_lack_holds : PySem.Challenge.rw_evenpass_k23_numbers_that_stand_and_lack.Holds := by
  w_on; o_law; k_head; (case hw => w_witness2)
  k_fill
  refine Ep.walk (l := PySem.Challenge.rw_evenpass_k23_numbers_that_stand_and_lack) rfl rfl (fun w h Y => PySem.W.kIn_of Y) ?F
  case F =>
    intro w mg fa h KX G hmg
    refine' Ep.all_mk KX G hmg ?aC ?pg ?hd ?po ?sa ?mk ?kc ?n_net ?n_facing ?n_tally ?n_places ?n_changes ?a1 ?l1 ?c1 ?k1 ?a2 ?l2 ?c2 ?k2 ?a3 ?l3 ?c3 ?k3 ?a4 ?l4 ?c4 ?k4 ?a5 ?l5 ?c5 ?k5 ?a6 ?l6 ?c6 ?k6 ?a7 ?l7 ?c7 ?k7 ?a8 ?l8 ?c8 ?k8 ?a9 ?l9 ?c9 ?k9 ?a10 ?l10 ?c10 ?k10 ?a11 ?l11 ?c11 ?k11 ?a12 ?l12 ?c12 ?k12 ?a13 ?l13 ?c13 ?k13 ?a14 ?l14 ?c14 ?k14 ?a15 ?i15 ?l15 ?c15 ?k15 ?a16 ?i16 ?l16 ?c16 ?k16 ?a17 ?i17 ?l17 ?c17 ?k17 ?a18 ?i18 ?l18 ?c18 ?k18 ?a19 ?i19 ?l19 ?c19 ?k19 ?a20 ?i20 ?l20 ?c20 ?k20 ?a21 ?i21 ?l21 ?c21 ?k21 ?a22 ?i22 ?l22 ?c22 ?k22 ?a23 ?i23 ?l23 ?c23 ?k23 ?a24 ?i24 ?l24 ?c24 ?k24 ?a25 ?i25 ?l25 ?c25 ?k25 ?a26 ?i26 ?l26 ?c26 ?k26 ?a27 ?i27 ?l27 ?c27 ?k27 ?a28 ?l28 ?c28 ?k28 ?a29 ?l29 ?c29 ?k29 ?a30 ?l30 ?c30 ?k30 ?a31 ?l31 ?c31 ?k31 ?a32 ?l32 ?c32 ?k32 ?a33 ?l33 ?c33 ?k33 ?a34 ?l34 ?c34 ?k34 ?a35 ?l35 ?c35 ?k35 ?z1 ?z2 ?z3 ?z4 ?z5 ?z6 ?z7 ?z8 ?z9 ?z10 ?z11 ?z12 ?z13 ?z14 ?z15 ?z16 ?z17 ?z18 ?z19 ?z20 ?z21 ?z22 ?z23 ?z24 ?z25
    (case aC => k_is); (case pg => k_is); (case hd => k_is); (case po => k_is); (case sa => k_is); (case mk => k_is); (case kc => k_is); (case n_net => k_is); (case n_facing => k_is); (case n_tally => k_is); (case n_places => k_is); (case n_changes => k_is)
    (case a1 => k_is); (case l1 => k_is); (case c1 => k_is); (case k1 => k_is)
    (case a2 => k_is); (case l2 => k_is); (case c2 => k_is); (case k2 => k_is)
    (case a3 => k_is); (case l3 => k_is); (case c3 => k_is); (case k3 => k_is)
    (case a4 => k_is); (case l4 => k_is); (case c4 => k_is); (case k4 => k_is)
    (case a5 => k_is); (case l5 => k_is); (case c5 => k_is); (case k5 => k_is)
    (case a6 => k_is); (case l6 => k_is); (case c6 => k_is); (case k6 => k_is)
    (case a7 => k_is); (case l7 => k_is); (case c7 => k_is); (case k7 => k_is)
    (case a8 => k_is); (case l8 => k_is); (case c8 => k_is); (case k8 => k_is)
    (case a9 => k_is); (case l9 => k_is); (case c9 => k_is); (case k9 => k_is)
    (case a10 => k_is); (case l10 => k_is); (case c10 => k_is); (case k10 => k_is)
    (case a11 => k_is); (case l11 => k_is); (case c11 => k_is); (case k11 => k_is)
    (case a12 => k_is); (case l12 => k_is); (case c12 => k_is); (case k12 => k_is)
    (case a13 => k_is); (case l13 => k_is); (case c13 => k_is); (case k13 => k_is)
    (case a14 => k_is); (case l14 => k_is); (case c14 => k_is); (case k14 => k_is)
    (case a15 => k_is); (case i15 => k_is); (case l15 => k_is); (case c15 => k_is); (case k15 => k_is)
    (case a16 => k_is); (case i16 => k_is); (case l16 => k_is); (case c16 => k_is); (case k16 => k_is)
    (case a17 => k_is); (case i17 => k_is); (case l17 => k_is); (case c17 => k_is); (case k17 => k_is)
    (case a18 => k_is); (case i18 => k_is); (case l18 => k_is); (case c18 => k_is); (case k18 => k_is)
    (case a19 => k_is); (case i19 => k_is); (case l19 => k_is); (case c19 => k_is); (case k19 => k_is)
    (case a20 => k_is); (case i20 => k_is); (case l20 => k_is); (case c20 => k_is); (case k20 => k_is)
    (case a21 => k_is); (case i21 => k_is); (case l21 => k_is); (case c21 => k_is); (case k21 => k_is)
    (case a22 => k_is); (case i22 => k_is); (case l22 => k_is); (case c22 => k_is); (case k22 => k_is)
    (case a23 => k_is); (case i23 => k_is); (case l23 => k_is); (case c23 => k_is); (case k23 => k_is)
    (case a24 => k_is); (case i24 => k_is); (case l24 => k_is); (case c24 => k_is); (case k24 => k_is)
    (case a25 => k_is); (case i25 => k_is); (case l25 => k_is); (case c25 => k_is); (case k25 => k_is)
    (case a26 => k_is); (case i26 => k_is); (case l26 => k_is); (case c26 => k_is); (case k26 => k_is)
    (case a27 => k_is); (case i27 => k_is); (case l27 => k_is); (case c27 => k_is); (case k27 => k_is)
    (case a28 => k_is); (case l28 => k_is); (case c28 => k_is); (case k28 => k_is)
    (case a29 => k_is); (case l29 => k_is); (case c29 => k_is); (case k29 => k_is)
    (case a30 => k_is); (case l30 => k_is); (case c30 => k_is); (case k30 => k_is)
    (case a31 => k_is); (case l31 => k_is); (case c31 => k_is); (case k31 => k_is)
    (case a32 => k_is); (case l32 => k_is); (case c32 => k_is); (case k32 => k_is)
    (case a33 => k_is); (case l33 => k_is); (case c33 => k_is); (case k33 => k_is)
    (case a34 => k_is); (case l34 => k_is); (case c34 => k_is); (case k34 => k_is)
    (case a35 => k_is); (case l35 => k_is); (case c35 => k_is); (case k35 => k_is)
    (case z1 => k_is)
    (case z2 => k_is)
    (case z3 => k_is)
    (case z4 => k_is)
    (case z5 => k_is)
    (case z6 => k_is)
    (case z7 => k_is)
    (case z8 => k_is)
    (case z9 => k_is)
    (case z10 => k_is)
    (case z11 => k_is)
    (case z12 => k_is)
    (case z13 => k_is)
    (case z14 => k_is)
    (case z15 => k_is)
    (case z16 => k_is)
    (case z17 => k_is)
    (case z18 => k_is)
    (case z19 => k_is)
    (case z20 => k_is)
    (case z21 => k_is)
    (case z22 => k_is)
    (case z23 => k_is)
    (case z24 => k_is)
    (case z25 => k_is)
