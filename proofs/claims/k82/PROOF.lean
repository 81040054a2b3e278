import PyProof.Rows.All
import Wide.All
import OpenK.AllK
import Wide.FinOn
import Lean
import PyProof.EqAt
import PyProof.EqKinds
import PyProof.TupleCall
import KE.KRevSl
import KE.KTryMore
import PySem.Challenge.RW_evenpass_k82_texts_of_no_nets
set_option Elab.async false
set_option linter.all false
set_option maxRecDepth 100000
set_option maxHeartbeats 4000000
namespace PySem.W.Fast
def tw15635885853645453088:=0
def tw12206821354051467265:=0
def tw1280305443480733726:=0
def tw16149923156090135128:=0
def tw10642672764792751124:=0
def tw599573210158018919:=0
def tw8667095125444203333:=0
def tw8999625856794118130:=0
def tw558471635181765397:=0
def tw2979443659401167391:=0
def tw8030788148485142351:=0
def tw2814425176054859612:=0
def tw12736786426442413135:=0
def tw3353330797917082265:=0
def tw3553244277243598380:=0
def tw12954955439018955849:=0
def tw11354370148359797953:=0
def tw9140130554605460109:=0
def tw10036389648286545839:=0
def tw7729002543667607806:=0
def tw10217295772821077713:=0
def tw12496862754876333611:=0
def tw11287066253713247446:=0
def tw9802070515015489464:=0
def tw4483444522832762804:=0
def tw5260382081079924681:=0
def tw2728106049604307130:=0
def tw12227989042927671531:=0
def tw3098336178669638389:=0
def tw4051771494706342934:=0
def tw18212734429731139124:=0
def tw11344104375210176897:=0
def tw2994360023576233609:=0
def tw18319018597180921129:=0
def tw11902114660201352667:=0
def tw6399079164967381143:=0
def tw3216896380164110194:=0
def tw7074801702471833585:=0
def tw7348824856210513667:=0
def tw15047176807666601810:=0
def tw1190436622502806652:=0
def tw2099299190028489481:=0
def tw6931232458580310072:=0
def tw4343180223785909480:=0
def tw881679081392856977:=0
def tw12872185135987314196:=0
def tw7354207391092475657:=0
def tw7289840784663540890:=0
def tw18277903942249970060:=0
def tw2791928608526066167:=0
def tw16389771573662475211:=0
def tw1377085640511401848:=0
def tw7818510120724140629:=0
def tw4590245379870101601:=0
def tw1961284659726483817:=0
def tw15002949097278001624:=0
def tw153595320949416066:=0
def tw17582294953868001529:=0
def tw2983598115430256544:=0
def tw5753231825919186165:=0
def tw2169310870346514939:=0
def tw16080272843618488698:=0
def tw2351317328021180044:=0
def tw4419298025346267301:=0
def tw3166551157986940242:=0
def tw3684105522972412813:=0
def tw18041459483706406922:=0
def tw1103654283296873688:=0
def tw11321429031109128725:=0
def tw5091144521740527076:=0
def tw18260036749077338176:=0
def tw18274412103107514328:=0
def tw12648527105594359171:=0
def tw4220864166202246219:=0
def tw18431148745652713237:=0
def tw4037681074162408584:=0
def tw2439159798752475553:=0
def tw3821874591777686404:=0
def tw6850832110018868100:=0
def tw15100340078821944686:=0
def tw12296448341903636686:=0
def tw17230969357712926556:=0
def tw512135816214488867:=0
def tw5032361284833682824:=0
def tw17795046924363790761:=0
def tw13950117906649240998:=0
def tw10708374658809430924:=0
def tw10286823471645213963:=0
def tw16554216318417291098:=0
def tw8428294311080432151:=0
def tw6437670554047607066:=0
def tw1490517229581796422:=0
def tw14434115581173535018:=0
def tw14159993675779746249:=0
def tw7293570830499012879:=0
def tw279324796492649398:=0
def tw2716389567848757351:=0
def tw8318246332677184916:=0
def tw16849813904659059262:=0
def tw12036679563155813197:=0
def tw14382807665634423951:=0
def tw11005046483316647267:=0
def tw2865664825312257646:=0
def tw12254416756500851977:=0
def tw15345145578815997457:=0
def tw17388477526768573704:=0
def tw3917263728947772517:=0
def tw6703182053333938561:=0
def tw8360946753046412249:=0
def tw10842468402362005380:=0
def tw7484677177797358343:=0
def tw11413535105126555638:=0
def tw3422956853109771285:=0
def tw15938266985196523789:=0
def tw1345916579064469802:=0
def tw237667820214835644:=0
def tw11703536754109613567:=0
def tw9585283052063804135:=0
def tw7512926750436101711:=0
def tw6895100645549808393:=0
def tw14361263039559187197:=0
def tw12747516613405310239:=0
def tw11250246584378240400:=0
def tw16962708862104686583:=0
def tw16439033368885789001:=0
def tw1461438558205444261:=0
def tw11777003280610567229:=0
def tw17494084028287052073:=0
def tw6410031629744213413:=0
def tw4766799394556167706:=0
def tw10222379089009981872:=0
def tw7882269048824529348:=0
def tw3269531510696211041:=0
def tw4625770506203790666:=0
def tw5547059267503301118:=0
def tw290136142891260691:=0
def tw11942839928638982104:=0
def tw15334488338221921886:=0
def tw5929217449421708783:=0
def tw13603096151960309648:=0
def tw16949066854039085367:=0
def tw4505148003212524358:=0
def tw2180136856747955926:=0
def tw15537061377325639771:=0
def tw4589855642726638226:=0
def tw3999179486617114421:=0
def tw7974725293967947182:=0
def tw6508343004946314032:=0
def tw4655412581813446779:=0
def tw3612296140060711509:=0
def tw11849169107912666880:=0
def tw3236599893928890677:=0
def tw9849821487997951869:=0
def tw15565677436088103392:=0
def tw1229556713717315225:=0
def tw17993914246213941416:=0
def tw3955361942675295381:=0
def tw1409782702553058527:=0
def tw7816167050734911050:=0
def tw16341594867158958403:=0
def tw14031885367059053434:=0
def tw15593799449524755889:=0
def tw10559102761030370539:=0
def tw16294394623448537362:=0
def tw14199305331948944832:=0
def tw16145227790125061964:=0
def tw5890106347262064175:=0
def tw4148118952337813521:=0
def tw5510926718471841406:=0
def tw15661415359007356960:=0
def tw4952294137982720867:=0
def tw5042933947110077602:=0
def tw15503330818699439014:=0
def tw3510349420717349390:=0
def tw18441705183641399339:=0
def tw2267418846623036384:=0
def tw13686689921257895543:=0
def tw7784924544109995225:=0
def tw2166452368927724095:=0
def tw8488453346248477508:=0
def tw7705904278151076146:=0
def tw13595780082064218767:=0
def tw7635768291592125254:=0
def tw16834030997216808982:=0
def tw475702876743764033:=0
def tw4439390445961242770:=0
def tw16949144980938243963:=0
def tw18217987316874273996:=0
def tw11280646447331764296:=0
def tw9402009258210630816:=0
def tw16347855153494672564:=0
def tw1672387856513296279:=0
def tw1067855354567962513:=0
def tw5080835092222796341:=0
def tw9322529667050090084:=0
def tw1029236546850925812:=0
def tw5575492989064413010:=0
def tw2556031328465580252:=0
def tw1688233132876540687:=0
def tw3267609786891417596:=0
def tw12732848430582419600:=0
def tw8038538908002486240:=0
def tw1112722971680261635:=0
def tw7495898475757066723:=0
def tw6872460142064241971:=0
def tw15382184613608937135:=0
def tw4902475521867679903:=0
def tw6794810673139749398:=0
def tw4819534052029060694:=0
def tw11866241166573777391:=0
def tw8071989259951731851:=0
def tw11762649563537540990:=0
def tw13382587648030597087:=0
def tw11080956075198495666:=0
def tw15665754079818197446:=0
def tw2104970701453805710:=0
def tw11497013126709940479:=0
def tw8704200454056110566:=0
def tw2262006134269151564:=0
def tw11276036368953914718:=0
def tw13805263426530577616:=0
def tw17487890827114874031:=0
def tw9515894723059295515:=0
def tw9215309536317818856:=0
def tw11809787528865498792:=0
def tw16131241607035957971:=0
def tw11188090479637096057:=0
def tw4094528992959875794:=0
def tw3750496742867996586:=0
def tw14692855990922165791:=0
def tw5118319752983166775:=0
def tw146126110958211498:=0
def tw16319416150555800842:=0
def tw15908519579084208289:=0
def tw10879603612715186897:=0
def tw9837400971958056788:=0
def tw2165737129097569583:=0
def tw1166929184546299082:=0
def tw17814393086391858657:=0
def tw8279129265176832616:=0
def tw17011151101476502676:=0
def tw10319545196369382959:=0
def tw6492912916008481167:=0
def tw12822496910629716607:=0
def tw14242678145938617166:=0
def tw11941924395087049500:=0
def tw12750943229652994274:=0
def tw15491695647903736951:=0
def tw11691439821577780996:=0
def tw11678153594351072611:=0
def tw11215547043801870294:=0
def tw15202889489082913578:=0
def tw891005252390410056:=0
def tw15366307789921504265:=0
def tw11681674827990156427:=0
def tw14089039406313024937:=0
def tw8551320557675735527:=0
end PySem.W.Fast


namespace L2
open PySem PySem.Spec PyProof.Rows

abbrev Key := Sum Int Str
def keyIs : Key → Value → Bool
  | .inl k, v => Value.isInt k v
  | .inr x, v => Value.isStrOf x v
def keyH (w : World) : Key → Int
  | .inl k => hashInt k
  | .inr x => hashStr w x
theorem keyIs_shape : ∀ {k : Key} {v : Value}, keyIs k v = true → (∃ i t, k = Sum.inl i ∧ v = Value.int i t) ∨ (∃ x t, k = Sum.inr x ∧ v = Value.str x t)
  | .inl i, v, h => by
    obtain ⟨t, e⟩ := Value.isInt_shape (k := i) (v := v) h
    exact .inl ⟨i, t, rfl, e⟩
  | .inr x, v, h => by
    obtain ⟨t, e⟩ := Value.isStrOf_shape (x := x) (v := v) h
    exact .inr ⟨x, t, rfl, e⟩
theorem key_ll (a b : Int) : decide ((Sum.inl a : Key) = Sum.inl b) = (a == b) := by
  by_cases e : a = b
  · subst e; simp
  · have h : ¬ (Sum.inl a : Key) = Sum.inl b := fun q => e (Sum.inl.inj q)
    rw [decide_eq_false h]
    exact (beq_eq_false_iff_ne.mpr e).symm
theorem key_rr (a b : Str) : decide ((Sum.inr a : Key) = Sum.inr b) = decide (a = b) := by
  by_cases e : a = b
  · subst e; simp
  · have h : ¬ (Sum.inr a : Key) = Sum.inr b := fun q => e (Sum.inr.inj q)
    rw [decide_eq_false h, decide_eq_false e]
theorem key_lr (a : Int) (b : Str) : decide ((Sum.inl a : Key) = Sum.inr b) = false := decide_eq_false (fun q => nomatch q)
theorem key_rl (a : Str) (b : Int) : decide ((Sum.inr a : Key) = Sum.inl b) = false := decide_eq_false (fun q => nomatch q)

def mixKind (prog : Program) (w : World) : PySem.KeyKind prog w Key where
  is := keyIs
  hash := keyH w
  inj := fun v a b ha hb => by
    rcases keyIs_shape ha with ⟨i, t, rfl, rfl⟩ | ⟨x, t, rfl, rfl⟩
    · rcases keyIs_shape hb with ⟨j, u, rfl, e⟩ | ⟨y, u, rfl, e⟩
      · injection e with e1 _; rw [e1]
      · exact nomatch e
    · rcases keyIs_shape hb with ⟨j, u, rfl, e⟩ | ⟨y, u, rfl, e⟩
      · exact nomatch e
      · injection e with e1 _; rw [e1]
  byValue := fun k v h => by
    rcases keyIs_shape h with ⟨i, t, rfl, rfl⟩ | ⟨x, t, rfl, rfl⟩ <;> rfl
  pyHash := fun hv h => by
    rcases keyIs_shape hv with ⟨i, t, rfl, rfl⟩ | ⟨x, t, rfl, rfl⟩
    · exact wpAny_pyHash_int h
    · exact wpAny_pyHash_str h
  eqBool := fun hu hv h => by
    rcases keyIs_shape hu with ⟨i, t, rfl, rfl⟩ | ⟨x, t, rfl, rfl⟩
    · rcases keyIs_shape hv with ⟨j, u, rfl, rfl⟩ | ⟨y, u, rfl, rfl⟩
      · rw [key_ll] at h; exact wpAny_eqBool_int h
      · rw [key_lr] at h; exact SeqAt.EqAt.int_str i t y u _ _ _ _ h
    · rcases keyIs_shape hv with ⟨j, u, rfl, rfl⟩ | ⟨y, u, rfl, rfl⟩
      · rw [key_rl] at h; exact SeqAt.EqAt.str_int x t j u _ _ _ _ h
      · rw [key_rr] at h; exact wpAny_eqBool_str h
  «strs» := fun k x t v h => by
    rcases keyIs_shape h with ⟨i, u, rfl, e⟩ | ⟨y, u, rfl, e⟩
    · exact nomatch e
    · injection e with e1 _
      subst e1
      cases v <;> rfl

end L2

namespace L2
open PySem PySem.Spec PyProof.Rows

inductive V where
  | non | bl (b : Bool) | int (i : Int) | str (x : Str) | byt (b : Array UInt8) | flt (b : UInt64) | ref (a : Addr) | ty (n : String)
  deriving DecidableEq

def RelV : V → Value → Prop
  | .non, u => u = Value.none
  | .bl b, u => u = Value.bool b
  | .int i, u => ∃ t, u = Value.int i t
  | .str x, u => ∃ t, u = Value.str x t
  | .byt b, u => ∃ t, u = Value.bytes b t
  | .flt b, u => ∃ t, u = Value.float b t
  | .ref a, u => u = Value.ref a
  | .ty n, u => u = Value.type n

abbrev Vals : List V → List Value → Prop := Paired RelV
theorem Vals.length {xs : List V} {us : List Value} (r : Vals xs us) : xs.length = us.length := Paired.length r
theorem Vals.get : ∀ {xs : List V} {us : List Value} {i : Nat} {x : V}, Vals xs us → xs[i]? = some x → ∃ u, us[i]? = some u ∧ RelV x u
  | _, _, _, _, .nil, e => by simp at e
  | _, _, 0, _, .cons r _, e => by simp at e; subst e; exact ⟨_, rfl, r⟩
  | _, _, i + 1, x, .cons _ t, e => by
    obtain ⟨u, h1, h2⟩ := Vals.get (i := i) (x := x) t (by simpa using e)
    exact ⟨u, by simpa using h1, h2⟩
theorem Vals.set {x : V} {u : Value} (r : RelV x u) : ∀ {xs : List V} {us : List Value} (i : Nat), Vals xs us → Vals (xs.set i x) (us.set i u)
  | _, _, _, .nil => .nil
  | _, _, 0, .cons _ t => .cons r t
  | _, _, i + 1, .cons q t => .cons q (Vals.set r i t)
theorem Vals.append : ∀ {xs ys : List V} {us ws : List Value}, Vals xs us → Vals ys ws → Vals (xs ++ ys) (us ++ ws)
  | _, _, _, _, .nil, s => s
  | _, _, _, _, .cons r t, s => .cons r (Vals.append t s)
theorem Vals.take : ∀ {xs : List V} {us : List Value} (n : Nat), Vals xs us → Vals (xs.take n) (us.take n)
  | _, _, 0, _ => .nil
  | _, _, _ + 1, .nil => .nil
  | _, _, n + 1, .cons r t => .cons r (Vals.take n t)
theorem Vals.drop : ∀ {xs : List V} {us : List Value} (n : Nat), Vals xs us → Vals (xs.drop n) (us.drop n)
  | _, _, 0, r => r
  | _, _, _ + 1, .nil => .nil
  | _, _, n + 1, .cons _ t => Vals.drop n t
def RelO : Option V → Option Value → Prop
  | some v, some u => RelV v u
  | none, none => True
  | _, _ => False
def KV {κ : Type} : List (κ × V) → List (κ × Value) → Prop := Paired fun (p : κ × V) (q : κ × Value) => p.1 = q.1 ∧ RelV p.2 q.2

def kV : Key → V
  | .inl i => .int i
  | .inr x => .str x

inductive HO where
    | lst (xs : List V)
    | tup (xs : List V)
    | dK (kvs : List (Key × V)) | dT (kvs : List (List Key × V))
    | set (S : Int → Bool) (n : Nat)
    | ins (C dx : Addr) (fs : List (Str × V))
    | own (x : Addr)
    | xd (fs : List (Str × V))
    | met (f x : Addr)
    | rng (lo hi : Int)
    | frz (o : Obj) (u : HO)
    | tbl (q : Str × Int × Int)
    | ext (φ : Heap → Prop)

abbrev Hp := Addr → Option HO
def upd (H : Hp) (a : Addr) (o : HO) : Hp := fun b => if b = a then some o else H b
theorem upd_same {H : Hp} {a : Addr} {o : HO} : upd H a o a = some o := by unfold upd; rw [if_pos rfl]
theorem upd_ne {H : Hp} {a b : Addr} {o : HO} (h : b ≠ a) : upd H a o b = H b := by unfold upd; rw [if_neg h]
theorem upd_upd {H : Hp} {a : Addr} {o u : HO} : upd (upd H a o) a u = upd H a u := by
  funext b; unfold upd; split <;> rfl
theorem ne_of {H : Hp} {a b : Addr} {o u : HO} (h : H a = some o) (h' : H b = some u) (d : o ≠ u) : a ≠ b := by
  intro e; subst e; rw [h] at h'; exact d (Option.some.inj h')
theorem ne_of_none {H : Hp} {a b : Addr} {o : HO} (h : H a = some o) (h' : H b = none) : a ≠ b := by
  intro e; subst e; rw [h] at h'; cases h'

def IsTupD (h : Heap) (a : Addr) (items : Array Value) : Prop := ∃ o, h.get? a = some o ∧ o.cls = .type "tuple" ∧ ∃ n, o.data = .seq items n ∧ o.dict = none
theorem IsTupD.tup {h : Heap} {a : Addr} {items : Array Value} (x : IsTupD h a items) : IsTup h a items := let ⟨o, e, c, n, d, _⟩ := x; ⟨o, e, c, n, d⟩
theorem IsTupD.lt {h : Heap} {a : Addr} {items : Array Value} (x : IsTupD h a items) : a < h.objs.size := let ⟨_, e, _⟩ := x; Heap.lt_size e
theorem IsTupD.new (h : Heap) (items : Array Value) : IsTupD (h.push { cls := .type "tuple", data := .seq items }) h.objs.size items := ⟨_, Heap.get?_push_size _ rfl, rfl, _, rfl, rfl⟩
section
variable (P : Program) (w : World)
def ObjOk (H : Hp) (h : Heap) (a : Addr) : HO → Prop
  | .lst xs => xs.length ≤ sizeLine ∧ ∃ (its : List Value) (n : Nat), Vals xs its ∧ h.get? a = some { cls := .type "list", data := .seq its.toArray n }
  | .tup xs => xs.length ≤ sizeLine ∧ ∃ its : List Value, Vals xs its ∧ IsTupD h a its.toArray
  | .dK kvs => kvs.length ≤ sizeLine ∧ (a == sysModules) = false ∧ ∃ vs, KV kvs vs ∧ h.DictOf (mixKind P w) a vs
  | .dT kvs => kvs.length ≤ sizeLine ∧ (a == sysModules) = false ∧ ∃ xs : List (List Key × Addr × Value),
      Paired (fun (p : List Key × V) (q : List Key × Addr × Value) => p.1 = q.1 ∧ H q.2.1 = some (.tup (p.1.map kV)) ∧ RelV p.2 q.2.2) kvs xs ∧
      ∃ o es ep, h.get? a = some o ∧ o.ExactDict ∧ o.data = .dict es ep ∧ es.toList = xs.map (entryOfKey (tupleKind (mixKind P w))) ∧ (xs.map (·.1)).Nodup
  | .set S n => h.SetOf (intKind P w) a S n
  | .ins C dx fs => H dx = some (.own a) ∧ fs.length ≤ 1000 ∧ dx ≠ a ∧ h.get? a = some (PySem.W.instObj C dx) ∧
      ∃ mA, h.Ns1 dx mA ∧ (∀ f, RelO (fs.lookup f) (mA f)) ∧ PySem.Within mA (fs.map (·.1))
  | .own _ => ∃ o, h.get? a = some o
  | .xd fs => ∃ mA, h.Ns1 a mA ∧ ∀ f, RelO (fs.lookup f) (mA f)
  | .rng lo hi => ∃ t u v, h.get? a = some { cls := .type "range", data := .fields #[.int lo t, .int hi u, .int 1 v] }
  | .frz o u => h.get? a = some o ∧ ObjOk H h a u
  | .tbl q => h.get? a = some { cls := .none, data := .fields #[] } ∨ ∃ c, h.get? a = some { cls := .none, data := .fields #[rawInt q.2.1, rawInt q.2.2, .ref c] } ∧ H c = some (.own a) ∧ h.CodeRec (.ref c) q.1
  | .met f x => h.get? a = some (PySem.W.methodObj (.ref f) (.ref x))
  | .ext φ => φ h ∧ (∃ o, h.get? a = some o) ∧ ∀ h1 h2 : Heap, φ h1 → (∀ o, h1.get? a = some o → h2.get? a = some o) → φ h2
def HOk (H : Hp) (h : Heap) : Prop := ∀ a o, H a = some o → ObjOk P w H h a o
end

section
variable {P : Program} {w : World} {H H' : Hp} {h h' : Heap} {a : Addr} {o : HO}
theorem ObjOk.lt (x : ObjOk P w H h a o) : a < h.objs.size := by
  cases o with
  | lst xs => obtain ⟨_, _, _, _, e⟩ := x; exact Heap.lt_size e
  | tup xs => obtain ⟨_, _, _, p⟩ := x; exact p.lt
  | dK kvs => obtain ⟨_, _, _, _, o, _, _, e, _⟩ := x; exact Heap.lt_size e
  | dT kvs => obtain ⟨_, _, _, _, o, _, _, e, _⟩ := x; exact Heap.lt_size e
  | set S n => obtain ⟨o, _, _, _, e, _⟩ := x; exact Heap.lt_size e
  | ins C dx fs => obtain ⟨_, _, _, e, _⟩ := x; exact Heap.lt_size e
  | own y => obtain ⟨_, e⟩ := x; exact Heap.lt_size e
  | xd fs => obtain ⟨_, ⟨_, _, _, e, _⟩, _⟩ := x; exact Heap.lt_size e
  | rng lo hi => obtain ⟨_, _, _, e⟩ := x; exact Heap.lt_size e
  | frz ob u => obtain ⟨e, _⟩ := x; exact Heap.lt_size e
  | tbl q =>
    rcases (show h.get? a = some { cls := .none, data := .fields #[] } ∨ ∃ c, h.get? a = some { cls := .none, data := .fields #[rawInt q.2.1, rawInt q.2.2, .ref c] } ∧ H c = some (.own a) ∧ h.CodeRec (.ref c) q.1 from x) with e | ⟨_, e, _⟩
    · exact Heap.lt_size e
    · exact Heap.lt_size e
  | met f y => exact Heap.lt_size (show h.get? a = some _ from x)
  | ext φ => obtain ⟨_, ⟨_, e⟩, _⟩ := x; exact Heap.lt_size e
theorem Paired.mapP {α β : Type} {F G : α → β → Prop} : ∀ {l₁ : List α} {l₂ : List β}, Paired F l₁ l₂ → (∀ a b, F a b → G a b) → Paired G l₁ l₂
  | _, _, .nil, _ => .nil
  | _, _, .cons r t, f => .cons (f _ _ r) (Paired.mapP t f)
theorem ObjOk.stay (x : ObjOk P w H h a o) (k : ∀ b u, (b = a ∨ H b = some (.own a)) → h.get? b = some u → h'.get? b = some u)
    (ho : ∀ b, H b = some (.own a) → H' b = some (.own a)) (ht : ∀ b xs, H b = some (.tup xs) → H' b = some (.tup xs)) : ObjOk P w H' h' a o := by
  induction o with
  | lst xs => obtain ⟨z, its, n, r, e⟩ := x; exact ⟨z, its, n, r, k _ _ (.inl rfl) e⟩
  | tup xs => obtain ⟨z, its, r, ob, e, c⟩ := x; exact ⟨z, its, r, ob, k _ _ (.inl rfl) e, c⟩
  | dK kvs => obtain ⟨z, y, vs, r, ob, es, ep, e, c⟩ := x; exact ⟨z, y, vs, r, ob, es, ep, k _ _ (.inl rfl) e, c⟩
  | dT kvs =>
    obtain ⟨z, y, xs, r, ob, es, ep, e, c⟩ := x
    exact ⟨z, y, xs, Paired.mapP r fun p q z => ⟨z.1, ht _ _ z.2.1, z.2.2⟩, ob, es, ep, k _ _ (.inl rfl) e, c⟩
  | set S n => obtain ⟨ob, es, ep, t, e, c⟩ := x; exact ⟨ob, es, ep, t, k _ _ (.inl rfl) e, c⟩
  | ins C dx fs =>
    obtain ⟨d, z, ne, e, mA, ⟨od, es, ep, e2, c⟩, r⟩ := x
    exact ⟨ho _ d, z, ne, k _ _ (.inl rfl) e, mA, ⟨od, es, ep, k _ _ (.inr d) e2, c⟩, r⟩
  | own y => obtain ⟨ob, e⟩ := x; exact ⟨ob, k _ _ (.inl rfl) e⟩
  | xd fs => obtain ⟨mA, ⟨od, es, ep, e, c⟩, r⟩ := x; exact ⟨mA, ⟨od, es, ep, k _ _ (.inl rfl) e, c⟩, r⟩
  | rng lo hi => obtain ⟨t, u, v, e⟩ := x; exact ⟨t, u, v, k _ _ (.inl rfl) e⟩
  | frz ob u ih => obtain ⟨e, q⟩ := x; exact ⟨k _ _ (.inl rfl) e, ih q⟩
  | tbl q =>
    rcases (show h.get? a = some { cls := .none, data := .fields #[] } ∨ ∃ c, h.get? a = some { cls := .none, data := .fields #[rawInt q.2.1, rawInt q.2.2, .ref c] } ∧ H c = some (.own a) ∧ h.CodeRec (.ref c) q.1 from x) with e | ⟨c, e, hc, c0, oc, vs, t, ec, hoc, rest⟩
    · exact .inl (k a _ (.inl rfl) e)
    · cases ec
      exact .inr ⟨c, k a _ (.inl rfl) e, ho c hc, c, oc, vs, t, rfl, k c _ (.inr hc) hoc, rest⟩
  | met f y =>
    have e : h.get? a = some (PySem.W.methodObj (.ref f) (.ref y)) := x
    show h'.get? a = some (PySem.W.methodObj (.ref f) (.ref y))
    exact k a _ (.inl rfl) e
  | ext φ => obtain ⟨p, ⟨o, e⟩, st⟩ := x; exact ⟨st _ _ p fun o q => k _ _ (.inl rfl) q, ⟨o, k _ _ (.inl rfl) e⟩, st⟩
theorem HOk.lt (x : HOk P w H h) (e : H a = some o) : a < h.objs.size := (x a o e).lt
theorem HOk.fresh (x : HOk P w H h) (e : h.objs.size ≤ a) : H a = none := by
  cases q : H a with
  | none => rfl
  | some u => exact absurd (Nat.lt_of_lt_of_le (x.lt q) e) (Nat.lt_irrefl _)
theorem HOk.kept (x : HOk P w H h) (k : ∀ b u, h.get? b = some u → h'.get? b = some u) : HOk P w H h' := fun a o e =>
  (x a o e).stay (fun b u _ q => k b u q) (fun _ q => q) fun _ _ q => q
theorem HOk.laid (x : HOk P w H h) (k : ∀ b u, h.get? b = some u → h'.get? b = some u) (hp : h.objs.size ≤ a) (new : ObjOk P w (upd H a o) h' a o) : HOk P w (upd H a o) h' := fun b u e => by
  have hn := x.fresh hp
  by_cases hb : b = a
  · subst hb; rw [upd_same] at e; cases e; exact new
  · rw [upd_ne hb] at e
    exact (x b u e).stay (fun c v _ q => k c v q) (fun c q => by rw [upd_ne (ne_of_none q hn)]; exact q) fun c xs q => by rw [upd_ne (ne_of_none q hn)]; exact q
end

def Rd (H : Hp) (a : Addr) (u : HO) : Prop := H a = some u ∨ ∃ o, H a = some (.frz o u)
theorem Rd.ok {P : Program} {w : World} {H : Hp} {h : Heap} {a : Addr} {u : HO} (r : Rd H a u) (x : HOk P w H h) : ObjOk P w H h a u := by
  rcases r with r | ⟨o, r⟩
  · exact x a u r
  · obtain ⟨_, q⟩ := x a _ r
    exact q
def Mut : Option HO → Prop
  | some (.lst _) => True
  | some (.dK _) => True
  | some (.dT _) => True
  | some (.set _ _) => True
  | some (.ins _ _ _) => True
  | some (.ext _) => True
  | _ => False
section
variable {P : Program} {w : World} {H : Hp} {h h' : Heap} {x e : Addr} {o' : HO}
theorem HOk.write (ok : HOk P w H h) (mu : Mut (H x)) (he : e = x ∨ H e = some (.own x)) (k : ∀ b u, b ≠ e → h.get? b = some u → h'.get? b = some u) (heo : ∃ u, h'.get? e = some u)
    (new : ObjOk P w (upd H x o') h' x o') : HOk P w (upd H x o') h' := fun b u q => by
  have nown : ∀ c y, H c = some (.own y) → c ≠ x := fun c y r z => by subst z; rw [r] at mu; exact mu
  have ntup : ∀ c xs, H c = some (.tup xs) → c ≠ x := fun c xs r z => by subst z; rw [r] at mu; exact mu
  by_cases hb : b = x
  · subst hb; rw [upd_same] at q; cases q; exact new
  · rw [upd_ne hb] at q
    by_cases hbe : b = e
    · have q' : H b = some (.own x) := by
        rcases he with z | z
        · exact absurd (hbe.trans z) hb
        · rw [hbe]; exact z
      rw [q] at q'; cases q'
      obtain ⟨v, hv⟩ := heo
      exact ⟨v, by rw [hbe]; exact hv⟩
    · refine (ok b u q).stay (fun c v hc r => k c v ?_ r) (fun c r => by rw [upd_ne (nown c b r)]; exact r) fun c xs r => by rw [upd_ne (ntup c xs r)]; exact r
      rcases hc with rfl | hc
      · exact hbe
      · rintro rfl
        rcases he with z | z
        · exact nown c b hc z
        · rw [hc] at z; cases z; exact hb rfl
end

structure Un (fs ex : List Addr) (H H' : Hp) (h h' : Heap) : Prop where
  keep : ∀ b o, h.get? b = some o → H b = none → b ∉ fs → b ∉ ex → h'.get? b = some o
  slot : ∀ b o, h.get? b = some o → H b = none → b ∈ fs → b ∉ ex → ∃ sl, h'.get? b = some { o with slots := sl }
  free : ∀ b o, h.get? b = some o → H b = none → b ∉ ex → H' b = none
  there : ∀ b o, h.get? b = some o → b ∉ ex → ∃ o', h'.get? b = some o'
  tups : ∀ b xs, H b = some (.tup xs) → H' b = some (.tup xs)
  frzs : ∀ b o u, H b = some (.frz o u) → H' b = some (.frz o u)
  tbls : ∀ b ps, H b = some (.tbl ps) → H' b = some (.tbl ps) ∧ ∀ c o, H c = some (.own b) → h.get? c = some o → H' c = some (.own b) ∧ h'.get? c = some o
section
variable {fs fs' ex ex' : List Addr} {H H1 H2 : Hp} {h h1 h2 h' : Heap} {a x e : Addr} {o : HO}
theorem Un.any (u : Un fs ex H H1 h h1) {b : Addr} {ob : Obj} (q : h.get? b = some ob) (n : H b = none) (hx : b ∉ ex) : ∃ sl, h1.get? b = some { ob with slots := sl } := by
  by_cases hb : b ∈ fs
  · exact u.slot b ob q n hb hx
  · exact ⟨ob.slots, u.keep b ob q n hb hx⟩
theorem Un.trans (a : Un fs ex H H1 h h1) (b : Un fs ex H1 H2 h1 h2) : Un fs ex H H2 h h2 where
  keep := fun c ob q n hc hx => b.keep c ob (a.keep c ob q n hc hx) (a.free c ob q n hx) hc hx
  slot := fun c ob q n hc hx => by
    obtain ⟨sl, e1⟩ := a.slot c ob q n hc hx
    obtain ⟨sl', e2⟩ := b.slot c _ e1 (a.free c ob q n hx) hc hx
    exact ⟨sl', e2⟩
  free := fun c ob q n hx => by
    obtain ⟨o', e1⟩ := a.there c ob q hx
    exact b.free c o' e1 (a.free c ob q n hx) hx
  there := fun c ob q hx => by
    obtain ⟨o', e1⟩ := a.there c ob q hx
    exact b.there c o' e1 hx
  tups := fun c xs q => b.tups c xs (a.tups c xs q)
  frzs := fun c ob xs q => b.frzs c ob xs (a.frzs c ob xs q)
  tbls := fun c ps q => ⟨(b.tbls c ps (a.tbls c ps q).1).1, fun d o e x => let z := (a.tbls c ps q).2 d o e x; (b.tbls c ps (a.tbls c ps q).1).2 d o z.1 z.2⟩
theorem Un.kept (k : ∀ b u, h.get? b = some u → h'.get? b = some u) : Un fs ex H H h h' :=
  ⟨fun b ob q _ _ _ => k b ob q, fun b ob q _ _ _ => ⟨ob.slots, k b ob q⟩, fun _ _ _ n _ => n, fun b ob q _ => ⟨ob, k b ob q⟩, fun _ _ q => q, fun _ _ _ q => q, fun _ _ q => ⟨q, fun c o e x => ⟨e, k c o x⟩⟩⟩
theorem Un.refl : Un fs ex H H h h := Un.kept fun _ _ q => q
theorem Un.laid (k : ∀ b u, h.get? b = some u → h'.get? b = some u) (hp : h.objs.size ≤ a) (hn : H a = none) : Un fs ex H (upd H a o) h h' where
  keep := fun b u q _ _ _ => k b u q
  slot := fun b u q _ _ _ => ⟨u.slots, k b u q⟩
  free := fun b u q n _ => by rw [upd_ne (Nat.ne_of_lt (Nat.lt_of_lt_of_le (Heap.lt_size q) hp))]; exact n
  there := fun b u q _ => ⟨u, k b u q⟩
  tups := fun b xs q => by rw [upd_ne (ne_of_none q hn)]; exact q
  frzs := fun b u xs q => by rw [upd_ne (ne_of_none q hn)]; exact q
  tbls := fun b ps q => ⟨by rw [upd_ne (ne_of_none q hn)]; exact q, fun c u e x => ⟨by rw [upd_ne (ne_of_none e hn)]; exact e, k c u x⟩⟩
theorem Un.write (mu : Mut (H x)) (he : e = x ∨ H e = some (.own x)) (k : ∀ b u, b ≠ e → h.get? b = some u → h'.get? b = some u) (heo : ∃ u, h'.get? e = some u) : Un fs ex H (upd H x o) h h' := by
  have hx : ∀ b, H b = none → b ≠ x := fun b n z => by subst z; rw [n] at mu; exact mu
  have hb : ∀ b, H b = none → b ≠ e := fun b n z => by
    subst z
    rcases he with r | r
    · exact hx b n r
    · rw [n] at r; cases r
  have hm : ∀ b u, H b = some u → ¬ Mut (some u) → b ≠ x := fun b u q nm z => by subst z; rw [q] at mu; exact nm mu
  refine ⟨fun b u q n _ _ => k b u (hb b n) q, fun b u q n _ _ => ⟨u.slots, k b u (hb b n) q⟩, fun b u q n _ => by rw [upd_ne (hx b n)]; exact n, fun b u q _ => ?_,
    fun b xs q => by rw [upd_ne (hm b _ q fun z => z)]; exact q, fun b u xs q => by rw [upd_ne (hm b _ q fun z => z)]; exact q, fun b ps q => ⟨by rw [upd_ne (hm b _ q fun z => z)]; exact q, fun c u hc x => ⟨by rw [upd_ne (hm c _ hc fun z => z)]; exact hc, k c u (fun z => he.elim (fun r => hm c _ hc (fun z => z) (z.trans r)) fun r => by rw [← z, hc] at r; cases r; rw [q] at mu; exact mu) x⟩⟩⟩
  by_cases hbe : b = e
  · subst hbe; exact heo
  · exact ⟨u, k b u hbe q⟩
theorem Un.mono (u : Un fs ex H H1 h h1) (hs : ∀ b ∈ fs, b ∈ fs') (hx : ∀ b ∈ ex, b ∈ ex') : Un fs' ex' H H1 h h1 :=
  ⟨fun b ob q n hb he => u.keep b ob q n (fun z => hb (hs b z)) fun z => he (hx b z), fun _ _ q n _ he => u.any q n fun z => he (hx _ z), fun b ob q n he => u.free b ob q n fun z => he (hx b z), fun b ob q he => u.there b ob q fun z => he (hx b z), u.tups, u.frzs, u.tbls⟩
end

def trk (h : Heap) (H : Hp) : List Addr := (List.range h.objs.size).filter fun a => (H a).isSome
def hidT (h : Heap) (H : Hp) : Heap := PySem.W.hideAll h (trk h H)
theorem hidT_size (h : Heap) (H : Hp) : (hidT h H).objs.size = h.objs.size := PySem.W.hideAll_size _ _
theorem hidT_get {h : Heap} {H : Hp} {b : Addr} {o : Obj} (e : h.get? b = some o) (n : H b = none) : (hidT h H).get? b = some o :=
  PySem.W.hideAll_get _ e fun hm => by
    have q : (H b).isSome = true := (List.mem_filter.mp hm).2
    rw [n] at q; simp at q
theorem of_hidT {h : Heap} {H : Hp} {b : Addr} {o : Obj} (e : (hidT h H).get? b = some o) : h.get? b = some o ∧ H b = none := by
  have e' : h.get? b = some o := PySem.W.of_hideAll (trk h H) e
  refine ⟨e', ?_⟩
  cases q : H b with
  | none => rfl
  | some x =>
    have hm : b ∈ trk h H := List.mem_filter.mpr ⟨List.mem_range.mpr (Heap.lt_size e'), by simp [q]⟩
    have z : (hidT h H).get? b = none := PySem.W.hideAll_none (trk h H) hm
    rw [z] at e; cases e

def allNews (g h : Heap) (L : Addr) : List (Addr × Obj) := (List.range h.objs.size).filterMap fun a => if a = L ∨ (g.get? a).isSome = true then none else (h.get? a).map fun o => (a, o)
def rest (g h : Heap) (L d : Addr) : List (Addr × Obj) := (allNews g h L).filter fun p => decide (p.1 ≠ d)
end L2

namespace L2
open PySem PySem.Spec PyProof.Rows

structure Mod (K : PySem.W.Frag) (mg : Str → Option Value) (base : Heap) : Prop where
  kin : K.In base
  glob : base.Ns mainGlobals mg
  blt : ∃ mb, base.Ns builtinsNs mb ∧ ∀ x : Str, x ≠ "__name__" → mb x = bootBuiltins x
  nolimit : base.NoLimit

structure Cx where
  prog : Program
  w : World
  K : PySem.W.Frag
  mg : Str → Option Value
  base : Heap
  A : Around
  N : List Str
  s₀ : Shared
  H₀ : Hp
  env : Env
  outer : List Env
  stack : List Env
  ex : List Addr
  fn : Str → Bool
  calm : Bool
  pn : List (Addr × Obj)
  xe : Value → Shared → Prop
def frs (l : List Env) : List Addr := l.filterMap (·.frame)
abbrev Cx.fs (X : Cx) : List Addr := frs X.outer

def Vis (sc : Scope) (x : Str) : Prop := sc.names.lookup x = some .local ∨ sc.names.lookup x = some .cell ∨ sc.names.lookup x = some .free
def Loc (sc : Scope) (x : Str) : Prop := sc.names.lookup x = some .local ∨ sc.names.lookup x = some .cell
def Look (env : Env) (h : Heap) (m : Str → Option Value) (x : Str) (u : Value) : Prop :=
  (env.kindOf x = some .local ∧ m x = some u) ∨ ((env.kindOf x = some .cell ∨ env.kindOf x = some .free) ∧ ∃ c, env.cells.lookup x = some c ∧ h.IsCell c (some u))

structure Cx.Ok (X : Cx) : Prop where
  mod : Mod X.K X.mg X.base
  kind : X.env.scope.kind = .function
  glob : X.env.globals = mainGlobals
  blt : X.env.builtins = builtinsNs
  above : X.s₀.heap.objs.size ≤ X.env.locals
  inj : ∀ x y c, X.env.cells.lookup x = some c → X.env.cells.lookup y = some c → x = y
  has : ∀ x, (X.env.kindOf x = some .cell ∨ X.env.kindOf x = some .free) → ∃ c, X.env.cells.lookup x = some c
  cab : ∀ x c, X.fn x = true → X.env.cells.lookup x = some c → X.s₀.heap.objs.size ≤ c
  hd : X.calm = true → X.A.handled = none
  frames : X.A.frames = some X.stack
  stk : X.stack = X.outer ∨ (X.stack = X.env :: X.outer ∧ X.env.frame = some X.env.locals)
  exf : ∀ b ∈ X.ex, b ≠ X.env.locals ∧ ∀ x c, X.env.cells.lookup x = some c → c ≠ b
  bs : ∀ b o, X.base.get? b = some o → X.s₀.heap.get? b = some o ∧ X.H₀ b = none
  bsz : X.base.objs.size ≤ X.s₀.heap.objs.size
  noex : ∀ b o, X.base.get? b = some o → b ∉ X.ex
  exfs : ∀ b ∈ X.ex, b ∉ X.fs
  funs : X.s₀.heap.FunFrames X.base X.outer
  frf : ∀ b ∈ X.fs, X.H₀ b = none

structure Inv (X : Cx) (pins : List (Addr × Obj)) (σ : List (Option V)) (H : Hp) (s : Shared) : Prop where
  ok : X.Ok
  os : s.os = X.s₀.os
  bare : AllBare s.gens
  base : Un X.fs X.ex X.H₀ H X.s₀.heap s.heap
  loc : ∃ m, s.heap.Ns X.env.locals m ∧ ∀ (i : Nat) (x : Str) (v : V), X.N[i]? = some x → σ[i]? = some (some v) → Vis X.env.scope x → ∃ u, RelV v u ∧ Look X.env s.heap m x u
  cell : ∀ x c, X.env.cells.lookup x = some c → ∃ v, s.heap.IsCell c v
  free : H X.env.locals = none
  freeC : ∀ x c, X.env.cells.lookup x = some c → H c = none
  pin : ∀ p ∈ X.pn ++ pins, s.heap.get? p.1 = some p.2 ∧ H p.1 = none ∧ p.1 ≠ X.env.locals ∧ p.1 ∉ X.fs ∧ ∀ v, p.2.data ≠ .cell v
  hok : HOk X.prog X.w H s.heap
  len : σ.length = X.N.length

section
variable {X : Cx} {pins : List (Addr × Obj)} {σ : List (Option V)} {H H' : Hp} {s : Shared} {h' : Heap}

theorem Cx.Ok.nofr (ok : X.Ok) {b : Addr} {o : Obj} (e : X.base.get? b = some o) : b ∉ X.fs := fun hb => by
  have := (ok.funs.mem hb).1
  rw [e] at this; cases this
theorem Inv.bs (I : Inv X pins σ H s) : ∀ b o, X.base.get? b = some o → s.heap.get? b = some o ∧ H b = none := fun b o e =>
  ⟨I.base.keep b o (I.ok.bs b o e).1 (I.ok.bs b o e).2 (I.ok.nofr e) (I.ok.noex b o e), I.base.free b o (I.ok.bs b o e).1 (I.ok.bs b o e).2 (I.ok.noex b o e)⟩
theorem Inv.bk (I : Inv X pins σ H s) : ∀ b o, X.base.get? b = some o → s.heap.get? b = some o := fun b o e => (I.bs b o e).1
theorem Inv.mod (I : Inv X pins σ H s) : Mod X.K X.mg X.base := I.ok.mod
theorem Inv.kIn (I : Inv X pins σ H s) : X.K.In s.heap := I.ok.mod.kin.keeps I.bk
theorem Inv.fr (I : Inv X pins σ H s) : ∃ m, Fr X.base X.env.locals s.heap m :=
  let ⟨m, hn, _⟩ := I.loc
  ⟨m, hn, I.bk, Nat.le_trans I.ok.bsz I.ok.above⟩
theorem Inv.lt (I : Inv X pins σ H s) : X.env.locals < s.heap.objs.size := let ⟨_, hn, _⟩ := I.loc; hn.lt
theorem Inv.sz (I : Inv X pins σ H s) : X.s₀.heap.objs.size ≤ s.heap.objs.size := Nat.le_trans I.ok.above (Nat.le_of_lt I.lt)
theorem Inv.nofs (I : Inv X pins σ H s) {a : Addr} (h : s.heap.objs.size ≤ a) : a ∉ X.fs := fun hb => by
  obtain ⟨_, o, ho, _⟩ := I.ok.funs.mem hb
  exact absurd (Nat.lt_of_lt_of_le (Heap.lt_size ho) (Nat.le_trans I.sz h)) (Nat.lt_irrefl _)
theorem Inv.cne (I : Inv X pins σ H s) : ∀ x c, X.env.cells.lookup x = some c → c ≠ X.env.locals := fun x c e z => by
  obtain ⟨v, o, ho, hd⟩ := I.cell x c e
  obtain ⟨m, ⟨o', es, ep, ho', hd', _⟩, _⟩ := I.loc
  rw [z, ho'] at ho; cases ho; rw [hd'] at hd; cases hd
theorem Inv.funs (I : Inv X pins σ H s) : s.heap.FunFrames X.base X.outer := by
  have all : ∀ (l : List Env), (∀ b ∈ frs l, b ∈ X.fs) → X.s₀.heap.FunFrames X.base l → s.heap.FunFrames X.base l := by
    intro l
    induction l with
    | nil => intro _ _; trivial
    | cons env r ih =>
      intro hs hl
      obtain ⟨hk, ⟨L, o, hf, hn, ho, hd⟩, hr⟩ := hl
      have hL : L ∈ X.fs := hs L (by unfold frs; rw [List.filterMap_cons, hf]; exact List.mem_cons_self)
      obtain ⟨sl, e⟩ := I.base.slot L o ho (I.ok.frf L hL) hL fun z => I.ok.exfs L z hL
      exact ⟨hk, ⟨L, _, hf, hn, e, hd⟩, ih (fun b hb => hs b (by unfold frs; rw [List.filterMap_cons, hf]; exact List.mem_cons_of_mem _ hb)) hr⟩
  exact all X.outer (fun _ hb => hb) I.ok.funs

theorem Inv.stack (I : Inv X pins σ H s) : s.heap.FunFrames X.base X.stack := by
  rcases I.ok.stk with e | ⟨e, hf⟩
  · rw [e]; exact I.funs
  · rw [e]
    obtain ⟨m, hn, _⟩ := I.loc
    refine .cons (by rw [I.ok.kind]; decide) hf hn ?_ I.funs
    exact Heap.get?_none_of_le (Nat.le_trans I.ok.bsz I.ok.above)
theorem Inv.stkSub (I : Inv X pins σ H s) : ∀ b ∈ frs X.stack, b ∈ X.env.locals :: X.fs := fun b hb => by
  rcases I.ok.stk with e | ⟨e, hf⟩
  · rw [e] at hb; exact List.mem_cons_of_mem _ hb
  · rw [e] at hb
    unfold frs at hb
    rw [List.filterMap_cons, hf] at hb
    exact hb
theorem Inv.stkFree (I : Inv X pins σ H s) : ∀ b ∈ frs X.stack, H b = none := fun b hb => by
  rcases List.mem_cons.mp (I.stkSub b hb) with e | hb
  · rw [e]; exact I.free
  · obtain ⟨_, o, ho, _⟩ := I.ok.funs.mem hb
    exact I.base.free b o ho (I.ok.frf b hb) fun z => I.ok.exfs b z hb

theorem Inv.step {g' : Array GenState} {t' : Nat} {d' : Drawn} {ch : List Addr} (I : Inv X pins σ H s)
    (hch : ∀ b ∈ ch, (b ∈ X.ex ∨ X.s₀.heap.objs.size ≤ b) ∧ b ≠ X.env.locals ∧ (∀ x c, X.env.cells.lookup x = some c → c ≠ b) ∧ ∀ p ∈ X.pn ++ pins, p.1 ≠ b)
    (keep : ∀ b o, b ≠ X.env.locals → b ∉ X.fs → b ∉ ch → s.heap.get? b = some o → H b = none → h'.get? b = some o)
    (slot : ∀ b o, b ≠ X.env.locals → b ∈ X.fs → b ∉ ch → s.heap.get? b = some o → H b = none → ∃ sl, h'.get? b = some { o with slots := sl }) (free : ∀ b o, b ∉ ch → s.heap.get? b = some o → H b = none → H' b = none)
    (there : ∀ b o, b ∉ ch → s.heap.get? b = some o → ∃ o', h'.get? b = some o')
    (tups : ∀ b xs, H b = some (.tup xs) → H' b = some (.tup xs)) (frzs : ∀ b o u, H b = some (.frz o u) → H' b = some (.frz o u)) (tbls : ∀ b ps, H b = some (.tbl ps) → H' b = some (.tbl ps) ∧ ∀ c o, H c = some (.own b) → s.heap.get? c = some o → H' c = some (.own b) ∧ h'.get? c = some o)
    (ns : ∀ m, s.heap.Ns X.env.locals m → h'.Ns X.env.locals m) (hok : HOk X.prog X.w H' h') (hg : AllBare g') :
    Inv X pins σ H' { s with heap := h', gens := g', drawn := d', toks := t' } := by
  have neL : ∀ b o, X.s₀.heap.get? b = some o → b ≠ X.env.locals := fun b o e => Nat.ne_of_lt (Nat.lt_of_lt_of_le (Heap.lt_size e) I.ok.above)
  have neC : ∀ b o, X.s₀.heap.get? b = some o → b ∉ X.ex → b ∉ ch := fun b o e hx hb => by
    rcases (hch b hb).1 with z | z
    · exact hx z
    · exact absurd (Nat.lt_of_lt_of_le (Heap.lt_size e) z) (Nat.lt_irrefl _)
  have cellK : ∀ x c, X.env.cells.lookup x = some c → ∀ v, s.heap.IsCell c v → h'.IsCell c v := fun x c e v ⟨o, ho, hd⟩ => by
    have nch : c ∉ ch := fun z => (hch c z).2.2.1 x c e rfl
    by_cases hc : c ∈ X.fs
    · obtain ⟨sl, q⟩ := slot c o (I.cne x c e) hc nch ho (I.freeC x c e)
      exact ⟨_, q, hd⟩
    · exact ⟨o, keep c o (I.cne x c e) hc nch ho (I.freeC x c e), hd⟩
  refine ⟨I.ok, I.os, hg, ⟨fun b o e n hb hx => ?_, fun b o e n hb hx => ?_, fun b o e n hx => ?_, fun b o e hx => ?_, fun b xs e => tups b xs (I.base.tups b xs e), fun b o xs e => frzs b o xs (I.base.frzs b o xs e), fun b ps e => ?_⟩, ?_, fun x c e => ?_, ?_, fun x c e => ?_, fun p hp => ?_, hok, I.len⟩
  · exact keep b o (neL b o e) hb (neC b o e hx) (I.base.keep b o e n hb hx) (I.base.free b o e n hx)
  · obtain ⟨sl, e1⟩ := I.base.slot b o e n hb hx
    obtain ⟨sl', e2⟩ := slot b _ (neL b o e) hb (neC b o e hx) e1 (I.base.free b o e n hx)
    exact ⟨sl', e2⟩
  · obtain ⟨o', e1⟩ := I.base.there b o e hx
    exact free b o' (neC b o e hx) e1 (I.base.free b o e n hx)
  · obtain ⟨o', e1⟩ := I.base.there b o e hx
    exact there b o' (neC b o e hx) e1
  · exact ⟨(tbls b ps (I.base.tbls b ps e).1).1, fun c o e1 x => let z := (I.base.tbls b ps e).2 c o e1 x; (tbls b ps (I.base.tbls b ps e).1).2 c o z.1 z.2⟩
  · obtain ⟨m, hn, hl⟩ := I.loc
    refine ⟨m, ns m hn, fun i x v e1 e2 e3 => ?_⟩
    obtain ⟨u, r, l⟩ := hl i x v e1 e2 e3
    refine ⟨u, r, ?_⟩
    rcases l with l | ⟨k, c, e, z⟩
    · exact .inl l
    · exact .inr ⟨k, c, e, cellK x c e _ z⟩
  · obtain ⟨v, z⟩ := I.cell x c e
    exact ⟨v, cellK x c e v z⟩
  · obtain ⟨m, ⟨o, _, _, ho, _⟩, _⟩ := I.loc
    exact free _ o (fun z => (hch _ z).2.1 rfl) ho I.free
  · obtain ⟨v, o, ho, hd⟩ := I.cell x c e
    exact free c o (fun z => (hch c z).2.2.1 x c e rfl) ho (I.freeC x c e)
  · obtain ⟨e, n, ne, nf, d⟩ := I.pin p hp
    have nch : p.1 ∉ ch := fun z => (hch p.1 z).2.2.2 p hp rfl
    exact ⟨keep p.1 p.2 ne nf nch e n, free p.1 p.2 nch e n, ne, nf, d⟩
theorem Inv.un {t' : Nat} (I : Inv X pins σ H s) (u : Un X.fs [] H H' s.heap h') (hok : HOk X.prog X.w H' h') : Inv X pins σ H' { s with heap := h', toks := t' } := by
  obtain ⟨m, ⟨o, es, ep, ho, r⟩, _⟩ := id I.loc
  obtain ⟨sl, hL⟩ := u.any ho I.free (by simp)
  exact I.step (g' := s.gens) (d' := s.drawn) (ch := []) (fun _ z => nomatch z) (fun b o _ hb _ e n => u.keep b o e n hb (by simp)) (fun b o _ hb _ e n => u.slot b o e n hb (by simp)) (fun b o _ e n => u.free b o e n (by simp)) (fun b o _ e => u.there b o e (by simp)) u.tups u.frzs u.tbls (fun m' hm => by
    obtain ⟨o', es', ep', ho', r'⟩ := hm
    rw [ho] at ho'; cases ho'
    exact ⟨_, es', ep', hL, r'⟩) hok I.bare
theorem Inv.call {g' : Array GenState} {t' : Nat} {d' : Drawn} {ch : List Addr} (I : Inv X pins σ H s) (u : Un (frs X.stack) ch H H' s.heap h') (hok : HOk X.prog X.w H' h') (hg : AllBare g')
    (hch : ∀ b ∈ ch, (b ∈ X.ex ∨ X.s₀.heap.objs.size ≤ b) ∧ b ≠ X.env.locals ∧ (∀ x c, X.env.cells.lookup x = some c → c ≠ b) ∧ ∀ p ∈ X.pn ++ pins, p.1 ≠ b) :
    Inv X pins σ H' { s with heap := h', gens := g', drawn := d', toks := t' } := by
  obtain ⟨m, ⟨o, es, ep, ho, r⟩, _⟩ := id I.loc
  obtain ⟨sl, hL⟩ := u.any ho I.free fun z => (hch _ z).2.1 rfl
  exact I.step (ch := ch) hch (fun b o hL hb hc e n => u.keep b o e n (fun z => (List.mem_cons.mp (I.stkSub b z)).elim hL hb) hc) (fun b o _ _ hc e n => u.any e n hc) (fun b o hc e n => u.free b o e n hc) (fun b o hc e => u.there b o e hc) u.tups u.frzs u.tbls (fun m' hm => by
    obtain ⟨o', es', ep', ho', r'⟩ := hm
    rw [ho] at ho'; cases ho'
    exact ⟨_, es', ep', hL, r'⟩) hok hg
theorem Inv.turned {t' : Nat} {it : Addr} (I : Inv X pins σ H s) (k : ∀ b o, b ≠ it → s.heap.get? b = some o → h'.get? b = some o) (hn : H it = none) (hL : it ≠ X.env.locals)
    (h1 : it ∈ X.ex ∨ X.s₀.heap.objs.size ≤ it) (h2 : ∀ x c, X.env.cells.lookup x = some c → c ≠ it) (h3 : ∀ p ∈ X.pn ++ pins, p.1 ≠ it) : Inv X pins σ H { s with heap := h', toks := t' } := by
  have nit : ∀ b u, H b = some u → b ≠ it := fun b u e z => by rw [z, hn] at e; cases e
  refine I.step (g' := s.gens) (d' := s.drawn) (ch := [it]) (fun b hb => ?_) (fun b o _ _ hc e _ => k b o (fun z => hc (by simp [z])) e) (fun b o _ _ hc e _ => ⟨o.slots, k b o (fun z => hc (by simp [z])) e⟩) (fun _ _ _ _ n => n)
    (fun b o hc e => ⟨o, k b o (fun z => hc (by simp [z])) e⟩) (fun _ _ e => e) (fun _ _ _ e => e) (fun b ps e => ⟨e, fun c o ec x => ⟨ec, k c o (nit c _ ec) x⟩⟩) (fun m hm => ?_) (fun b u e => ?_) I.bare
  · have e : b = it := by simpa using hb
    subst e
    exact ⟨h1, hL, h2, h3⟩
  · obtain ⟨o, es, ep, ho, r⟩ := hm
    exact ⟨o, es, ep, k _ o (Ne.symm hL) ho, r⟩
  · refine (I.hok b u e).stay (fun c v hc q => k c v ?_ q) (fun _ q => q) fun _ _ q => q
    rcases hc with z | z
    · rw [z]; exact nit b u e
    · exact nit c _ z
theorem Inv.tok (I : Inv X pins σ H s) (t : Nat) : Inv X pins σ H { s with toks := t } := I.un (h' := s.heap) (t' := t) Un.refl I.hok
theorem Inv.kept {t' : Nat} (I : Inv X pins σ H s) (k : ∀ b u, s.heap.get? b = some u → h'.get? b = some u) : Inv X pins σ H { s with heap := h', toks := t' } := I.un (Un.kept k) (I.hok.kept k)
theorem Inv.laid {a : Addr} {o : HO} {t' : Nat} (I : Inv X pins σ H s) (k : ∀ b u, s.heap.get? b = some u → h'.get? b = some u) (hp : s.heap.objs.size ≤ a) (new : ObjOk X.prog X.w (upd H a o) h' a o) :
    Inv X pins σ (upd H a o) { s with heap := h', toks := t' } := I.un (Un.laid k hp (I.hok.fresh hp)) (I.hok.laid k hp new)
theorem Inv.write {x e : Addr} {o : HO} {t' : Nat} (I : Inv X pins σ H s) (mu : Mut (H x)) (he : e = x ∨ H e = some (.own x)) (k : ∀ b u, b ≠ e → s.heap.get? b = some u → h'.get? b = some u) (heo : ∃ u, h'.get? e = some u)
    (new : ObjOk X.prog X.w (upd H x o) h' x o) : Inv X pins σ (upd H x o) { s with heap := h', toks := t' } := I.un (Un.write mu he k heo) (I.hok.write mu he k heo new)
theorem Inv.weak {σ' : List (Option V)} (I : Inv X pins σ H s) (hl : σ'.length = σ.length) (w : ∀ (i : Nat) v, σ'[i]? = some (some v) → σ[i]? = some (some v)) : Inv X pins σ' H s :=
  ⟨I.ok, I.os, I.bare, I.base, let ⟨m, hn, hl'⟩ := I.loc; ⟨m, hn, fun i x v e1 e2 e3 => hl' i x v e1 (w i v e2) e3⟩, I.cell, I.free, I.freeC, I.pin, I.hok, hl.trans I.len⟩
theorem Inv.pins_of {pins' : List (Addr × Obj)} (I : Inv X pins σ H s) (h : ∀ p ∈ pins', s.heap.get? p.1 = some p.2 ∧ H p.1 = none ∧ p.1 ≠ X.env.locals ∧ p.1 ∉ X.fs ∧ ∀ v, p.2.data ≠ .cell v) : Inv X pins' σ H s :=
  ⟨I.ok, I.os, I.bare, I.base, I.loc, I.cell, I.free, I.freeC, fun p hp => (List.mem_append.mp hp).elim (fun z => I.pin p (List.mem_append_left _ z)) (h p), I.hok, I.len⟩

theorem nodup_ix {N : List Str} (hN : N.Nodup) {i j : Nat} {x : Str} (a : N[i]? = some x) (b : N[j]? = some x) : i = j := by
  obtain ⟨h1, e1⟩ := List.getElem?_eq_some_iff.mp a
  obtain ⟨h2, e2⟩ := List.getElem?_eq_some_iff.mp b
  exact (List.getElem_inj hN).mp (e1.trans e2.symm)

theorem store_ok2 {M : Model} {A : Around} {E : Value → Shared → Prop} {i : Nat} {x : Str} {v : V} {u : Value} {Q : Unit → Shared → Prop} (I : Inv X pins σ H s) (hN : X.N.Nodup) (hi : X.N[i]? = some x) (hx : Loc X.env.scope x) (r : RelV v u)
    (h : ∀ s', Inv X pins (σ.set i (some v)) H s' → (∃ a, Heap.SameBut a s.heap s'.heap ∧ (a = X.env.locals ∨ X.env.cells.lookup x = some a)) → Q () s') (hf : X.fn x = true ∨ X.env.scope.names.lookup x = some .local := by first | exact .inl rfl | exact .inr rfl | assumption) : wpAny M A (storeName X.env x u) Q E s := by
  obtain ⟨m, hn, hl⟩ := id I.loc
  have hcls : (X.env.scope.kind == .class || (X.env.scope.kind == .module && X.env.locals != X.env.globals)) = false := by rw [I.ok.kind]; rfl
  have hiσ : i < σ.length := by rw [I.len]; exact (List.getElem?_eq_some_iff.mp hi).1
  have cne := I.cne
  have tracked : ∀ {a : Addr} {h' : Heap}, (∃ o, s.heap.get? a = some o ∧ H a = none) → Heap.SameBut a s.heap h' → HOk X.prog X.w H h' := fun {a h'} ha hs b ob e => by
    obtain ⟨_, _, hfree⟩ := ha
    refine (I.hok b ob e).stay (fun c w' hc q => (hs.2 c ?_).trans q) (fun _ q => q) fun _ _ q => q
    rintro rfl
    rcases hc with rfl | hc
    · rw [hfree] at e; cases e
    · rw [hfree] at hc; cases hc
  rcases hx with hk | hk
  · refine wpAny_storeName_local hk hn (fun h' hn' hs => ?_) hcls
    obtain ⟨oL, _, _, hoL, _⟩ := id hn
    refine h _ ⟨I.ok, I.os, I.bare, ⟨fun b o e n hb hx => ?_, fun b o e n hb hx => ?_, I.base.free, fun b o e hx => ?_, I.base.tups, I.base.frzs, fun b ps e => ⟨(I.base.tbls b ps e).1, fun d o e1 x1 => let z := (I.base.tbls b ps e).2 d o e1 x1; ⟨z.1, (hs.2 d (ne_of_none z.1 I.free)).trans z.2⟩⟩⟩, ⟨_, hn', fun j y v' e1 e2 e3 => ?_⟩, fun y c e => ?_, I.free, I.freeC, fun p hp => ?_, tracked ⟨oL, hoL, I.free⟩ hs, by simpa using I.len⟩ ⟨_, hs, .inl rfl⟩
    · exact (hs.2 b (Nat.ne_of_lt (Nat.lt_of_lt_of_le (Heap.lt_size e) I.ok.above))).trans (I.base.keep b o e n hb hx)
    · obtain ⟨sl, e1⟩ := I.base.slot b o e n hb hx
      exact ⟨sl, (hs.2 b (Nat.ne_of_lt (Nat.lt_of_lt_of_le (Heap.lt_size e) I.ok.above))).trans e1⟩
    · obtain ⟨o', e1⟩ := I.base.there b o e hx
      exact ⟨o', (hs.2 b (Nat.ne_of_lt (Nat.lt_of_lt_of_le (Heap.lt_size e) I.ok.above))).trans e1⟩
    · by_cases hj : j = i
      · subst hj
        rw [hi] at e1; cases e1
        rw [List.getElem?_set_self hiσ] at e2
        cases e2
        exact ⟨u, r, .inl ⟨hk, by simp⟩⟩
      · rw [List.getElem?_set_ne (Ne.symm hj)] at e2
        obtain ⟨u', r', q⟩ := hl j y v' e1 e2 e3
        refine ⟨u', r', ?_⟩
        rcases q with ⟨k, e⟩ | ⟨k, c, e, z⟩
        · refine .inl ⟨k, ?_⟩
          have : y ≠ x := fun e => hj (nodup_ix hN e1 (e ▸ hi))
          simp [this, e]
        · exact .inr ⟨k, c, e, z.sameBut hs (cne y c e)⟩
    · obtain ⟨w', z⟩ := I.cell y c e
      exact ⟨w', z.sameBut hs (cne y c e)⟩
    · obtain ⟨e, n, ne, nf, d⟩ := I.pin p hp
      exact ⟨(hs.2 p.1 ne).trans e, n, ne, nf, d⟩
  · have hfn : X.fn x = true := by
      rcases hf with z | z
      · exact z
      · rw [z] at hk; cases hk
    obtain ⟨c, hc⟩ := I.ok.has x (.inl hk)
    obtain ⟨w', z⟩ := I.cell x c hc
    refine wpAny_storeName_cell I.ok.kind hk hc z (fun h' hc' hs => ?_)
    obtain ⟨oc, hoc, hocd⟩ := id z
    refine h { s with heap := h' } ⟨I.ok, I.os, I.bare, ⟨fun b o e n hb hx => ?_, fun b o e n hb hx => ?_, I.base.free, fun b o e hx => ?_, I.base.tups, I.base.frzs, fun b ps e => ⟨(I.base.tbls b ps e).1, fun d o e1 x1 => let z := (I.base.tbls b ps e).2 d o e1 x1; ⟨z.1, (hs.2 d (ne_of_none z.1 (I.freeC x c hc))).trans z.2⟩⟩⟩, ⟨m, hn.sameBut hs (Ne.symm (cne x c hc)), fun j y v' e1 e2 e3 => ?_⟩, fun y c' e => ?_, I.free, I.freeC, fun p hp => ?_, tracked ⟨oc, hoc, I.freeC x c hc⟩ hs, by simpa using I.len⟩ ⟨c, hs, .inr hc⟩
    · exact (hs.2 b (Nat.ne_of_lt (Nat.lt_of_lt_of_le (Heap.lt_size e) (I.ok.cab x c hfn hc)))).trans (I.base.keep b o e n hb hx)
    · obtain ⟨sl, e1⟩ := I.base.slot b o e n hb hx
      exact ⟨sl, (hs.2 b (Nat.ne_of_lt (Nat.lt_of_lt_of_le (Heap.lt_size e) (I.ok.cab x c hfn hc)))).trans e1⟩
    · obtain ⟨o', e1⟩ := I.base.there b o e hx
      exact ⟨o', (hs.2 b (Nat.ne_of_lt (Nat.lt_of_lt_of_le (Heap.lt_size e) (I.ok.cab x c hfn hc)))).trans e1⟩
    · by_cases hj : j = i
      · subst hj
        rw [hi] at e1; cases e1
        rw [List.getElem?_set_self hiσ] at e2
        cases e2
        exact ⟨u, r, .inr ⟨.inl hk, c, hc, hc'⟩⟩
      · rw [List.getElem?_set_ne (Ne.symm hj)] at e2
        obtain ⟨u', r', q⟩ := hl j y v' e1 e2 e3
        refine ⟨u', r', ?_⟩
        rcases q with q | ⟨k, c', e, z'⟩
        · exact .inl q
        · refine .inr ⟨k, c', e, z'.sameBut hs ?_⟩
          rintro rfl
          exact hj (nodup_ix hN e1 (I.ok.inj _ _ _ e hc ▸ hi))
    · by_cases hcc : c' = c
      · subst hcc; exact ⟨_, hc'⟩
      · obtain ⟨w2, z2⟩ := I.cell y c' e
        exact ⟨w2, z2.sameBut hs hcc⟩
    · obtain ⟨e, n, ne, nf, d⟩ := I.pin p hp
      refine ⟨(hs.2 p.1 ?_).trans e, n, ne, nf, d⟩
      intro q
      rw [q, hoc] at e
      have q' : oc = p.2 := Option.some.inj e
      exact d w' (by rw [← q']; exact hocd)
theorem store_ok {M : Model} {A : Around} {E : Value → Shared → Prop} {i : Nat} {x : Str} {v : V} {u : Value} {Q : Unit → Shared → Prop} (I : Inv X pins σ H s) (hN : X.N.Nodup) (hi : X.N[i]? = some x) (hx : Loc X.env.scope x) (r : RelV v u)
    (h : ∀ s', Inv X pins (σ.set i (some v)) H s' → Q () s') (hf : X.fn x = true ∨ X.env.scope.names.lookup x = some .local := by first | exact .inl rfl | exact .inr rfl | assumption) : wpAny M A (storeName X.env x u) Q E s :=
  store_ok2 I hN hi hx r (fun s' I' _ => h s' I') hf
theorem Inv.call' {s' : Shared} {ch : List Addr} (I : Inv X pins σ H s) (ho : s'.os = s.os) (u : Un (frs X.stack) ch H H' s.heap s'.heap) (hok : HOk X.prog X.w H' s'.heap) (hg : AllBare s'.gens)
    (hch : ∀ b ∈ ch, (b ∈ X.ex ∨ X.s₀.heap.objs.size ≤ b) ∧ b ≠ X.env.locals ∧ (∀ x c, X.env.cells.lookup x = some c → c ≠ b) ∧ ∀ p ∈ X.pn ++ pins, p.1 ≠ b) : Inv X pins σ H' s' := by
  obtain ⟨h', g', d', t', o'⟩ := s'
  have e : o' = s.os := ho
  subst e
  exact I.call (g' := g') (t' := t') (d' := d') u hok hg hch
end

abbrev XK := Value → Option Addr → Hp → Prop
abbrev St := List (Option V)
abbrev VK := V → Hp → Prop
abbrev TE := St → Hp → VK → Prop
abbrev TT := St → Hp → (Bool → Hp → Prop) → Prop
abbrev TA := St → Hp → (List V → Hp → Prop) → Prop
structure Ends where
  nx : St → Hp → Prop
  rt : VK
  bk : St → Hp → Prop := fun _ _ => False
  ct : St → Hp → Prop := fun _ _ => False
abbrev TS := Ends → St → Hp → Prop

def EP (X : Cx) (pins : List (Addr × Obj)) (σ : St) (Q : VK) (u : Value) (s' : Shared) : Prop := ∃ v H', Inv X pins σ H' s' ∧ RelV v u ∧ Q v H'
def TP (X : Cx) (pins : List (Addr × Obj)) (σ : St) (Q : Bool → Hp → Prop) (b : Bool) (s' : Shared) : Prop := ∃ H', Inv X pins σ H' s' ∧ Q b H'
def AP (X : Cx) (pins : List (Addr × Obj)) (σ : St) (Q : List V → Hp → Prop) (us : List Value) (s' : Shared) : Prop := ∃ vs H', Inv X pins σ H' s' ∧ Vals vs us ∧ Q vs H'
def SP (X : Cx) (pins : List (Addr × Obj)) (D : Ends) (f : Flow) (s' : Shared) : Prop :=
  match f with
  | .next => ∃ σ' H', Inv X pins σ' H' s' ∧ D.nx σ' H'
  | .brk => ∃ σ' H', Inv X pins σ' H' s' ∧ D.bk σ' H'
  | .cont => ∃ σ' H', Inv X pins σ' H' s' ∧ D.ct σ' H'
  | .ret u => ∃ v σ' H', Inv X pins σ' H' s' ∧ RelV v u ∧ D.rt v H'

def PE (X : Cx) (e : Expr) (t : TE) : Prop :=
  ∀ (pins : List (Addr × Obj)) (s : Shared) (σ : St) (H : Hp) (Q : VK), Inv X pins σ H s → t σ H Q → wpAny (model X.prog X.w) X.A (eval e X.env) (EP X pins σ Q) X.xe s
def PT (X : Cx) (e : Expr) (t : TT) : Prop :=
  ∀ (pins : List (Addr × Obj)) (s : Shared) (σ : St) (H : Hp) (Q : Bool → Hp → Prop), Inv X pins σ H s → t σ H Q → wpAny (model X.prog X.w) X.A (isTrue e X.env (eval e X.env)) (TP X pins σ Q) X.xe s
def PW (X : Cx) (e : Expr) (t : TT) : Prop :=
  ∀ (whole : Sem Value) (pins : List (Addr × Obj)) (s : Shared) (σ : St) (H : Hp) (Q : Bool → Hp → Prop), Inv X pins σ H s → t σ H Q → wpAny (model X.prog X.w) X.A (isTrue e X.env whole) (TP X pins σ Q) X.xe s
theorem PW.pt {X : Cx} {e : Expr} {t : TT} (h : PW X e t) : PT X e t := h _
def PA (X : Cx) (es : List Expr) (t : TA) : Prop :=
  ∀ (pos : Pos) (pins : List (Addr × Obj)) (s : Shared) (σ : St) (H : Hp) (Q : List V → Hp → Prop), Inv X pins σ H s → t σ H Q → wpAny (model X.prog X.w) X.A (spliced (backTo pos (starEach es X.env))) (AP X pins σ Q) X.xe s
def PS (X : Cx) (st : Stmt) (t : TS) : Prop :=
  ∀ (pins : List (Addr × Obj)) (s : Shared) (σ : St) (H : Hp) (D : Ends), Inv X pins σ H s → t D σ H → wpAny (model X.prog X.w) X.A (exec st X.env) (SP X pins D) X.xe s
def PSs (X : Cx) (st : List Stmt) (t : TS) : Prop :=
  ∀ (pins : List (Addr × Obj)) (s : Shared) (σ : St) (H : Hp) (D : Ends), Inv X pins σ H s → t D σ H → wpAny (model X.prog X.w) X.A (execs st X.env) (SP X pins D) X.xe s
theorem thn {α : Type} {t : Sem α} {Q Q' : α → Shared → Prop} {M : Model} {A : Around} {E : Value → Shared → Prop} {s : Shared} (h : wpAny M A t Q E s) (hQ : ∀ a s, Q a s → Q' a s) : wpAny M A t Q' E s := wpAny_mono h hQ fun _ _ x => x
end L2

namespace L2
open PySem PySem.Spec PyProof.Rows
section
variable {X : Cx}

inductive TVar (i : Nat) (σ : St) (H : Hp) (Q : VK) : Prop
  | mk (v : V) (e : σ[i]? = some (some v)) (q : Q v H) : TVar i σ H Q
def tVar (i : Nat) : TE := TVar i
def tC (v : V) : TE := fun _ H Q => Q v H
theorem pe_var {i : Nat} {x : Str} {pos : Pos} (hN : X.N[i]? = some x) (hv : Vis X.env.scope x) (hd : (x == ("__debug__" : Str)) = false := by decide) (hcd : (x == ("__classdict__" : Str)) = false := by decide) : PE X (.Name x pos) (tVar i) := by
  intro pins s σ H Q I h
  obtain ⟨v, e, h⟩ := h
  obtain ⟨m, hn, hl⟩ := I.loc
  obtain ⟨u, r, l⟩ := hl i x v hN e hv
  have fin : EP X pins σ Q u s := ⟨v, H, I, r, h⟩
  rcases l with ⟨hk, hm⟩ | ⟨hk, c, hc, hcell⟩
  · exact wpAny_Name (wpAny_loadName_local I.ok.kind hk hn hm fin) hd
  · rcases hk with hk | hk
    · exact wpAny_Name (wpAny_loadName_cell I.ok.kind hk hc hcell fin) hd
    · exact wpAny_Name (wpAny_loadName_free I.ok.kind hk hc hcell fin hcd) hd
theorem pe_int {i j pos} : PE X (.Constant (.int i) j pos) (tC (.int i)) := fun _ _ _ H _ I h => wpAny_Constant_int ⟨.int i, H, I.tok _, ⟨_, rfl⟩, h⟩
theorem pe_bl {b j pos} : PE X (.Constant (.bool b) j pos) (tC (.bl b)) := fun _ _ _ H _ I h => Constant_bool ⟨.bl b, H, I, rfl, h⟩
theorem pe_non {j pos} : PE X (.Constant .none j pos) (tC .non) := fun _ _ _ H _ I h => Constant_none ⟨.non, H, I, rfl, h⟩
theorem pe_str {x j pos} : PE X (.Constant (.str x) j pos) (tC (.str x)) := fun _ _ _ H _ I h => Calls.Constant_str ⟨.str x, H, I.tok _, ⟨_, rfl⟩, h⟩

def Gl (X : Cx) (x : Str) : Prop := X.env.kindOf x = some .globalImplicit
theorem ld_glob {E : Value → Shared → Prop} {pins : List (Addr × Obj)} {s : Shared} {σ : St} {H : Hp} {x : Str} {u : Value} {pos : Pos} {Q : Value → Shared → Prop} (I : Inv X pins σ H s) (hg : Gl X x) (hm : X.mg x = some u) (h : Q u s)
    (hd : (x == ("__debug__" : Str)) = false := by decide) : wpAny (model X.prog X.w) X.A (eval (.Name x pos) X.env) Q E s :=
  Calls.Name_function_global I.ok.kind hg (Calls.loadGlobal_global (by rw [I.ok.glob]; exact I.mod.glob.keeps I.bk) hm h) hd
theorem ld_blt {E : Value → Shared → Prop} {pins : List (Addr × Obj)} {s : Shared} {σ : St} {H : Hp} {x : Str} {u : Value} {pos : Pos} {Q : Value → Shared → Prop} (I : Inv X pins σ H s) (hg : Gl X x) (hm : X.mg x = none) (hv : bootBuiltins x = some u) (h : Q u s)
    (hn : x ≠ "__name__" := by decide) (hd : (x == ("__debug__" : Str)) = false := by decide) : wpAny (model X.prog X.w) X.A (eval (.Name x pos) X.env) Q E s := by
  obtain ⟨mb, h1, h2⟩ := I.mod.blt
  exact Calls.Name_function_global I.ok.kind hg (Calls.loadGlobal_builtin (by rw [I.ok.glob]; exact I.mod.glob.keeps I.bk) hm (by rw [I.ok.blt]; exact h1.keeps I.bk) ((h2 x hn).trans hv) h) hd
theorem pe_glob {x : Str} {v : V} {u : Value} {pos : Pos} (hg : Gl X x) (hm : X.mg x = some u) (r : RelV v u) (hd : (x == ("__debug__" : Str)) = false := by decide) : PE X (.Name x pos) (tC v) :=
  fun _ _ _ H _ I h => ld_glob I hg hm ⟨v, H, I, r, h⟩ hd
theorem pe_bltn {x : Str} {v : V} {u : Value} {pos : Pos} (hg : Gl X x) (hm : X.mg x = none) (hv : bootBuiltins x = some u) (r : RelV v u) (hn : x ≠ "__name__" := by decide) (hd : (x == ("__debug__" : Str)) = false := by decide) : PE X (.Name x pos) (tC v) :=
  fun _ _ _ H _ I h => ld_blt I hg hm hv ⟨v, H, I, r, h⟩ hn hd

inductive OfBl (x : V) (H : Hp) (Q : Bool → Hp → Prop) : Prop
  | mk (c : Bool) (e : x = .bl c) (q : Q c H) : OfBl x H Q
inductive OfI (x : V) (H : Hp) (Q : Int → Hp → Prop) : Prop
  | mk (i : Int) (e : x = .int i) (q : Q i H) : OfI x H Q
inductive NewOb (n : Nat) (o : HO) (H : Hp) (Q : VK) : Prop
  | mk (l : n ≤ sizeLine) (q : ∀ p, H p = none → Q (.ref p) (upd H p o)) : NewOb n o H Q
variable {a b : Expr} {ta tb : TE} {pos : Pos}
def tB (t : TE) : TT := fun σ H Q => t σ H fun x H1 => OfBl x H1 Q
theorem pt_val {e : Expr} {t : TE} (h : PE X e t) (he : ∀ whole, isTrue e X.env whole = (do let v ← whole; standAt e.pos; holding [v] (truthy v)) := by intro _; rfl) : PT X e (tB t) := by
  intro pins s σ H Q I hw
  refine isTrue_plain (thn (h pins s σ H _ I hw) fun v s1 ⟨x, H1, I1, r1, q1⟩ => ?_) (he _)
  obtain ⟨d, rfl, q⟩ := q1
  cases r1
  exact wpAny_truthy_bool ⟨H1, I1, q⟩

variable {tA tB' : TT} {rest : List Expr}
def tOr (t u : TT) : TT := fun σ H Q => t σ H fun c H1 => if c = true then Q true H1 else u σ H1 Q
def tNot (t : TT) : TT := fun σ H Q => t σ H fun c H1 => Q (!c) H1
theorem pw_or1 (ha : PT X a tA) : PW X (.BoolOp .Or [a] pos) tA := by
  intro wh pins s σ H Q I h
  refine isTrue_or (thn (ha pins s σ H Q I h) fun c s1 e => ?_)
  cases c with
  | false => exact isTrue_or_nil e
  | true => exact e
theorem pw_or (ha : PT X a tA) (hb : PW X (.BoolOp .Or (b :: rest) pos) tB') : PW X (.BoolOp .Or (a :: b :: rest) pos) (tOr tA tB') := by
  intro wh pins s σ H Q I h
  refine isTrue_or (thn (ha pins s σ H _ I h) fun c s1 ⟨H1, I1, q1⟩ => ?_)
  cases c with
  | true => exact ⟨H1, I1, q1⟩
  | false => exact hb wh pins s1 σ H1 Q I1 q1
theorem pt_not (ha : PT X a tA) : PT X (.UnaryOp .Not a pos) (tNot tA) := by
  intro pins s σ H Q I h
  exact isTrue_not (ha pins s σ H (fun c H1 => Q (!c) H1) I h)
def tAndV (ta tb : TE) : TE := fun σ H Q => ta σ H fun x H1 => OfBl x H1 fun c H1 => if c = true then tb σ H1 Q else Q (.bl false) H1
def tOrV (ta tb : TE) : TE := fun σ H Q => ta σ H fun x H1 => OfBl x H1 fun c H1 => if c = true then Q (.bl true) H1 else tb σ H1 Q
def tNotV (ta : TE) : TE := fun σ H Q => ta σ H fun x H1 => OfBl x H1 fun c H1 => Q (.bl (!c)) H1
theorem pe_one {op} {t : TE} (h : PE X a t) : PE X (.BoolOp op [a] pos) t := fun pins s σ H Q I hw => BoolOp_one (h pins s σ H Q I hw)
theorem pe_and (ha : PE X a ta) (hb : PE X (.BoolOp .And (b :: rest) pos) tb) : PE X (.BoolOp .And (a :: b :: rest) pos) (tAndV ta tb) := by
  intro pins s σ H Q I h
  refine BoolOp_and (thn (ha pins s σ H _ I h) fun v s1 ⟨x, H1, I1, r1, q1⟩ => ?_)
  obtain ⟨c, rfl, q1⟩ := q1
  cases r1
  refine wpAny_truthy_bool ?_
  cases c with
  | true => exact hb pins s1 σ H1 Q I1 q1
  | false => exact ⟨.bl false, H1, I1, rfl, q1⟩
theorem pe_or (ha : PE X a ta) (hb : PE X (.BoolOp .Or (b :: rest) pos) tb) : PE X (.BoolOp .Or (a :: b :: rest) pos) (tOrV ta tb) := by
  intro pins s σ H Q I h
  refine BoolOp_or (thn (ha pins s σ H _ I h) fun v s1 ⟨x, H1, I1, r1, q1⟩ => ?_)
  obtain ⟨c, rfl, q1⟩ := q1
  cases r1
  refine wpAny_truthy_bool ?_
  cases c with
  | false => exact hb pins s1 σ H1 Q I1 q1
  | true => exact ⟨.bl true, H1, I1, rfl, q1⟩
theorem pe_not (ha : PE X a ta) : PE X (.UnaryOp .Not a pos) (tNotV ta) := by
  intro pins s σ H Q I h
  refine UnaryOp_ (thn (ha pins s σ H _ I h) fun v s1 ⟨x, H1, I1, r1, q1⟩ => ?_)
  obtain ⟨c, rfl, q1⟩ := q1
  cases r1
  exact not_of (wpAny_truthy_bool ⟨.bl (!c), H1, I1, rfl, q1⟩)
def tIf (t : TT) (ta tb : TE) : TE := fun σ H Q => t σ H fun c H1 => if c = true then ta σ H1 Q else tb σ H1 Q
theorem pe_ifExp {c : Expr} (hc : PT X c tA) (ha : PE X a ta) (hb : PE X b tb) : PE X (.IfExp c a b pos) (tIf tA ta tb) := by
  intro pins s σ H Q I h
  refine wpAny_IfExp (thn (hc pins s σ H _ I h) fun d s1 ⟨H1, I1, q1⟩ => ?_)
  cases d with
  | true => exact ha pins s1 σ H1 Q I1 q1
  | false => exact hb pins s1 σ H1 Q I1 q1
end
end L2

namespace L2
open PySem PySem.Spec PyProof.Rows

def SqL (K : PySem.W.Frag) (H : Hp) (a : Addr) (xs : List V) : Prop :=
  Rd H a (.lst xs) ∨
    ∃ (o : Obj) (its : Array Value) (n : Nat), K.lookup a = some o ∧ o.cls = .type "list" ∧ o.dict = none ∧ o.data = .seq its n ∧ its.size ≤ sizeLine ∧ Vals xs its.toList
def SqT (K : PySem.W.Frag) (H : Hp) (a : Addr) (xs : List V) : Prop :=
  Rd H a (.tup xs) ∨
    ∃ (o : Obj) (its : Array Value) (n : Nat), K.lookup a = some o ∧ o.cls = .type "tuple" ∧ o.data = .seq its n ∧ its.size ≤ sizeLine ∧ Vals xs its.toList
def absV : Value → Option V
  | .none => some .non
  | .bool b => some (.bl b)
  | .int i _ => some (.int i)
  | .str x _ => some (.str x)
  | .bytes b _ => some (.byt b)
  | .float b _ => some (.flt b)
  | .ref a => some (.ref a)
  | .type n => some (.ty n)
  | _ => none
theorem RelV.abs {x : V} {u : Value} (r : RelV x u) : absV u = some x := by
  cases x with
  | non => cases r; rfl
  | bl _ => cases r; rfl
  | int _ => obtain ⟨t, rfl⟩ := r; rfl
  | str _ => obtain ⟨t, rfl⟩ := r; rfl
  | byt _ => obtain ⟨t, rfl⟩ := r; rfl
  | flt _ => obtain ⟨t, rfl⟩ := r; rfl
  | ref _ => cases r; rfl
  | ty _ => cases r; rfl
theorem RelV.inj {x y : V} {u : Value} (r : RelV x u) (q : RelV y u) : x = y := Option.some.inj (r.abs.symm.trans q.abs)
theorem Vals.inj : ∀ {xs ys : List V} {us : List Value}, Vals xs us → Vals ys us → xs = ys
  | _, _, _, .nil, .nil => rfl
  | _, _, _, .cons r t, .cons r' t' => by rw [r.inj r', Vals.inj t t']
section
variable {X : Cx} {pins : List (Addr × Obj)} {σ : St} {H : Hp} {s : Shared} {a : Addr} {xs ys : List V}
theorem SqL.of {K : PySem.W.Frag} (h : H a = some (.lst xs)) : SqL K H a xs := .inl (.inl h)
theorem SqT.of {K : PySem.W.Frag} (h : H a = some (.tup xs)) : SqT K H a xs := .inl (.inl h)
theorem Inv.list (I : Inv X pins σ H s) (h : SqL X.K H a xs) : ∃ its : List Value, Vals xs its ∧ PlainL s.heap a its.toArray ∧ xs.length ≤ sizeLine := by
  rcases h with h | ⟨o, its, n, hk, hc, hd, hs, hz, r⟩
  · obtain ⟨z, its, n, r, e⟩ := h.ok I.hok
    exact ⟨its, r, ⟨_, n, e, rfl, rfl, rfl⟩, z⟩
  · refine ⟨its.toList, r, ⟨o, n, I.kIn a o hk, hc, hd, by simpa using hs⟩, ?_⟩
    have e := r.length
    simp only [Array.length_toList] at e
    (first | lia | omega)
theorem Inv.tuple (I : Inv X pins σ H s) (h : SqT X.K H a xs) : ∃ its : List Value, Vals xs its ∧ IsTup s.heap a its.toArray ∧ xs.length ≤ sizeLine := by
  rcases h with h | ⟨o, its, n, hk, hc, hs, hz, r⟩
  · obtain ⟨z, its, r, p⟩ := h.ok I.hok
    exact ⟨its, r, p.tup, z⟩
  · refine ⟨its.toList, r, ⟨o, I.kIn a o hk, hc, n, by simpa using hs⟩, ?_⟩
    have e := r.length
    simp only [Array.length_toList] at e
    (first | lia | omega)
theorem Inv.list_inj (I : Inv X pins σ H s) (h : SqL X.K H a xs) (h' : SqL X.K H a ys) : xs = ys := by
  obtain ⟨its, r, ⟨o, n, e, _, _, d⟩, _⟩ := I.list h
  obtain ⟨its', r', ⟨o', n', e', _, _, d'⟩, _⟩ := I.list h'
  rw [e] at e'; cases e'
  rw [d] at d'
  injection d' with d1 _
  have : its = its' := by simpa using congrArg Array.toList d1
  subst this
  exact r.inj r'
theorem Inv.tuple_inj (I : Inv X pins σ H s) (h : SqT X.K H a xs) (h' : SqT X.K H a ys) : xs = ys := by
  obtain ⟨its, r, ⟨o, e, _, n, d⟩, _⟩ := I.tuple h
  obtain ⟨its', r', ⟨o', e', _, n', d'⟩, _⟩ := I.tuple h'
  rw [e] at e'; cases e'
  rw [d] at d'
  injection d' with d1 _
  have : its = its' := by simpa using congrArg Array.toList d1
  subst this
  exact r.inj r'
end

abbrev Cx.wish (X : Cx) (E : Value → Shared → Prop) : Cx := { X with xe := E }
abbrev Cx.nox (X : Cx) : Cx := X.wish fun _ _ => False
theorem Cx.Ok.wish {X : Cx} (ok : X.Ok) (E : Value → Shared → Prop) : (X.wish E).Ok :=
  ⟨ok.mod, ok.kind, ok.glob, ok.blt, ok.above, ok.inj, ok.has, ok.cab, ok.hd, ok.frames, ok.stk, ok.exf, ok.bs, ok.bsz, ok.noex, ok.exfs, ok.funs, ok.frf⟩
theorem Cx.Ok.unwish {X : Cx} {E : Value → Shared → Prop} (ok : (X.wish E).Ok) : X.Ok :=
  ⟨ok.mod, ok.kind, ok.glob, ok.blt, ok.above, ok.inj, ok.has, ok.cab, ok.hd, ok.frames, ok.stk, ok.exf, ok.bs, ok.bsz, ok.noex, ok.exfs, ok.funs, ok.frf⟩
section
variable {X : Cx} {pins : List (Addr × Obj)} {σ : St} {H : Hp} {s : Shared} {E : Value → Shared → Prop}
theorem Inv.wish (I : Inv X pins σ H s) (E : Value → Shared → Prop) : Inv (X.wish E) pins σ H s := ⟨I.ok.wish E, I.os, I.bare, I.base, I.loc, I.cell, I.free, I.freeC, I.pin, I.hok, I.len⟩
theorem Inv.unwish (I : Inv (X.wish E) pins σ H s) : Inv X pins σ H s := ⟨I.ok.unwish, I.os, I.bare, I.base, I.loc, I.cell, I.free, I.freeC, I.pin, I.hok, I.len⟩
theorem SP.unwish {D : Ends} {f : Flow} {s' : Shared} (h : SP (X.wish E) pins D f s') : SP X pins D f s' := by
  cases f with
  | next => obtain ⟨σ', H', I, q⟩ := h; exact ⟨σ', H', I.unwish, q⟩
  | brk => obtain ⟨σ', H', I, q⟩ := h; exact ⟨σ', H', I.unwish, q⟩
  | cont => obtain ⟨σ', H', I, q⟩ := h; exact ⟨σ', H', I.unwish, q⟩
  | ret u => obtain ⟨v, σ', H', I, r, q⟩ := h; exact ⟨v, σ', H', I.unwish, r, q⟩
theorem PSs.nox {st : List Stmt} {t : TS} (h : PSs X.nox st t) : PSs X st t := fun pins s σ H D I hw =>
  wpAny_mono (h pins s σ H D (I.wish _) hw) (fun _ _ q => q.unwish) fun _ _ z => False.elim z
end

section
variable {X : Cx} {st : Stmt} {rest : List Stmt} {t u : TS} {e : Expr} {te : TE} {pos : Pos}
def tNext : TS := fun D σ H => D.nx σ H
def tSeq (t u : TS) : TS := fun D σ H => t { D with nx := u D } σ H
theorem pss_nil : PSs X [] tNext := fun _ _ σ H _ I h => wpAny_execs_nil ⟨σ, H, I, h⟩
theorem pss_cons (h1 : PS X st t) (h2 : PSs X rest u) : PSs X (st :: rest) (tSeq t u) := by
  intro pins s σ H D I h
  refine wpAny_execs_cons (thn (h1 pins s σ H { D with nx := u D } I h) fun f s1 q => ?_)
  cases f with
  | next =>
    obtain ⟨σ', H', I', q⟩ := q
    exact h2 pins s1 σ' H' D I' q
  | ret v => exact q
  | brk => exact q
  | cont => exact q
theorem pss_one (h1 : PS X st t) : PSs X [st] t := by
  intro pins s σ H D I h
  refine wpAny_execs_cons (thn (h1 pins s σ H D I h) fun f s1 q => ?_)
  cases f with
  | next => exact wpAny_execs_nil q
  | ret v => exact q
  | brk => exact q
  | cont => exact q
theorem Inv.quiet {pins : List (Addr × Obj)} {σ : St} {H : Hp} {s : Shared} (I : Inv X pins σ H s) : interactive X.env = false := by simp [interactive, I.ok.kind]
def tDrop (te : TE) : TS := fun D σ H => te σ H fun _ H1 => D.nx σ H1
theorem ps_expr (he : PE X e te) (hs : swapsWith e none pos.line X.env = pure false := by rfl) : PS X (.Expr e pos) (tDrop te) := by
  intro pins s σ H D I h
  exact wpAny_Expr_any (thn (he pins s σ H _ I h) fun v s1 ⟨x, H1, I1, r1, q1⟩ => ⟨σ, H1, I1, q1⟩) I.quiet hs
def tRet (te : TE) : TS := fun D σ H => te σ H D.rt
theorem ps_ret (he : PE X e te) : PS X (.Return (some e) pos) (tRet te) := by
  intro pins s σ H D I h
  exact wpAny_Return_some (thn (he pins s σ H _ I h) fun v s1 ⟨x, H1, I1, r1, q1⟩ => ⟨x, σ, H1, I1, r1, q1⟩)
def tIfS (c : TT) (t u : TS) : TS := fun D σ H => c σ H fun b H1 => if b = true then t D σ H1 else u D σ H1
theorem ps_if {c : Expr} {a b : List Stmt} {tc : TT} (hc : PT X c tc) (ha : PSs X a t) (hb : PSs X b u) : PS X (.If c a b pos) (tIfS tc t u) := by
  intro pins s σ H D I h
  refine wpAny_If (thn (hc pins s σ H _ I h) fun d s1 ⟨H1, I1, q1⟩ => ?_)
  cases d with
  | true => exact ha pins s1 σ H1 D I1 q1
  | false => exact hb pins s1 σ H1 D I1 q1
end

abbrev TG := V → St → Hp → (St → Hp → Prop) → Prop
abbrev TGs := List V → St → Hp → (St → Hp → Prop) → Prop
def PG (X : Cx) (target : Expr) (t : TG) : Prop :=
  ∀ (pins : List (Addr × Obj)) (s : Shared) (σ : St) (H : Hp) (v : V) (u : Value) (Q : St → Hp → Prop), Inv X pins σ H s → RelV v u → t v σ H Q →
    wpAny (model X.prog X.w) X.A (assign target X.env u) (fun _ s' => ∃ σ' H', Inv X pins σ' H' s' ∧ Q σ' H') X.xe s
def PGs (X : Cx) (ts : List Expr) (t : TGs) : Prop :=
  ∀ (pins : List (Addr × Obj)) (s : Shared) (σ : St) (H : Hp) (vs : List V) (us : List Value) (Q : St → Hp → Prop), Inv X pins σ H s → Vals vs us → t vs σ H Q →
    wpAny (model X.prog X.w) X.A (assignInOrder ((assignEach ts X.env).map (·.2)) us) (fun _ s' => ∃ σ' H', Inv X pins σ' H' s' ∧ Q σ' H') X.xe s
abbrev TSet := V → V → V → Hp → (Hp → Prop) → Prop
def PSet (X : Cx) (t : TSet) : Prop :=
  ∀ (pins : List (Addr × Obj)) (s : Shared) (σ : St) (H : Hp) (o i v : V) (ov iv u : Value) (Q : Hp → Prop), Inv X pins σ H s → RelV o ov → RelV i iv → RelV v u → t o i v H Q →
    wpAny (model X.prog X.w) X.A (setItem ov iv u) (fun _ s' => ∃ H', Inv X pins σ H' s' ∧ Q H') X.xe s
section
variable {X : Cx} {pos : Pos}
def gName (i : Nat) : TG := fun v σ H Q => Q (σ.set i (some v)) H
theorem pg_name {i : Nat} {x : Str} (hN : X.N.Nodup) (hi : X.N[i]? = some x) (hx : Loc X.env.scope x) (hf : X.fn x = true ∨ X.env.scope.names.lookup x = some .local := by first | exact .inl rfl | exact .inr rfl | assumption) : PG X (.Name x pos) (gName i) := by
  intro pins s σ H v u Q I r h
  exact wpAny_assign_Name (store_ok I hN hi hx r (fun s' I' => ⟨_, H, I', h⟩) hf)
def gNil : TGs := fun vs σ H Q => vs = [] ∧ Q σ H
def gCons (t : TG) (u : TGs) : TGs := fun vs σ H Q => ∃ v r, vs = v :: r ∧ t v σ H fun σ' H' => u r σ' H' Q
theorem pgs_nil : PGs X [] gNil := by
  intro pins s σ H vs us Q I r h
  obtain ⟨e, h⟩ := h
  subst e
  cases r
  exact assignInOrder_nil ⟨σ, H, I, h⟩
theorem pgs_cons {e : Expr} {es : List Expr} {t : TG} {u : TGs} (h1 : PG X e t) (h2 : PGs X es u)
    (hs : (assignEach (e :: es) X.env).map (·.2) = assign e X.env :: (assignEach es X.env).map (·.2) := by rfl) : PGs X (e :: es) (gCons t u) := by
  intro pins s σ H vs us Q I r h
  obtain ⟨v, vr, e1, h⟩ := h
  subst e1
  cases r with
  | cons r rr =>
    rw [hs]
    refine assignInOrder_cons (thn (h1 pins s σ H _ _ _ I r h) fun _ s1 ⟨σ1, H1, I1, q1⟩ => ?_)
    exact h2 pins s1 σ1 H1 _ _ Q I1 rr q1
def gTup (K : PySem.W.Frag) (n : Nat) (t : TGs) : TG := fun v σ H Q => ∃ a xs, v = .ref a ∧ SqT K H a xs ∧ xs.length = n ∧ t xs σ H Q
theorem pg_tup {es : List Expr} {k : Nat} {t : TGs} {n : Nat} (hc : X.calm = true) (h : PGs X es t)
    (hn : (assignEach es X.env).length = n := by rfl) (hst : (assignEach es X.env).findIdx? (·.1) = none := by rfl) : PG X (.Tuple es k pos) (gTup X.K n t) := by
  intro pins s σ H v u Q I r hw
  obtain ⟨a, xs, e1, hq, hl, hw⟩ := hw
  subst e1
  cases r
  obtain ⟨its, rv, ht, hz⟩ := I.tuple hq
  refine assign_Tuple_tuple (I.ok.hd hc) ht (by simp [hn, ← hl, rv.length]) hst fun h' hx => ?_
  have I1 : Inv X pins σ H { s with heap := h' } := I.kept (t' := s.toks) fun b o e => hx b o (Nat.ne_of_lt (Heap.lt_size e)) e
  exact h pins _ σ H xs _ Q I1 (by simpa using rv) hw
def gSub (to ti : TE) (t : TSet) : TG := fun v σ H Q => to σ H fun o H1 => ti σ H1 fun i H2 => t o i v H2 fun H3 => Q σ H3
theorem pg_sub {o i : Expr} {to ti : TE} {t : TSet} (ho : PE X o to) (hi : PE X i ti) (hs : PSet X t)
    (ha : ∀ v, assign (.Subscript o i pos) X.env v = (do
      let ov ← holding [v] (eval o X.env)
      let iv ← holding [v, ov] (eval i X.env)
      standAt pos
      holding [v, ov, iv] (setItem ov iv v)
      release [v, ov, iv] []) := by intro _; rfl) : PG X (.Subscript o i pos) (gSub to ti t) := by
  intro pins s σ H v u Q I r h
  rw [ha]
  refine wpAny_bind (wpAny_holding (thn (ho pins s σ H _ I h) fun ov s1 ⟨x, H1, I1, r1, q1⟩ => ?_))
  refine wpAny_bind (wpAny_holding (thn (hi pins s1 σ H1 _ I1 q1) fun iv s2 ⟨y, H2, I2, r2, q2⟩ => ?_))
  refine wpAny_bind (wpAny_standAt (wpAny_bind (wpAny_holding (thn (hs pins s2 σ H2 x y v ov iv u _ I2 r1 r2 r q2) fun _ s3 ⟨H3, I3, q3⟩ => ?_))))
  exact wpAny_release ⟨σ, H3, I3, q3⟩
def tAsg (te : TE) (g : TG) : TS := fun D σ H => te σ H fun x H1 => g x σ H1 D.nx
theorem ps_asg {tg e : Expr} {te : TE} {g : TG} (he : PE X e te) (hg : PG X tg g) (hs : swapsWithSole [tg] e pos.line X.env = pure false := by rfl) (hw : swappedStores [tg] e X.env = pure none := by rfl)
    (h1 : (assignEach [tg] X.env).map (·.2) = [assign tg X.env] := by rfl) : PS X (.Assign [tg] e pos) (tAsg te g) := by
  intro pins s σ H D I h
  refine wpAny_Assign_stores (thn (he pins s σ H _ I h) fun v s1 ⟨x, H1, I1, r1, q1⟩ => ?_) hs hw
  rw [h1]
  exact thn (hg pins s1 σ H1 x v _ I1 r1 q1) fun _ s2 q => q
theorem ps_set {i : Nat} {x : Str} {e : Expr} {te : TE} {pos' : Pos} (hN : X.N.Nodup) (hi : X.N[i]? = some x) (hx : Loc X.env.scope x) (he : PE X e te) (hs : swapsWith e (some (.Name x pos')) pos.line X.env = pure false := by rfl) (hf : X.fn x = true ∨ X.env.scope.names.lookup x = some .local := by first | exact .inl rfl | exact .inr rfl | assumption) :
    PS X (.Assign [.Name x pos'] e pos) (tAsg te (gName i)) := by
  intro pins s σ H D I h
  refine wpAny_Assign_Name (thn (he pins s σ H _ I h) fun v s1 ⟨y, H1, I1, r1, q1⟩ => ?_) hs
  exact store_ok I1 hN hi hx r1 (fun s2 I2 => ⟨_, H1, I2, q1⟩) hf
end

section
variable {X : Cx} {pos : Pos}
end

structure It where
  go : Nat → Hp → Prop
  yld : Nat → Hp → V → Hp → Prop
  stop : Nat → Hp → Prop
def FpOk (X : Cx) (pins : List (Addr × Obj)) (H : Hp) (b : Addr) : Prop :=
  H b = none ∧ b ≠ X.env.locals ∧ b ∉ X.fs ∧ (b ∈ X.ex ∨ X.s₀.heap.objs.size ≤ b) ∧ (∀ x c, X.env.cells.lookup x = some c → c ≠ b) ∧ ∀ p ∈ X.pn ++ pins, p.1 ≠ b
theorem Inv.fpOk {X : Cx} {pins : List (Addr × Obj)} {σ : St} {H H' : Hp} {s : Shared} {b : Addr} (I : Inv X pins σ H s) (hb : s.heap.objs.size ≤ b) (hn : H' b = none) : FpOk X pins H' b := by
  refine ⟨hn, Nat.ne_of_gt (Nat.lt_of_lt_of_le I.lt hb), I.nofs hb, .inr (Nat.le_trans I.sz hb), fun x c e z => ?_, fun p hp z => ?_⟩
  · obtain ⟨v, q⟩ := I.cell x c e
    exact absurd (Nat.lt_of_lt_of_le q.lt (by rw [z]; exact hb)) (Nat.lt_irrefl _)
  · exact absurd (Nat.lt_of_lt_of_le (Heap.lt_size (I.pin p hp).1) (by rw [z]; exact hb)) (Nat.lt_irrefl _)
structure Turn (P : Program) (w : World) (K : PySem.W.Frag) (tg : Expr) (J : It) (fp : List Addr) (it : Addr) (tn : Nat → Heap → Prop) : Prop where
  mem : it ∈ fp
  obj : ∀ i h, tn i h → ∀ b ∈ fp, ∃ o, h.get? b = some o ∧ ∀ v, o.data ≠ .cell v
  keep : ∀ i h h', tn i h → (∀ b ∈ fp, ∀ o, h.get? b = some o → h'.get? b = some o) → tn i h'
  item : ∀ (X : Cx), X.prog = P → X.w = w → X.K = K → X.calm = true → ∀ (i : Nat) (pins : List (Addr × Obj)) (s : Shared) (σ : St) (H : Hp) (E : Value → Shared → Prop), Inv X pins σ H s → (∀ b ∈ fp, FpOk X pins H b) → tn i s.heap → J.go i H →
    wpAny (model P w) X.A (pyNext (.ref it)) (fun r s1 => ∃ u, r = some u ∧
      wpAny (model P w) X.A (letOwnedTupleGo tg (.ref it) u) (fun _ s2 => ∃ x H', Inv X pins σ H' s2 ∧ RelV x u ∧ J.yld i H x H' ∧ tn (i + 1) s2.heap ∧ ∀ b ∈ fp, H' b = none) E s1) E s
  done : ∀ (X : Cx), X.prog = P → X.w = w → X.K = K → X.calm = true → ∀ (i : Nat) (pins : List (Addr × Obj)) (s : Shared) (σ : St) (H : Hp) (E : Value → Shared → Prop), Inv X pins σ H s → (∀ b ∈ fp, FpOk X pins H b) → tn i s.heap → J.stop i H →
    wpAny (model P w) X.A (pyNext (.ref it)) (fun r s1 => r = none ∧ Inv X pins σ H s1) E s
  self : ∀ (A : Around) (i : Nat) (s : Shared) (Q : Value → Shared → Prop) (E : Value → Shared → Prop), tn i s.heap → Q (.ref it) s → wpAny (model P w) A (pyIter (.ref it)) Q E s
abbrev TI := St → Hp → (It → Hp → Prop) → Prop
def PIE (X : Cx) (pins : List (Addr × Obj)) (σ : St) (tg : Expr) (R : It → Hp → Prop) (itv : Value) (s2 : Shared) : Prop :=
  ∃ (it : Addr) (fp : List Addr) (tn : Nat → Heap → Prop) (J : It) (H' : Hp), itv = .ref it ∧ Inv X pins σ H' s2 ∧ Turn X.prog X.w X.K tg J fp it tn ∧ tn 0 s2.heap ∧ (∀ b ∈ fp, FpOk X pins H' b) ∧ R J H'
def PI (X : Cx) (tg iter : Expr) (wi : TI) : Prop :=
  ∀ (pins : List (Addr × Obj)) (s : Shared) (σ : St) (H : Hp) (R : It → Hp → Prop), Inv X pins σ H s → wi σ H R →
    wpAny (model X.prog X.w) X.A (eval iter X.env) (fun v s1 => wpAny (model X.prog X.w) X.A (pyIter v) (PIE X pins σ tg R) X.xe s1) X.xe s

theorem go_of {M : Model} {A : Around} {E : Value → Shared → Prop} {s : Shared} {tg : Expr} {it : Addr} {u : Value} {o : Obj} {n : String} {vs : Array Value} {Q : Unit → Shared → Prop} (ho : s.heap.get? it = some o) (hc : o.cls = .type n) (hd : o.data = .fields vs)
    (hn : ["enumerate", "zip", "dict_itemiterator", "dict_reverseitemiterator", "odict_iterator", "itertools.zip_longest", "itertools.pairwise"].contains n = false) (hQ : Q () s) : wpAny M A (letOwnedTupleGo tg (.ref it) u) Q E s := by
  unfold letOwnedTupleGo
  cases tg <;> first
    | exact wpAny_pure hQ
    | (cases u <;> first
        | exact wpAny_pure hQ
        | (refine wpAny_bind (wpAny_load ho ?_)
           rw [hc, hd]
           show wpAny M A (if (["enumerate", "zip", "dict_itemiterator", "dict_reverseitemiterator", "odict_iterator", "itertools.zip_longest", "itertools.pairwise"].contains n && vs[0]? == some (rawInt _)) = true then _ else _) Q E s
           rw [if_neg (by intro h; rw [hn, Bool.false_and] at h; cases h)]
           exact wpAny_pure hQ))

def Itl (K : PySem.W.Frag) (a : Addr) : It :=
  ⟨fun i H => ∃ xs x, SqL K H a xs ∧ xs[i]? = some x, fun i H x H' => H' = H ∧ ∀ xs, SqL K H a xs → xs[i]? = some x, fun i H => ∃ xs, SqL K H a xs ∧ xs.length ≤ i⟩
def Itt (K : PySem.W.Frag) (a : Addr) : It :=
  ⟨fun i H => ∃ xs x, SqT K H a xs ∧ xs[i]? = some x, fun i H x H' => H' = H ∧ ∀ xs, SqT K H a xs → xs[i]? = some x, fun i H => ∃ xs, SqT K H a xs ∧ xs.length ≤ i⟩
def Itr (lo : Int) (n : Nat) : It := ⟨fun i _ => i < n, fun i H x H' => H' = H ∧ x = .int (lo + i), fun i _ => n ≤ i⟩
theorem turn_list {P : Program} {w : World} {K : PySem.W.Frag} {tg : Expr} (a it : Addr) : Turn P w K tg (Itl K a) [it] it (fun i h => h.IsListIter it a i) where
  mem := by simp
  obj := fun i h st b hb => by
    have e : b = it := by simpa using hb
    subst e
    obtain ⟨o, e, c, d⟩ := st
    exact ⟨o, e, fun v z => by rw [d] at z; cases z⟩
  keep := fun i h h' st k => st.at fun o e => k it (by simp) o e
  item := by
    intro X hP hw hK hc i pins s σ H E I hf st hg
    subst hP hw hK
    obtain ⟨xs, x, hq, hx⟩ := hg
    obtain ⟨its, rv, p, hz⟩ := I.list hq
    obtain ⟨u, hu, ru⟩ := rv.get hx
    obtain ⟨f0, f1, f2, f3, f4, f5⟩ := hf it (by simp)
    refine wpAny_pyNext_list_item st p.isList (x := u) (by simpa using hu) fun h' st' sb => ?_
    have I1 : Inv X pins σ H { s with heap := h' } := I.turned (t' := s.toks) (fun b o hb e => (sb.2 b hb).trans e) f0 f1 f3 f4 f5
    obtain ⟨o, e, c, d⟩ := id st'
    exact ⟨u, rfl, go_of (s := { s with heap := h' }) e c d (by decide) ⟨x, H, I1, ru, ⟨rfl, fun ys hy => by rw [I.list_inj hy hq]; exact hx⟩, st', fun b hb => (hf b hb).1⟩⟩
  done := by
    intro X hP hw hK hc i pins s σ H E I hf st hg
    subst hP hw hK
    obtain ⟨xs, hq, hx⟩ := hg
    obtain ⟨its, rv, p, hz⟩ := I.list hq
    obtain ⟨f0, f1, f2, f3, f4, f5⟩ := hf it (by simp)
    have hl := rv.length
    exact wpAny_pyNext_list_end (I.ok.hd hc) st p.isList (by simp; (first | lia | omega)) fun h' eb => ⟨rfl, I.turned (t' := s.toks) (fun b o hb e => eb b o hb e) f0 f1 f3 f4 f5⟩
  self := fun _ _ _ _ _ st h => wpAny_pyIter_listiter st h
theorem turn_tuple {P : Program} {w : World} {K : PySem.W.Frag} {tg : Expr} (a it : Addr) : Turn P w K tg (Itt K a) [it] it (fun i h => h.IsTupleIter it a i) where
  mem := by simp
  obj := fun i h st b hb => by
    have e : b = it := by simpa using hb
    subst e
    obtain ⟨o, e, c, d⟩ := st
    exact ⟨o, e, fun v z => by rw [d] at z; cases z⟩
  keep := fun i h h' st k => st.at fun o e => k it (by simp) o e
  item := by
    intro X hP hw hK hc i pins s σ H E I hf st hg
    subst hP hw hK
    obtain ⟨xs, x, hq, hx⟩ := hg
    obtain ⟨its, rv, p, hz⟩ := I.tuple hq
    obtain ⟨u, hu, ru⟩ := rv.get hx
    obtain ⟨f0, f1, f2, f3, f4, f5⟩ := hf it (by simp)
    refine wpAny_pyNext_tuple_item st (show s.heap.IsTuple a its.toArray from p) (x := u) (by simpa using hu) fun h' st' sb => ?_
    have I1 : Inv X pins σ H { s with heap := h' } := I.turned (t' := s.toks) (fun b o hb e => (sb.2 b hb).trans e) f0 f1 f3 f4 f5
    obtain ⟨o, e, c, d⟩ := id st'
    exact ⟨u, rfl, go_of (s := { s with heap := h' }) e c d (by decide) ⟨x, H, I1, ru, ⟨rfl, fun ys hy => by rw [I.tuple_inj hy hq]; exact hx⟩, st', fun b hb => (hf b hb).1⟩⟩
  done := by
    intro X hP hw hK hc i pins s σ H E I hf st hg
    subst hP hw hK
    obtain ⟨xs, hq, hx⟩ := hg
    obtain ⟨its, rv, p, hz⟩ := I.tuple hq
    obtain ⟨f0, f1, f2, f3, f4, f5⟩ := hf it (by simp)
    have hl := rv.length
    exact wpAny_pyNext_tuple_end (I.ok.hd hc) st (show s.heap.IsTuple a its.toArray from p) (by simp; (first | lia | omega)) fun h' eb => ⟨rfl, I.turned (t' := s.toks) (fun b o hb e => eb b o hb e) f0 f1 f3 f4 f5⟩
  self := fun _ _ _ _ _ st h => wpAny_pyIter_tupleiter st h
theorem turn_range {P : Program} {w : World} {K : PySem.W.Frag} {tg : Expr} (it : Addr) (lo : Int) (n : Nat) : Turn P w K tg (Itr lo n) [it] it (fun i h => IsRangeIter h it (lo + (i : Nat) * 1) ((n : Int) - (i : Nat)) 1) where
  mem := by simp
  obj := fun i h st b hb => by
    have e : b = it := by simpa using hb
    subst e
    exact ⟨_, st, fun v z => by
      have z' : Data.fields _ = Data.cell v := z
      cases z'⟩
  keep := fun i h h' st k => k it (by simp) _ st
  item := by
    intro X hP hw hK hc i pins s σ H E I hf st hg
    subst hP hw hK
    obtain ⟨f0, f1, f2, f3, f4, f5⟩ := hf it (by simp)
    have W := Walks.range (prog := X.prog) (w := X.w) (I.ok.hd hc) it lo 1 n
    refine W.item i s _ _ hg st fun v h' tk hv st' kk => ?_
    obtain ⟨t, rfl⟩ := hv
    have I1 : Inv X pins σ H { s with heap := h', toks := tk } := I.turned (fun b o hb e => kk b o (by simpa using hb) e) f0 f1 f3 f4 f5
    refine ⟨_, rfl, go_of (s := { s with heap := h', toks := tk }) (n := "range_iterator") st' rfl rfl (by decide) ⟨.int (lo + i), H, I1, ⟨t, ?_⟩, ⟨rfl, rfl⟩, st', fun b hb => (hf b hb).1⟩⟩
    rw [Int.mul_one]
  done := by
    intro X hP hw hK hc i pins s σ H E I hf st hg
    subst hP hw hK
    obtain ⟨f0, f1, f2, f3, f4, f5⟩ := hf it (by simp)
    exact wpAny_pyNext_range_end (I.ok.hd hc) st (by have : n ≤ i := hg; (first | lia | omega)) fun h' eb => ⟨rfl, I.turned (t' := s.toks) (fun b o hb e => eb b o hb e) f0 f1 f3 f4 f5⟩
  self := fun _ _ _ _ _ st h => wpAny_pyIter_rangeiter st h
end L2

namespace L2
open PySem PySem.Spec PyProof.Rows
section
variable {X : Cx} {tg : Expr}
def iList (K : PySem.W.Frag) (tl : TE) : TI := fun σ H R => tl σ H fun x H1 => ∃ a, x = .ref a ∧ (∃ xs, SqL K H1 a xs) ∧ R (Itl K a) H1
def iTup (K : PySem.W.Frag) (tl : TE) : TI := fun σ H R => tl σ H fun x H1 => ∃ a, x = .ref a ∧ (∃ xs, SqT K H1 a xs) ∧ R (Itt K a) H1
theorem pi_list {l : Expr} {tl : TE} (hl : PE X l tl) : PI X tg l (iList X.K tl) := by
  intro pins s σ H R I h
  refine thn (hl pins s σ H _ I h) fun v s1 ⟨x, H1, I1, r1, q1⟩ => ?_
  obtain ⟨a, e, ⟨xs, hq⟩, q⟩ := q1
  subst e
  cases r1
  obtain ⟨its, rv, p, hz⟩ := I1.list hq
  refine wpAny_pyIter_list p.isList ?_
  refine ⟨s1.heap.objs.size, [s1.heap.objs.size], _, _, H1, rfl, I1.kept (t' := s1.toks) fun b o e => Heap.get?_push_of_some _ e, turn_list a _, ⟨_, Heap.get?_push_size _ rfl, rfl, rfl⟩, fun b hb => ?_, q⟩
  have e : b = s1.heap.objs.size := by simpa using hb
  subst e
  exact I1.fpOk (Nat.le_refl _) (I1.hok.fresh (Nat.le_refl _))
theorem pi_tup {l : Expr} {tl : TE} (hl : PE X l tl) : PI X tg l (iTup X.K tl) := by
  intro pins s σ H R I h
  refine thn (hl pins s σ H _ I h) fun v s1 ⟨x, H1, I1, r1, q1⟩ => ?_
  obtain ⟨a, e, ⟨xs, hq⟩, q⟩ := q1
  subst e
  cases r1
  obtain ⟨its, rv, p, hz⟩ := I1.tuple hq
  refine wpAny_pyIter_tuple (show s1.heap.IsTuple a its.toArray from p) ?_
  refine ⟨s1.heap.objs.size, [s1.heap.objs.size], _, _, H1, rfl, I1.kept (t' := s1.toks) fun b o e => Heap.get?_push_of_some _ e, turn_tuple a _, ⟨_, Heap.get?_push_size _ rfl, rfl, rfl⟩, fun b hb => ?_, q⟩
  have e : b = s1.heap.objs.size := by simpa using hb
  subst e
  exact I1.fpOk (Nat.le_refl _) (I1.hok.fresh (Nat.le_refl _))
theorem range_it {pins : List (Addr × Obj)} {σ : St} {H : Hp} {s : Shared} {R : It → Hp → Prop} {E : Value → Shared → Prop} {lo hi : Int} {t u v : Tok} {tk : Nat} (I : Inv X pins σ H s) (h1 : -(2 ^ 62) ≤ lo) (h2 : lo < 2 ^ 62) (h3 : -(2 ^ 62) ≤ hi) (h4 : hi < 2 ^ 62)
    (q : R (Itr lo (hi - lo).toNat) H) : wpAny (model X.prog X.w) X.A (pyIter (.ref s.heap.objs.size)) (PIE X pins σ tg R) E { s with heap := s.heap.push { cls := .type "range", data := .fields #[.int lo t, .int hi u, .int 1 v] }, toks := tk } := by
  refine wpAny_pyIter_range (IsRange.new ..) (small_one h1 h2 h3 h4) ?_
  have I1 : Inv X pins σ H { s with heap := s.heap.push { cls := .type "range", data := .fields #[.int lo t, .int hi u, .int 1 v] }, toks := tk } := I.kept fun b o e => Heap.get?_push_of_some _ e
  refine ⟨(s.heap.push { cls := .type "range", data := .fields #[.int lo t, .int hi u, .int 1 v] }).objs.size, [(s.heap.push { cls := .type "range", data := .fields #[.int lo t, .int hi u, .int 1 v] }).objs.size], _, _, H, rfl,
    I1.kept (t' := tk) fun b o e => Heap.get?_push_of_some _ e, turn_range _ lo (hi - lo).toNat, ?_, fun b hb => ?_, q⟩
  · have e1 : lo + ((0 : Nat) : Int) * 1 = lo := by simp
    have e2 : (((hi - lo).toNat : Nat) : Int) - ((0 : Nat) : Int) = Builtin.Range.rangeSize lo hi 1 := by rw [rangeSize_one]; split <;> (first | lia | omega)
    show IsRangeIter _ _ (lo + ((0 : Nat) : Int) * 1) ((((hi - lo).toNat : Nat) : Int) - ((0 : Nat) : Int)) 1
    rw [e1, e2]
    exact Heap.get?_push_size _ rfl
  · have e : b = (s.heap.push { cls := .type "range", data := .fields #[.int lo t, .int hi u, .int 1 v] }).objs.size := by simpa using hb
    subst e
    exact I1.fpOk (Nat.le_refl _) (I1.hok.fresh (Nat.le_refl _))
def iRng1 (ta : TA) : TI := fun σ H R => ta σ H fun vs H1 => ∃ j : Int, vs = [.int j] ∧ -(2 ^ 62) ≤ j ∧ j < 2 ^ 62 ∧ R (Itr 0 j.toNat) H1
theorem pi_range1 {a : Expr} {ta : TA} {p pos : Pos} (hg : Gl X "range") (hm : X.mg "range" = none) (ha : PA X [a] ta) (hs : starEach [a] X.env = [(false, eval a X.env)] := by rfl) : PI X tg (.Call (.Name "range" p) [a] [] pos) (iRng1 ta) := by
  intro pins s σ H R I h
  refine Call_ (ld_blt I hg hm boot_range (PyProof.Rows.callWith_type1 (thn (ha pos pins s σ H _ I h) fun us s1 ⟨vs, H1, I1, r1, q1⟩ => ?_) hs rfl))
  obtain ⟨j, e, q1, q2, q⟩ := q1
  subst e
  cases r1 with
  | cons r rr =>
    cases rr
    obtain ⟨t, rfl⟩ := r
    exact call_range_1 (range_it I1 (by (first | lia | omega)) (by (first | lia | omega)) q1 q2 (by simpa using q))
def tFor (wi : TI) (g : TG) (tb : TS) : TS := fun D σ H => wi σ H fun J H1 => ∃ W : Nat → Nat → St → Hp → Prop, (∃ m, W 0 m σ H1) ∧ ∀ i m σ H, W i m σ H →
  (J.stop i H ∧ D.nx σ H) ∨ (J.go i H ∧ ∃ N : St → Hp → Prop, (∀ σ' H', N σ' H' → ∃ m', m' < m ∧ W (i + 1) m' σ' H') ∧ ∀ x H', J.yld i H x H' → g x σ H' fun σ2 H2 => tb { D with nx := N, ct := N, bk := D.nx } σ2 H2)
def pinsAt (fp : List Addr) (h : Heap) : List (Addr × Obj) := fp.filterMap fun b => (h.get? b).map fun o => (b, o)
theorem mem_pinsAt {fp : List Addr} {h : Heap} {b : Addr} {o : Obj} (hb : b ∈ fp) (e : h.get? b = some o) : (b, o) ∈ pinsAt fp h := List.mem_filterMap.mpr ⟨b, hb, by rw [e]; rfl⟩
theorem of_pinsAt {fp : List Addr} {h : Heap} {p : Addr × Obj} (hp : p ∈ pinsAt fp h) : p.1 ∈ fp ∧ h.get? p.1 = some p.2 := by
  obtain ⟨b, hb, e⟩ := List.mem_filterMap.mp hp
  cases q : h.get? b with
  | none => rw [q] at e; cases e
  | some o =>
    rw [q] at e
    have e' : (b, o) = p := Option.some.inj e
    subst e'
    exact ⟨hb, q⟩
theorem Inv.pinned {pins : List (Addr × Obj)} {σ : St} {H : Hp} {s : Shared} {fp : List Addr} (I : Inv X pins σ H s) (hf : ∀ b ∈ fp, FpOk X pins H b) (ho : ∀ b ∈ fp, ∃ o, s.heap.get? b = some o ∧ ∀ v, o.data ≠ .cell v) : Inv X (pins ++ pinsAt fp s.heap) σ H s :=
  I.pins_of fun p hp => (List.mem_append.mp hp).elim (fun z => I.pin p (List.mem_append_right _ z)) fun z => by
    obtain ⟨hb, e⟩ := of_pinsAt z
    obtain ⟨f0, f1, f2, _⟩ := hf p.1 hb
    obtain ⟨o, e', d⟩ := ho p.1 hb
    rw [e] at e'; cases e'
    exact ⟨e, f0, f1, f2, d⟩
theorem Inv.unpinned {pins pl : List (Addr × Obj)} {σ : St} {H : Hp} {s : Shared} (I : Inv X (pins ++ pl) σ H s) : Inv X pins σ H s := I.pins_of fun p hp => I.pin p (List.mem_append_right _ (List.mem_append_left _ hp))
theorem ps_for {iter : Expr} {body : List Stmt} {wi : TI} {g : TG} {tb : TS} {pos : Pos} (hp : PassesOwn (model X.prog X.w) X.A X.env X.xe) (hc : X.calm = true) (hi : PI X tg iter wi) (hg : PG X tg g) (hb : PSs X body tb)
    (hs : ∀ x, foldedSetIterable iter X.env x = pure x := by intro _; rfl) : PS X (.For tg iter body [] pos) (tFor wi g tb) := by
  intro pins s σ H D I h
  refine wpAny_For (thn (hi pins s σ H _ I h) fun v s1 h1 => thn h1 fun itv s2 h2 => ?_) hs
  obtain ⟨it, fp, tn, J, H2, e, I2, T, st2, f2, W, ⟨m0, w0⟩, turn⟩ := h2
  subst e
  -- what stays true of the iterator's objects through the loop
  have stat : ∀ {H' : Hp}, (∀ b ∈ fp, H' b = none) → ∀ b ∈ fp, FpOk X pins H' b := fun hn b hb => ⟨hn b hb, (f2 b hb).2⟩
  refine codeAny_forLoop_any (fun n s' => ∃ i σ' H', Inv X pins σ' H' s' ∧ tn i s'.heap ∧ (∀ b ∈ fp, H' b = none) ∧ W i n σ' H') ?_ m0 ⟨0, σ, H2, I2, st2, fun b hb => (f2 b hb).1, w0⟩
  rintro n s3 ⟨i, σ3, H3, I3, st3, fr3, w3⟩
  rcases turn i n σ3 H3 w3 with ⟨stop, qn⟩ | ⟨go, N, hN, step⟩
  · refine wpAny_passesOwn hp (thn (T.done X rfl rfl rfl hc i pins s3 σ3 H3 X.xe I3 (stat fr3) st3 stop) fun r s4 ⟨hr, I4⟩ => ?_)
    subst hr
    exact wpAny_execs_nil ⟨σ3, H3, I4, qn⟩
  · refine wpAny_passesOwn hp (thn (T.item X rfl rfl rfl hc i pins s3 σ3 H3 X.xe I3 (stat fr3) st3 go) fun r s4 ⟨u, hr, h4⟩ => ?_)
    subst hr
    refine wpAny_passesOwn hp (thn h4 fun _ s5 ⟨x, H5, I5, r5, y5, st5, fr5⟩ => ?_)
    have I5' := I5.pinned (stat fr5) (T.obj _ _ st5)
    refine wpAny_passesOwn hp (thn (hg _ s5 σ3 H5 x u _ I5' r5 (step x H5 y5)) fun _ s6 ⟨σ6, H6, I6, q6⟩ => ?_)
    refine wpAny_passesOwn hp (thn (hb _ s6 σ6 H6 _ I6 q6) fun f s7 q7 => ?_)
    have again : ∀ {σ7 : St} {H7 : Hp}, Inv X (pins ++ pinsAt fp s5.heap) σ7 H7 s7 → N σ7 H7 → ∃ m, m < n ∧ ∃ i σ' H', Inv X pins σ' H' s7 ∧ tn i s7.heap ∧ (∀ b ∈ fp, H' b = none) ∧ W i m σ' H' := fun {σ7 H7} I7 n7 => by
      obtain ⟨m', hm, w7⟩ := hN σ7 H7 n7
      refine ⟨m', hm, i + 1, σ7, H7, I7.unpinned, T.keep _ _ _ st5 fun b hb o e => (I7.pin (b, o) (List.mem_append_right _ (List.mem_append_right _ (mem_pinsAt hb e)))).1, fun b hb => ?_, w7⟩
      obtain ⟨o, e, d⟩ := T.obj _ _ st5 b hb
      exact (I7.pin (b, o) (List.mem_append_right _ (List.mem_append_right _ (mem_pinsAt hb e)))).2.1
    cases f with
    | next => obtain ⟨σ7, H7, I7, n7⟩ := q7; exact again I7 n7
    | cont => obtain ⟨σ7, H7, I7, n7⟩ := q7; exact again I7 n7
    | brk => obtain ⟨σ7, H7, I7, q7⟩ := q7; exact ⟨σ7, H7, I7.unpinned, q7⟩
    | ret v => obtain ⟨x7, σ7, H7, I7, r7, q7⟩ := q7; exact ⟨x7, σ7, H7, I7.unpinned, r7, q7⟩
end

theorem for_list {K : PySem.W.Frag} {a : Addr} {xs : List V} {g : TG} {tb : TS} {D : Ends} {σ : St} {H : Hp} (Pv : Nat → St → Hp → Prop) (h0 : Pv 0 σ H) (hl : ∀ i σ H, i ≤ xs.length → Pv i σ H → SqL K H a xs)
    (hs : ∀ i x σ H, xs[i]? = some x → Pv i σ H → g x σ H fun σ2 H2 => tb { D with nx := Pv (i + 1), ct := Pv (i + 1), bk := D.nx } σ2 H2) (hd : ∀ σ H, Pv xs.length σ H → D.nx σ H) :
    ∃ W : Nat → Nat → St → Hp → Prop, (∃ m, W 0 m σ H) ∧ ∀ i m σ H, W i m σ H →
      ((Itl K a).stop i H ∧ D.nx σ H) ∨ ((Itl K a).go i H ∧ ∃ N : St → Hp → Prop, (∀ σ' H', N σ' H' → ∃ m', m' < m ∧ W (i + 1) m' σ' H') ∧ ∀ x H', (Itl K a).yld i H x H' → g x σ H' fun σ2 H2 => tb { D with nx := N, ct := N, bk := D.nx } σ2 H2) := by
  refine ⟨fun i m σ H => m = xs.length - i ∧ i ≤ xs.length ∧ Pv i σ H, ⟨xs.length, by simp, Nat.zero_le _, h0⟩, ?_⟩
  rintro i m σ H ⟨rfl, hi, p⟩
  have q := hl i σ H hi p
  by_cases hlt : i < xs.length
  · refine .inr ⟨⟨xs, xs[i], q, by simp [hlt]⟩, Pv (i + 1), fun σ' H' p' => ⟨xs.length - (i + 1), by (first | lia | omega), rfl, hlt, p'⟩, fun x H' y => ?_⟩
    obtain ⟨e, y⟩ := y
    subst e
    exact hs i x σ _ (y xs q) p
  · have e : i = xs.length := by (first | lia | omega)
    subst e
    exact .inl ⟨⟨xs, q, Nat.le_refl _⟩, hd σ H p⟩
theorem for_range {lo : Int} {n : Nat} {g : TG} {tb : TS} {D : Ends} {σ : St} {H : Hp} (Pv : Nat → St → Hp → Prop) (h0 : Pv 0 σ H)
    (hs : ∀ i σ H, i < n → Pv i σ H → g (.int (lo + i)) σ H fun σ2 H2 => tb { D with nx := Pv (i + 1), ct := Pv (i + 1), bk := D.nx } σ2 H2) (hd : ∀ σ H, Pv n σ H → D.nx σ H) :
    ∃ W : Nat → Nat → St → Hp → Prop, (∃ m, W 0 m σ H) ∧ ∀ i m σ H, W i m σ H →
      ((Itr lo n).stop i H ∧ D.nx σ H) ∨ ((Itr lo n).go i H ∧ ∃ N : St → Hp → Prop, (∀ σ' H', N σ' H' → ∃ m', m' < m ∧ W (i + 1) m' σ' H') ∧ ∀ x H', (Itr lo n).yld i H x H' → g x σ H' fun σ2 H2 => tb { D with nx := N, ct := N, bk := D.nx } σ2 H2) := by
  refine ⟨fun i m σ H => m = n - i ∧ i ≤ n ∧ Pv i σ H, ⟨n, by simp, Nat.zero_le _, h0⟩, ?_⟩
  rintro i m σ H ⟨rfl, hi, p⟩
  by_cases hlt : i < n
  · refine .inr ⟨hlt, Pv (i + 1), fun σ' H' p' => ⟨n - (i + 1), by (first | lia | omega), rfl, hlt, p'⟩, fun x H' y => ?_⟩
    obtain ⟨e, y⟩ := y
    subst e y
    exact hs i σ _ hlt p
  · have e : i = n := by (first | lia | omega)
    subst e
    exact .inl ⟨Nat.le_refl _, hd σ H p⟩
end L2

namespace L2
open PySem PySem.Spec PyProof.Rows

abbrev R2 := V → V → Hp → VK → Prop
def OpR (X : Cx) (f : Value → Value → Sem Value) (r : R2) : Prop :=
  ∀ (pins : List (Addr × Obj)) (s : Shared) (σ : St) (H : Hp) (x y : V) (v u : Value) (Q : VK), Inv X pins σ H s → RelV x v → RelV y u → r x y H Q →
    wpAny (model X.prog X.w) X.A (f v u) (EP X pins σ Q) X.xe s
def CallR (X : Cx) (f : Value) (r : List V → Hp → VK → Prop) : Prop :=
  ∀ (pins : List (Addr × Obj)) (s : Shared) (σ : St) (H : Hp) (xs : List V) (us : List Value) (Q : VK), Inv X pins σ H s → Vals xs us → r xs H Q →
    wpAny (model X.prog X.w) X.A (call f us) (EP X pins σ Q) X.xe s
def tOp (r : R2) (ta tb : TE) : TE := fun σ H Q => ta σ H fun x H1 => tb σ H1 fun y H2 => r x y H2 Q
inductive RIP (C : Int → Int → Prop) (g : Int → Int → V) (x : V) (y : V) (H : Hp) (Q : VK) : Prop
  | mk (i : _) (j : _) (h1 : x = .int i) (h2 : y = .int j) (h3 : C i j) (h4 : Q (g i j) H) : RIP C g x y H Q
def rI (C : Int → Int → Prop) (g : Int → Int → V) : R2 := fun x y H Q => RIP C g x y H Q
inductive RI0P (g : Int → Int → V) (x : V) (y : V) (H : Hp) (Q : VK) : Prop
  | mk (i : _) (j : _) (h1 : x = .int i) (h2 : y = .int j) (h3 : Q (g i j) H) : RI0P g x y H Q
def rI0 (g : Int → Int → V) : R2 := fun x y H Q => RI0P g x y H Q
section
variable {X : Cx} {a b c : Expr} {ta tb tc : TE} {pos : Pos}

theorem binT (ha : PE X a ta) (hb : PE X b tb) {pins : List (Addr × Obj)} {s : Shared} {σ : St} {H : Hp} {R : V → V → Hp → Prop} (I : Inv X pins σ H s)
    (h : ta σ H fun x H1 => tb σ H1 fun y H2 => R x y H2) {Q : Value → Shared → Prop} {f : Value → Value → Sem Value}
    (hf : ∀ v u s2 x y H2, Inv X pins σ H2 s2 → RelV x v → RelV y u → R x y H2 → wpAny (model X.prog X.w) X.A (f v u) Q X.xe s2) :
    wpAny (model X.prog X.w) X.A (eval a X.env) (fun v s₁ => wpAny (model X.prog X.w) X.A (eval b X.env) (fun u s₂ => wpAny (model X.prog X.w) X.A (f v u) Q X.xe s₂) X.xe s₁) X.xe s := by
  refine thn (ha pins s σ H _ I h) fun v s1 ⟨x, H1, I1, r1, q1⟩ => ?_
  refine thn (hb pins s1 σ H1 _ I1 q1) fun u s2 ⟨y, H2, I2, r2, q2⟩ => ?_
  exact hf v u s2 x y H2 I2 r1 r2 q2

theorem pe_op {op : Operator} {r : R2} (ho : OpR X (binaryOp op) r) (ha : PE X a ta) (hb : PE X b tb) : PE X (.BinOp a op b pos) (tOp r ta tb) := by
  intro pins s σ H Q I h
  exact wpAny_BinOp (binT ha hb I h fun v u s2 x y H2 I2 rx ry q => ho pins s2 σ H2 x y v u Q I2 rx ry q)
theorem opI {f : Value → Value → Sem Value} {C : Int → Int → Prop} {g : Int → Int → Int}
    (rule : ∀ (i j : Int) (t u : Tok) (s : Shared) (Q : Value → Shared → Prop) (E : Value → Shared → Prop), C i j → Q (.int (g i j) s.toks) { s with toks := s.toks + 1 } → wpAny (model X.prog X.w) X.A (f (.int i t) (.int j u)) Q E s) :
    OpR X f (rI C fun i j => .int (g i j)) := by
  intro pins s σ H x y v u Q I rx ry h
  obtain ⟨i, j, rfl, rfl, hc, q⟩ := h
  obtain ⟨t, rfl⟩ := rx
  obtain ⟨t', rfl⟩ := ry
  exact rule i j t t' s _ _ hc ⟨.int (g i j), H, I.tok _, ⟨_, rfl⟩, q⟩
theorem opI0 {f : Value → Value → Sem Value} {g : Int → Int → Int}
    (rule : ∀ (i j : Int) (t u : Tok) (s : Shared) (Q : Value → Shared → Prop) (E : Value → Shared → Prop), Q (.int (g i j) s.toks) { s with toks := s.toks + 1 } → wpAny (model X.prog X.w) X.A (f (.int i t) (.int j u)) Q E s) :
    OpR X f (rI0 fun i j => .int (g i j)) := by
  intro pins s σ H x y v u Q I rx ry h
  obtain ⟨i, j, rfl, rfl, q⟩ := h
  obtain ⟨t, rfl⟩ := rx
  obtain ⟨t', rfl⟩ := ry
  exact rule i j t t' s _ _ ⟨.int (g i j), H, I.tok _, ⟨_, rfl⟩, q⟩
theorem opB0 {f : Value → Value → Sem Value} {g : Int → Int → Bool}
    (rule : ∀ (i j : Int) (t u : Tok) (s : Shared) (Q : Value → Shared → Prop) (E : Value → Shared → Prop), Q (.bool (g i j)) s → wpAny (model X.prog X.w) X.A (f (.int i t) (.int j u)) Q E s) :
    OpR X f (rI0 fun i j => .bl (g i j)) := by
  intro pins s σ H x y v u Q I rx ry h
  obtain ⟨i, j, rfl, rfl, q⟩ := h
  obtain ⟨t, rfl⟩ := rx
  obtain ⟨t', rfl⟩ := ry
  exact rule i j t t' s _ _ ⟨.bl (g i j), H, I, rfl, q⟩

def CPow (i j : Int) : Prop := 0 ≤ j ∧ j ≤ 1000000 ∧ i.natAbs < 2 ^ 64
def CMul (i j : Int) : Prop := (-(2 ^ 64) < i ∧ i < 2 ^ 64) ∨ (-(2 ^ 64) < j ∧ j < 2 ^ 64)
theorem CMul.ok {i j : Int} (h : CMul i j) : IntMulOk i j := by
  rcases h with ⟨h1, h2⟩ | ⟨h1, h2⟩
  · exact .of_left (intBits_le_64 h1 h2)
  · exact .of_right (intBits_le_64 h1 h2)
theorem op_add : OpR X (binaryOp .Add) (rI0 fun i j => .int (i + j)) := opI0 fun _ _ _ _ _ _ _ q => add_int q
theorem op_sub : OpR X (binaryOp .Sub) (rI0 fun i j => .int (i - j)) := opI0 fun _ _ _ _ _ _ _ q => sub_int q
theorem op_mul : OpR X (binaryOp .Mult) (rI CMul fun i j => .int (i * j)) := opI fun _ _ _ _ _ _ _ hc q => mul_int q hc.ok
theorem op_mod : OpR X (binaryOp .Mod) (rI (fun _ j => 0 < j) fun i j => .int (i % j)) := opI fun i j _ _ _ _ _ hc q => by
  have h1 : (0 : Int) < j := hc
  exact mod_int' (by (first | lia | omega)) (by rw [Int.fmod_eq_emod_of_nonneg i (by (first | lia | omega))]; exact q)
theorem op_pow : OpR X (binaryOp .Pow) (rI CPow fun i j => .int (i ^ j.toNat)) := opI fun _ _ _ _ _ _ _ hc q => pow_int_small hc.1 hc.2.1 hc.2.2 q
end

def scal : V → V → Bool
  | .non, .non => true | .non, .int _ => true | .int _, .non => true | .non, .bl _ => true | .bl _, .non => true | .non, .str _ => true | .str _, .non => true
  | .int _, .int _ => true | .bl _, .bl _ => true | .str _, .str _ => true | .byt _, .byt _ => true
  | .int _, .str _ => true | .str _, .int _ => true | .bl _, .str _ => true | .str _, .bl _ => true
  | _, _ => false
inductive REqP (x : V) (y : V) (H : Hp) (Q : VK) : Prop
  | mk  (h1 : scal x y = true) (h2 : Q (.bl (decide (x = y))) H) : REqP x y H Q
def rEq : R2 := fun x y H Q => REqP  x y H Q
inductive RNeP (x : V) (y : V) (H : Hp) (Q : VK) : Prop
  | mk  (h1 : scal x y = true) (h2 : Q (.bl (!decide (x = y))) H) : RNeP x y H Q
def rNe : R2 := fun x y H Q => RNeP  x y H Q

theorem dec_int {i j : Int} : decide (V.int i = V.int j) = (i == j) := by
  rw [Bool.eq_iff_iff]
  simp
theorem dec_bl {i j : Bool} : decide (V.bl i = V.bl j) = (i == j) := by
  rw [Bool.eq_iff_iff]
  simp
theorem dec_str {i j : Str} : decide (V.str i = V.str j) = (i == j) := by
  rw [Bool.eq_iff_iff]
  simp
theorem dec_byt {i j : Array UInt8} : decide (V.byt i = V.byt j) = (i.toList == j.toList) := by
  rw [Bool.eq_iff_iff]
  cases i
  cases j
  simp

section
variable {X : Cx} {a b c : Expr} {ta tb tc : TE} {pos : Pos}
theorem fin_bl {pins : List (Addr × Obj)} {σ : St} {H : Hp} {s : Shared} {Q : VK} {k k' : Bool} (I : Inv X pins σ H s) (q : Q (.bl k) H) (e : k = k') : EP X pins σ Q (.bool k') s := by
  subst e
  exact ⟨.bl k, H, I, rfl, q⟩
theorem op_eq : OpR X (compareOp .Eq) rEq := by
  intro pins s σ H x y v u Q I rx ry h
  obtain ⟨hs, q⟩ := h
  cases x with
  | non =>
    cases rx
    cases y with
    | non => cases ry; exact PySem.EqNone.eq_none_none (fin_bl I q (by simp))
    | bl j => cases ry; exact PySem.EqNone.eq_none_bool (fin_bl I q (by simp))
    | int j => obtain ⟨t', rfl⟩ := ry; exact PySem.EqNone.eq_none_int (fin_bl I q (by simp))
    | str j => obtain ⟨t', rfl⟩ := ry; exact PySem.EqNone.eq_none_str (fin_bl I q (by simp))
    | _ => exact absurd (show false = true from hs) Bool.false_ne_true
  | bl i =>
    cases rx
    cases y with
    | non => cases ry; exact PySem.EqNone.eq_bool_none (fin_bl I q (by simp))
    | bl j => cases ry; exact eq_bool (fin_bl I q dec_bl)
    | str j => obtain ⟨t', rfl⟩ := ry; exact PySem.EqMixed.eq_bool_str (fin_bl I q (by simp))
    | _ => exact absurd (show false = true from hs) Bool.false_ne_true
  | int i =>
    obtain ⟨t, rfl⟩ := rx
    cases y with
    | non => cases ry; exact PySem.EqNone.eq_int_none (fin_bl I q (by simp))
    | int j => obtain ⟨t', rfl⟩ := ry; exact eq_int (fin_bl I q dec_int)
    | str j => obtain ⟨t', rfl⟩ := ry; exact PySem.EqMixed.eq_int_str (fin_bl I q (by simp))
    | _ => exact absurd (show false = true from hs) Bool.false_ne_true
  | str i =>
    obtain ⟨t, rfl⟩ := rx
    cases y with
    | non => cases ry; exact PySem.EqNone.eq_str_none (fin_bl I q (by simp))
    | bl j => cases ry; exact PySem.EqMixed.eq_str_bool (fin_bl I q (by simp))
    | int j => obtain ⟨t', rfl⟩ := ry; exact PySem.EqMixed.eq_str_int (fin_bl I q (by simp))
    | str j => obtain ⟨t', rfl⟩ := ry; exact eq_str (fin_bl I q dec_str)
    | _ => exact absurd (show false = true from hs) Bool.false_ne_true
  | byt i =>
    obtain ⟨t, rfl⟩ := rx
    cases y with
    | byt j => obtain ⟨t', rfl⟩ := ry; exact PySem.W.eq_bytes (fin_bl I q dec_byt)
    | _ => exact absurd (show false = true from hs) Bool.false_ne_true
  | _ => cases y <;> exact absurd (show false = true from hs) Bool.false_ne_true
theorem op_ne : OpR X (compareOp .NotEq) rNe := by
  intro pins s σ H x y v u Q I rx ry h
  obtain ⟨hs, q⟩ := h
  cases x with
  | non =>
    cases rx
    cases y with
    | non => cases ry; exact PySem.EqNone.ne_none_none (fin_bl I q (by simp))
    | bl j => cases ry; exact PySem.EqNone.ne_none_bool (fin_bl I q (by simp))
    | int j => obtain ⟨t', rfl⟩ := ry; exact PySem.EqNone.ne_none_int (fin_bl I q (by simp))
    | str j => obtain ⟨t', rfl⟩ := ry; exact PySem.EqNone.ne_none_str (fin_bl I q (by simp))
    | _ => exact absurd (show false = true from hs) Bool.false_ne_true
  | bl i =>
    cases rx
    cases y with
    | non => cases ry; exact PySem.EqNone.ne_bool_none (fin_bl I q (by simp))
    | bl j => cases ry; exact ne_bool (fin_bl I q (congrArg not dec_bl))
    | str j => obtain ⟨t', rfl⟩ := ry; exact PySem.EqMixed.ne_bool_str (fin_bl I q (by simp))
    | _ => exact absurd (show false = true from hs) Bool.false_ne_true
  | int i =>
    obtain ⟨t, rfl⟩ := rx
    cases y with
    | non => cases ry; exact PySem.EqNone.ne_int_none (fin_bl I q (by simp))
    | int j => obtain ⟨t', rfl⟩ := ry; exact ne_int (fin_bl I q (congrArg not dec_int))
    | str j => obtain ⟨t', rfl⟩ := ry; exact PySem.EqMixed.ne_int_str (fin_bl I q (by simp))
    | _ => exact absurd (show false = true from hs) Bool.false_ne_true
  | str i =>
    obtain ⟨t, rfl⟩ := rx
    cases y with
    | non => cases ry; exact PySem.EqNone.ne_str_none (fin_bl I q (by simp))
    | bl j => cases ry; exact PySem.EqMixed.ne_str_bool (fin_bl I q (by simp))
    | int j => obtain ⟨t', rfl⟩ := ry; exact PySem.EqMixed.ne_str_int (fin_bl I q (by simp))
    | str j => obtain ⟨t', rfl⟩ := ry; exact ne_str (fin_bl I q (congrArg not dec_str))
    | _ => exact absurd (show false = true from hs) Bool.false_ne_true
  | byt i =>
    obtain ⟨t, rfl⟩ := rx
    cases y with
    | byt j => obtain ⟨t', rfl⟩ := ry; exact PySem.W.ne_bytes (fin_bl I q (congrArg not dec_byt))
    | _ => exact absurd (show false = true from hs) Bool.false_ne_true
  | _ => cases y <;> exact absurd (show false = true from hs) Bool.false_ne_true

theorem op_lt : OpR X (compareOp .Lt) (rI0 fun i j => .bl (decide (i < j))) := opB0 fun _ _ _ _ _ _ _ q => lt_int q
theorem op_le : OpR X (compareOp .LtE) (rI0 fun i j => .bl (decide (i ≤ j))) := opB0 fun _ _ _ _ _ _ _ q => le_int q
theorem op_gt : OpR X (compareOp .Gt) (rI0 fun i j => .bl (decide (j < i))) := opB0 fun _ _ _ _ _ _ _ q => gt_int q
theorem op_ge : OpR X (compareOp .GtE) (rI0 fun i j => .bl (decide (j ≤ i))) := opB0 fun _ _ _ _ _ _ _ q => ge_int q
theorem op_in_str : OpR X (compareOp .In) (fun x y H Q => ∃ i j, x = .str i ∧ y = .str j ∧ Q (.bl (!(Builtin.Str.occurrences j i 0 j.length 1).isEmpty)) H) := by
  intro pins s σ H x y v u Q I rx ry h
  obtain ⟨i, j, rfl, rfl, q⟩ := h
  obtain ⟨t, rfl⟩ := rx
  obtain ⟨t', rfl⟩ := ry
  exact in_str (fin_bl I q rfl)

theorem op_isN : OpR X (compareOp .Is) (fun x y H Q => y = .non ∧ Q (.bl (decide (x = .non))) H) := by
  intro pins s σ H x y v u Q I rx ry h
  obtain ⟨rfl, q⟩ := h
  cases ry
  refine is_none_gen (fin_bl I q ?_)
  cases x <;> first
    | (cases rx; rfl)
    | (obtain ⟨t, rfl⟩ := rx; rfl)
theorem nomark (b : Expr) {op : CmpOp} (h : op ≠ .In := by decide) (h2 : op ≠ .NotIn := by decide) : behindInMarks op b = false := by
  have e1 : (op == CmpOp.In) = false := by cases op <;> first | rfl | exact absurd rfl h
  have e2 : (op == CmpOp.NotIn) = false := by cases op <;> first | rfl | exact absurd rfl h2
  cases b <;> simp [behindInMarks, e1, e2]
theorem pe_cmpR {op : CmpOp} {r : R2} (ho : OpR X (compareOp op) r) (ha : PE X a ta) (hb : PE X b tb) (hm : behindInMarks op b = false) : PE X (.Compare a [op] [b] pos) (tOp r ta tb) := by
  intro pins s σ H Q I h
  exact wpAny_Compare1 (binT ha hb I h fun v u s2 x y H2 I2 rx ry q => ho pins s2 σ H2 x y v u Q I2 rx ry q) hm
def tTest (t : TE) : TT := fun σ H Q => t σ H fun x H' => OfBl x H' Q
theorem pt_cmpR {op : CmpOp} {r : R2} (ho : OpR X (compareOp op) r) (ha : PE X a ta) (hb : PE X b tb) (hm : behindInMarks op b = false) : PT X (.Compare a [op] [b] pos) (tTest (tOp r ta tb)) := by
  intro pins s σ H Q I h
  refine wpAny_isTrue_Compare1 (thn (ha pins s σ H _ I h) fun v s1 ⟨x, H1, I1, r1, q1⟩ => thn (hb pins s1 σ H1 _ I1 q1) fun u s2 ⟨y, H2, I2, r2, q2⟩ =>
    thn (ho pins s2 σ H2 x y v u _ I2 r1 r2 q2) fun c s3 ⟨z, H3, I3, r3, k, e, q3⟩ => ?_) hm
  subst e
  cases r3
  exact wpAny_truthy_bool ⟨H3, I3, q3⟩
def tChain (r r' : R2) (ta tb tc : TE) : TE := fun σ H Q => ta σ H fun x H1 => tb σ H1 fun y H2 => r x y H2 fun z H3 => ∃ k, z = .bl k ∧
  (if k = true then tc σ H3 fun w' H4 => r' y w' H4 Q else Q (.bl false) H3)
theorem pe_chain {op op' : CmpOp} {r r' : R2} (ho : OpR X (compareOp op) r) (ho' : OpR X (compareOp op') r') (ha : PE X a ta) (hb : PE X b tb) (hc : PE X c tc)
    (hm : lastMarks [op, op'] [b, c] = false := by with_unfolding_all rfl) : PE X (.Compare a [op, op'] [b, c] pos) (tChain r r' ta tb tc) := by
  intro pins s σ H Q I h
  refine Compare_chain (thn (ha pins s σ H _ I h) fun v s1 ⟨x, H1, I1, r1, q1⟩ => chain_link (thn (hb pins s1 σ H1 _ I1 q1) fun u s2 ⟨y, H2, I2, r2, q2⟩ =>
    thn (ho pins s2 σ H2 x y v u _ I2 r1 r2 q2) fun d s3 ⟨z, H3, I3, r3, k, e, q3⟩ => ?_)) hm
  subst e
  cases r3
  refine wpAny_truthy_bool ?_
  cases k with
  | false => exact ite_ff ⟨.bl false, H3, I3, rfl, q3⟩
  | true => exact ite_tt (chain_last (thn (hc pins s3 σ H3 _ I3 q3) fun w' s4 ⟨z', H4, I4, r4, q4⟩ => ho' pins s4 σ H4 y z' u w' Q I4 r2 r4 q4))
theorem pt_chain {op op' : CmpOp} {r r' : R2} (ho : OpR X (compareOp op) r) (ho' : OpR X (compareOp op') r') (ha : PE X a ta) (hb : PE X b tb) (hc : PE X c tc)
    (hm : lastMarks [op, op'] [b, c] = false := by with_unfolding_all rfl) : PT X (.Compare a [op, op'] [b, c] pos) (tTest (tChain r r' ta tb tc)) := by
  intro pins s σ H Q I h
  refine isTrue_chain (thn (ha pins s σ H _ I h) fun v s1 ⟨x, H1, I1, r1, q1⟩ => test_link (thn (hb pins s1 σ H1 _ I1 q1) fun u s2 ⟨y, H2, I2, r2, q2⟩ =>
    thn (ho pins s2 σ H2 x y v u _ I2 r1 r2 q2) fun d s3 ⟨z, H3, I3, r3, k, e, q3⟩ => ?_)) hm
  subst e
  cases r3
  refine wpAny_truthy_bool ?_
  cases k with
  | false =>
    obtain ⟨k', e', q'⟩ := q3
    cases e'
    exact ite_ff ⟨H3, I3, q'⟩
  | true =>
    refine ite_tt (test_last (thn (hc pins s3 σ H3 _ I3 q3) fun w' s4 ⟨z', H4, I4, r4, q4⟩ => thn (ho' pins s4 σ H4 y z' u w' _ I4 r2 r4 q4) fun d' s5 ⟨z2, H5, I5, r5, k2, e2, q5⟩ => ?_))
    subst e2
    cases r5
    exact wpAny_truthy_bool ⟨H5, I5, q5⟩

theorem line63 : (sizeLine : Nat) < 2 ^ 63 := by rw [sizeLine_eq]; decide
theorem op_add_str : OpR X (binaryOp .Add) (fun x y H Q => ∃ i j, x = .str i ∧ y = .str j ∧ i.length + j.length ≤ sizeLine ∧ Q (.str (i ++ j)) H) := by
  intro pins s σ H x y v u Q I rx ry h
  obtain ⟨i, j, rfl, rfl, hz, q⟩ := h
  obtain ⟨t, rfl⟩ := rx
  obtain ⟨t', rfl⟩ := ry
  exact add_str (fun t' tk => ⟨.str (i ++ j), H, I.tok _, ⟨_, rfl⟩, q⟩) hz
theorem vals1 {x : V} {us : List Value} (r : Vals [x] us) : ∃ u, us = [u] ∧ RelV x u := by
  cases r with
  | cons r1 r2 => cases r2; exact ⟨_, rfl, r1⟩
theorem call_int1 : CallR X (.type "int") (fun xs H Q => (∃ i, xs = [.int i] ∧ Q (.int i) H) ∨ ∃ k, xs = [.bl k] ∧ Q (.int (if k then 1 else 0)) H) := by
  intro pins s σ H xs us Q I r h
  rcases h with ⟨i, rfl, q⟩ | ⟨k, rfl, q⟩
  · obtain ⟨u, rfl, t, rfl⟩ := vals1 r
    exact call_int_int ⟨.int i, H, I, ⟨_, rfl⟩, q⟩
  · obtain ⟨u, rfl, r1⟩ := vals1 r
    cases r1
    exact call_int_bool ⟨.int (if k then 1 else 0), H, I.tok _, ⟨_, rfl⟩, q⟩
inductive P_call_str_int (K : PySem.W.Frag) (xs : List V) (H : Hp) (Q : VK) : Prop
  | mk (i : _) (h1 : xs = [.int i]) (h2 : i.natAbs.log2 < 1920) (h3 : Q (.str (toString i)) H) : P_call_str_int K xs H Q
theorem call_str_int : CallR X (.type "str") (P_call_str_int X.K) := by
  intro pins s σ H xs us Q I r h
  obtain ⟨i, rfl, hz, q⟩ := h
  obtain ⟨u, rfl, t, rfl⟩ := vals1 r
  exact PySem.P.str_of_int hz ⟨.str _, H, I.tok _, ⟨_, rfl⟩, q⟩
end
end L2

namespace L2
open PySem PySem.Spec PyProof.Rows

structure ObjM (h : Heap) (x dx C : Addr) (mA : Str → Option Value) : Prop where
  obj : h.get? x = some (PySem.W.instObj C dx)
  ns : h.Ns1 dx mA
  ne : dx ≠ x

theorem lookIn_ns {h : Heap} {dx : Addr} {mA : Str → Option Value} (n : h.Ns1 dx mA) : ∃ od, h.get? dx = some od ∧ ∀ name, PySem.W.lookIn name od = some (mA name) := by
  obtain ⟨o, es, ep, ho, hd, hk, _, hm⟩ := n
  refine ⟨o, ho, fun name => ?_⟩
  have e := hm name
  unfold nsFind findBy at e
  rw [← Array.find?_toList] at e
  unfold PySem.W.lookIn
  rw [hd]
  dsimp only
  split
  · rename_i y q
    rw [q] at e
    exact congrArg some e
  · rename_i q
    rw [q] at e
    have a : es.toList.any (·.refKey) = false := by
      rw [List.any_eq_false]
      intro y hy
      obtain ⟨z, t, hkey⟩ := hk y (Array.mem_toList_iff.mp hy)
      simp [DictEntry.refKey, hkey]
    have a' : ¬ es.toList.any (·.refKey) = true := by rw [a]; exact Bool.false_ne_true
    rw [if_neg a']
    exact congrArg some e

theorem ObjM.look {h : Heap} {x dx C : Addr} {mA : Str → Option Value} (I : ObjM h x dx C mA) : ∃ od, PySem.W.InstAt h x (PySem.W.instObj C dx) C (some od) ∧ ∀ name, PySem.W.lookIn name od = some (mA name) :=
  let ⟨od, ho, hl⟩ := lookIn_ns I.ns
  ⟨od, ⟨I.obj, rfl, rfl, ho⟩, hl⟩

section
variable {prog : Program} {w : World} {A : Around} {E : Value → Shared → Prop} {s : Shared} {K : PySem.W.Frag} {x dx C f : Addr} {mA : Str → Option Value} {name : Str} {v : Value}

end

section
variable {P : Program} {w : World} {H H' : Hp} {h h' : Heap} {a C dx : Addr} {fs fs' : List (Str × V)}
theorem ins_get (hok : HOk P w H h) (e : H a = some (.ins C dx fs)) : ∃ mA, ObjM h a dx C mA ∧ (∀ f, RelO (fs.lookup f) (mA f)) ∧ PySem.Within mA (fs.map (·.1)) ∧ fs.length ≤ 1000 ∧ H dx = some (.own a) := by
  obtain ⟨d, z, ne, ob, mA, n, r, q⟩ := (show ObjOk P w H h a (.ins C dx fs) from hok a _ e)
  exact ⟨mA, ⟨ob, n, ne⟩, r, q, z, d⟩
end

structure Cls (K : PySem.W.Frag) (C : Addr) : Prop where
  pg : PySem.W.plainGet K C Str.empty = true
  hd : PySem.W.hasDictIn K C = true
  po : PySem.W.plainOver K C = true
  sa : PySem.W.findIn K (.ref C) "__setattr__" = some (some (.builtin "object.__setattr__"))
theorem Cls.get {K : PySem.W.Frag} {C : Addr} (c : Cls K C) (f : Str) : PySem.W.plainGet K C f = true := c.pg
section
variable {X : Cx} {pins : List (Addr × Obj)} {σ : St} {H : Hp} {s : Shared} {a C dx : Addr} {fs : List (Str × V)} {f : Str} {v : V} {A : Around} {E : Value → Shared → Prop}

end

section
variable {X : Cx} {o e value : Expr} {f : Str} {pos pos' tpos : Pos} {ta tv : TE}
end

section
variable {X : Cx} {pins : List (Addr × Obj)} {σ : St} {H : Hp} {s : Shared} {A : Around} {E : Value → Shared → Prop} {Q : Value → Shared → Prop} {c : Value} {b : Bool}
inductive TyOf (K : PySem.W.Frag) (H : Hp) : V → Value → Prop where
  | non : TyOf K H .non (.type "NoneType")
  | bl (x : Bool) : TyOf K H (.bl x) (.type "bool")
  | int (i : Int) : TyOf K H (.int i) (.type "int")
  | str (x : Str) : TyOf K H (.str x) (.type "str")
  | flt (x : UInt64) : TyOf K H (.flt x) (.type "float")
  | lst {a : Addr} {xs : List V} (e : H a = some (.lst xs)) : TyOf K H (.ref a) (.type "list")
  | frz {a : Addr} {o : Obj} {xs : List V} (e : H a = some (.frz o (.lst xs))) : TyOf K H (.ref a) (.type "list")
  | tup {a : Addr} {xs : List V} (e : H a = some (.tup xs)) : TyOf K H (.ref a) (.type "tuple")
  | dK {a : Addr} {kvs : List (Key × V)} (e : H a = some (.dK kvs)) : TyOf K H (.ref a) (.type "dict")
  | dT {a : Addr} {kvs : List (List Key × V)} (e : H a = some (.dT kvs)) : TyOf K H (.ref a) (.type "dict")
  | ins {a C dx : Addr} {fs : List (Str × V)} (e : H a = some (.ins C dx fs)) (cl : Cls K C) (ha : PySem.W.findIn K (.ref C) "__class__" = some (some (.builtin "object.__class__")))
      (hn : PySem.W.specialIn K (.builtin "object.__class__") "__get__" = some (some (.builtin "getset_descriptor.__get__"))) (htk : PySem.W.takesIn K (.builtin "object.__class__") = some true)
      (hm : PySem.W.mroIn K C (.type "object") = some true) : TyOf K H (.ref a) (.ref C)
theorem isinst_ok {x : V} {u t : Value} (I : Inv X pins σ H s) (rx : RelV x u) (ty : TyOf X.K H x t) (e : PySem.W.kitOne X.K t c = some b) (h : ∀ tk, Q (.bool b) { s with toks := tk }) :
    wpAny (model X.prog X.w) A (call (.builtin "isinstance") [u, c]) Q E s := by
  cases ty with
  | non => cases (show u = Value.none from rx); exact PySem.W.kia_one PySem.W.kitx_none I.kIn True.intro e (fun z => nomatch z) h
  | bl y => cases (show u = Value.bool y from rx); exact PySem.W.kia_one PySem.W.kitx_bool I.kIn True.intro e (fun z => nomatch z) h
  | int i => obtain ⟨t, q⟩ := (show ∃ t, u = Value.int i t from rx); cases q; exact PySem.W.kia_one PySem.W.kitx_int I.kIn True.intro e (fun z => nomatch z) h
  | str y => obtain ⟨t, q⟩ := (show ∃ t, u = Value.str y t from rx); cases q; exact PySem.W.kia_one PySem.W.kitx_str I.kIn True.intro e (fun z => nomatch z) h
  | flt y => obtain ⟨t, q⟩ := (show ∃ t, u = Value.float y t from rx); cases q; exact PySem.W.kia_one PySem.W.kitx_float I.kIn True.intro e (fun z => nomatch z) h
  | @lst a xs ea =>
    cases (show u = Value.ref a from rx)
    obtain ⟨_, _, n, _, h1⟩ := (show ObjOk X.prog X.w H s.heap a (.lst xs) from I.hok a _ ea)
    exact PySem.W.kia_one PySem.W.kitx_list I.kIn ⟨_, h1, rfl⟩ e (fun z => nomatch z) h
  | @frz a ob xs ea =>
    cases (show u = Value.ref a from rx)
    obtain ⟨_, _, _, n, _, h1⟩ := (show ObjOk X.prog X.w H s.heap a (.frz ob (.lst xs)) from I.hok a _ ea)
    exact PySem.W.kia_one PySem.W.kitx_list I.kIn ⟨_, h1, rfl⟩ e (fun z => nomatch z) h
  | @tup a xs ea =>
    cases (show u = Value.ref a from rx)
    obtain ⟨_, _, _, p⟩ := (show ObjOk X.prog X.w H s.heap a (.tup xs) from I.hok a _ ea)
    obtain ⟨o, h1, h2, _⟩ := p
    exact PySem.W.kia_one PySem.W.kitx_tuple I.kIn ⟨o, h1, h2⟩ e (fun z => nomatch z) h
  | @dK a kvs ea =>
    cases (show u = Value.ref a from rx)
    obtain ⟨_, _, vs, _, p⟩ := (show ObjOk X.prog X.w H s.heap a (.dK kvs) from I.hok a _ ea)
    obtain ⟨o, es, ep, h1, h2, _⟩ := p
    exact PySem.W.kia_one PySem.W.kitx_dict I.kIn ⟨o, h1, h2.1⟩ e (fun z => nomatch z) h
  | @dT a kvs ea =>
    cases (show u = Value.ref a from rx)
    obtain ⟨_, _, xs, _, o, es, ep, h1, h2, _⟩ := (show ObjOk X.prog X.w H s.heap a (.dT kvs) from I.hok a _ ea)
    exact PySem.W.kia_one PySem.W.kitx_dict I.kIn ⟨o, h1, h2.1⟩ e (fun z => nomatch z) h
  | @ins a C dx fs ea cl ha hn htk hm =>
    cases (show u = Value.ref a from rx)
    obtain ⟨mA, O, _⟩ := ins_get I.hok ea
    obtain ⟨od, J, _⟩ := O.look
    exact PySem.W.kia_one (PySem.W.kitx_own (cl.get _) cl.hd ha hn htk hm) I.kIn J e (fun z => nomatch z) h
end
end L2

namespace L2
open PySem PySem.Spec PyProof.Rows

structure Room (k : Nat) (A : Around) : Prop where
  hd : A.handled = none
  dp : A.depth + 3 * k + 5 < recursionLimit
  un : A.units + 16 * k + 200 < cLine
  gd : A.guards = some []
theorem Room.mono {j k : Nat} {A : Around} (r : Room k A) (h : j ≤ k) : Room j A := ⟨r.hd, by have := r.dp; (first | lia | omega), by have := r.un; (first | lia | omega), r.gd⟩
theorem Room.deeper {k : Nat} {A : Around} (r : Room (k + 1) A) (env : Env) : Room k (A.deeper env) :=
  ⟨r.hd, by have := r.dp; show A.depth + 1 + 3 * k + 5 < _; (first | lia | omega), by have := r.un; show A.units + 3 + 16 * k + 200 < _; (first | lia | omega), r.gd⟩
theorem Room.depth {k : Nat} {A : Around} (r : Room k A) : A.depth < recursionLimit := by have := r.dp; (first | lia | omega)
theorem Room.units {k : Nat} {A : Around} (r : Room k A) : A.units + 64 < cLine := by have := r.un; (first | lia | omega)
def tNil : TA := fun _ H Q => Q [] H
def tCons (ta : TE) (tr : TA) : TA := fun σ H Q => ta σ H fun x H1 => tr σ H1 fun xs H2 => Q (x :: xs) H2
section
variable {X : Cx} {e : Expr} {es : List Expr} {te : TE} {t : TA} {pos : Pos}
theorem pa_nil : PA X [] tNil := fun _ _ _ _ H Q I h => Calls.spliced_nil ⟨[], H, I, .nil, h⟩
theorem pa_cons (ha : PE X e te) (hr : PA X es t) (hs : starEach (e :: es) X.env = (false, eval e X.env) :: starEach es X.env := by rfl) : PA X (e :: es) (tCons te t) := by
  intro pos pins s σ H Q I h
  rw [hs]
  show wpAny _ _ (spliced ((false, eval e X.env) :: backTo pos (starEach es X.env))) _ _ s
  refine Calls.spliced_cons (thn (ha pins s σ H _ I h) fun u s1 ⟨x, H1, I1, r1, q1⟩ => ?_)
  exact thn (hr pos pins s1 σ H1 _ I1 q1) fun us s2 ⟨xs, H2, I2, r2, q2⟩ => ⟨x :: xs, H2, I2, .cons r1 r2, q2⟩

def tTup (t : TA) : TE := fun σ H Q => t σ H fun xs H1 => NewOb xs.length (.tup xs) H1 Q
def tLst (t : TA) : TE := fun σ H Q => t σ H fun xs H1 => NewOb xs.length (.lst xs) H1 Q
theorem pe_tup {x1} (h : PA X es t) : PE X (.Tuple es x1 pos) (tTup t) := by
  intro pins s σ H Q I hq
  refine wpAny_Tuple_spliced (thn (h pos pins s σ H _ I hq) fun us s1 ⟨xs, H1, I1, r, z, q⟩ => ⟨by rw [← r.length]; exact z, ?_⟩)
  have hf : H1 s1.heap.objs.size = none := I1.hok.fresh (Nat.le_refl _)
  refine ⟨.ref s1.heap.objs.size, upd H1 s1.heap.objs.size (.tup xs), I1.laid (t' := s1.toks) (fun b u e => Heap.get?_push_of_some _ e) (Nat.le_refl _) ?_, rfl, q _ hf⟩
  exact ⟨z, us, r, ⟨_, Heap.get?_push_size _ rfl, rfl, _, rfl, rfl⟩⟩
theorem pe_lst (h : PA X es t) : PE X (.List es pos) (tLst t) := by
  intro pins s σ H Q I hq
  refine wpAny_List_spliced (thn (h pos pins s σ H _ I hq) fun us s1 ⟨xs, H1, I1, r, z, q⟩ => ⟨by rw [← r.length]; exact z, ?_⟩)
  have hf : H1 s1.heap.objs.size = none := I1.hok.fresh (Nat.le_refl _)
  refine ⟨.ref s1.heap.objs.size, upd H1 s1.heap.objs.size (.lst xs), I1.laid (t' := s1.toks) (fun b u e => Heap.get?_push_of_some _ e) (Nat.le_refl _) ?_, rfl, q _ hf⟩
  exact ⟨z, us, 0, r, Heap.get?_push_size _ rfl⟩
end

abbrev Sp := List V → Hp → VK → XK → Prop
abbrev CXT := List Env → Hp → Shared → XK → Value → Shared → Prop

structure Env0 (P : Program) (w : World) (K : PySem.W.Frag) (mg : Str → Option Value) (base : Heap) (A : Around) (outer : List Env) (s : Shared) (H : Hp) : Prop where
  frames : A.frames = some outer
  mod : Mod K mg base
  bs : ∀ b o, base.get? b = some o → s.heap.get? b = some o ∧ H b = none
  bsz : base.objs.size ≤ s.heap.objs.size
  funs : s.heap.FunFrames base outer
  frf : ∀ b ∈ frs outer, H b = none
  hok : HOk P w H s.heap
  bare : AllBare s.gens
def CE (outer : List Env) (P : Program) (w : World) (H : Hp) (s : Shared) (Q : VK) (u : Value) (s' : Shared) : Prop :=
  ∃ v H', s'.os = s.os ∧ AllBare s'.gens ∧ Un (frs outer) [] H H' s.heap s'.heap ∧ HOk P w H' s'.heap ∧ RelV v u ∧ Q v H'
def CR (CX : CXT) (outer : List Env) (P : Program) (w : World) (H : Hp) (s : Shared) (Q : VK) (E : XK) (r : Result) (s' : Shared) : Prop :=
  match r with
  | .ok (.ret u) => CE outer P w H s Q u s'
  | .ok _ => False
  | .error e => CX outer H s E e s'
structure FnOk (P : Program) (w : World) (K : PySem.W.Frag) (mg : Str → Option Value) (base : Heap) (CX : CXT) (k : Nat) (f : Addr) (fd : FuncData) (ps : List Str) (sp : Sp) : Prop where
  len : ∀ vs H Q E, sp vs H Q E → vs.length = ps.length
  run : ∀ (A : Around) (outer : List Env) (s : Shared) (H : Hp) (args : Args) (us : List Value) (vs : List V) (Q : VK) (E : XK), Room k A → Env0 P w K mg base A outer s H → BindsTo s fd args (ps.zip us) → Vals vs us → sp vs H Q E →
    codeAny (model P w) A (.call (.ref f) args) (CR CX outer P w H s Q E) s
theorem FnOk.imp {P : Program} {w : World} {K : PySem.W.Frag} {mg : Str → Option Value} {base : Heap} {CX : CXT} {k : Nat} {f : Addr} {fd : FuncData} {ps : List Str} {sp sp' : Sp} (F : FnOk P w K mg base CX k f fd ps sp)
    (h : ∀ vs H Q E, sp' vs H Q E → sp vs H Q E) : FnOk P w K mg base CX k f fd ps sp' :=
  ⟨fun vs H Q E q => F.len vs H Q E (h _ _ _ _ q), fun A outer s H args us vs Q E hr he hb hv hs => F.run A outer s H args us vs Q E hr he hb hv (h _ _ _ _ hs)⟩

section
variable {X : Cx} {pins : List (Addr × Obj)} {σ : St} {H : Hp} {s s' : Shared}
theorem Inv.env0 (I : Inv X pins σ H s) : Env0 X.prog X.w X.K X.mg X.base X.A X.stack s H :=
  ⟨I.ok.frames, I.ok.mod, I.bs, Nat.le_trans I.ok.bsz I.sz, I.stack, I.stkFree, I.hok, I.bare⟩
theorem Inv.after {Q : VK} {u : Value} (I : Inv X pins σ H s) (h : CE X.stack X.prog X.w H s Q u s') : EP X pins σ Q u s' := by
  obtain ⟨v, H', os, bare, un, hok, r, q⟩ := h
  obtain ⟨hh, g, d, t, os'⟩ := s'
  obtain rfl : os' = s.os := os
  exact ⟨v, H', I.call (h' := hh) (g' := g) (d' := d) (t' := t) (ch := []) un hok bare (fun b z => absurd z (by simp)), r, q⟩
end

def tCall (sp : Sp) (dvs : List V) (E : XK) (t : TA) : TE := fun σ H Q => t σ H fun vs H1 => sp (vs ++ dvs) H1 Q E
def Binds (K : PySem.W.Frag) (fd : FuncData) (ps : List Str) (ds : List Value) : Prop :=
  ∀ (s : Shared) (us : List Value), K.In s.heap → (us ++ ds).length = ps.length → BindsTo s fd ⟨us, []⟩ (ps.zip (us ++ ds))
theorem Binds.all {K : PySem.W.Frag} {fd : FuncData} {ps : List Str} (h : ∀ us : List Value, us.length = ps.length → bindArgs fd ⟨us, []⟩ = pure (ps.zip us)) : Binds K fd ps [] := fun s us _ hl => by
  rw [List.append_nil] at hl ⊢
  exact .of_eq (h us hl)

def Passes (CX : CXT) (X : Cx) (E : XK) : Prop := ∀ (pins : List (Addr × Obj)) (σ : St) (H : Hp) (s : Shared) (e : Value) (s' : Shared), Inv X pins σ H s → CX X.stack H s E e s' → X.xe e s'

section
variable {X : Cx} {CX : CXT} {k : Nat} {f C : Addr} {fd : FuncData} {ps : List Str} {sp : Sp} {dvs : List V} {ds : List Value} {E : XK} {x m : Str} {p pos apos : Pos} {e o : Expr} {es : List Expr} {ta : TE} {t : TA}

theorem run_fn {pins : List (Addr × Obj)} {σ : St} {H : Hp} {s : Shared} {Q : VK} {us : List Value} {vs : List V} (F : FnOk X.prog X.w X.K X.mg X.base CX k f fd ps sp) (hr : Room k X.A) (hb : Binds X.K fd ps ds) (hd : Vals dvs ds) (hx : Passes CX X E)
    (I : Inv X pins σ H s) (r : Vals vs us) (h : sp (vs ++ dvs) H Q E) : wpAny (model X.prog X.w) X.A (call (.ref f) us) (EP X pins σ Q) X.xe s := by
  have r2 : Vals (vs ++ dvs) (us ++ ds) := r.append hd
  have hl : (us ++ ds).length = ps.length := by rw [← r2.length]; exact F.len _ _ _ _ h
  refine wpAny_call (codeAny_mono (F.run X.A X.stack s H ⟨us, []⟩ (us ++ ds) (vs ++ dvs) Q E hr I.env0 (hb s us I.kIn hl) r2 h) fun r s' hq => ?_)
  cases r with
  | error e => exact hx pins σ H s e s' I hq
  | ok fl =>
    cases fl with
    | ret u => exact I.after hq
    | next => exact False.elim hq
    | brk => exact False.elim hq
    | cont => exact False.elim hq

theorem pe_call (F : FnOk X.prog X.w X.K X.mg X.base CX k f fd ps sp) (hr : Room k X.A) (hg : Gl X x) (hm : X.mg x = some (.ref f)) (hk : PySem.W.keepIn X.K (.ref f) = true) (hb : Binds X.K fd ps ds) (hd : Vals dvs ds) (hx : Passes CX X E)
    (ha : PA X (e :: es) t) (hdb : (x == ("__debug__" : Str)) = false := by decide) (he : starEach (e :: es) X.env = (false, eval e X.env) :: starEach es X.env := by rfl) (hpl : (backTo pos (starEach es X.env)).any (·.1) = false := by rfl) :
    PE X (.Call (.Name x p) (e :: es) [] pos) (tCall sp dvs E t) := by
  intro pins s σ H Q I h
  refine wpAny_Call_Name_kw (ld_glob I hg hm ?_ hdb)
  refine PySem.W.callWith_K (h₀ := X.base) I.ok.mod.kin hk (thn (ha pos pins s σ H _ I h) fun us s1 ⟨vs, H1, I1, r, q⟩ => ⟨I1.kIn, ?_⟩) he hpl
  exact run_fn F hr hb hd hx I1 r q
structure Mk (K : PySem.W.Frag) (C f : Addr) : Prop where
  makes : PySem.W.makesIn K C = true
  init : PySem.W.findIn K (.ref C) "__init__" = some (some (.ref f))
  fn : PySem.W.isFn K (.ref f) = true
  kp : PySem.W.keepIn K (.ref C) = true

end

section
variable {X : Cx} {CX : CXT} {k : Nat} {f C : Addr} {fd : FuncData} {ps ks : List Str} {sp : Sp} {E : XK} {x m : Str} {p pos apos kpos : Pos} {e o : Expr} {es : List Expr} {kws : List Keyword} {te ta : TE} {t tk : TA} {nm : Option Str}
variable {g : List Value → List Value → List Value} {gV : List V → List V → List V}
end

structure FnScope (N P : List Str) (sc : Scope) : Prop where
  kind : sc.kind = .function
  co : sc.isCoroutine = false
  gen : sc.isGenerator = false
  nd : N.Nodup
  pre : N.take P.length = P
  par : ∀ x ∈ P, sc.names.lookup x = some .local ∨ sc.names.lookup x = some .cell
  nofree : ∀ y ∈ sc.names, y.2 ≠ .free

theorem bindL_out {kindOf : Str → Option NameKind} {x : Str} : ∀ {binds : List (Str × Value)} {m : Str → Option Value}, (∀ v, (x, v) ∉ binds) → bindL kindOf binds m x = m x
  | [], _, _ => rfl
  | (n, v) :: r, m, h => by
    unfold bindL
    rw [bindL_out fun w hw => h w (List.mem_cons_of_mem _ hw)]
    split
    · have : x ≠ n := by rintro rfl; exact h v List.mem_cons_self
      simp [this]
    · rfl
theorem bindC_out {kindOf : Str → Option NameKind} {x : Str} : ∀ {binds : List (Str × Value)} {m : Str → Option Value}, (∀ v, (x, v) ∉ binds) → bindC kindOf binds m x = m x
  | [], _, _ => rfl
  | (n, v) :: r, m, h => by
    unfold bindC
    rw [bindC_out fun w hw => h w (List.mem_cons_of_mem _ hw)]
    split
    · rfl
    · have : x ≠ n := by rintro rfl; exact h v List.mem_cons_self
      simp [this]
theorem bindL_get {kindOf : Str → Option NameKind} {x : Str} {v : Value} : ∀ {P : List Str} {vs : List Value} {i : Nat} {m : Str → Option Value}, P.Nodup → P[i]? = some x → vs[i]? = some v → kindOf x = some .local →
    bindL kindOf (P.zip vs) m x = some v
  | [], _, _, _, _, h, _, _ => by simp at h
  | _ :: _, [], _, _, _, _, h, _ => by simp at h
  | p :: P, w :: vs, 0, m, nd, h1, h2, hk => by
    simp at h1 h2; subst h1; subst h2
    show bindL kindOf ((p, w) :: P.zip vs) m p = _
    unfold bindL
    rw [bindL_out fun v hv => (List.nodup_cons.mp nd).1 (List.of_mem_zip hv).1, if_pos hk]
    simp
  | p :: P, w :: vs, i + 1, m, nd, h1, h2, hk => by
    show bindL kindOf ((p, w) :: P.zip vs) m x = _
    unfold bindL
    exact bindL_get (i := i) (List.nodup_cons.mp nd).2 (by simpa using h1) (by simpa using h2) hk
theorem bindC_get {kindOf : Str → Option NameKind} {x : Str} {v : Value} : ∀ {P : List Str} {vs : List Value} {i : Nat} {m : Str → Option Value}, P.Nodup → P[i]? = some x → vs[i]? = some v → kindOf x ≠ some .local →
    bindC kindOf (P.zip vs) m x = some v
  | [], _, _, _, _, h, _, _ => by simp at h
  | _ :: _, [], _, _, _, _, h, _ => by simp at h
  | p :: P, w :: vs, 0, m, nd, h1, h2, hk => by
    simp at h1 h2; subst h1; subst h2
    show bindC kindOf ((p, w) :: P.zip vs) m p = _
    unfold bindC
    rw [bindC_out fun v hv => (List.nodup_cons.mp nd).1 (List.of_mem_zip hv).1, if_neg hk]
    simp
  | p :: P, w :: vs, i + 1, m, nd, h1, h2, hk => by
    show bindC kindOf ((p, w) :: P.zip vs) m x = _
    unfold bindC
    exact bindC_get (i := i) (List.nodup_cons.mp nd).2 (by simpa using h1) (by simpa using h2) hk

def start (N : List Str) (vs : List V) : St := vs.map some ++ List.replicate (N.length - vs.length) none

def cxOf (CX : CXT) (P : Program) (w : World) (K : PySem.W.Frag) (mg : Str → Option Value) (base : Heap) (N : List Str) (qual : Str) (scope : Scope) (f : Addr) (cd : Value) (A : Around) (outer : List Env) (s : Shared) (H : Hp) (E : XK) : Cx where
  prog := P
  w := w
  K := K
  mg := mg
  base := base
  A := A.deeper (envOfC qual scope s.heap.objs.size f cd)
  N := N
  s₀ := s
  H₀ := H
  env := envOfC qual scope s.heap.objs.size f cd
  outer := outer
  stack := envOfC qual scope s.heap.objs.size f cd :: outer
  ex := []
  calm := true
  fn := fun _ => true
  pn := []
  xe := fun e s' => wpAny (model P w) (A.deeper (envOfC qual scope s.heap.objs.size f cd)) (leaving (envOfC qual scope s.heap.objs.size f cd) e) (fun _ s'' => CX outer H s E e s'') (fun e' s'' => CX outer H s E e' s'') s'

theorem cell_has {sc : Scope} {n : Nat} {x : Str} (h : sc.names.lookup x = some .cell) : ∃ c, (cellsFrom n sc.names []).lookup x = some c := by
  have q := PySem.W.cellsFrom_some sc.names n [] (.inl h)
  exact Option.isSome_iff_exists.mp q

theorem inv_start {CX : CXT} {P : Program} {w : World} {K : PySem.W.Frag} {mg : Str → Option Value} {base : Heap} {N ps : List Str} {qual : Str} {scope : Scope} {f : Addr} {cd : Value} {A : Around} {outer : List Env} {s s1 : Shared} {H : Hp} {E : XK} {us : List Value} {vs : List V}
    (S : FnScope N ps scope) (hd : A.handled = none) (e0 : Env0 P w K mg base A outer s H) (hl : vs.length = ps.length) (r : Vals vs us)
    (x : InCallC s s.heap.objs.size (bindL (envOfC qual scope s.heap.objs.size f cd).kindOf (ps.zip us) fun _ => none) (cellsFrom (s.heap.objs.size + 1) scope.names []) (bindC (envOfC qual scope s.heap.objs.size f cd).kindOf (ps.zip us) fun _ => none) s1) :
    Inv (cxOf CX P w K mg base N qual scope f cd A outer s H E) [] (start N vs) H s1 := by
  have hpl : ps.length ≤ N.length := by have := congrArg List.length S.pre; rw [List.length_take] at this; (first | lia | omega)
  obtain ⟨h1, tk, rfl, hk⟩ := x.done
  have noA : ∀ b : Addr, b ∉ (cxOf CX P w K mg base N qual scope f cd A outer s H E).ex := fun b z => absurd (show b ∈ ([] : List Addr) from z) (by simp)
  refine ⟨⟨e0.mod, S.kind, rfl, rfl, Nat.le_refl _, fun y z c h1 h2 => ?_, fun y hy => ?_, fun y c _ h => ?_, fun _ => hd, Around.frames_deeper e0.frames, .inr ⟨rfl, rfl⟩, fun b z => absurd z (noA b), e0.bs, e0.bsz, fun b _ _ => noA b, fun b z => absurd z (noA b), e0.funs, e0.frf⟩,
    rfl, e0.bare, Un.kept hk, ⟨_, x.toInCall.ns, fun i y v h1 h2 h3 => ?_⟩, fun y c h => ⟨_, x.cell y c h⟩, e0.hok.fresh (Nat.le_refl _), fun y c h => ?_, fun p hp => absurd (show p ∈ ([] : List (Addr × Obj)) from hp) (by simp), e0.hok.kept hk, ?_⟩
  · exact name_of_addr x.apart (PySem.mem_of_lookup h1) (PySem.mem_of_lookup h2)
  · have hy : scope.names.lookup y = some .cell ∨ scope.names.lookup y = some .free := hy
    rcases hy with hy | hy
    · exact cell_has hy
    · exact absurd rfl (S.nofree _ (PySem.mem_of_lookup hy))
  · exact Nat.le_of_lt (x.above y c (PySem.mem_of_lookup h))
  · have hi : i < vs.length := by
      unfold start at h2
      by_cases hi : i < vs.length
      · exact hi
      · rw [List.getElem?_append_right (by simpa using hi)] at h2
        rw [List.getElem?_replicate] at h2
        split at h2 <;> cases h2
    have ha : vs[i]? = some v := by
      unfold start at h2
      rw [List.getElem?_append_left (by simpa using hi), List.getElem?_map] at h2
      cases e : vs[i]? with
      | none => rw [e] at h2; cases h2
      | some a => rw [e] at h2; cases h2; rfl
    obtain ⟨u, hu, rv⟩ := r.get ha
    have hp : ps[i]? = some y := by
      rw [← S.pre, List.getElem?_take_of_lt (by (first | lia | omega))]; exact h1
    have ndP : ps.Nodup := by rw [← S.pre]; exact S.nd.sublist (List.take_sublist _ _)
    refine ⟨u, rv, ?_⟩
    rcases S.par y (List.mem_of_getElem? hp) with k | k
    · exact .inl ⟨k, bindL_get ndP hp hu k⟩
    · obtain ⟨c, e⟩ := cell_has (n := s.heap.objs.size + 1) k
      refine .inr ⟨.inl k, c, e, ?_⟩
      have q := x.cell y c e
      rw [bindC_get ndP hp hu (by show scope.names.lookup y ≠ _; rw [k]; decide)] at q
      exact q
  · exact e0.hok.fresh (Nat.le_of_lt (x.above y c (PySem.mem_of_lookup h)))
  · unfold start
    show _ = N.length
    rw [List.length_append, List.length_map, List.length_replicate]
    (first | lia | omega)

theorem fn_of {CX : CXT} {P : Program} {w : World} {K : PySem.W.Frag} {mg : Str → Option Value} {base : Heap} {k : Nat} {f : Addr} {name qual : Str} {params : Arguments} {body : List Stmt} {scope : Scope} {dV kV doc pm cdv ct oc : Value} {an od : Option Addr}
    {osl : Array (Option Value)} {N ps : List Str} {sp : Sp} (lk : K.lookup f = some ⟨oc, od, .func (PySem.W.fnOf name qual params body scope dV kV doc pm an cdv ct), osl⟩) (hcd : PySem.W.codeIn K cdv qual = true) (S : FnScope N ps scope)
    (len : ∀ vs H Q E, sp vs H Q E → vs.length = ps.length)
    (hbody : ∀ (A : Around) (outer : List Env) (s : Shared) (H : Hp) (vs : List V) (Q : VK) (E : XK), Room k (A.deeper (envOfC qual scope s.heap.objs.size f cdv)) → sp vs H Q E →
      ∃ t, PSs (cxOf CX P w K mg base N qual scope f cdv A outer s H E) body t ∧ t { nx := fun _ H' => Q .non H', rt := Q } (start N vs) H) :
    FnOk P w K mg base CX (k + 1) f (PySem.W.fnOf name qual params body scope dV kV doc pm an cdv ct) ps sp := by
  refine ⟨len, fun A outer s H args us vs Q E hr e0 hb r hsp => ?_⟩
  have hl := len _ _ _ _ hsp
  have KX : K.In s.heap := e0.mod.kin.keeps fun b o e => (e0.bs b o e).1
  have lim : s.heap.NoLimit := e0.mod.nolimit.keeps fun b o e => (e0.bs b o e).1
  have hkind : ∀ y ∈ ps.zip us, scope.names.lookup y.1 = some .local ∨ (scope.names.lookup y.1 = some .cell ∧ ((cellsFrom (s.heap.objs.size + 1) scope.names []).lookup y.1).isSome = true) := fun ⟨n, v⟩ hy => by
    rcases S.par n (List.of_mem_zip hy).1 with q | q
    · exact .inl q
    · exact .inr ⟨q, PySem.W.cellsFrom_some _ _ _ (.inl q)⟩
  refine codeAny_call_function hr.depth (KX _ _ lk) rfl S.co S.gen rfl (PySem.W.codeRec_of KX hcd) (hb _ _ _ _ ?_)
  refine wpAny_newFunctionEnv_cells S.kind hkind fun env he s1 x => ?_
  subst he
  refine ⟨lim.keeps x.toInCall.keep, codeAny_func ?_⟩
  obtain ⟨t, ht, hq⟩ := hbody A outer s H vs Q E (hr.deeper _) hsp
  have I : Inv (cxOf CX P w K mg base N qual scope f cdv A outer s H E) [] (start N vs) H s1 := inv_start S hr.hd e0 hl r x
  refine wpAny_mono (ht [] s1 (start N vs) H _ I hq) (fun fl s' hs => ?_) fun e s' hs => hs
  have fin : ∀ {σ' : St} {H' : Hp} {v : V} {u : Value}, Inv (cxOf CX P w K mg base N qual scope f cdv A outer s H E) [] σ' H' s' → RelV v u → Q v H' → CE outer P w H s Q u s' :=
    fun {σ' H' v u} J rv q => ⟨v, H', J.os, J.bare, J.base, J.hok, rv, q⟩
  cases fl with
  | ret u =>
    obtain ⟨v, σ', H', J, rv, q⟩ := hs
    exact fin J rv q
  | next =>
    obtain ⟨σ', H', J, q⟩ := hs
    exact fin (v := V.non) (u := Value.none) J rfl q
  | brk =>
    obtain ⟨_, _, _, q⟩ := hs
    exact False.elim q
  | cont =>
    obtain ⟨_, _, _, q⟩ := hs
    exact False.elim q
end L2

namespace L2
open PySem PySem.Spec PyProof.Rows
section
variable {X : Cx} {x : Str} {p pos : Pos} {e : Expr} {es : List Expr} {t : TA} {id T : String} {r : List V → Hp → VK → Prop}

def tCB (r : List V → Hp → VK → Prop) (t : TA) : TE := fun σ H Q => t σ H fun vs H1 => r vs H1 Q
theorem pe_callB (hc : CallR X (.builtin id) r) (hg : Gl X x) (hm : X.mg x = none) (hv : bootBuiltins x = some (.builtin id)) (ha : PA X (e :: es) t) (hn : x ≠ "__name__" := by decide) (hdb : (x == ("__debug__" : Str)) = false := by decide)
    (he : starEach (e :: es) X.env = (false, eval e X.env) :: starEach es X.env := by rfl) (hpl : (backTo pos (starEach es X.env)).any (·.1) = false := by rfl) : PE X (.Call (.Name x p) (e :: es) [] pos) (tCB r t) := by
  intro pins s σ H Q I h
  refine wpAny_Call_Name_kw (ld_blt I hg hm hv ?_ hn hdb)
  exact PyProof.Rows.callWith_builtin1 (thn (ha pos pins s σ H _ I h) fun us s1 ⟨vs, H1, I1, r1, q1⟩ => hc pins s1 σ H1 vs us Q I1 r1 q1) he hpl
theorem pe_callTy (hc : CallR X (.type T) r) (hg : Gl X x) (hm : X.mg x = none) (hv : bootBuiltins x = some (.type T)) (ha : PA X (e :: es) t) (hn : x ≠ "__name__" := by decide) (hdb : (x == ("__debug__" : Str)) = false := by decide)
    (he : starEach (e :: es) X.env = (false, eval e X.env) :: starEach es X.env := by rfl) (hpl : (backTo pos (starEach es X.env)).any (·.1) = false := by rfl) : PE X (.Call (.Name x p) (e :: es) [] pos) (tCB r t) := by
  intro pins s σ H Q I h
  refine wpAny_Call_Name_kw (ld_blt I hg hm hv ?_ hn hdb)
  exact PyProof.Rows.callWith_type1 (thn (ha pos pins s σ H _ I h) fun us s1 ⟨vs, H1, I1, r1, q1⟩ => hc pins s1 σ H1 vs us Q I1 r1 q1) he hpl
end
end L2

namespace HT
open PySem PyProof.Rows

section
open PySem.SeqAt
open PySem.AutoSeq1 (wpAny_loadPart')
open PySem.MeetsSeq PySem.MeetsSeq2 PySem.MeetsSeq3

end

section
variable {prog : Program} {w : World} {A : Around} {E : Value → Shared → Prop} {s : Shared}

def sIx (n d : Nat) : Option Int → Nat
  | none => d
  | some v => if v < 0 then (v + (n : Int)).toNat else min v.toNat n
theorem sIx_none (n d : Nat) : sIx n d none = d := rfl
theorem sIx_nat (n d k : Nat) : sIx n d (some (k : Int)) = min k n := by
  show (if (k : Int) < 0 then ((k : Int) + (n : Int)).toNat else min (k : Int).toNat n) = min k n
  rw [if_neg (by (first | lia | omega)), Int.toNat_natCast]
end
end HT

namespace L2
open PySem PySem.Spec PyProof.Rows

abbrev TO := St → Hp → (Option Int → Hp → Prop) → Prop
def PO (X : Cx) (e : Option Expr) (t : TO) : Prop :=
  ∀ (pins : List (Addr × Obj)) (s : Shared) (σ : St) (H : Hp) (Q : Option Int → Hp → Prop), Inv X pins σ H s → t σ H Q →
    wpAny (model X.prog X.w) X.A (evalPart e X.env) (fun u s' => ∃ o H', Inv X pins σ H' s' ∧ IsPart u o ∧ Q o H') X.xe s
def tNoPart : TO := fun _ H Q => Q none H
def tPart (t : TE) : TO := fun σ H Q => t σ H fun x H1 => OfI x H1 fun i H1 => Q (some i) H1

section
variable {X : Cx} {e : Expr} {te : TE} {lo hi : Option Expr} {tl th : TO} {pos p2 : Pos}

theorem po_none : PO X none tNoPart := by
  intro pins s σ H Q I h
  rw [evalPart_none]
  exact wpAny_pure ⟨none, H, I, .none, h⟩
theorem po_some (h : PE X e te) : PO X (some e) (tPart te) := by
  intro pins s σ H Q I hw
  rw [evalPart_some]
  refine thn (h pins s σ H _ I hw) fun u s1 ⟨x, H1, I1, r1, q1⟩ => ?_
  obtain ⟨i, rfl, q⟩ := q1
  obtain ⟨t, rfl⟩ := r1
  exact ⟨some i, H1, I1, .int i t, q⟩

def SlR (X : Cx) (r : V → Option Int → Option Int → Hp → VK → Prop) : Prop :=
  ∀ (pins : List (Addr × Obj)) (s : Shared) (σ : St) (H : Hp) (x : V) (v vl vu : Value) (lo hi : Option Int) (sl : Addr) (Q : VK), Inv X pins σ H s → RelV x v → s.heap.IsSliceOf sl vl vu .none → IsPart vl lo → IsPart vu hi → r x lo hi H Q →
    ∃ T id, typeLookup (.type T) "__getitem__" = pure (some (.builtin id)) ∧ s.TypeIs v T ∧ wpAny (model X.prog X.w) X.A (getItem v (.ref sl)) (EP X pins σ Q) X.xe s
def tSl (r : V → Option Int → Option Int → Hp → VK → Prop) (te : TE) (tl th : TO) : TE := fun σ H Q => te σ H fun x H1 => tl σ H1 fun l H2 => th σ H2 fun u H3 => r x l u H3 Q
theorem pe_slice {r : V → Option Int → Option Int → Hp → VK → Prop} (hr : SlR X r) (he : PE X e te) (hl : PO X lo tl) (hu : PO X hi th) : PE X (.Subscript e (.Slice lo hi none p2) pos) (tSl r te tl th) := by
  intro pins s σ H Q I h
  refine Subscript_ (thn (he pins s σ H _ I h) fun v s1 ⟨x, H1, I1, r1, q1⟩ => ?_)
  refine wpAny_Slice (thn (hl pins s1 σ H1 _ I1 q1) fun vl s2 ⟨l, H2, I2, pl, q2⟩ => thn (hu pins s2 σ H2 _ I2 q2) fun vu s3 ⟨u, H3, I3, pu, q3⟩ => ?_)
  rw [evalPart_none]
  refine wpAny_pure ?_
  have I4 : Inv X pins σ H3 { s3 with heap := s3.heap.push { cls := .type "slice", data := .fields #[vl, vu, .none] } } := I3.kept (t' := s3.toks) fun b ob q => Heap.get?_push_of_some _ q
  obtain ⟨T, id, hT, ht, hg⟩ := hr pins { s3 with heap := s3.heap.push { cls := .type "slice", data := .fields #[vl, vu, .none] } } σ H3 x v vl vu l u s3.heap.objs.size Q I4 r1 (Heap.IsSliceOf.new ..) pl pu q3
  show wpAny (model X.prog X.w) X.A (subscriptTail e (.Slice lo hi none p2) v (.ref s3.heap.objs.size)) (EP X pins σ Q) X.xe { s3 with heap := s3.heap.push { cls := .type "slice", data := .fields #[vl, vu, .none] } }
  exact tail_any (ops := [.ref s3.heap.objs.size, v]) ht hT hg (by with_unfolding_all rfl)

def cutV (xs : List V) (lo hi : Option Int) : List V := (xs.drop (HT.sIx xs.length 0 lo)).take (HT.sIx xs.length xs.length hi - HT.sIx xs.length 0 lo)
theorem cutV_length (xs : List V) (lo hi : Option Int) : (cutV xs lo hi).length ≤ xs.length := by
  unfold cutV
  rw [List.length_take, List.length_drop]
  (first | lia | omega)
end
end L2

namespace L2
open PySem PySem.Spec PyProof.Rows

def ixN (n : Nat) (i : Int) : Option Nat := if 0 ≤ i then (if i < n then some i.toNat else none) else if -(n : Int) ≤ i then some (i + n).toNat else none
def atI {α : Type} (xs : List α) (i : Int) : Option α := (ixN xs.length i).bind fun j => xs[j]?
theorem ixN_seq {n : Nat} {i : Int} {j : Nat} (h : ixN n i = some j) : seqIndex? i n = some j ∧ j < n ∧ -(n : Int) ≤ i ∧ i < n := by
  unfold ixN at h
  by_cases h0 : 0 ≤ i
  · rw [if_pos h0] at h
    by_cases h1 : i < n
    · rw [if_pos h1] at h
      have e : i.toNat = j := Option.some.inj h
      exact ⟨by rw [seqIndex_of h0 h1, e], by (first | lia | omega), by (first | lia | omega), h1⟩
    · rw [if_neg h1] at h; cases h
  · rw [if_neg h0] at h
    by_cases h1 : -(n : Int) ≤ i
    · rw [if_pos h1] at h
      have e : (i + n).toNat = j := Option.some.inj h
      exact ⟨by rw [seqIndex_neg (by (first | lia | omega)) h1, e], by (first | lia | omega), h1, by (first | lia | omega)⟩
    · rw [if_neg h1] at h; cases h
theorem atI_get {α : Type} {xs : List α} {i : Int} {v : α} (h : atI xs i = some v) : ∃ j, seqIndex? i xs.length = some j ∧ xs[j]? = some v ∧ j < xs.length ∧ -(xs.length : Int) ≤ i ∧ i < xs.length := by
  unfold atI at h
  cases e : ixN xs.length i with
  | none => rw [e] at h; cases h
  | some j =>
    rw [e] at h
    obtain ⟨h1, h2, h3, h4⟩ := ixN_seq e
    exact ⟨j, h1, h, h2, h3, h4⟩
theorem atI_nat {α : Type} {xs : List α} {j : Nat} {v : α} (h : xs[j]? = some v) : atI xs (j : Int) = some v := by
  have hj : j < xs.length := (List.getElem?_eq_some_iff.mp h).1
  have e : ixN xs.length (j : Int) = some j := by
    unfold ixN
    rw [if_pos (by (first | lia | omega)), if_pos (by (first | lia | omega))]; simp
  unfold atI; rw [e]; exact h
def PlainIx (b : Expr) : Prop := ∀ o i, subscripted b false o i = operate [o, i] (getItem o i)
def IxR (X : Cx) (r : R2) : Prop :=
  ∀ (value slice : Expr) (pins : List (Addr × Obj)) (s : Shared) (σ : St) (H : Hp) (x y : V) (v u : Value) (Q : VK), Inv X pins σ H s → RelV x v → RelV y u → r x y H Q →
    subscripted slice false v u = operate [v, u] (getItem v u) → wpAny (model X.prog X.w) X.A (subscriptTail value slice v u) (EP X pins σ Q) X.xe s
def MtR (X : Cx) (id : String) (r : V → List V → Hp → VK → Prop) : Prop :=
  ∀ (pins : List (Addr × Obj)) (s : Shared) (σ : St) (H : Hp) (x : V) (xs : List V) (v : Value) (us : List Value) (Q : VK), Inv X pins σ H s → RelV x v → Vals xs us → r x xs H Q →
    wpAny (model X.prog X.w) X.A (call (.builtin id) (v :: us)) (EP X pins σ Q) X.xe s
section
variable {X : Cx} {a b : Expr} {ta tb : TE} {pos : Pos}
theorem pe_ix {r : R2} (hr : IxR X r) (ha : PE X a ta) (hb : PE X b tb) (hs : PlainIx b) : PE X (.Subscript a b pos) (tOp r ta tb) := by
  intro pins s σ H Q I h
  exact Subscript_ (binT ha hb I h fun v u s2 x y H2 I2 rx ry q => hr a b pins s2 σ H2 x y v u Q I2 rx ry q (hs _ _))

inductive RIxLP (K : PySem.W.Frag) (x : V) (y : V) (H : Hp) (Q : VK) : Prop
  | mk (p : _) (xs : _) (i : _) (v : _) (h1 : x = .ref p) (h2 : y = .int i) (h3 : SqL K H p xs) (h4 : atI xs i = some v) (h5 : Q v H) : RIxLP K x y H Q
def rIxL (K : PySem.W.Frag) : R2 := fun x y H Q => RIxLP K x y H Q
inductive RIxTP (K : PySem.W.Frag) (x : V) (y : V) (H : Hp) (Q : VK) : Prop
  | mk (p : _) (xs : _) (i : _) (v : _) (h1 : x = .ref p) (h2 : y = .int i) (h3 : SqT K H p xs) (h4 : atI xs i = some v) (h5 : Q v H) : RIxTP K x y H Q
def rIxT (K : PySem.W.Frag) : R2 := fun x y H Q => RIxTP K x y H Q
inductive RIxSP (x : V) (y : V) (H : Hp) (Q : VK) : Prop
  | mk (z : _) (i : _) (c : _) (h1 : x = .str z) (h2 : y = .int i) (h3 : z.length ≤ sizeLine) (h4 : atI z.cps.toList i = some c) (h5 : Q (.str ⟨#[c]⟩) H) : RIxSP x y H Q
def rIxS : R2 := fun x y H Q => RIxSP  x y H Q
theorem ix_list : IxR X (rIxL X.K) := by
  intro value slice pins s σ H x y v u Q I rx ry h hs
  obtain ⟨p, xs, i, z, rfl, rfl, hq, he, q⟩ := h
  cases rx
  obtain ⟨t, rfl⟩ := ry
  obtain ⟨its, r, pl, hz⟩ := I.list hq
  obtain ⟨j, h1, h2, h3, h4, h5⟩ := atI_get he
  obtain ⟨w, ew, rw'⟩ := r.get h2
  have hl := r.length
  have hn := line63
  have fin : EP X pins σ Q w s := ⟨z, H, I, rw', q⟩
  by_cases h0 : 0 ≤ i
  · have hj : i.toNat = j := by
      rw [seqIndex_of h0 h5] at h1
      exact Option.some.inj h1
    exact item_listR pl.isList h0 (by (first | lia | omega)) (by rw [hj]; simpa using ew) fin hs
  · have hj : (i + (its.toArray.size : Int)).toNat = j := by
      rw [seqIndex_neg (by (first | lia | omega)) h4] at h1
      rw [List.size_toArray, ← hl]
      exact Option.some.inj h1
    exact subscriptTail_builtinR (x := w) pl.isList.typeIs slot_list_getitem.lookup
      (wpAny_getItem_list_neg (Q := fun r s' => r = w ∧ EP X pins σ Q r s') pl.isList (by (first | lia | omega)) (by rw [List.size_toArray] <;> (first | lia | omega)) (by (first | lia | omega)) (by rw [hj]; simpa using ew) ⟨rfl, fin⟩) hs
theorem ix_tup : IxR X (rIxT X.K) := by
  intro value slice pins s σ H x y v u Q I rx ry h hs
  obtain ⟨p, xs, i, z, rfl, rfl, hq, he, q⟩ := h
  cases rx
  obtain ⟨t, rfl⟩ := ry
  obtain ⟨its, r, pl, hz⟩ := I.tuple hq
  obtain ⟨j, h1, h2, h3, h4, h5⟩ := atI_get he
  obtain ⟨w, ew, rw'⟩ := r.get h2
  have hl := r.length
  have hn := line63
  have fin : EP X pins σ Q w s := ⟨z, H, I, rw', q⟩
  exact subscriptTail_builtinR (x := w) pl.typeIs slot_tuple_getitem.lookup
    (getItem_tuple (j := j) (Q := fun r s' => r = w ∧ EP X pins σ Q r s') pl (by (first | lia | omega)) (by (first | lia | omega)) (by rw [List.size_toArray, ← hl]; exact h1) (by simpa using ew) ⟨rfl, fin⟩) hs
theorem ix_str : IxR X rIxS := by
  intro value slice pins s σ H x y v u Q I rx ry h hs
  obtain ⟨z, i, c, rfl, rfl, hz, he, q⟩ := h
  obtain ⟨t, rfl⟩ := rx
  obtain ⟨t', rfl⟩ := ry
  obtain ⟨j, h1, h2, h3, h4, h5⟩ := atI_get he
  have hl : z.cps.toList.length = z.length := by simp [Str.length]
  rw [hl] at h1 h4 h5
  have hn := line63
  exact tail_any (typeIs_str s z t) slot_str_getitem.lookup (getItem_str (c := c) (by
    have e1 : decide (i < -(2 ^ 63 : Int)) = false := decide_eq_false (by (first | lia | omega))
    have e2 : decide (i ≥ 2 ^ 63) = false := decide_eq_false (by (first | lia | omega))
    rw [e1, e2, Bool.or_false]) (by rw [h1]; simpa using h2) ⟨.str ⟨#[c]⟩, H, I.tok _, ⟨_, rfl⟩, q⟩) hs
theorem mapSeq_set (its : List Value) (n j : Nat) (u : Value) : Obj.mapSeq (·.setIfInBounds j u) { cls := .type "list", data := .seq its.toArray n } = { cls := .type "list", data := .seq (its.set j u).toArray n } := by
  simp [Obj.mapSeq]
theorem Inv.lst {pins : List (Addr × Obj)} {σ : St} {H : Hp} {s : Shared} {p : Addr} {xs : List V} (I : Inv X pins σ H s) (h : H p = some (.lst xs)) :
    ∃ (its : List Value) (n : Nat), Vals xs its ∧ s.heap.get? p = some { cls := .type "list", data := .seq its.toArray n } ∧ xs.length ≤ sizeLine := by
  obtain ⟨z, its, n, r, e⟩ := I.hok p _ h
  exact ⟨its, n, r, e, z⟩
theorem Inv.lstUpd {pins : List (Addr × Obj)} {σ : St} {H : Hp} {s : Shared} {p : Addr} {xs ys : List V} {its its' : List Value} {n n' : Nat} {f : Obj → Obj} (I : Inv X pins σ H s) (h : H p = some (.lst xs))
    (ho : s.heap.get? p = some { cls := .type "list", data := .seq its.toArray n }) (hf : f { cls := .type "list", data := .seq its.toArray n } = { cls := .type "list", data := .seq its'.toArray n' }) (r : Vals ys its') (hz : ys.length ≤ sizeLine) (t : Nat) :
    Inv X pins σ (upd H p (.lst ys)) { s with heap := s.heap.update p f, toks := t } := by
  have e : (s.heap.update p f).get? p = some { cls := .type "list", data := .seq its'.toArray n' } := by
    rw [Heap.get?_update_self f ho (by rw [hf] <;> rfl), hf]
  refine I.write (x := p) (e := p) (by rw [h]; trivial) (.inl rfl) (fun b u hb q => (Heap.get?_update_other _ _ (Ne.symm hb)).trans q) ⟨_, e⟩ ?_
  exact ⟨hz, its', n', r, e⟩
inductive RSetLP (o : V) (i : V) (v : V) (H : Hp) (Q : Hp → Prop) : Prop
  | mk (p : _) (xs : _) (k : _) (j : _) (h1 : o = .ref p) (h2 : i = .int k) (h3 : H p = some (.lst xs)) (h4 : ixN xs.length k = some j) (h5 : Q (upd H p (.lst (xs.set j v)))) : RSetLP o i v H Q
def rSetL : V → V → V → Hp → (Hp → Prop) → Prop := fun o i v H Q => RSetLP  o i v H Q
theorem set_list : PSet X rSetL := by
  intro pins s σ H o i v ov iv u Q I ro ri rv h
  obtain ⟨p, xs, k, j, rfl, rfl, hp, hj, q⟩ := h
  cases ro
  obtain ⟨t, rfl⟩ := ri
  obtain ⟨its, n, r, ho, hz⟩ := I.lst hp
  obtain ⟨h1, h2, h3, h4⟩ := ixN_seq hj
  have hl := r.length
  have hn := line63
  have I' : Inv X pins σ (upd H p (.lst (xs.set j v))) { s with heap := s.heap.update p (Obj.mapSeq (·.setIfInBounds j u)) } :=
    I.lstUpd hp ho (mapSeq_set its n j u) (r.set rv j) (by rw [List.length_set]; exact hz) s.toks
  by_cases h0 : 0 ≤ k
  · have hk : k.toNat = j := by
      rw [seqIndex_of h0 h4] at h1
      exact Option.some.inj h1
    exact PySem.W.ki_setAt ho h0 (by (first | lia | omega)) (by rw [List.size_toArray, ← hl]; exact h4) (by rw [hk]; exact ⟨_, I', q⟩)
  · have hk : (k + (its.toArray.size : Int)).toNat = j := by
      rw [seqIndex_neg (by (first | lia | omega)) h3] at h1
      rw [List.size_toArray, ← hl]
      exact Option.some.inj h1
    exact PySem.W.ki_setBack ho (by (first | lia | omega)) (by rw [List.size_toArray, ← hl]; exact h3) (by (first | lia | omega)) (by rw [hk]; exact ⟨_, I', q⟩)

theorem slice_bounds (lo hi : Option Int) (n : Nat) : (sliceBounds lo hi none n).1 = ((HT.sIx n 0 lo : Nat) : Int) ∧ (sliceBounds lo hi none n).2.1 = ((HT.sIx n n hi : Nat) : Int) ∧ (sliceBounds lo hi none n).2.2 = 1 := by
  refine ⟨?_, ?_, rfl⟩
  · cases lo with
    | none => simp [sliceBounds, HT.sIx]
    | some i =>
      simp only [sliceBounds, HT.sIx, Option.getD_none, show (1 : Int) > 0 by decide, if_true]
      by_cases h : i < 0
      · simp only [h, if_true] <;> (first | lia | omega)
      · simp only [h, if_false] <;> (first | lia | omega)
  · cases hi with
    | none => simp [sliceBounds, HT.sIx]
    | some i =>
      simp only [sliceBounds, HT.sIx, Option.getD_none, show (1 : Int) > 0 by decide, if_true]
      by_cases h : i < 0
      · simp only [h, if_true] <;> (first | lia | omega)
      · simp only [h, if_false] <;> (first | lia | omega)
theorem slicePick_cut (its : List Value) (lo hi : Option Int) : slicePick its.toArray lo hi none = ((its.drop (HT.sIx its.length 0 lo)).take (HT.sIx its.length its.length hi - HT.sIx its.length 0 lo)).toArray := by
  obtain ⟨h1, h2, h3⟩ := slice_bounds lo hi its.toArray.size
  unfold slicePick
  rw [h1, h2, h3]
  simp only [sliceRange_one, pick_run, List.size_toArray] <;> rfl
inductive RSlLP (K : PySem.W.Frag) (x : V) (lo : Option Int) (hi : Option Int) (H : Hp) (Q : VK) : Prop
  | mk (a : _) (xs : _) (h1 : x = .ref a) (h2 : SqL K H a xs) (h3 : ∀ p, H p = none → Q (.ref p) (upd H p (.lst (cutV xs lo hi)))) : RSlLP K x lo hi H Q
def rSlL (K : PySem.W.Frag) : V → Option Int → Option Int → Hp → VK → Prop := fun x lo hi H Q => RSlLP K x lo hi H Q
theorem sl_list : SlR X (rSlL X.K) := by
  intro pins s σ H x v vl vu lo hi sl Q I rx hs pl pu h
  obtain ⟨a, xs, rfl, hx, q⟩ := h
  cases rx
  obtain ⟨its, r, ht, hz⟩ := I.list hx
  have hlen := r.length
  refine ⟨"list", _, slot_list_getitem.lookup, ht.isList.typeIs, ?_⟩
  refine wpAny_getItem_list_slice ht.isList hs pl pu .none (by simp) ?_ (by rw [List.size_toArray] <;> (first | lia | omega))
  rw [slicePick_cut, ← hlen]
  refine ⟨.ref s.heap.objs.size, _, I.laid (t' := s.toks) (o := .lst (cutV xs lo hi)) (fun b ob q => Heap.get?_push_of_some _ q) (Nat.le_refl _) ?_, rfl, q _ (I.hok.fresh (Nat.le_refl _))⟩
  exact ⟨Nat.le_trans (cutV_length xs lo hi) hz, _, 0, (r.drop (HT.sIx xs.length 0 lo)).take (HT.sIx xs.length xs.length hi - HT.sIx xs.length 0 lo), Heap.get?_push_size _ rfl⟩

def flatV : V → Bool
  | .non => true
  | .bl _ => true
  | .int _ => true
  | .str _ => true
  | _ => false
def eqV : V → V → Bool
  | .non, .non => true
  | .bl a, .bl b => a == b
  | .bl a, .int b => (if a then 1 else 0) == b
  | .int a, .bl b => a == (if b then 1 else 0)
  | .int a, .int b => a == b
  | .str a, .str b => a == b
  | _, _ => false
theorem eqAt_V {A : Around} {s : Shared} {y x : V} {u v : Value} (ry : RelV y u) (rx : RelV x v) (fy : flatV y = true) (fx : flatV x = true) : SeqAt.EqAt A s u v (eqV y x) := by
  cases y with
  | non =>
    cases ry
    cases x with
    | non => cases rx; exact SeqAt.EqAt.same _
    | bl b => cases rx; exact SeqAt.EqAt.none_bool b
    | int b => obtain ⟨t, rfl⟩ := rx; exact SeqAt.EqAt.none_int b t
    | str b => obtain ⟨t, rfl⟩ := rx; exact SeqAt.EqAt.none_str b t
    | _ => exact absurd (show false = true from fx) Bool.false_ne_true
  | bl a =>
    cases ry
    cases x with
    | non => cases rx; exact SeqAt.EqAt.bool_none a
    | bl b => cases rx; exact SeqAt.EqAt.bool_bool a b
    | int b => obtain ⟨t, rfl⟩ := rx; exact SeqAt.EqAt.bool_int a b t
    | str b => obtain ⟨t, rfl⟩ := rx; exact SeqAt.EqAt.bool_str a b t
    | _ => exact absurd (show false = true from fx) Bool.false_ne_true
  | int a =>
    obtain ⟨t', rfl⟩ := ry
    cases x with
    | non => cases rx; exact SeqAt.EqAt.int_none a t'
    | bl b => cases rx; exact SeqAt.EqAt.int_bool a t' b
    | int b => obtain ⟨t, rfl⟩ := rx; exact SeqAt.EqAt.int_int a t' b t
    | str b => obtain ⟨t, rfl⟩ := rx; exact SeqAt.EqAt.int_str a t' b t
    | _ => exact absurd (show false = true from fx) Bool.false_ne_true
  | str a =>
    obtain ⟨t', rfl⟩ := ry
    cases x with
    | non => cases rx; exact SeqAt.EqAt.str_none a t'
    | bl b => cases rx; exact SeqAt.EqAt.str_bool a t' b
    | int b => obtain ⟨t, rfl⟩ := rx; exact SeqAt.EqAt.str_int a t' b t
    | str b => obtain ⟨t, rfl⟩ := rx; exact SeqAt.EqAt.str_str a t' b t
    | _ => exact absurd (show false = true from fx) Bool.false_ne_true
  | _ => exact absurd (show false = true from fy) Bool.false_ne_true
def eqU (x : V) (u : Value) : Bool := match u with
  | .none => eqV .non x
  | .bool b => eqV (.bl b) x
  | .int i _ => eqV (.int i) x
  | .str z _ => eqV (.str z) x
  | _ => false
theorem eqU_of {x y : V} {u : Value} (r : RelV y u) (f : flatV y = true) : eqU x u = eqV y x := by
  cases y with
  | non => cases r; rfl
  | bl b => cases r; rfl
  | int i => obtain ⟨t, rfl⟩ := r; rfl
  | str z => obtain ⟨t, rfl⟩ := r; rfl
  | _ => exact absurd (show false = true from f) Bool.false_ne_true
theorem any_eqU {x : V} : ∀ {xs : List V} {us : List Value}, Vals xs us → xs.all flatV = true → us.any (eqU x) = xs.any fun y => eqV y x
  | _, _, .nil, _ => rfl
  | y :: xs, u :: us, .cons r t, f => by
    rw [List.all_cons, Bool.and_eq_true] at f
    rw [List.any_cons, List.any_cons, eqU_of r f.1, any_eqU t f.2]
theorem mem_eqAt {A : Around} {s : Shared} {x : V} {v : Value} (rx : RelV x v) (fx : flatV x = true) : ∀ {xs : List V} {us : List Value}, Vals xs us → xs.all flatV = true → ∀ u ∈ us, SeqAt.EqAt A s u v (eqU x u)
  | _, _, .nil, _ => fun u hu => by cases hu
  | y :: xs, u :: us, .cons r t, f => fun u' hu => by
    rw [List.all_cons, Bool.and_eq_true] at f
    rcases List.mem_cons.mp hu with rfl | hu
    · rw [eqU_of r f.1]; exact eqAt_V r rx f.1 fx
    · exact mem_eqAt rx fx t f.2 u' hu
def inV (x : V) (xs : List V) : Bool := xs.any fun y => eqV y x
inductive RInP (K : PySem.W.Frag) (neg : Bool) (x : V) (y : V) (H : Hp) (Q : VK) : Prop
  | mk (p : _) (xs : _) (h1 : y = .ref p) (h2 : (SqL K H p xs ∨ SqT K H p xs)) (h3 : flatV x = true) (h4 : xs.all flatV = true) (h5 : Q (.bl (if neg then !inV x xs else inV x xs)) H) : RInP K neg x y H Q
def rIn (K : PySem.W.Frag) (neg : Bool) : R2 := fun x y H Q => RInP K neg x y H Q
theorem op_in_seq : OpR X (compareOp .In) (rIn X.K false) := by
  intro pins s σ H x y v u Q I rx ry h
  obtain ⟨p, xs, rfl, hq, fx, fs, q⟩ := h
  cases ry
  rcases hq with hq | hq
  · obtain ⟨its, r, pl, hz⟩ := I.list hq
    refine SeqAt.in_listAt (eqU x) pl.isList (fun w hw => mem_eqAt rx fx r fs w (by simpa using hw)) ⟨.bl _, H, I, rfl, ?_⟩
    rw [show its.toArray.any (eqU x) = its.any (eqU x) by simp, any_eqU r fs]
    exact q
  · obtain ⟨its, r, pl, hz⟩ := I.tuple hq
    refine SeqAt.in_tupleAt (eqU x) pl (fun w hw => mem_eqAt rx fx r fs w (by simpa using hw)) ⟨.bl _, H, I, rfl, ?_⟩
    rw [show its.toArray.any (eqU x) = its.any (eqU x) by simp, any_eqU r fs]
    exact q
theorem op_notIn_str : OpR X (compareOp .NotIn) (fun x y H Q => ∃ i j, x = .str i ∧ y = .str j ∧ Q (.bl (!(!(Builtin.Str.occurrences j i 0 j.length 1).isEmpty))) H) := by
  intro pins s σ H x y v u Q I rx ry h
  obtain ⟨i, j, rfl, rfl, q⟩ := h
  obtain ⟨t, rfl⟩ := rx
  obtain ⟨t', rfl⟩ := ry
  exact notIn_str ⟨.bl _, H, I, rfl, q⟩

inductive P_call_len_seq (K : PySem.W.Frag) (xs : List V) (H : Hp) (Q : VK) : Prop
  | mk (p : _) (ys : _) (h1 : xs = [.ref p]) (h2 : (SqL K H p ys ∨ SqT K H p ys)) (h3 : Q (.int ys.length) H) : P_call_len_seq K xs H Q
theorem call_len_seq : CallR X (.builtin "len") (P_call_len_seq X.K) := by
  intro pins s σ H xs us Q I r h
  obtain ⟨p, ys, rfl, hq, q⟩ := h
  obtain ⟨u, rfl, rx⟩ := vals1 r
  cases rx
  have hn := line63
  rcases hq with hq | hq
  · obtain ⟨its, r', pl, hz⟩ := I.list hq
    have hlen := r'.length
    exact Calls.call_len_list pl.isList (by simp only [List.size_toArray] <;> (first | lia | omega)) ⟨.int ys.length, H, I.tok _, ⟨s.toks + 1, by rw [List.size_toArray, hlen]⟩, q⟩
  · obtain ⟨its, r', pl, hz⟩ := I.tuple hq
    have hlen := r'.length
    exact len_tuple pl (by simp only [List.size_toArray] <;> (first | lia | omega)) ⟨.int ys.length, H, I.tok _, ⟨s.toks + 1, by rw [List.size_toArray, hlen]⟩, q⟩
inductive P_call_len_str (K : PySem.W.Frag) (xs : List V) (H : Hp) (Q : VK) : Prop
  | mk (z : _) (h1 : xs = [.str z]) (h2 : z.length ≤ sizeLine) (h3 : Q (.int z.length) H) : P_call_len_str K xs H Q
theorem call_len_str : CallR X (.builtin "len") (P_call_len_str X.K) := by
  intro pins s σ H xs us Q I r h
  obtain ⟨z, rfl, hz, q⟩ := h
  obtain ⟨u, rfl, t, rfl⟩ := vals1 r
  have hn := line63
  exact len_str (by (first | lia | omega)) ⟨.int z.length, H, I.tok _, ⟨_, rfl⟩, q⟩
inductive P_call_list_of (K : PySem.W.Frag) (xs : List V) (H : Hp) (Q : VK) : Prop
  | mk (p : _) (ys : _) (h1 : xs = [.ref p]) (h2 : (SqL K H p ys ∨ SqT K H p ys)) (h3 : ∀ l, H l = none → Q (.ref l) (upd H l (.lst ys))) : P_call_list_of K xs H Q
theorem call_list_of : CallR X (.type "list") (P_call_list_of X.K) := by
  intro pins s σ H xs us Q I r h
  obtain ⟨p, ys, rfl, hq, q⟩ := h
  obtain ⟨u, rfl, rx⟩ := vals1 r
  cases rx
  have fin : ∀ (its : List Value), Vals ys its → ys.length ≤ sizeLine → ∀ (h' : Heap) (c' : Nat), (∀ b o', s.heap.get? b = some o' → h'.get? b = some o') →
      h'.get? s.heap.objs.size = some { cls := .type "list", dict := none, data := .seq its.toArray c', slots := #[] } → EP X pins σ Q (.ref s.heap.objs.size) { s with heap := h' } := fun its r' hz h' c' kp e =>
    ⟨.ref s.heap.objs.size, _, I.laid (t' := s.toks) kp (Nat.le_refl _) (show ObjOk X.prog X.w _ h' _ (.lst ys) from ⟨hz, its, c', r', e⟩), rfl, q _ (I.hok.fresh (Nat.le_refl _))⟩
  rcases hq with hq | hq
  · obtain ⟨its, r', pl, hz⟩ := I.list hq
    have hlen := r'.length
    obtain ⟨o, ho, hc, n, hd⟩ := pl.isList
    exact call_list_seq p (.inl rfl) ho hc hd (fun h' c' kp e => fin its r' hz h' c' kp e) (by simp only [List.size_toArray] <;> (first | lia | omega))
  · obtain ⟨its, r', pl, hz⟩ := I.tuple hq
    have hlen := r'.length
    obtain ⟨o, ho, hc, n, hd⟩ := pl
    exact call_list_seq p (.inr rfl) ho hc hd (fun h' c' kp e => fin its r' hz h' c' kp e) (by simp only [List.size_toArray] <;> (first | lia | omega))
inductive P_call_tuple_of (K : PySem.W.Frag) (xs : List V) (H : Hp) (Q : VK) : Prop
  | mk (p : _) (ys : _) (h1 : xs = [.ref p]) (h2 : ((SqL K H p ys ∧ ∀ l, H l = none → Q (.ref l) (upd H l (.tup ys))) ∨ (SqT K H p ys ∧ Q (.ref p) H))) : P_call_tuple_of K xs H Q
theorem call_tuple_of : CallR X (.type "tuple") (P_call_tuple_of X.K) := by
  intro pins s σ H xs us Q I r h
  obtain ⟨p, ys, rfl, h⟩ := h
  obtain ⟨u, rfl, rx⟩ := vals1 r
  cases rx
  rcases h with ⟨hq, q⟩ | ⟨hq, q⟩
  · obtain ⟨its, r', pl, hz⟩ := I.list hq
    have hlen := r'.length
    refine call_tuple_list pl.isList (fun h' kp => ?_) (by simp only [List.size_toArray] <;> (first | lia | omega))
    have I1 : Inv X pins σ H { s with heap := h' } := I.kept (t' := s.toks) kp
    have I2 : Inv X pins σ (upd H h'.objs.size (.tup ys)) { s with heap := h'.push { cls := .type "tuple", data := .seq its.toArray } } :=
      I1.laid (t' := s.toks) (fun b o e => Heap.get?_push_of_some _ e) (Nat.le_refl _) (show ObjOk X.prog X.w _ _ _ (.tup ys) from ⟨hz, its, r', IsTupD.new _ _⟩)
    exact ⟨.ref h'.objs.size, _, I2, rfl, q _ (I1.hok.fresh (Nat.le_refl _))⟩
  · obtain ⟨its, r', pl, hz⟩ := I.tuple hq
    exact call_tuple_same pl ⟨.ref p, H, I, rfl, q⟩

def tyV (K : PySem.W.Frag) (T : String) (x : V) (H : Hp) : Prop := match x with
  | .str _ => T = "str"
  | .int _ => T = "int"
  | .ref p => (T = "list" ∧ ∃ xs, SqL K H p xs) ∨ (T = "tuple" ∧ ((∃ o, K.lookup p = some o ∧ o.cls = .type "tuple" ∧ o.dict = none) ∨ ∃ xs, H p = some (.tup xs))) ∨
      (T = "dict" ∧ ((∃ kvs, H p = some (.dK kvs)) ∨ ∃ kvs, H p = some (.dT kvs))) ∨ (T = "set" ∧ ∃ S n, H p = some (.set S n))
  | _ => False
theorem tyV_is {pins : List (Addr × Obj)} {σ : St} {H : Hp} {s : Shared} {T : String} {x : V} {v : Value} (I : Inv X pins σ H s) (r : RelV x v) (ty : tyV X.K T x H) :
    s.TypeIs v T ∧ ∀ a, v = .ref a → ∃ ob, s.heap.get? a = some ob ∧ ob.dict = none := by
  cases x with
  | str z =>
    obtain ⟨t, rfl⟩ := r
    cases (show T = "str" from ty)
    exact ⟨typeIs_str s z t, fun _ e => nomatch e⟩
  | int i =>
    obtain ⟨t, rfl⟩ := r
    cases (show T = "int" from ty)
    exact ⟨typeIs_int s i t, fun _ e => nomatch e⟩
  | ref p =>
    cases r
    rcases ty with ⟨rfl, xs, hq⟩ | ⟨rfl, ⟨o, hk, hc, hd⟩ | ⟨xs, hk⟩⟩ | ⟨rfl, hk⟩ | ⟨rfl, S, n, hk⟩
    · obtain ⟨its, _, pl, _⟩ := I.list hq
      refine ⟨pl.isList.typeIs, fun a e => ?_⟩
      cases e
      obtain ⟨o, n, e, c, hd, _⟩ := pl
      exact ⟨o, e, hd⟩
    · refine ⟨⟨o, I.kIn p o hk, hc⟩, fun a e => ?_⟩
      cases e
      exact ⟨o, I.kIn _ o hk, hd⟩
    · obtain ⟨_, _, _, o, e1, c1, n, d1, dn⟩ := (show ObjOk X.prog X.w H s.heap p (.tup xs) from I.hok p _ hk)
      refine ⟨⟨o, e1, c1⟩, fun a e => ?_⟩
      cases e
      exact ⟨o, e1, dn⟩
    · have z : ∃ o, s.heap.get? p = some o ∧ o.ExactDict := by
        rcases hk with ⟨kvs, hk⟩ | ⟨kvs, hk⟩
        · obtain ⟨_, _, _, _, o, _, _, e, ex, _⟩ := I.hok p _ hk
          exact ⟨o, e, ex⟩
        · obtain ⟨_, _, _, _, o, _, _, e, ex, _⟩ := I.hok p _ hk
          exact ⟨o, e, ex⟩
      obtain ⟨o, e, ex⟩ := z
      refine ⟨⟨o, e, ex.1⟩, fun a e2 => ?_⟩
      cases e2
      exact ⟨o, e, ex.2.1⟩
    · obtain ⟨o, _, _, _, e, ex, _⟩ := I.hok p _ hk
      refine ⟨⟨o, e, ex.1⟩, fun a e2 => ?_⟩
      cases e2
      exact ⟨o, e, ex.2.1⟩
  | _ => exact False.elim ty
def tBM (K : PySem.W.Frag) (T : String) (r : V → List V → Hp → VK → Prop) (to : TE) (t : TA) : TE := fun σ H Q => to σ H fun x H1 => tyV K T x H1 ∧ t σ H1 fun xs H2 => r x xs H2 Q
variable {o e : Expr} {es : List Expr} {to : TE} {t : TA} {name : Str} {apos cpos : Pos} {T id : String} {r : V → List V → Hp → VK → Prop}
theorem pe_bm (pa : PlainAttrs T) (slot : Slot T name id) (hty : typeOf (.builtin id) = pure (.type "method_descriptor")) (hm : MtR X id r) (ho : PE X o to) (ha : PA X (e :: es) t)
    (hbase : attributeBase o name X.env (eval o X.env) = eval o X.env := by rfl)
    (hfew : ((backTo cpos (starEach (e :: es) X.env)).all (fun x => !x.1) && (backToKw cpos (keywordEach [] X.env)).all (fun x => x.1.isSome)
      && decide ((e :: es).length + ([] : List Keyword).length + (if ([] : List Keyword).isEmpty then 0 else 1) < 30)) = true := by rfl)
    (hline : (apos.endLine == cpos.line) = true := by rfl) (hs : starEach (e :: es) X.env = (false, eval e X.env) :: starEach es X.env := by rfl) (hplain : (backTo cpos (starEach es X.env)).any (·.1) = false := by rfl) :
    PE X (.Call (.Attribute o name apos) (e :: es) [] cpos) (tBM X.K T r to t) := by
  intro pins s σ H Q I h
  refine wpAny_Call_method_late hbase hfew hline rfl (thn (ho pins s σ H _ I h) fun v s1 ⟨x, H1, I1, r1, ty, q1⟩ => ?_)
  obtain ⟨h1, h2⟩ := tyV_is I1 r1 ty
  refine ⟨T, id, pa, slot, hty, h1, h2, ?_⟩
  have hA := ha cpos pins s1 σ H1 _ I1 q1
  rw [hs] at hA ⊢
  refine Calls.callWith_builtin (by show (false || (backTo cpos (starEach es X.env)).any (·.1)) = false; rw [hplain] <;> rfl) (Calls.evalArgs_plain ?_)
  exact thn hA fun us s2 ⟨vs, H2, I2, r2, q2⟩ => hm pins s2 σ H2 x vs v us Q I2 r1 r2 q2
/- xs.append(e), list.index on a module's tuple .. are MtR facts of 06m -/
end
end L2

namespace L2
open PySem PySem.Spec PyProof.Rows

def MtM (X : Cx) (id : String) (r : V → List V → Hp → VK → Prop) : Prop :=
  ∀ (pins : List (Addr × Obj)) (s : Shared) (σ : St) (H : Hp) (x : V) (xs : List V) (v : Value) (us : List Value) (Q : VK), Inv X pins σ H s → RelV x v → Vals xs us → r x xs H Q →
    wpAny (model X.prog X.w) X.A (call (.builtin id) (v :: us)) (EP X pins σ Q) X.xe s

theorem Vals.one : ∀ {x : V} {us : List Value}, Vals [x] us → ∃ u, us = [u] ∧ RelV x u
  | _, _, .cons r .nil => ⟨_, rfl, r⟩
theorem Vals.two : ∀ {x y : V} {us : List Value}, Vals [x, y] us → ∃ u v, us = [u, v] ∧ RelV x u ∧ RelV y v
  | _, _, _, .cons r (.cons q .nil) => ⟨_, _, rfl, r, q⟩
theorem Vals.rep {xs : List V} {us : List Value} (h : Vals xs us) : ∀ k : Nat, Vals (List.replicate k xs).flatten (List.replicate k us).flatten
  | 0 => .nil
  | k + 1 => by
    rw [List.replicate_succ, List.replicate_succ, List.flatten_cons, List.flatten_cons]
    exact Vals.append h (Vals.rep h k)
theorem foldl_rep (its : List Value) : ∀ (k : Nat) (acc : List Value),
    List.foldl (fun x1 x2 => x1 ++ x2) acc.toArray (List.replicate k its.toArray) = (acc ++ (List.replicate k its).flatten).toArray
  | 0, acc => by simp
  | k + 1, acc => by
    have e : acc.toArray ++ its.toArray = (acc ++ its).toArray := by simp
    have e2 : (acc ++ its) ++ (List.replicate k its).flatten = acc ++ (List.replicate (k + 1) its).flatten := by
      rw [List.replicate_succ, List.flatten_cons, List.append_assoc]
    rw [← e2, ← foldl_rep its k (acc ++ its), ← e, List.replicate_succ, List.foldl_cons]

section
variable {X : Cx} {pins : List (Addr × Obj)} {σ : St} {H : Hp} {s : Shared} {l b : Addr} {xs ys zs : List V}

theorem Inv.lset {its its' : List Value} {n : Nat} {f : Array Value → Array Value} {t' : Nat} (I : Inv X pins σ H s) (hH : H l = some (.lst xs))
    (e : s.heap.get? l = some { cls := .type "list", data := .seq its.toArray n }) (hf : f its.toArray = its'.toArray) (hv : Vals ys its') (hz : ys.length ≤ sizeLine) :
    Inv X pins σ (upd H l (.lst ys)) { s with heap := s.heap.update l (Obj.mapSeq f), toks := t' } := by
  have q := PySem.IsL.update e f
  rw [hf] at q
  refine I.write (x := l) (e := l) (by rw [hH]; exact trivial) (.inl rfl) (fun b' u hb hu => (Heap.get?_update_other s.heap (Obj.mapSeq f) (Ne.symm hb)).trans hu) ⟨_, q⟩ ?_
  exact ⟨hz, its', _, hv, q⟩
theorem Inv.lnew {its : List Value} {t' : Nat} (I : Inv X pins σ H s) (hv : Vals ys its) (hz : ys.length ≤ sizeLine) :
    Inv X pins σ (upd H s.heap.objs.size (.lst ys)) { s with heap := s.heap.push { cls := .type "list", data := .seq its.toArray }, toks := t' } :=
  I.laid (fun _ _ q => Heap.get?_push_of_some _ q) (Nat.le_refl _) ⟨hz, its, 0, hv, Heap.get?_push_size _ rfl⟩
theorem Inv.fresh (I : Inv X pins σ H s) : H s.heap.objs.size = none := I.hok.fresh (Nat.le_refl _)
theorem Inv.lstM (I : Inv X pins σ H s) (hH : H l = some (.lst xs)) : xs.length ≤ sizeLine ∧ ∃ (its : List Value) (n : Nat), Vals xs its ∧ xs.length = its.length ∧ s.heap.get? l = some { cls := .type "list", data := .seq its.toArray n } := by
  obtain ⟨z, its, n, r, e⟩ := I.hok l _ hH
  exact ⟨z, its, n, r, r.length, e⟩

end

section
variable {X : Cx}

inductive RAppendP (x : V) (vs : List V) (H : Hp) (Q : VK) : Prop
  | mk (l : _) (xs : _) (y : _) (h1 : x = .ref l) (h2 : vs = [y]) (h3 : H l = some (.lst xs)) (h4 : xs.length < sizeLine) (h5 : Q .non (upd H l (.lst (xs ++ [y])))) : RAppendP x vs H Q
def rAppend : V → List V → Hp → VK → Prop := fun x vs H Q => RAppendP  x vs H Q
theorem mt_append : MtM X "list.append" rAppend := by
  intro pins s σ H x vs v us Q I rx rv h
  obtain ⟨l, xs, y, rfl, rfl, hH, hz, q⟩ := h
  cases rx
  obtain ⟨u, rfl, ru⟩ := rv.one
  obtain ⟨z, its, n, r, hl, e⟩ := I.lstM hH
  refine call_meets F.slot_list_append ⟨_, e, rfl⟩ F.entry_list_append (F.args_list_append_2 _ _) (PySem.list_append l its.toArray n u (by rw [List.size_toArray]; (first | lia | omega))) ⟨e, ?_⟩
  refine ⟨.non, _, I.lset (its' := its ++ [u]) hH e (by simp) (r.append (.cons ru .nil)) ?_, rfl, q⟩
  rw [List.length_append, List.length_singleton]
  (first | lia | omega)

inductive RCatP (x : V) (y : V) (H : Hp) (Q : VK) : Prop
  | mk (l : _) (b : _) (xs : _) (zs : _) (h1 : x = .ref l) (h2 : y = .ref b) (h3 : H l = some (.lst xs)) (h4 : H b = some (.lst zs)) (h5 : xs.length + zs.length ≤ sizeLine) (h6 : ∀ p, H p = none → Q (.ref p) (upd H p (.lst (xs ++ zs)))) : RCatP x y H Q
def rCat : R2 := fun x y H Q => RCatP  x y H Q
theorem op_cat : OpR X (binaryOp .Add) rCat := by
  intro pins s σ H x y v u Q I rx ry h
  obtain ⟨l, b, xs, zs, rfl, rfl, hH, hB, hz, q⟩ := h
  cases rx
  cases ry
  obtain ⟨z, its, n, r, hl, e⟩ := I.lstM hH
  obtain ⟨z2, its2, n2, r2, hl2, e2⟩ := I.lstM hB
  refine PySem.P.add_list e e2 ?_ (by rw [List.size_toArray, List.size_toArray]; (first | lia | omega))
  have ea : its.toArray ++ its2.toArray = (its ++ its2).toArray := by simp
  rw [ea]
  exact ⟨.ref _, _, I.lnew (t' := s.toks) (r.append r2) (by rw [List.length_append]; (first | lia | omega)), rfl, q _ I.fresh⟩
theorem len_rep {α : Type} (xs : List α) (k : Nat) : (List.replicate k xs).flatten.length = k * xs.length := by
  induction k with
  | zero => simp
  | succ k ih => rw [List.replicate_succ, List.flatten_cons, List.length_append, ih, Nat.succ_mul, Nat.add_comm]
end

section
variable {prog : Program} {w : World} {A : Around} {E : Value → Shared → Prop} {s : Shared}
end

section
variable {X : Cx}
end
end L2

namespace Att
open PySem PySem.W PySem.Calls PyProof.Rows

theorem ints_of_wellAll {P : Params} {h : Heap} : ∀ (ns : List Int) (vs : List Value), WellAll P h vs (ns.map WData.int) → IntsAre vs ns := by
  intro ns
  induction ns with
  | nil =>
    intro vs w
    rw [List.map_nil] at w
    cases w
    exact .nil
  | cons n ns ih =>
    intro vs w
    rw [List.map_cons] at w
    cases w with
    | cons a b =>
      cases a
      exact .cons _ _ (ih _ b)

theorem script_of {l : OpenLaw} {n : Nat} (hn : l.most = some n) {P : Params} {h : Heap} {args : List WData} {vals : List Value}
    (hpre : l.row.toRowW.claim.pre args = true) (hwl : WellAll P h vals args) :
    ∃ a vs ns, vals = [Value.ref a] ∧ args = [WData.list (ns.map WData.int)] ∧ h.get? a = some { cls := .type "list", data := .seq vs.toArray } ∧ IntsAre vs ns ∧ ns.length ≤ n := by
  have hsh : WShape.hasAll [] args [.list .int] = true := (pre_splitW hpre).1
  have hc : l.pre.holds [] { args := args } = true := (pre_splitW hpre).2
  obtain ⟨d, r, rfl, h1, h2⟩ := hasAllW_cons hsh
  obtain rfl := hasAllW_nil h2
  obtain ⟨xs, rfl, h3⟩ := hasW_list h1
  obtain ⟨ns, rfl⟩ := items_int h3
  have hlen : ns.length ≤ n := by
    unfold OpenLaw.pre at hc
    have h4 : (WTm.not (.lt (.lit (.int (n : Int))) (.len (.arg 0)))).holds [] { args := [.list (ns.map .int)] } = true := by
      have h4 := (holds_andW hc).1
      rw [hn] at h4
      exact h4
    have h5 := condW_of h4 (w_not (w_lt w_lit (w_len_list (w_arg rfl))))
    rw [List.length_map] at h5
    refine Nat.le_of_not_lt fun q => ?_
    have q' : (n : Int) < ((ns.length : Nat) : Int) := by (first | lia | omega)
    first
      | (rw [decide_eq_true q'] at h5; exact absurd h5 (by decide))
      | (simp at h5; (first | lia | omega))
  cases hwl with
  | cons w1 w2 =>
    cases w2
    cases w1 with
    | list ho hall => exact ⟨_, _, ns, rfl, rfl, ho, ints_of_wellAll ns _ hall, hlen⟩

theorem post_true (l : OpenLaw) (args : List WData) : l.row.toRowW.claim.post args (.bool true) args = true :=
  postW_of (r := l.row.toRowW) (X := (true == true))
    (show WShape.has [] (.bool true) .bool = true by first | rfl | decide | simp [WShape.has, WShape.arms, WShape.armsAll])
    (show (WTm.eq .res (.lit (.bool true))).value [] { args := args, res := some (.bool true), after := args } = some (.bool (true == true)) from w_eq_bool (w_res rfl) w_lit) rfl

theorem attach_call {l : OpenLaw} {n : Nat} {q : Program} {loose : List Str} {XP : (Str → Option Value) → Heap → Prop} {YP : World → Heap → Prop} {d : DefRec}
    (hn : l.most = some n) (hdf : d.params.defaults = [])
    (call : ∀ (w : World) (s₀ s₁ : Shared) (mg mb : Str → Option Value) (fa : Addr) (o : Obj) (pm cd doc : Value) (a : Addr) (vs : List Value) (ns : List Int),
      Ground q loose [] XP w s₀ mg mb s₁.heap → YP w s₁.heap →
      s₁.heap.get? fa = some o → o.data = .func (docDef d.name d.params d.body d.scope pm cd doc) → s₁.heap.CodeRec cd d.name → mg d.name = some (.ref fa) →
      s₁.heap.get? a = some { cls := .type "list", data := .seq vs.toArray } → IntsAre vs ns → ns.length ≤ n → s₁.gens = #[] →
      codeAny (model l.prog w) callerA (.call (.ref fa) ⟨[.ref a], []⟩) (fun r s' => r = .ok (.ret (.bool true)) ∧ OldK s₁.heap s'.heap ∧ s'.os = s₁.os ∧ AllBare s'.gens) s₁) :
    WalkO q loose XP YP l.row.toRowW d [] (fun f vs => PySem.call f vs) := by
  intro w s₀ s₁ mg mb G Y fa o pm cd doc dV kV ho hd hcd hD hmg hg args vals as hpre hlay hrd hwl hlo
  obtain rfl : dV = .none := Dflts.none hD hdf
  obtain rfl : kV = .none := Dflts.noKw hD
  obtain ⟨a, vs, ns, rfl, rfl, hobj, hints, hlen⟩ := script_of hn hpre hwl
  refine enter_call (codeAny_mono (call w s₀ s₁ mg mb fa o pm cd doc a vs ns G Y ho (fd_plain hd) hcd hmg hobj hints hlen hg) fun r s' hq => ?_)
  obtain ⟨rfl, h2, h3, h4⟩ := hq
  exact ⟨.inl ⟨.bool true, .bool true, [], rfl, fun _ => rfl, .bool true, post_true l _, fun _ => ⟨List.Pairwise.nil, fun _ hm => (nomatch hm)⟩⟩, h2, h3, h4⟩

section
variable {prog : Program} {w : World} {A : Around} {E : Value → Shared → Prop} {s : Shared} {K : Frag}

def ledger (h : Heap) (L d : Addr) : List (Addr × Obj) := (List.range h.objs.size).filterMap fun a => if a = L ∨ a = d then none else (h.get? a).map fun o => (a, o)
end
end Att

namespace L2
open PySem PySem.Spec PyProof.Rows

theorem vals_ints : ∀ {vs : List Value} {ns : List Int}, IntsAre vs ns → Vals (ns.map V.int) vs
  | _, _, .nil => .nil
  | _, _, .cons n t h => .cons ⟨t, rfl⟩ (vals_ints h)

def Only (H : Hp) : Prop := ∀ b, H b = none ∨ ∃ o xs, H b = some (.frz o (.lst xs))

theorem law_call {P : Program} {w : World} {K : PySem.W.Frag} {mg mb : Str → Option Value} {CX : CXT} {k : Nat} {fa a : Addr} {fd : FuncData} {x : Str} {sp : Sp} {s₁ : Shared} {vs : List Value} {ns : List Int}
    (KX : K.In s₁.heap) (hns : s₁.heap.Ns mainGlobals mg) (hb : s₁.heap.Ns builtinsNs mb) (hbb : ∀ x : Str, x ≠ "__name__" → mb x = bootBuiltins x) (hlim : s₁.heap.NoLimit) (hg : s₁.gens = #[])
    (ha : s₁.heap.get? a = some { cls := .type "list", data := .seq vs.toArray }) (hi : IntsAre vs ns) (hl : ns.length ≤ sizeLine) (hr : Room k callerA)
    (F : ∀ base : Heap, K.In base → base.Ns mainGlobals mg → FnOk P w K mg base CX k fa fd [x] sp) (hbind : ∀ (s : Shared) (u : Value), BindsTo s fd ⟨[u], []⟩ [(x, u)])
    (hsp : ∀ H : Hp, Only H → SqL K H a (ns.map V.int) → sp [.ref a] H (fun v _ => v = .bl true) fun _ _ _ => False)
    (hCX : ∀ H e s', CX [] H s₁ (fun _ _ _ => False) e s' → False) :
    codeAny (model P w) callerA (.call (.ref fa) ⟨[.ref a], []⟩) (fun r s' => r = .ok (.ret (.bool true)) ∧ OldK s₁.heap s'.heap ∧ s'.os = s₁.os ∧ AllBare s'.gens) s₁ := by
  have rv := vals_ints hi
  have lenV := hi.length
  -- from an abstract heap in which nothing but the script may be tracked
  have core : ∀ H : Hp, Only H → SqL K H a (ns.map V.int) → HOk P w H s₁.heap → (∀ b, H b ≠ none → b = a) → (H a ≠ none → K.lookup a = none) →
      codeAny (model P w) callerA (.call (.ref fa) ⟨[.ref a], []⟩) (fun r s' => r = .ok (.ret (.bool true)) ∧ OldK s₁.heap s'.heap ∧ s'.os = s₁.os ∧ AllBare s'.gens) s₁ := by
    intro H hO hS hok hA hK
    have base_of : ∀ {b : Addr} {o : Obj}, s₁.heap.get? b = some o → H b = none → (hidT s₁.heap H).get? b = some o := fun e n => hidT_get e n
    have noA : ∀ {b : Addr} {o : Obj} {es : Array DictEntry} {ep : Nat}, s₁.heap.get? b = some o → o.data = .dict es ep → H b = none := fun {b o es ep} e d => by
      cases q : H b with
      | none => rfl
      | some u =>
        have e' : b = a := hA b (by rw [q]; simp)
        subst e'
        rw [ha] at e; cases e
        have d' : Data.seq vs.toArray _ = Data.dict es ep := d
        cases d'
    have nsK : ∀ {b : Addr} {m : Str → Option Value}, s₁.heap.Ns b m → (hidT s₁.heap H).Ns b m := fun {b m} ⟨o, es, ep, e, d, r⟩ => ⟨o, es, ep, base_of e (noA e d), d, r⟩
    have hKb : K.In (hidT s₁.heap H) := fun b o e => base_of (KX b o e) (by
      cases q : H b with
      | none => rfl
      | some u =>
        have e' : b = a := hA b (by rw [q]; simp)
        subst e'
        rw [hK (by rw [q]; simp)] at e; cases e)
    have hM : Mod K mg (hidT s₁.heap H) := ⟨hKb, nsK hns, ⟨mb, nsK hb, hbb⟩, let ⟨mc, h1, h2⟩ := hlim; ⟨mc, nsK h1, h2⟩⟩
    have e0 : Env0 P w K mg (hidT s₁.heap H) callerA [] s₁ H := ⟨rfl, hM, fun b o e => of_hidT e, Nat.le_of_eq (hidT_size _ _), trivial, fun b hb => absurd (show b ∈ ([] : List Addr) from hb) (by simp), hok, .of_eq hg⟩
    refine codeAny_mono ((F _ hKb (nsK hns)).run callerA [] s₁ H ⟨[.ref a], []⟩ [.ref a] [.ref a] _ _ hr e0 (hbind s₁ (.ref a)) (.cons rfl .nil) (hsp H hO hS)) fun r s' h => ?_
    cases r with
    | error e => exact (hCX H e s' h).elim
    | ok fl =>
      cases fl with
      | next => exact False.elim h
      | brk => exact False.elim h
      | cont => exact False.elim h
      | ret u =>
        obtain ⟨v, H', os, bare, un, hok', r', q⟩ := h
        have q' : v = .bl true := q
        subst q'
        obtain rfl : u = Value.bool true := r'
        refine ⟨rfl, OldK.of_keep fun b o e => ?_, os, bare⟩
        cases q : H b with
        | none => exact un.keep b o e q (by intro z; exact absurd (show b ∈ ([] : List Addr) from z) (by simp)) (by simp)
        | some u =>
          rcases hO b with z | ⟨ob, xs, z⟩
          · rw [q] at z; cases z
          · have z2 := un.frzs b ob _ z
            obtain ⟨e1, _⟩ := hok b _ z
            obtain ⟨e2, _⟩ := hok' b _ z2
            rw [e] at e1; cases e1
            exact e2
  cases hk : K.lookup a with
  | some o =>
    -- the script is one of the module's own objects
    have e := KX a o hk
    rw [ha] at e
    cases e
    refine core (fun _ => none) (fun _ => .inl rfl) (.inr ⟨_, vs.toArray, _, hk, rfl, rfl, rfl, by rw [List.size_toArray, lenV]; exact hl, by simpa using rv⟩) (fun b u z => by have z' : (none : Option HO) = some u := z; cases z') (fun b z => absurd rfl z) fun z => absurd rfl z
  | none =>
    refine core (fun b => if b = a then some (.frz { cls := .type "list", data := .seq vs.toArray } (.lst (ns.map V.int))) else none) (fun b => ?_) (.inl (.inr ⟨{ cls := .type "list", data := .seq vs.toArray }, if_pos rfl⟩)) (fun b u z => ?_) (fun b z => ?_) fun _ => hk
    · by_cases hb : b = a
      · exact .inr ⟨_, _, if_pos hb⟩
      · exact .inl (if_neg hb)
    · by_cases hb : b = a
      · have z' := (if_pos hb).symm.trans z
        cases z'
        subst hb
        exact ⟨ha, by rw [List.length_map]; exact hl, vs, _, rv, ha⟩
      · have z' := (if_neg hb).symm.trans z
        cases z'
    · by_cases hb : b = a
      · exact hb
      · exact absurd (if_neg hb) z
end L2

namespace L2
open PySem PySem.Spec PyProof.Rows

theorem walk_of {l : PySem.W.OpenLaw} {n k : Nat} {q : Program} {loose : List Str} {XP : (Str → Option Value) → Heap → Prop} {YP : World → Heap → Prop} {d : DefRec} {K : Params → PySem.W.Frag} {CX : World → CXT} {sp : World → Sp} {x : Str}
    (hn : l.most = some n) (hn2 : n ≤ sizeLine) (hdf : d.params.defaults = []) (hr : Room k callerA)
    (hY : ∀ (w : World) (h : Heap), YP w h → (K w.params).In h)
    (F : ∀ (w : World) (mg : Str → Option Value) (fa : Addr) (h : Heap), (K w.params).In h → h.Ns mainGlobals mg → mg d.name = some (.ref fa) →
      ∃ fd : FuncData, (∀ (s : Shared) (u : Value), BindsTo s fd ⟨[u], []⟩ [(x, u)]) ∧
        ∀ base : Heap, (K w.params).In base → base.Ns mainGlobals mg → FnOk l.prog w (K w.params) mg base (CX w) k fa fd [x] (sp w))
    (hsp : ∀ (w : World) (H : Hp) (a : Addr) (ns : List Int), ns.length ≤ n → Only H → SqL (K w.params) H a (ns.map V.int) → sp w [.ref a] H (fun v _ => v = .bl true) fun _ _ _ => False)
    (hCX : ∀ (w : World) (H : Hp) (s : Shared) (e : Value) (s' : Shared), CX w [] H s (fun _ _ _ => False) e s' → False) :
    PySem.W.WalkO q loose XP YP l.row.toRowW d [] (fun f vs => PySem.call f vs) := by
  refine Att.attach_call hn hdf fun w s₀ s₁ mg mb fa o pm cd doc a vs ns G Y ho hd hcd hmg hobj hints hlen hg => ?_
  have KX := hY w _ Y
  obtain ⟨fd, hb, hF⟩ := F w mg fa _ KX G.T.g hmg
  exact law_call KX G.T.g G.T.b G.T.builtins G.T.nolimit hg hobj hints (Nat.le_trans hlen hn2) hr hF hb (fun H hO hS => hsp w H a ns hlen hO hS) fun H e s' => hCX w H s₁ e s'
end L2

namespace L2
open PySem PySem.Spec PyProof.Rows

def defArgs (s : Stmt) : Arguments := match s with
  | .FunctionDef _ a _ _ _ _ _ _ _ _ => a
  | _ => { posonlyargs := [], args := [], vararg := none, kwonlyargs := [], kw_defaults := [], kwarg := none, defaults := [] }
def defBody (s : Stmt) : List Stmt := match s with
  | .FunctionDef _ _ b _ _ _ _ _ _ _ => b
  | _ => []
def defScope (s : Stmt) : Scope := match s with
  | .FunctionDef _ _ _ _ _ _ sc _ _ _ => sc
  | _ => { kind := .function, names := [], isGenerator := false, isCoroutine := false }

abbrev CX0 : CXT := fun _ _ _ _ _ _ => False
abbrev E0 : XK := fun _ _ _ => False
theorem pass0 {X : Cx} : Passes CX0 X E0 := fun _ _ _ _ _ _ _ h => h.elim

structure Fun (K : PySem.W.Frag) (x qual : Str) (st : Stmt) (f : Addr) (fd : FuncData) : Prop where
  ex : ∃ (oc : Value) (od : Option Addr) (kV doc pm : Value) (an : Option Addr) (cdv ct : Value) (osl : Array (Option Value)),
    fd = PySem.W.fnOf x qual (defArgs st) (defBody st) (defScope st) .none kV doc pm an cdv ct ∧ K.lookup f = some ⟨oc, od, .func fd, osl⟩ ∧ PySem.W.codeIn K cdv qual = true
  kp : PySem.W.keepIn K (.ref f) = true
section
variable {P : Program} {w : World} {K : PySem.W.Frag} {mg : Str → Option Value} {base : Heap}
theorem Fun.ok {x qual : Str} {st : Stmt} {f : Addr} {fd : FuncData} {N ps : List Str} {k : Nat} {sp : Sp} (F : Fun K x qual st f fd) (S : FnScope N ps (defScope st)) (len : ∀ vs H Q E, sp vs H Q E → vs.length = ps.length)
    (hbody : ∀ (cdv : Value) (A : Around) (outer : List Env) (s : Shared) (H : Hp) (vs : List V) (Q : VK) (E : XK), Room k (A.deeper (envOfC qual (defScope st) s.heap.objs.size f cdv)) → sp vs H Q E →
      ∃ t, PSs (cxOf CX0 P w K mg base N qual (defScope st) f cdv A outer s H E).nox (defBody st) t ∧ t { nx := fun _ H' => Q .non H', rt := Q } (start N vs) H) : FnOk P w K mg base CX0 (k + 1) f fd ps sp := by
  obtain ⟨oc, od, kV, doc, pm, an, cdv, ct, osl, rfl, lk, hcd⟩ := F.ex
  refine fn_of lk hcd S len fun A outer s H vs Q E hr hsp => ?_
  obtain ⟨t, h, q⟩ := hbody cdv A outer s H vs Q E hr hsp
  exact ⟨t, h.nox, q⟩
theorem Fun.binds {x qual : Str} {st : Stmt} {f : Addr} {fd : FuncData} {ps : List Str} (F : Fun K x qual st f fd)
    (h : ∀ (kV doc pm : Value) (an : Option Addr) (cdv ct : Value) (us : List Value), us.length = ps.length → bindArgs (PySem.W.fnOf x qual (defArgs st) (defBody st) (defScope st) .none kV doc pm an cdv ct) ⟨us, []⟩ = pure (ps.zip us)) : Binds K fd ps [] := by
  obtain ⟨oc, od, kV, doc, pm, an, cdv, ct, osl, rfl, lk, hcd⟩ := F.ex
  exact .all (h kV doc pm an cdv ct)
theorem fun_mk {x qual : Str} {st : Stmt} {f : Addr} {oc : Value} {od an : Option Addr} {osl : Array (Option Value)} {kV doc pm cdv ct : Value} (l : K.lookup f = some ⟨oc, od, .func (PySem.W.fnOf x qual (defArgs st) (defBody st) (defScope st) .none kV doc pm an cdv ct), osl⟩)
    (c : PySem.W.codeIn K cdv qual = true) (k : PySem.W.keepIn K (.ref f) = true) : Fun K x qual st f (PySem.W.fnOf x qual (defArgs st) (defBody st) (defScope st) .none kV doc pm an cdv ct) := ⟨⟨oc, od, kV, doc, pm, an, cdv, ct, osl, rfl, l, c⟩, k⟩
end
theorem small1000 {n : Nat} (h : n ≤ 1000) : n < sizeLine := Nat.lt_of_le_of_lt h (by decide)

section
variable {X : Cx}
theorem pv (i : Nat) {x : Str} {pos : Pos} (hN : X.N[i]? = some x := by rfl) (hv : Vis X.env.scope x := by first | exact Or.inl rfl | exact Or.inr (Or.inl rfl) | exact Or.inr (Or.inr rfl)) (hd : (x == ("__debug__" : Str)) = false := by decide)
    (hcd : (x == ("__classdict__" : Str)) = false := by decide) : PE X (.Name x pos) (tVar i) := pe_var hN hv hd hcd
end

theorem ite2 {c A B : Prop} [Decidable c] (h1 : c → A) (h2 : ¬ c → B) : if c then A else B := by
  by_cases h : c
  · rw [if_pos h]
    exact h1 h
  · rw [if_neg h]
    exact h2 h
def Same (H H' : Hp) : Prop := ∀ b o, H b = some o → H' b = some o
theorem Same.refl (H : Hp) : Same H H := fun _ _ h => h
theorem Same.trans {H H1 H2 : Hp} (a : Same H H1) (b : Same H1 H2) : Same H H2 := fun c o h => b c o (a c o h)
theorem Same.free {H H' : Hp} (e : Same H H') {l : Addr} (h : H' l = Option.none) : H l = Option.none := by
  cases q : H l with
  | none => rfl
  | some o =>
    rw [e l o q] at h
    cases h
theorem Same.seq {K : PySem.W.Frag} {H H' : Hp} {a : Addr} {xs : List V} (e : Same H H') (h : SqL K H a xs) : SqL K H' a xs := by
  rcases h with (h | ⟨o, h⟩) | h
  · exact .inl (.inl (e _ _ h))
  · exact .inl (.inr ⟨o, e _ _ h⟩)
  · exact .inr h

end L2

namespace L2
open PySem PySem.Spec PyProof.Rows

def clo (env : Env) : List (Str × NameKind) → List (Str × Addr) → List (Str × Addr)
  | [], acc => acc
  | (n, k) :: r, acc => if k == .free then clo env r ((n, (env.cells.lookup n).getD 0) :: acc) else clo env r acc
theorem clo_run {env : Env} {f : Str × NameKind → List (Str × Addr) → Sem (ForInStep (List (Str × Addr)))}
    (hf : ∀ n k acc, f (n, k) acc = if k == .free then (do let a ← cellOf env n; pure (ForInStep.yield ((n, a) :: acc))) else pure (ForInStep.yield acc)) :
    ∀ (names : List (Str × NameKind)) (acc : List (Str × Addr)), (∀ p ∈ names, p.2 = .free → ∃ a, env.cells.lookup p.1 = some a) →
    (forIn names acc f : Sem (List (Str × Addr))) = pure (clo env names acc)
  | [], acc, _ => rfl
  | (n, k) :: r, acc, h => by
    rw [List.forIn_cons, hf]
    unfold clo
    by_cases hk : (k == NameKind.free) = true
    · rw [if_pos hk, if_pos hk]
      obtain ⟨a, ha⟩ := h (n, k) List.mem_cons_self (by simpa using hk)
      have e : cellOf env n = pure a := by
        unfold cellOf
        rw [show env.cells.lookup n = some a from ha]
      rw [e, show env.cells.lookup n = some a from ha]
      simp only [pure_bind]
      exact clo_run hf r _ fun p hp => h p (List.mem_cons_of_mem _ hp)
    · rw [if_neg hk, if_neg hk, pure_bind]
      exact clo_run hf r _ fun p hp => h p (List.mem_cons_of_mem _ hp)
theorem closureFor_clo {env : Env} {scope : Scope} (h : ∀ p ∈ scope.names, p.2 = .free → ∃ a, env.cells.lookup p.1 = some a) : closureFor scope env = pure (clo env scope.names []) := by
  simp only [closureFor]
  rw [clo_run (env := env) (fun n k acc => ?_) scope.names [] h]
  · rfl
  · by_cases hk : (k == NameKind.free) = true
    · simp only [hk, if_true]
    · simp only [hk, if_false]
theorem clo_mem {env : Env} : ∀ {names : List (Str × NameKind)} {acc : List (Str × Addr)}, (∀ p ∈ names, p.2 = .free → ∃ a, env.cells.lookup p.1 = some a) → ∀ p ∈ clo env names acc, p ∈ acc ∨ (env.cells.lookup p.1 = some p.2)
  | [], acc, _, p, hp => .inl hp
  | (n, k) :: r, acc, h, p, hp => by
    unfold clo at hp
    have hr : ∀ p ∈ r, p.2 = .free → ∃ a, env.cells.lookup p.1 = some a := fun p hp => h p (List.mem_cons_of_mem _ hp)
    by_cases hk : (k == NameKind.free) = true
    · rw [if_pos hk] at hp
      obtain ⟨a, ha⟩ := h (n, k) List.mem_cons_self (by simpa using hk)
      rcases clo_mem hr p hp with q | q
      · rcases List.mem_cons.mp q with q | q
        · subst q
          right
          show env.cells.lookup n = some ((env.cells.lookup n).getD 0)
          rw [show env.cells.lookup n = some a from ha]; rfl
        · exact .inl q
      · exact .inr q
    · rw [if_neg hk] at hp
      exact clo_mem hr p hp
theorem clo_acc {env : Env} : ∀ {names : List (Str × NameKind)} {acc : List (Str × Addr)}, ∀ p ∈ acc, p ∈ clo env names acc
  | [], acc, p, hp => hp
  | (n, k) :: r, acc, p, hp => by
    unfold clo
    by_cases hk : (k == NameKind.free) = true
    · rw [if_pos hk]; exact clo_acc p (List.mem_cons_of_mem _ hp)
    · rw [if_neg hk]; exact clo_acc p hp
theorem clo_has {env : Env} : ∀ {names : List (Str × NameKind)} {acc : List (Str × Addr)} {x : Str}, (x, NameKind.free) ∈ names → ∃ a, (x, a) ∈ clo env names acc
  | [], _, _, h => by cases h
  | (n, k) :: r, acc, x, h => by
    unfold clo
    rcases List.mem_cons.mp h with q | q
    · cases q
      rw [if_pos (show (NameKind.free == NameKind.free) = true from rfl)]
      exact ⟨_, clo_acc _ List.mem_cons_self⟩
    · by_cases hk : (k == NameKind.free) = true
      · rw [if_pos hk]; exact clo_has q
      · rw [if_neg hk]; exact clo_has q
theorem look_of_mem {β : Type} : ∀ {l : List (Str × β)} {x : Str} {b : β}, (x, b) ∈ l → ∃ b', l.lookup x = some b'
  | [], _, _, h => by cases h
  | (n, k) :: r, x, b, h => by
    rw [List.lookup_cons]
    cases hx : x == n with
    | true => exact ⟨k, rfl⟩
    | false =>
      rcases List.mem_cons.mp h with q | q
      · cases q; simp at hx
      · exact look_of_mem q
theorem mem_of_look {β : Type} : ∀ {l : List (Str × β)} {x : Str} {b : β}, l.lookup x = some b → (x, b) ∈ l
  | [], _, _, h => by simp at h
  | (n, k) :: r, x, b, h => by
    rw [List.lookup_cons] at h
    cases hx : x == n with
    | true =>
      rw [hx] at h
      have : x = n := by simpa using hx
      subst this
      cases h
      exact List.mem_cons_self
    | false =>
      rw [hx] at h
      exact List.mem_cons_of_mem _ (mem_of_look h)

theorem relabel_lookup {env : Env} {x : Str} : ∀ (names : List (Str × NameKind)),
    (names.map fun (p : Str × NameKind) => match p with | (n, k) => if (k == .free && env.scope.kind == .function && env.kindOf n == some .cell) then (n, NameKind.cell) else (n, k)).lookup x =
      (names.lookup x).map fun k => if (k == .free && env.scope.kind == .function && env.kindOf x == some .cell) then NameKind.cell else k
  | [] => rfl
  | (n, k) :: r => by
    have ih := @relabel_lookup env x r
    rw [List.map_cons]
    show List.lookup x ((if (k == NameKind.free && env.scope.kind == .function && env.kindOf n == some .cell) = true then (n, NameKind.cell) else (n, k)) :: _) = _
    cases hx : x == n with
    | true =>
      have e : x = n := by simpa using hx
      subst e
      by_cases hc : (k == NameKind.free && env.scope.kind == .function && env.kindOf x == some .cell) = true
      · rw [if_pos hc]; simp only [List.lookup_cons, hx, Option.map_some, if_pos hc]
      · rw [if_neg hc]; simp only [List.lookup_cons, hx, Option.map_some, if_neg hc]
    | false =>
      by_cases hc : (k == NameKind.free && env.scope.kind == .function && env.kindOf n == some .cell) = true
      · rw [if_pos hc]; simp only [List.lookup_cons, hx]; exact ih
      · rw [if_neg hc]; simp only [List.lookup_cons, hx]; exact ih
theorem relabel_names {env : Env} {scope : Scope} {x : Str} : (relabel scope env).names.lookup x = (scope.names.lookup x).map fun k => if (k == .free && env.scope.kind == .function && env.kindOf x == some .cell) then NameKind.cell else k :=
  relabel_lookup scope.names

def cxComp (X : Cx) (N' : List Str) (scope : Scope) (cl : List (Str × Addr)) (C : Addr) (s : Shared) (H : Hp) (fp : List Addr) (pn : List (Addr × Obj)) : Cx :=
  { X with N := N', s₀ := s, H₀ := H, env := compEnvC scope cl C X.env, outer := X.stack, stack := X.stack, ex := fp, fn := fun _ => false, pn := pn, xe := fun _ _ => False }

def Wk : St → St → Prop
  | [], [] => True
  | a :: r, b :: q => (a = none ∨ a = b) ∧ Wk r q
  | _, _ => False
theorem Wk.len : ∀ {a b : St}, Wk a b → a.length = b.length
  | [], [], _ => rfl
  | _ :: _, _ :: _, h => by simp [Wk.len h.2]
  | [], _ :: _, h => False.elim h
  | _ :: _, [], h => False.elim h
theorem Wk.get : ∀ {a b : St}, Wk a b → ∀ (i : Nat) v, a[i]? = some (some v) → b[i]? = some (some v)
  | [], [], _, i, v, h => by simp at h
  | x :: r, y :: q, h, 0, v, e => by
    simp at e
    rcases h.1 with z | z
    · rw [z] at e; cases e
    · simp [← z, e]
  | x :: r, y :: q, h, i + 1, v, e => by
    simp at e ⊢
    exact Wk.get h.2 i v e
  | [], _ :: _, h, _, _, _ => False.elim h
  | _ :: _, [], h, _, _, _ => False.elim h

def stC (own : Nat) (caps : List Nat) (σ : St) : St := List.replicate own none ++ caps.map fun j => (σ[j]?).join

def PTs (X : Cx) (ifs : List Expr) (t : TT) : Prop :=
  ∀ (pins : List (Addr × Obj)) (s : Shared) (σ : St) (H : Hp) (Q : Bool → Hp → Prop), Inv X pins σ H s → t σ H Q →
    wpAny (model X.prog X.w) X.A (forIn ifs true fun c r => if r = true then do let ok ← isTrue c X.env (eval c X.env); pure (ForInStep.yield ok) else pure (ForInStep.yield r)) (TP X pins σ Q) X.xe s
def tTru : TT := fun _ H Q => Q true H
theorem tru_if {σ : St} {H : Hp} {A B : Hp → Prop} (h : A H) : tTru σ H (fun b H3 => if b = true then A H3 else B H3) := by
  show if true = true then A H else B H
  rw [if_pos rfl]
  exact h
theorem pts_nil {X : Cx} : PTs X [] tTru := fun _ _ _ H _ I h => wpAny_tests_nil ⟨H, I, h⟩
theorem compLoop_go {prog : Program} {w : World} {A : Around} {R : Result → Shared → Prop} {s : Shared} {elt target iter : Expr} {ifs : List Expr} {scope : Scope} {pos : Pos} {it acc : Value} {env : Env} (I : Nat → Shared → Prop)
    (turn : ∀ n s, I n s → wpAny (model prog w) A (pyNext it) (fun r s₁ => match r with
      | none => R (.ok .next) s₁
      | some v => wpAny (model prog w) A (letOwnedTupleGo target it v) (fun _ s₁' => wpAny (model prog w) A (assign target env v) (fun _ s₂ =>
          wpAny (model prog w) A (forIn ifs true fun c r => if r = true then do let ok ← isTrue c env (eval c env); pure (ForInStep.yield ok) else pure (ForInStep.yield r)) (fun ok s₃ =>
            if ok = true then wpAny (model prog w) A (eval elt env) (fun x s₄ =>
              wpAny (model prog w) A (call (.builtin "list.append") [acc, x]) (fun _ s₅ => ∃ m, m < n ∧ I m s₅) (fun _ _ => False) s₄) (fun _ _ => False) s₃
            else ∃ m, m < n ∧ I m s₃) (fun _ _ => False) s₂) (fun _ _ => False) s₁') (fun _ _ => False) s₁) (fun _ _ => False) s)
    (n : Nat) (h : I n s) :
    codeAny (model prog w) A (.compLoop (.ListComp elt [⟨target, iter, ifs, 0⟩] scope pos) 0 it acc env) R s := by
  refine codeAny_loop rfl I (fun n s hI => ?_) n h
  show wpAny _ A ((compTurn (.ListComp elt [⟨target, iter, ifs, 0⟩] scope pos) 0 it acc env).onRaise (fun x => do noteFrame x env; theTreesLotGoes x)) _ _ s
  refine wpAny_noted ?_
  rw [compTurn_list]
  refine wpAny_bind (wpAny_standAt (wpAny_bind (wpAny_mono (turn n s hI) (fun r s₁ h₁ => ?_) fun _ _ h' => False.elim h')))
  cases r with
  | none => exact wpAny_pure h₁
  | some v =>
    refine wpAny_bind (wpAny_mono h₁ (fun _ s₁' h₁' => ?_) fun _ _ h' => False.elim h')
    refine wpAny_bind (wpAny_mono h₁' (fun _ s₂ h₂ => wpAny_bind (wpAny_mono h₂ (fun ok s₃ h₃ => ?_) fun _ _ h' => False.elim h')) fun _ _ h' => False.elim h')
    cases ok with
    | false => exact wpAny_pure ⟨rfl, h₃⟩
    | true =>
      exact wpAny_bind (wpAny_bind (wpAny_mono h₃ (fun x s₄ h₄ => wpAny_bind (wpAny_mono h₄ (fun _ s₅ h₅ => wpAny_pure (wpAny_pure ⟨rfl, h₅⟩)) fun _ _ h' => False.elim h')) fun _ _ h' => False.elim h'))

def tComp (wi : TI) (own : Nat) (caps : List Nat) (g : TG) (tt : TT) (te : TE) : TE := fun σ H Q => wi σ H fun J H1 => ∀ l, H1 l = none → ∃ W : Nat → Nat → List V → Hp → Prop, (∃ m, W 0 m [] (upd H1 l (.lst []))) ∧
  ∀ i m ys H, W i m ys H → H l = some (.lst ys) ∧ ((J.stop i H ∧ Q (.ref l) H) ∨ (J.go i H ∧ ys.length < sizeLine ∧ ∃ N : List V → Hp → Prop, (∀ ys' H', N ys' H' → ∃ m', m' < m ∧ W (i + 1) m' ys' H') ∧
    ∀ x H', J.yld i H x H' → g x (stC own caps σ) H' fun σ2 H2 => Wk (stC own caps σ) σ2 ∧
    tt σ2 H2 fun b H3 => if b = true then te σ2 H3 fun y H4 => H4 l = some (.lst ys) ∧ N (ys ++ [y]) (upd H4 l (.lst (ys ++ [y]))) else N ys H3))

section
variable {X : Cx} {tg elt iter : Expr} {ifs : List Expr} {scope : Scope} {pos : Pos} {wi : TI} {g : TG} {tt : TT} {te : TE} {ownN : List Str} {caps : List (Str × Nat)}
theorem inv_comp {pins : List (Addr × Obj)} {σ : St} {H : Hp} {s : Shared} {fp : List Addr} {h₁ : Heap}
    (I : Inv X pins σ H s) (hf : ∀ b ∈ fp, FpOk X pins H b) (hfl : ∀ b ∈ fp, b < s.heap.objs.size)
    (hkind : scope.kind = .function) (hcell : ∀ y ∈ scope.names, y.2 ≠ .cell)
    (hfree : ∀ p ∈ scope.names, p.2 = .free → X.env.scope.names.lookup p.1 = some .cell)
    (hcaps : ∀ c ∈ caps, X.N[c.2]? = some c.1 ∧ X.env.scope.names.lookup c.1 = some .cell ∧ scope.names.lookup c.1 = some .free)
    (hn : h₁.Ns s.heap.objs.size (fun _ => none)) (hk : ∀ b o, s.heap.get? b = some o → h₁.get? b = some o) {tk : Nat} :
    Inv (cxComp X (ownN ++ caps.map (·.1)) scope (clo X.env scope.names []) s.heap.objs.size s H fp (X.pn ++ pins)) [] (stC ownN.length (caps.map (·.2)) σ) H { s with heap := h₁, toks := tk } := by
  have has : ∀ p ∈ scope.names, p.2 = .free → ∃ a, X.env.cells.lookup p.1 = some a := fun p hp hfr => I.ok.has p.1 (.inl (hfree p hp hfr))
  have cmem : ∀ {x : Str} {c : Addr}, (clo X.env scope.names []).lookup x = some c → X.env.cells.lookup x = some c := fun {x c} e => by
    rcases clo_mem has _ (mem_of_look e) with q | q
    · cases q
    · exact q
  have clt : ∀ {x : Str} {c : Addr}, X.env.cells.lookup x = some c → c < s.heap.objs.size := fun {x c} e => by
    obtain ⟨v, q⟩ := I.cell x c e
    exact q.lt
  refine ⟨⟨I.ok.mod, ?_, I.ok.glob, I.ok.blt, Nat.le_refl _, fun x y c h1 h2 => I.ok.inj x y c (cmem h1) (cmem h2), fun x hx => ?_, fun x c h => (by cases h), I.ok.hd, I.ok.frames, .inl rfl, fun b hb => ⟨Nat.ne_of_lt (hfl b hb), fun x c e => (hf b hb).2.2.2.2.1 x c (cmem e)⟩,
    fun b o e => I.bs b o e, Nat.le_trans I.ok.bsz I.sz, fun b o e z => ?_, fun b hb z => ?_, I.stack, I.stkFree⟩, rfl, I.bare, Un.kept hk, ⟨_, hn, fun i x v h1 h2 h3 => ?_⟩, fun x c e => ?_, I.hok.fresh (Nat.le_refl _), fun x c e => I.freeC x c (cmem e), fun p hp => ?_, I.hok.kept hk, ?_⟩
  · show (relabel scope X.env).kind = .function
    exact hkind
  · -- a cell for each free name
    have e0 : (relabel scope X.env).names.lookup x = some .cell ∨ (relabel scope X.env).names.lookup x = some .free := hx
    rw [relabel_names] at e0
    have e1 : scope.names.lookup x = some .free := by
      cases q : scope.names.lookup x with
      | none => rw [q] at e0; simp at e0
      | some k =>
        have hk' := hcell _ (mem_of_look q)
        rw [q] at e0
        cases k with
        | free => rfl
        | cell => exact absurd rfl hk'
        | _ => simp at e0
    obtain ⟨a, ha⟩ := clo_has (env := X.env) (acc := []) (mem_of_look e1)
    exact look_of_mem ha
  · -- the base has no iterator of ours
    rcases (hf b z).2.2.2.1 with q | q
    · exact I.ok.noex b o e q
    · exact absurd (Nat.lt_of_lt_of_le (Heap.lt_size e) (Nat.le_trans I.ok.bsz q)) (Nat.lt_irrefl _)
  · rcases List.mem_cons.mp (I.stkSub b z) with q | q
    · exact (hf b hb).2.1 q
    · exact (hf b hb).2.2.1 q
  · -- captured names
    have hi : ownN.length ≤ i := by
      unfold stC at h2
      by_cases hi : ownN.length ≤ i
      · exact hi
      · rw [List.getElem?_append_left (by simp; (first | lia | omega)), List.getElem?_replicate] at h2
        split at h2 <;> cases h2
    have h1' : (ownN ++ caps.map (·.1))[i]? = some x := h1
    unfold stC at h2
    rw [List.getElem?_append_right (by simp; (first | lia | omega)), List.length_replicate, List.getElem?_map, List.getElem?_map] at h2
    rw [List.getElem?_append_right hi, List.getElem?_map] at h1'
    cases hc : caps[i - ownN.length]? with
    | none => rw [hc] at h1'; cases h1'
    | some c =>
      rw [hc] at h1' h2
      have ex : c.1 = x := Option.some.inj h1'
      have ev : (σ[c.2]?).join = some v := Option.some.inj h2
      have ev' : σ[c.2]? = some (some v) := by
        cases q : σ[c.2]? with
        | none => rw [q] at ev; cases ev
        | some z => rw [q] at ev; simp at ev; rw [ev]
      obtain ⟨k1, k2, k3⟩ := hcaps c (List.mem_of_getElem? hc)
      rw [ex] at k1 k2 k3
      obtain ⟨m, hm, hl⟩ := I.loc
      obtain ⟨u, ru, lk⟩ := hl c.2 x v k1 ev' (.inr (.inl k2))
      refine ⟨u, ru, .inr ⟨.inl ?_, ?_⟩⟩
      · show (relabel scope X.env).names.lookup x = some .cell
        rw [relabel_names, k3]
        have e1 : X.env.scope.kind = .function := I.ok.kind
        have e2 : X.env.kindOf x = some .cell := k2
        simp [e1, e2]
      · rcases lk with ⟨z, _⟩ | ⟨_, cc, e1, e2⟩
        · have z' : X.env.scope.names.lookup x = some .local := z
          rw [k2] at z'; cases z'
        · obtain ⟨a, ha⟩ := clo_has (env := X.env) (acc := []) (mem_of_look k3)
          obtain ⟨a', ha'⟩ := look_of_mem ha
          have e3 : a' = cc := Option.some.inj ((cmem ha').symm.trans e1)
          rw [e3] at ha'
          obtain ⟨o, ho, hd⟩ := e2
          exact ⟨cc, ha', o, hk _ _ ho, hd⟩
  · obtain ⟨v, o, ho, hd⟩ := I.cell x c (cmem e)
    exact ⟨v, o, hk _ _ ho, hd⟩
  · have hp' : p ∈ X.pn ++ pins := by
      have : p ∈ (X.pn ++ pins) ++ [] := hp
      simpa using this
    obtain ⟨e, n, ne, nf, d⟩ := I.pin p hp'
    refine ⟨hk _ _ e, n, Nat.ne_of_lt (Heap.lt_size e), fun z => ?_, d⟩
    rcases List.mem_cons.mp (I.stkSub p.1 z) with q | q
    · exact ne q
    · exact nf q
  · show (stC ownN.length (caps.map (·.2)) σ).length = (ownN ++ caps.map (·.1)).length
    unfold stC
    simp

theorem pe_comp (ownN : List Str) (caps : List (Str × Nat)) (hc : X.calm = true) (hi : PI X tg iter wi)
    (hg : ∀ cl C s H fp pn, PG (cxComp X (ownN ++ caps.map (·.1)) scope cl C s H fp pn) tg g)
    (ht : ∀ cl C s H fp pn, PTs (cxComp X (ownN ++ caps.map (·.1)) scope cl C s H fp pn) ifs tt)
    (he : ∀ cl C s H fp pn, PE (cxComp X (ownN ++ caps.map (·.1)) scope cl C s H fp pn) elt te)
    (hkind : scope.kind = .function := by rfl) (hcell : ∀ y ∈ scope.names, y.2 ≠ .cell := by decide)
    (hfr : (scope.names.all fun p => p.2 != .free || X.env.scope.names.lookup p.1 == some .cell) = true := by rfl)
    (hcp : (caps.all fun c => X.N[c.2]? == some c.1 && (X.env.scope.names.lookup c.1 == some .cell && scope.names.lookup c.1 == some .free)) = true := by rfl)
    (hnames : ∀ x ∈ scope.names, x.2 = .local → scope.names.lookup x.1 = some .local := by decide)
    (hs : ∀ x, foldedSetIterable iter X.env x = pure x := by intro _; rfl) :
    PE X (.ListComp elt [⟨tg, iter, ifs, 0⟩] scope pos) (tComp wi ownN.length (caps.map (·.2)) g tt te) := by
  intro pins s σ H Q I h
  have hfree : ∀ p ∈ scope.names, p.2 = .free → X.env.scope.names.lookup p.1 = some .cell := fun p hp e => by
    have z := List.all_eq_true.mp hfr p hp
    rw [e] at z
    simpa using z
  have hcaps : ∀ c ∈ caps, X.N[c.2]? = some c.1 ∧ X.env.scope.names.lookup c.1 = some .cell ∧ scope.names.lookup c.1 = some .free := fun c hc => by
    have z := List.all_eq_true.mp hcp c hc
    simpa using z
  have has : ∀ p ∈ scope.names, p.2 = .free → ∃ a, X.env.cells.lookup p.1 = some a := fun p hp hfr => I.ok.has p.1 (.inl (hfree p hp hfr))
  rw [eval_ListComp]
  refine wpAny_comprehension_free (use := none) rfl hs (closureFor_clo has) hkind hnames (thn (hi pins s σ H _ I h) fun v s1 h1 => thn h1 fun itv s2 h2 => ?_)
  obtain ⟨it, fp, tn, J, H2, rfl, I2, T, st2, f2, red⟩ := h2
  have hf2 : H2 s2.heap.objs.size = none := I2.hok.fresh (Nat.le_refl _)
  obtain ⟨W, ⟨m0, w0⟩, turn⟩ := red s2.heap.objs.size hf2
  refine wpAny_newObj_type ?_
  generalize hac : s2.heap.objs.size = ac at hf2 turn w0 ⊢
  have I3 : Inv X pins σ (upd H2 ac (.lst [])) { s2 with heap := s2.heap.push { cls := .type "list", dict := none, data := .seq ([] : List Value).toArray } } := by
    subst hac
    exact I2.laid (t' := s2.toks) (o := .lst []) (fun b u e => Heap.get?_push_of_some _ e) (Nat.le_refl _) ⟨Nat.zero_le _, [], 0, .nil, Heap.get?_push_size _ rfl⟩
  generalize hs3 : ({ s2 with heap := s2.heap.push { cls := .type "list", dict := none, data := .seq ([] : List Value).toArray } } : Shared) = s3 at I3 ⊢
  have obj2 := T.obj 0 s2.heap st2
  have fne : ∀ b ∈ fp, b ≠ ac := fun b hb z => by
    obtain ⟨o, e, _⟩ := obj2 b hb
    exact absurd (Heap.lt_size e) (by rw [z, hac]; exact Nat.lt_irrefl _)
  have f3 : ∀ b ∈ fp, FpOk X pins (upd H2 ac (.lst [])) b := fun b hb => ⟨by rw [upd_ne (fne b hb)]; exact (f2 b hb).1, (f2 b hb).2⟩
  have st3 : tn 0 s3.heap := T.keep 0 _ _ st2 fun b hb o e => by subst hs3; exact Heap.get?_push_of_some _ e
  have fl3 : ∀ b ∈ fp, b < s3.heap.objs.size := fun b hb => by
    obtain ⟨o, e, _⟩ := T.obj 0 s3.heap st3 b hb
    exact Heap.lt_size e
  have acl : ac < s3.heap.objs.size := by subst hs3; subst hac; simp [Heap.size_push]
  refine wpAny_newFunctionEnv hcell (by intro y hy; simp at hy) (fun h₁ hns₁ hsb₁ => ?_) hkind
  have old : ∀ b o, s3.heap.get? b = some o → h₁.get? b = some o := fun b o e => hsb₁.extBut b o (Nat.ne_of_lt (Heap.lt_size e)) (Heap.get?_push_of_some _ e)
  have I4 := inv_comp (ownN := ownN) (caps := caps) (tk := s3.toks + ([] : List (Str × Value)).length) I3 f3 fl3 hkind hcell hfree hcaps hns₁ old
  have st4 : tn 0 h₁ := T.keep 0 _ _ st3 fun b hb o e => old b o e
  -- behind the block
  have after : ∀ (s5 : Shared) (σ5 : St) (H5 : Hp), Inv (cxComp X (ownN ++ caps.map (·.1)) scope (clo X.env scope.names []) s3.heap.objs.size s3 (upd H2 ac (.lst [])) fp (X.pn ++ pins)) [] σ5 H5 s5 → Q (.ref ac) H5 →
      compPost (model X.prog X.w) X.A X.xe none (EP X pins σ Q) (.ref ac) s3.heap.objs.size (.ok .next) s5 := by
    intro s5 σ5 H5 J5 q
    obtain ⟨m, hm, _⟩ := J5.loc
    refine ⟨m, hm, fun h' hs' => ?_⟩
    have nC : H5 s3.heap.objs.size = none := J5.free
    refine ⟨.ref ac, H5, ?_, rfl, q⟩
    have ub := J5.base
    have u : Un (frs X.stack) fp (upd H2 ac (.lst [])) H5 s3.heap h' :=
      ⟨fun b o e n hb hx => hs'.extBut b o (Nat.ne_of_lt (Heap.lt_size e)) (ub.keep b o e n hb hx), fun b o e n hb hx => by
        obtain ⟨sl, z⟩ := ub.slot b o e n hb hx
        exact ⟨sl, hs'.extBut b _ (Nat.ne_of_lt (Heap.lt_size e)) z⟩, ub.free, fun b o e hx => by
        obtain ⟨o', z⟩ := ub.there b o e hx
        exact ⟨o', hs'.extBut b _ (Nat.ne_of_lt (Heap.lt_size e)) z⟩, ub.tups, ub.frzs, fun b ps q => ⟨(ub.tbls b ps q).1, fun c o ec x => let z := (ub.tbls b ps q).2 c o ec x; ⟨z.1, hs'.extBut c o (ne_of_none z.1 nC) z.2⟩⟩⟩
    refine I3.call' (s' := { s5 with heap := h' }) (ch := fp) J5.os u (fun b u e => ?_) J5.bare (fun b hb => ⟨(f3 b hb).2.2.2.1, (f3 b hb).2.1, (f3 b hb).2.2.2.2.1, (f3 b hb).2.2.2.2.2⟩)
    refine (J5.hok b u e).stay (fun c v hc z => hs'.extBut c v ?_ z) (fun _ z => z) fun _ _ z => z
    rintro rfl
    rcases hc with z' | z'
    · rw [z', e] at nC; cases nC
    · rw [nC] at z'; cases z'
  have loop : ∀ s4 : Shared, s4 = { s3 with heap := h₁, toks := s3.toks + ([] : List (Str × Value)).length } → codeAny (model X.prog X.w) X.A (.compLoop (.ListComp elt [⟨tg, iter, ifs, 0⟩] scope pos) 0 (.ref it) (.ref ac) (compEnvC scope (clo X.env scope.names []) s3.heap.objs.size X.env))
      (compPost (model X.prog X.w) X.A X.xe none (EP X pins σ Q) (.ref ac) s3.heap.objs.size) s4 := by
    rintro s4 rfl
    refine compLoop_go (fun n s' => ∃ i ys H', Inv (cxComp X (ownN ++ caps.map (·.1)) scope (clo X.env scope.names []) s3.heap.objs.size s3 (upd H2 ac (.lst [])) fp (X.pn ++ pins)) [] (stC ownN.length (caps.map (·.2)) σ) H' s' ∧ tn i s'.heap ∧ (∀ b ∈ fp, H' b = none) ∧ W i n ys H') ?_ m0
      ⟨0, [], _, I4, st4, fun b hb => (f3 b hb).1, w0⟩
    rintro n s6 ⟨i, ys, H6, I6, st6, fr6, w6⟩
    obtain ⟨hl6, alt⟩ := turn i n ys H6 w6
    have fpok : ∀ {H' : Hp}, (∀ b ∈ fp, H' b = none) → ∀ b ∈ fp, FpOk (cxComp X (ownN ++ caps.map (·.1)) scope (clo X.env scope.names []) s3.heap.objs.size s3 (upd H2 ac (.lst [])) fp (X.pn ++ pins)) [] H' b := fun {H'} hn b hb =>
      ⟨hn b hb, Nat.ne_of_lt (fl3 b hb), I6.ok.exfs b hb, .inl hb, (I6.ok.exf b hb).2, fun p hp z => (f3 b hb).2.2.2.2.2 p (by
        have hp' : p ∈ (X.pn ++ pins) ++ [] := hp
        simpa using hp') z⟩
    rcases alt with ⟨stop, qn⟩ | ⟨go, hsz, N, hN, step⟩
    · refine thn (T.done (cxComp X (ownN ++ caps.map (·.1)) scope (clo X.env scope.names []) s3.heap.objs.size s3 (upd H2 ac (.lst [])) fp (X.pn ++ pins)) rfl rfl rfl hc i [] s6 _ H6 _ I6 (fpok fr6) st6 stop) fun r s7 ⟨hr, I7⟩ => ?_
      subst hr
      exact after s7 _ H6 I7 qn
    · refine thn (T.item (cxComp X (ownN ++ caps.map (·.1)) scope (clo X.env scope.names []) s3.heap.objs.size s3 (upd H2 ac (.lst [])) fp (X.pn ++ pins)) rfl rfl rfl hc i [] s6 _ H6 _ I6 (fpok fr6) st6 go) fun r s7 ⟨u, hr, h7⟩ => ?_
      subst hr
      refine thn h7 fun _ s8 ⟨x, H8, I8, r8, y8, st8, fr8⟩ => ?_
      have I8' := I8.pinned (fpok fr8) (T.obj _ _ st8)
      have fin : ∀ {σ' : St} {H' : Hp} {s' : Shared}, Inv (cxComp X (ownN ++ caps.map (·.1)) scope (clo X.env scope.names []) s3.heap.objs.size s3 (upd H2 ac (.lst [])) fp (X.pn ++ pins)) ([] ++ pinsAt fp s8.heap) σ' H' s' → tn (i + 1) s'.heap ∧ ∀ b ∈ fp, H' b = none := fun {σ' H' s'} J =>
        ⟨T.keep _ _ _ st8 fun b hb o e => (J.pin (b, o) (List.mem_append_right _ (List.mem_append_right _ (mem_pinsAt hb e)))).1, fun b hb => by
          obtain ⟨o, e, _⟩ := T.obj _ _ st8 b hb
          exact (J.pin (b, o) (List.mem_append_right _ (List.mem_append_right _ (mem_pinsAt hb e)))).2.1⟩
      refine thn (hg _ _ _ _ _ _ _ s8 _ H8 x u _ I8' r8 (step x H8 y8)) fun _ s9 ⟨σ9, H9, I9, wk, q9⟩ => ?_
      refine thn (ht _ _ _ _ _ _ _ s9 σ9 H9 _ I9 q9) fun b s10 ⟨H10, I10, q10⟩ => ?_
      cases b with
      | false =>
        rw [if_neg Bool.false_ne_true] at q10 ⊢
        obtain ⟨m', hm', w'⟩ := hN _ _ q10
        obtain ⟨e1, e2⟩ := fin I10
        exact ⟨m', hm', i + 1, ys, H10, (I10.weak wk.len wk.get).unpinned, e1, e2, w'⟩
      | true =>
        rw [if_pos rfl] at q10 ⊢
        refine thn (he _ _ _ _ _ _ _ s10 σ9 H10 _ I10 q10) fun y s11 ⟨yv, H11, I11, r11, hl11, q11⟩ => ?_
        obtain ⟨m', hm', w'⟩ := hN _ _ q11
        refine thn (mt_append (X := cxComp X (ownN ++ caps.map (·.1)) scope (clo X.env scope.names []) s3.heap.objs.size s3 (upd H2 ac (.lst [])) fp (X.pn ++ pins)) (pinsAt fp s8.heap) s11 σ9 H11 (.ref ac) [yv] (.ref ac) [y] (fun v H' => H' = upd H11 ac (.lst (ys ++ [yv]))) I11 rfl (.cons r11 .nil) ⟨ac, ys, yv, rfl, rfl, hl11, hsz, rfl⟩) fun _ s12 ⟨v12, H12, I12, _, e12⟩ => ?_
        subst e12
        obtain ⟨e1, e2⟩ := fin I12
        exact ⟨m', hm', i + 1, _, _, (I12.weak wk.len wk.get).unpinned, e1, e2, w'⟩
  exact codeAny_compStart_list (loop _ rfl) (T.self _ 0 _ _ _ st4 (loop _ rfl))

theorem ps_setComp {i : Nat} {x : Str} {pos' spos : Pos} (hN : X.N.Nodup) (hix : X.N[i]? = some x) (hxl : Loc X.env.scope x) (ownN : List Str) (caps : List (Str × Nat)) (hc : X.calm = true) (hi : PI X tg iter wi)
    (hg : ∀ cl C s H fp pn, PG (cxComp X (ownN ++ caps.map (·.1)) scope cl C s H fp pn) tg g)
    (ht : ∀ cl C s H fp pn, PTs (cxComp X (ownN ++ caps.map (·.1)) scope cl C s H fp pn) ifs tt)
    (he : ∀ cl C s H fp pn, PE (cxComp X (ownN ++ caps.map (·.1)) scope cl C s H fp pn) elt te)
    (hkind : scope.kind = .function := by rfl) (hcell : ∀ y ∈ scope.names, y.2 ≠ .cell := by decide)
    (hfr : (scope.names.all fun p => p.2 != .free || X.env.scope.names.lookup p.1 == some .cell) = true := by rfl)
    (hcp : (caps.all fun c => X.N[c.2]? == some c.1 && (X.env.scope.names.lookup c.1 == some .cell && scope.names.lookup c.1 == some .free)) = true := by rfl)
    (hnames : ∀ x ∈ scope.names, x.2 = .local → scope.names.lookup x.1 = some .local := by decide)
    (hs : ∀ x, foldedSetIterable iter X.env x = pure x := by intro _; rfl)
    (hsw : swapsWith (.ListComp elt [⟨tg, iter, ifs, 0⟩] scope pos) (some (.Name x pos')) spos.line X.env = pure true := by rfl)
    (hf : X.fn x = true ∨ X.env.scope.names.lookup x = some .local := by first | exact .inl rfl | exact .inr rfl | assumption) :
    PS X (.Assign [.Name x pos'] (.ListComp elt [⟨tg, iter, ifs, 0⟩] scope pos) spos) (tAsg (tComp wi ownN.length (caps.map (·.2)) g tt te) (gName i)) := by
  intro pins s σ H D I h
  let Q : VK := fun v H' => D.nx (σ.set i (some v)) H'
  have hfree : ∀ p ∈ scope.names, p.2 = .free → X.env.scope.names.lookup p.1 = some .cell := fun p hp e => by
    have z := List.all_eq_true.mp hfr p hp
    rw [e] at z
    simpa using z
  have hcaps : ∀ c ∈ caps, X.N[c.2]? = some c.1 ∧ X.env.scope.names.lookup c.1 = some .cell ∧ scope.names.lookup c.1 = some .free := fun c hc => by
    have z := List.all_eq_true.mp hcp c hc
    simpa using z
  have has : ∀ p ∈ scope.names, p.2 = .free → ∃ a, X.env.cells.lookup p.1 = some a := fun p hp hfr => I.ok.has p.1 (.inl (hfree p hp hfr))
  rw [exec_Assign_Name_used _ _ _ _ hsw]
  refine wpAny_bind (wpAny_standAt (wpAny_bind ?_))
  show wpAny _ X.A (do let _ ← comprehension (.ListComp elt [⟨tg, iter, ifs, 0⟩] scope pos) scope X.env _ (newList []) false (eval iter X.env) (some (assign (.Name x pos') X.env))) _ _ s
  refine wpAny_bind (thn (Q := fun _ s' => ∃ σ' H', Inv X pins σ' H' s' ∧ D.nx σ' H') (wpAny_comprehension_free (use := some (assign (.Name x pos') X.env)) rfl hs (closureFor_clo has) hkind hnames (thn (hi pins s σ H _ I h) fun v s1 h1 => thn h1 fun itv s2 h2 => ?_)) fun _ s' hq => wpAny_pure (wpAny_pure hq))
  obtain ⟨it, fp, tn, J, H2, rfl, I2, T, st2, f2, red⟩ := h2
  have hf2 : H2 s2.heap.objs.size = none := I2.hok.fresh (Nat.le_refl _)
  obtain ⟨W, ⟨m0, w0⟩, turn⟩ := red s2.heap.objs.size hf2
  refine wpAny_newObj_type ?_
  generalize hac : s2.heap.objs.size = ac at hf2 turn w0 ⊢
  have I3 : Inv X pins σ (upd H2 ac (.lst [])) { s2 with heap := s2.heap.push { cls := .type "list", dict := none, data := .seq ([] : List Value).toArray } } := by
    subst hac
    exact I2.laid (t' := s2.toks) (o := .lst []) (fun b u e => Heap.get?_push_of_some _ e) (Nat.le_refl _) ⟨Nat.zero_le _, [], 0, .nil, Heap.get?_push_size _ rfl⟩
  generalize hs3 : ({ s2 with heap := s2.heap.push { cls := .type "list", dict := none, data := .seq ([] : List Value).toArray } } : Shared) = s3 at I3 ⊢
  have obj2 := T.obj 0 s2.heap st2
  have fne : ∀ b ∈ fp, b ≠ ac := fun b hb z => by
    obtain ⟨o, e, _⟩ := obj2 b hb
    exact absurd (Heap.lt_size e) (by rw [z, hac]; exact Nat.lt_irrefl _)
  have f3 : ∀ b ∈ fp, FpOk X pins (upd H2 ac (.lst [])) b := fun b hb => ⟨by rw [upd_ne (fne b hb)]; exact (f2 b hb).1, (f2 b hb).2⟩
  have st3 : tn 0 s3.heap := T.keep 0 _ _ st2 fun b hb o e => by subst hs3; exact Heap.get?_push_of_some _ e
  have fl3 : ∀ b ∈ fp, b < s3.heap.objs.size := fun b hb => by
    obtain ⟨o, e, _⟩ := T.obj 0 s3.heap st3 b hb
    exact Heap.lt_size e
  have acl : ac < s3.heap.objs.size := by subst hs3; subst hac; simp [Heap.size_push]
  refine wpAny_newFunctionEnv hcell (by intro y hy; simp at hy) (fun h₁ hns₁ hsb₁ => ?_) hkind
  have old : ∀ b o, s3.heap.get? b = some o → h₁.get? b = some o := fun b o e => hsb₁.extBut b o (Nat.ne_of_lt (Heap.lt_size e)) (Heap.get?_push_of_some _ e)
  have I4 := inv_comp (ownN := ownN) (caps := caps) (tk := s3.toks + ([] : List (Str × Value)).length) I3 f3 fl3 hkind hcell hfree hcaps hns₁ old
  have st4 : tn 0 h₁ := T.keep 0 _ _ st3 fun b hb o e => old b o e
  -- behind the block
  have after : ∀ (s5 : Shared) (σ5 : St) (H5 : Hp), Inv (cxComp X (ownN ++ caps.map (·.1)) scope (clo X.env scope.names []) s3.heap.objs.size s3 (upd H2 ac (.lst [])) fp (X.pn ++ pins)) [] σ5 H5 s5 → Q (.ref ac) H5 →
      compPost (model X.prog X.w) X.A X.xe (some (assign (.Name x pos') X.env)) (fun _ s' => ∃ σ' H', Inv X pins σ' H' s' ∧ D.nx σ' H') (.ref ac) s3.heap.objs.size (.ok .next) s5 := by
    intro s5 σ5 H5 J5 q
    obtain ⟨m, hm, _⟩ := J5.loc
    have nC : H5 s3.heap.objs.size = none := J5.free
    have I5 : Inv X pins σ H5 s5 := I3.call' (s' := s5) (ch := fp) J5.os J5.base J5.hok J5.bare (fun b hb => ⟨(f3 b hb).2.2.2.1, (f3 b hb).2.1, (f3 b hb).2.2.2.2.1, (f3 b hb).2.2.2.2.2⟩)
    have fC := I3.fpOk (Nat.le_refl _) nC
    show wpAny _ X.A (assign (.Name x pos') X.env (.ref ac)) _ _ s5
    refine wpAny_assign_Name (store_ok2 I5 hN hix hxl (v := .ref ac) rfl (fun s6 I6 ⟨a, sb, ha⟩ => ?_) hf)
    have aC : s3.heap.objs.size ≠ a := by
      rcases ha with z | z
      · rw [z]; exact fC.2.1
      · exact Ne.symm (fC.2.2.2.2.1 x a z)
    refine ⟨m, hm.sameBut sb aC, fun h' hs' => ?_⟩
    exact ⟨_, H5, I6.turned (it := s3.heap.objs.size) (t' := s6.toks) (fun b o hb e => hs'.extBut b o hb e) nC fC.2.1 fC.2.2.2.1 fC.2.2.2.2.1 fC.2.2.2.2.2, q⟩
  have loop : ∀ s4 : Shared, s4 = { s3 with heap := h₁, toks := s3.toks + ([] : List (Str × Value)).length } → codeAny (model X.prog X.w) X.A (.compLoop (.ListComp elt [⟨tg, iter, ifs, 0⟩] scope pos) 0 (.ref it) (.ref ac) (compEnvC scope (clo X.env scope.names []) s3.heap.objs.size X.env))
      (compPost (model X.prog X.w) X.A X.xe (some (assign (.Name x pos') X.env)) (fun _ s' => ∃ σ' H', Inv X pins σ' H' s' ∧ D.nx σ' H') (.ref ac) s3.heap.objs.size) s4 := by
    rintro s4 rfl
    refine compLoop_go (fun n s' => ∃ i ys H', Inv (cxComp X (ownN ++ caps.map (·.1)) scope (clo X.env scope.names []) s3.heap.objs.size s3 (upd H2 ac (.lst [])) fp (X.pn ++ pins)) [] (stC ownN.length (caps.map (·.2)) σ) H' s' ∧ tn i s'.heap ∧ (∀ b ∈ fp, H' b = none) ∧ W i n ys H') ?_ m0
      ⟨0, [], _, I4, st4, fun b hb => (f3 b hb).1, w0⟩
    rintro n s6 ⟨i, ys, H6, I6, st6, fr6, w6⟩
    obtain ⟨hl6, alt⟩ := turn i n ys H6 w6
    have fpok : ∀ {H' : Hp}, (∀ b ∈ fp, H' b = none) → ∀ b ∈ fp, FpOk (cxComp X (ownN ++ caps.map (·.1)) scope (clo X.env scope.names []) s3.heap.objs.size s3 (upd H2 ac (.lst [])) fp (X.pn ++ pins)) [] H' b := fun {H'} hn b hb =>
      ⟨hn b hb, Nat.ne_of_lt (fl3 b hb), I6.ok.exfs b hb, .inl hb, (I6.ok.exf b hb).2, fun p hp z => (f3 b hb).2.2.2.2.2 p (by
        have hp' : p ∈ (X.pn ++ pins) ++ [] := hp
        simpa using hp') z⟩
    rcases alt with ⟨stop, qn⟩ | ⟨go, hsz, N, hN, step⟩
    · refine thn (T.done (cxComp X (ownN ++ caps.map (·.1)) scope (clo X.env scope.names []) s3.heap.objs.size s3 (upd H2 ac (.lst [])) fp (X.pn ++ pins)) rfl rfl rfl hc i [] s6 _ H6 _ I6 (fpok fr6) st6 stop) fun r s7 ⟨hr, I7⟩ => ?_
      subst hr
      exact after s7 _ H6 I7 qn
    · refine thn (T.item (cxComp X (ownN ++ caps.map (·.1)) scope (clo X.env scope.names []) s3.heap.objs.size s3 (upd H2 ac (.lst [])) fp (X.pn ++ pins)) rfl rfl rfl hc i [] s6 _ H6 _ I6 (fpok fr6) st6 go) fun r s7 ⟨u, hr, h7⟩ => ?_
      subst hr
      refine thn h7 fun _ s8 ⟨xv, H8, I8, r8, y8, st8, fr8⟩ => ?_
      have I8' := I8.pinned (fpok fr8) (T.obj _ _ st8)
      have fin : ∀ {σ' : St} {H' : Hp} {s' : Shared}, Inv (cxComp X (ownN ++ caps.map (·.1)) scope (clo X.env scope.names []) s3.heap.objs.size s3 (upd H2 ac (.lst [])) fp (X.pn ++ pins)) ([] ++ pinsAt fp s8.heap) σ' H' s' → tn (i + 1) s'.heap ∧ ∀ b ∈ fp, H' b = none := fun {σ' H' s'} J =>
        ⟨T.keep _ _ _ st8 fun b hb o e => (J.pin (b, o) (List.mem_append_right _ (List.mem_append_right _ (mem_pinsAt hb e)))).1, fun b hb => by
          obtain ⟨o, e, _⟩ := T.obj _ _ st8 b hb
          exact (J.pin (b, o) (List.mem_append_right _ (List.mem_append_right _ (mem_pinsAt hb e)))).2.1⟩
      refine thn (hg _ _ _ _ _ _ _ s8 _ H8 xv u _ I8' r8 (step xv H8 y8)) fun _ s9 ⟨σ9, H9, I9, wk, q9⟩ => ?_
      refine thn (ht _ _ _ _ _ _ _ s9 σ9 H9 _ I9 q9) fun b s10 ⟨H10, I10, q10⟩ => ?_
      cases b with
      | false =>
        rw [if_neg Bool.false_ne_true] at q10 ⊢
        obtain ⟨m', hm', w'⟩ := hN _ _ q10
        obtain ⟨e1, e2⟩ := fin I10
        exact ⟨m', hm', i + 1, ys, H10, (I10.weak wk.len wk.get).unpinned, e1, e2, w'⟩
      | true =>
        rw [if_pos rfl] at q10 ⊢
        refine thn (he _ _ _ _ _ _ _ s10 σ9 H10 _ I10 q10) fun y s11 ⟨yv, H11, I11, r11, hl11, q11⟩ => ?_
        obtain ⟨m', hm', w'⟩ := hN _ _ q11
        refine thn (mt_append (X := cxComp X (ownN ++ caps.map (·.1)) scope (clo X.env scope.names []) s3.heap.objs.size s3 (upd H2 ac (.lst [])) fp (X.pn ++ pins)) (pinsAt fp s8.heap) s11 σ9 H11 (.ref ac) [yv] (.ref ac) [y] (fun v H' => H' = upd H11 ac (.lst (ys ++ [yv]))) I11 rfl (.cons r11 .nil) ⟨ac, ys, yv, rfl, rfl, hl11, hsz, rfl⟩) fun _ s12 ⟨v12, H12, I12, _, e12⟩ => ?_
        subst e12
        obtain ⟨e1, e2⟩ := fin I12
        exact ⟨m', hm', i + 1, _, _, (I12.weak wk.len wk.get).unpinned, e1, e2, w'⟩
  exact codeAny_compStart_list (loop _ rfl) (T.self _ 0 _ _ _ st4 (loop _ rfl))

theorem comp_list {K : PySem.W.Frag} {a : Addr} {xs : List V} {own : Nat} {caps : List Nat} {g : TG} {tt : TT} {te : TE} {σ : St} {R : Hp → Prop} {l : Addr} {H1 : Hp} (Pv : Nat → List V → Hp → Prop) (h0 : Pv 0 [] (upd H1 l (.lst []))) (hz : xs.length ≤ sizeLine)
    (hl : ∀ i ys H, i ≤ xs.length → Pv i ys H → SqL K H a xs ∧ H l = some (.lst ys) ∧ ys.length ≤ i)
    (hs : ∀ i x ys H, xs[i]? = some x → Pv i ys H → g x (stC own caps σ) H fun σ2 H2 => Wk (stC own caps σ) σ2 ∧
      tt σ2 H2 fun b H3 => if b = true then te σ2 H3 fun y H4 => H4 l = some (.lst ys) ∧ Pv (i + 1) (ys ++ [y]) (upd H4 l (.lst (ys ++ [y]))) else Pv (i + 1) ys H3)
    (hd : ∀ ys H, Pv xs.length ys H → R H) :
    ∃ W : Nat → Nat → List V → Hp → Prop, (∃ m, W 0 m [] (upd H1 l (.lst []))) ∧
      ∀ i m ys H, W i m ys H → H l = some (.lst ys) ∧ (((Itl K a).stop i H ∧ R H) ∨ ((Itl K a).go i H ∧ ys.length < sizeLine ∧ ∃ N : List V → Hp → Prop, (∀ ys' H', N ys' H' → ∃ m', m' < m ∧ W (i + 1) m' ys' H') ∧
        ∀ x H', (Itl K a).yld i H x H' → g x (stC own caps σ) H' fun σ2 H2 => Wk (stC own caps σ) σ2 ∧
        tt σ2 H2 fun b H3 => if b = true then te σ2 H3 fun y H4 => H4 l = some (.lst ys) ∧ N (ys ++ [y]) (upd H4 l (.lst (ys ++ [y]))) else N ys H3)) := by
  refine ⟨fun i m ys H => m = xs.length - i ∧ i ≤ xs.length ∧ Pv i ys H, ⟨xs.length, by simp, Nat.zero_le _, h0⟩, ?_⟩
  rintro i m ys H ⟨rfl, hi, p⟩
  obtain ⟨q, e1, e2⟩ := hl i ys H hi p
  refine ⟨e1, ?_⟩
  by_cases hlt : i < xs.length
  · refine .inr ⟨⟨xs, xs[i], q, by simp [hlt]⟩, by (first | lia | omega), Pv (i + 1), fun ys' H' p' => ⟨xs.length - (i + 1), by (first | lia | omega), rfl, hlt, p'⟩, fun x H' y => ?_⟩
    obtain ⟨e, y⟩ := y
    subst e
    exact hs i x ys _ (y xs q) p
  · have e : i = xs.length := by (first | lia | omega)
    subst e
    exact .inl ⟨⟨xs, q, Nat.le_refl _⟩, hd ys H p⟩
theorem comp_tup {K : PySem.W.Frag} {a : Addr} {xs : List V} {own : Nat} {caps : List Nat} {g : TG} {tt : TT} {te : TE} {σ : St} {R : Hp → Prop} {l : Addr} {H1 : Hp} (Pv : Nat → List V → Hp → Prop) (h0 : Pv 0 [] (upd H1 l (.lst []))) (hz : xs.length ≤ sizeLine)
    (hl : ∀ i ys H, i ≤ xs.length → Pv i ys H → SqT K H a xs ∧ H l = some (.lst ys) ∧ ys.length ≤ i)
    (hs : ∀ i x ys H, xs[i]? = some x → Pv i ys H → g x (stC own caps σ) H fun σ2 H2 => Wk (stC own caps σ) σ2 ∧
      tt σ2 H2 fun b H3 => if b = true then te σ2 H3 fun y H4 => H4 l = some (.lst ys) ∧ Pv (i + 1) (ys ++ [y]) (upd H4 l (.lst (ys ++ [y]))) else Pv (i + 1) ys H3)
    (hd : ∀ ys H, Pv xs.length ys H → R H) :
    ∃ W : Nat → Nat → List V → Hp → Prop, (∃ m, W 0 m [] (upd H1 l (.lst []))) ∧
      ∀ i m ys H, W i m ys H → H l = some (.lst ys) ∧ (((Itt K a).stop i H ∧ R H) ∨ ((Itt K a).go i H ∧ ys.length < sizeLine ∧ ∃ N : List V → Hp → Prop, (∀ ys' H', N ys' H' → ∃ m', m' < m ∧ W (i + 1) m' ys' H') ∧
        ∀ x H', (Itt K a).yld i H x H' → g x (stC own caps σ) H' fun σ2 H2 => Wk (stC own caps σ) σ2 ∧
        tt σ2 H2 fun b H3 => if b = true then te σ2 H3 fun y H4 => H4 l = some (.lst ys) ∧ N (ys ++ [y]) (upd H4 l (.lst (ys ++ [y]))) else N ys H3)) := by
  refine ⟨fun i m ys H => m = xs.length - i ∧ i ≤ xs.length ∧ Pv i ys H, ⟨xs.length, by simp, Nat.zero_le _, h0⟩, ?_⟩
  rintro i m ys H ⟨rfl, hi, p⟩
  obtain ⟨q, e1, e2⟩ := hl i ys H hi p
  refine ⟨e1, ?_⟩
  by_cases hlt : i < xs.length
  · refine .inr ⟨⟨xs, xs[i], q, by simp [hlt]⟩, by (first | lia | omega), Pv (i + 1), fun ys' H' p' => ⟨xs.length - (i + 1), by (first | lia | omega), rfl, hlt, p'⟩, fun x H' y => ?_⟩
    obtain ⟨e, y⟩ := y
    subst e
    exact hs i x ys _ (y xs q) p
  · have e : i = xs.length := by (first | lia | omega)
    subst e
    exact .inl ⟨⟨xs, q, Nat.le_refl _⟩, hd ys H p⟩
end
end L2

namespace L2
open PySem PySem.Spec PyProof.Rows

section
variable {X : Cx}
inductive P_call_isinst (K : PySem.W.Frag) (xs : List V) (H : Hp) (Q : VK) : Prop
  | mk (x : _) (T : _) (t : _) (b : _) (h1 : xs = [x, .ty T]) (h2 : TyOf K H x t) (h3 : PySem.W.kitOne K t (.type T) = some b) (h4 : Q (.bl b) H) : P_call_isinst K xs H Q
theorem call_isinst : CallR X (.builtin "isinstance") (P_call_isinst X.K) := by
  intro pins s σ H xs us Q I r h
  obtain ⟨x, T, t, b, rfl, ty, e, q⟩ := h
  obtain ⟨u, v, rfl, ru, rv⟩ := r.two
  cases rv
  exact isinst_ok I ru ty e fun tk => ⟨.bl b, H, I.tok tk, rfl, q⟩

inductive P_call_allB (K : PySem.W.Frag) (xs : List V) (H : Hp) (Q : VK) : Prop
  | mk (p : Addr) (bs : List Bool) (h1 : xs = [.ref p]) (h2 : SqL K H p (bs.map V.bl)) (h3 : Q (.bl (bs.all id)) H) : P_call_allB K xs H Q
theorem call_allB (hc : X.calm = true) : CallR X (.builtin "all") (P_call_allB X.K) := by
  intro pins s σ H xs us Q I r h
  obtain ⟨p, bs, rfl, hp, q⟩ := h
  obtain ⟨u, rfl, ru⟩ := r.one
  cases ru
  obtain ⟨its, rv, pl, hz⟩ := I.list hp
  have lts : p < s.heap.objs.size := by
    obtain ⟨o, n, e, _⟩ := pl
    exact Heap.lt_size e
  refine call_all_walk (wpAny_pyIter_list pl.isList ?_)
  refine ⟨_, _, _, _, _, _, fun i => bs.getD i true, rfl, Walks.list (A := X.A.in1) (I.ok.hd hc) s.heap.objs.size p (Nat.ne_of_lt lts) its.toArray, ⟨⟨_, Heap.get?_push_size _ rfl, rfl, rfl⟩, ?_⟩, ?_, fun h' tk hk => ?_⟩
  · obtain ⟨o, n, e, c, d, e2⟩ := pl
    exact ⟨o, Heap.get?_push_of_some _ e, c, n, e2⟩
  · intro i v s' Q' E' hP hQ
    have hi : its[i]? = some v := by simpa using hP
    have hl := rv.length
    cases e : bs[i]? with
    | none =>
      have h1 : its.length ≤ i := by
        have := List.getElem?_eq_none_iff.mp e
        rw [← hl, List.length_map]; exact this
      rw [List.getElem?_eq_none_iff.mpr h1] at hi; cases hi
    | some b =>
      have e' : (bs.map V.bl)[i]? = some (.bl b) := by rw [List.getElem?_map, e]; rfl
      obtain ⟨u, hu, ru⟩ := rv.get e'
      rw [hi] at hu; cases hu
      cases ru
      have eg : bs.getD i true = b := by simp [List.getD, e]
      have hQ2 : Q' (bs.getD i true) s' := hQ
      rw [eg] at hQ2
      exact wpAny_truthy_bool hQ2
  · have hl : its.toArray.size = bs.length := by
      have := rv.length
      rw [List.length_map] at this
      simp [this]
    have e : (List.range its.toArray.size).all (fun i => bs.getD i true) = bs.all id := by
      rw [hl]
      clear q hl rv hp hk
      rw [Bool.eq_iff_iff, List.all_eq_true, List.all_eq_true]
      constructor
      · intro h b hb
        obtain ⟨i, hi, rfl⟩ := List.mem_iff_getElem.mp hb
        have := h i (by simpa using hi)
        simpa [List.getD, hi] using this
      · intro h i hi
        have hi' : i < bs.length := by simpa using hi
        have := h bs[i] (List.getElem_mem hi')
        simpa [List.getD, hi'] using this
    refine ⟨.bl (bs.all id), H, ?_, congrArg Value.bool e, q⟩
    · exact I.kept (t' := tk) fun b o e => hk b o (by
        intro z
        have : b = s.heap.objs.size := by simpa using z
        exact absurd (Heap.lt_size e) (by rw [this]; exact Nat.lt_irrefl _)) (Heap.get?_push_of_some _ e)

end
end L2

namespace L2
open PySem PySem.Spec PyProof.Rows

structure Callee (P : Program) (w : World) (K : PySem.W.Frag) (mg : Str → Option Value) (base : Heap) (x : Str) (k : Nat) (ps : List Str) (sp : Sp) : Prop where
  ex : ∃ (f : Addr) (fd : FuncData), FnOk P w K mg base CX0 k f fd ps sp ∧ Binds K fd ps [] ∧ PySem.W.keepIn K (.ref f) = true ∧ mg x = some (.ref f)
theorem pe_callC {X : Cx} {x : Str} {k : Nat} {ps : List Str} {sp : Sp} {e : Expr} {es : List Expr} {t : TA} {p pos : Pos} (C : Callee X.prog X.w X.K X.mg X.base x k ps sp) (hr : Room k X.A) (hg : Gl X x) (ha : PA X (e :: es) t)
    (hdb : (x == ("__debug__" : Str)) = false := by decide) (he : starEach (e :: es) X.env = (false, eval e X.env) :: starEach es X.env := by rfl) (hpl : (backTo pos (starEach es X.env)).any (·.1) = false := by rfl) :
    PE X (.Call (.Name x p) (e :: es) [] pos) (tCall sp [] E0 t) := by
  obtain ⟨f, fd, F, hb, hk, hm⟩ := C.ex
  exact pe_call F hr hg hm hk hb .nil pass0 ha hdb he hpl
structure Here (K : PySem.W.Frag) (mg : Str → Option Value) (x : Str) (st : Stmt) (f : Addr) (fd : FuncData) : Prop where
  fn : Fun K x x st f fd
  at_ : mg x = some (.ref f)
theorem Here.callee {P : Program} {w : World} {K : PySem.W.Frag} {mg : Str → Option Value} {base : Heap} {x : Str} {st : Stmt} {f : Addr} {fd : FuncData} {k : Nat} {ps : List Str} {sp : Sp} (h : Here K mg x st f fd) (F : FnOk P w K mg base CX0 k f fd ps sp)
    (hb : ∀ (kV doc pm : Value) (an : Option Addr) (cdv ct : Value) (us : List Value), us.length = ps.length → bindArgs (PySem.W.fnOf x x (defArgs st) (defBody st) (defScope st) .none kV doc pm an cdv ct) ⟨us, []⟩ = pure (ps.zip us)) : Callee P w K mg base x k ps sp :=
  ⟨f, fd, F, h.fn.binds hb, h.fn.kp, h.at_⟩

theorem boot_intT : bootBuiltins "int" = some (.type "int") := by decide +kernel
theorem boot_listT : bootBuiltins "list" = some (.type "list") := by decide +kernel
theorem boot_tupleT : bootBuiltins "tuple" = some (.type "tuple") := by decide +kernel
theorem boot_isinstance : bootBuiltins "isinstance" = some (.builtin "isinstance") := by decide +kernel
theorem boot_all : bootBuiltins "all" = some (.builtin "all") := by decide +kernel

section
variable {X : Cx} (K : PySem.W.Frag) (hK : X.K = K)
include hK
theorem ix_tupK : IxR X (rIxT K) := by subst hK; exact ix_tup
theorem pg_tupK {es : List Expr} {k : Nat} {t : TGs} {n : Nat} {pos : Pos} (hc : X.calm = true) (h : PGs X es t)
    (hn : (assignEach es X.env).length = n := by rfl) (hst : (assignEach es X.env).findIdx? (·.1) = none := by rfl) : PG X (.Tuple es k pos) (gTup K n t) := by subst hK; exact pg_tup hc h hn hst
end

theorem same_new {H : Hp} {p : Addr} (h : H p = none) (o : HO) : Same H (upd H p o) := fun b u q => by rw [upd_ne (ne_of_none q h)]; exact q
def Kp (m : Addr) (H H' : Hp) : Prop := ∀ b o, H b = some o → b ≠ m → H' b = some o
theorem Kp.refl (m : Addr) (H : Hp) : Kp m H H := fun _ _ h _ => h
theorem Kp.trans {m : Addr} {H H1 H2 : Hp} (a : Kp m H H1) (b : Kp m H1 H2) : Kp m H H2 := fun c o h n => b c o (a c o h n) n
theorem Kp.same {m : Addr} {H H' : Hp} (h : Same H H') : Kp m H H' := fun b o e _ => h b o e
theorem Kp.upd {m : Addr} {H : Hp} {o : HO} : Kp m H (upd H m o) := fun b u e n => by rw [upd_ne n]; exact e
theorem Kp.tup {m : Addr} {H H' : Hp} {xs ys : List V} (k : Kp m H H') (hm : H m = some (.lst xs)) {b : Addr} (h : H b = some (.tup ys)) : H' b = some (.tup ys) :=
  k b _ h (ne_of h hm (by intro z; cases z))
def Pen (H : Hp) (p : Addr) : Prop := ∃ a b c : Int, H p = some (.lst [.int a, .int b, .int c])
def Refs (H : Hp) : List V → List (Int × Int) → Prop := Paired fun r w => ∃ t, r = .ref t ∧ H t = some (.tup [.int w.1, .int w.2])
theorem Refs.mono {H H' : Hp} (k : ∀ b xs, H b = some (.tup xs) → H' b = some (.tup xs)) : ∀ {rs : List V} {ws : List (Int × Int)}, Refs H rs ws → Refs H' rs ws
  | _, _, .nil => .nil
  | _, _, .cons ⟨t, e, h⟩ r => .cons ⟨t, e, k t _ h⟩ (Refs.mono k r)
theorem Refs.same {H H' : Hp} (k : Same H H') {rs : List V} {ws : List (Int × Int)} (h : Refs H rs ws) : Refs H' rs ws := h.mono fun b xs e => k b _ e
theorem Refs.kp {m : Addr} {H H' : Hp} {xs : List V} (k : Kp m H H') (hm : H m = some (.lst xs)) {rs : List V} {ws : List (Int × Int)} (h : Refs H rs ws) : Refs H' rs ws := h.mono fun b xs e => k.tup hm e
theorem Refs.len {H : Hp} {rs : List V} {ws : List (Int × Int)} (h : Refs H rs ws) : rs.length = ws.length := Paired.length h
theorem Refs.app {H : Hp} : ∀ {rs qs : List V} {ws us : List (Int × Int)}, Refs H rs ws → Refs H qs us → Refs H (rs ++ qs) (ws ++ us)
  | _, _, _, _, .nil, s => s
  | _, _, _, _, .cons r t, s => .cons r (Refs.app t s)
theorem Refs.get {H : Hp} : ∀ {rs : List V} {ws : List (Int × Int)} {i : Nat} {r : V}, Refs H rs ws → rs[i]? = some r → ∃ w t, ws[i]? = some w ∧ r = .ref t ∧ H t = some (.tup [.int w.1, .int w.2])
  | _, _, _, _, .nil, e => by simp at e
  | _, _, 0, _, .cons ⟨t, e1, h⟩ _, e => by simp at e; subst e; exact ⟨_, t, rfl, e1, h⟩
  | _, _, i + 1, r, .cons _ q, e => by
    obtain ⟨w, t, a, b⟩ := Refs.get (i := i) (r := r) q (by simpa using e)
    exact ⟨w, t, by simpa using a, b⟩
def WsL (H : Hp) (l : Addr) (ws : List (Int × Int)) : Prop := ∃ rs, H l = some (.lst rs) ∧ Refs H rs ws
theorem WsL.same {H H' : Hp} (k : Same H H') {l : Addr} {ws : List (Int × Int)} (h : WsL H l ws) : WsL H' l ws := let ⟨rs, a, b⟩ := h; ⟨rs, k l _ a, b.same k⟩
def WOk (wide : Int) (ws : List (Int × Int)) : Prop := ∀ w ∈ ws, 0 ≤ w.1 ∧ w.1 < wide ∧ 0 ≤ w.2 ∧ w.2 < wide ∧ w.1 ≠ w.2
theorem WOk.nil {wide : Int} : WOk wide [] := fun _ h => nomatch h
theorem WOk.app {wide : Int} {a b : List (Int × Int)} (x : WOk wide a) (y : WOk wide b) : WOk wide (a ++ b) := fun w h => (List.mem_append.mp h).elim (x w) (y w)
theorem WOk.one {wide a b : Int} (h : 0 ≤ a ∧ a < wide ∧ 0 ≤ b ∧ b < wide ∧ a ≠ b) : WOk wide [(a, b)] := fun w hw => by
  have : w = (a, b) := by simpa using hw
  subst this
  exact h
def Net (H : Hp) (v : V) (wide : Int) (ws : List (Int × Int)) : Prop := ∃ n t rs, v = .ref n ∧ H n = some (.tup [.int wide, .ref t]) ∧ H t = some (.tup rs) ∧ Refs H rs ws
theorem Net.mono {H H' : Hp} (k : ∀ b xs, H b = some (.tup xs) → H' b = some (.tup xs)) {v : V} {wide : Int} {ws : List (Int × Int)} (h : Net H v wide ws) : Net H' v wide ws :=
  let ⟨n, t, rs, a, b, c, d⟩ := h
  ⟨n, t, rs, a, k _ _ b, k _ _ c, d.mono k⟩
theorem lenLine {n : Nat} (h : n ≤ 100000) : n ≤ sizeLine := Nat.le_trans h (by rw [sizeLine_eq]; decide)
theorem lenLt {n : Nat} (h : n < 100000) : n < sizeLine := Nat.lt_of_lt_of_le h (by rw [sizeLine_eq]; decide)
end L2

namespace Ep
open PySem L2
structure Bn (mg : Str → Option Value) : Prop where
  n_len : mg "len" = none
  n_max : mg "max" = none
  n_min : mg "min" = none
  n_int : mg "int" = none
  n_bool : mg "bool" = none
  n_list : mg "list" = none
  n_tuple : mg "tuple" = none
  n_str : mg "str" = none
  n_dict : mg "dict" = none
  n_range : mg "range" = none
  n_isinstance : mg "isinstance" = none
  n_all : mg "all" = none
  n_any : mg "any" = none
  n_enumerate : mg "enumerate" = none
  n_sum : mg "sum" = none
  n_abs : mg "abs" = none
  n_sorted : mg "sorted" = none
  n_reversed : mg "reversed" = none
  n_zip : mg "zip" = none
  n_ord : mg "ord" = none
  n_repr : mg "repr" = none
  n_set : mg "set" = none
  n_divmod : mg "divmod" = none
  n_ValueError : mg "ValueError" = none
  n_KeyError : mg "KeyError" = none
def CDivB (i j : Int) : Prop := 0 < j ∧ j < 2 ^ 250
theorem op_fdivB {X : Cx} : OpR X (binaryOp .FloorDiv) (rI CDivB fun i j => .int (i / j)) := opI fun i j _ _ _ _ _ hc q => by
  have h1 : (0 : Int) < j := hc.1
  have h2 : j.natAbs < 2 ^ 250 := by have := hc.2; (first | lia | omega)
  refine PyProof.Rows.floordiv_int (by (first | lia | omega)) (by rw [Int.fdiv_eq_ediv_of_nonneg i (by (first | lia | omega))]; exact q) (.inl (PyProof.noPylong_of_log2 ?_))
  have h3 : j.natAbs.log2 < 250 := (Nat.log2_lt (by (first | lia | omega))).mpr h2
  (first | lia | omega)
theorem _root_.L2.Kp.put {m l : Addr} {H H1 : Hp} {o : HO} (hl : H l = none) (k : Kp m H H1) : Kp m H (upd H1 l o) := fun b u e n => by rw [upd_ne (ne_of_none e hl)]; exact k b u e n
theorem _root_.L2.Same.put {l : Addr} {H H1 : Hp} {o : HO} (hl : H l = none) (k : Same H H1) : Same H (upd H1 l o) := fun b u e => by rw [upd_ne (ne_of_none e hl)]; exact k b u e
theorem atI_int {ns : List Int} {i : Int} (h0 : 0 ≤ i) (h1 : i < ns.length) : atI (ns.map V.int) i = some (.int (ns.getD i.toNat 0)) := by
  obtain ⟨j, rfl⟩ : ∃ j : Nat, i = (j : Int) := ⟨i.toNat, by (first | lia | omega)⟩
  have h2 : j < ns.length := by (first | lia | omega)
  refine atI_nat ?_
  rw [List.getElem?_map, Int.toNat_natCast]
  simp [List.getD, h2]
theorem iteFd {c A B : Prop} [Decidable c] (h : ¬ c) (b : B) : if c then A else B := by rw [if_neg h]; exact b
theorem iteTd {c A B : Prop} [Decidable c] (h : c) (a : A) : if c then A else B := by rw [if_pos h]; exact a
theorem fresh_step {p u : Addr} {H : Hp} {xs : List V} (hp : H p = some (.lst xs)) (fu : H u = none) (o : HO) : Kp p H (upd H u o) ∧ (upd H u o) p = some (.lst xs) ∧ (upd H u o) u = some o ∧ u ≠ p :=
  ⟨Kp.same (same_new fu o), (same_new fu o) _ _ hp, upd_same, Ne.symm (ne_of_none hp fu)⟩
inductive SpPenP (K : PySem.W.Frag) (vs : List V) (H : Hp) (Q : VK) : Prop
  | mk (a : Addr) (ns : List Int) (k : Int) (h1 : vs = [.ref a, .int k]) (h2 : SqL K H a (ns.map V.int)) (h3 : ns.length ≤ 63) (h4 : 0 ≤ k) (h5 : k < 100) (h6 : ∀ (p : Addr) (a' b' c' : Int), H p = none → Q (.ref p) (upd H p (.lst [.int a', .int b', .int c']))) : SpPenP K vs H Q
def spPen (K : PySem.W.Frag) : Sp := fun vs H Q _ => SpPenP K vs H Q
inductive SpTakeP (vs : List V) (H : Hp) (Q : VK) : Prop
  | mk (p : Addr) (a b c n : Int) (h1 : vs = [.ref p, .int n]) (h2 : H p = some (.lst [.int a, .int b, .int c])) (h3 : 0 < n) (h4 : n < 2 ^ 250) (h5 : ∀ (v a' b' c' : Int), 0 ≤ v → v < n → Q (.int v) (upd H p (.lst [.int a', .int b', .int c']))) : SpTakeP vs H Q
def spTake : Sp := fun vs H Q _ => SpTakeP  vs H Q
inductive SpWicketsP (vs : List V) (H : Hp) (Q : VK) : Prop
  | mk (p : Addr) (wide many : Int) (h1 : vs = [.ref p, .int wide, .int many]) (h2 : Pen H p) (h3 : 1 ≤ wide) (h4 : wide ≤ 8) (h5 : 0 ≤ many) (h6 : many ≤ 41) (h7 : ∀ (l : Addr) (ws : List (Int × Int)) (H' : Hp), H l = none → Kp p H H' → Pen H' p → WsL H' l ws → WOk wide ws → (ws.length : Int) ≤ many → Q (.ref l) H') : SpWicketsP vs H Q
def spWickets : Sp := fun vs H Q _ => SpWicketsP  vs H Q
theorem ne1 {H : Hp} {a b : Addr} {o : HO} (n : H b = none) (h : H a = some o) : a ≠ b := ne_of_none h n
theorem ne2 {H : Hp} {a b : Addr} {o : HO} (n : H a = none) (h : H b = some o) : a ≠ b := Ne.symm (ne_of_none h n)
theorem ne3 {H : Hp} {a b : Addr} {xs ys : List V} (h1 : H a = some (.tup xs)) (h2 : H b = some (.lst ys)) : a ≠ b := ne_of h1 h2 (by intro z; cases z)
theorem ne4 {H : Hp} {a b : Addr} {xs ys : List V} (h1 : H a = some (.lst xs)) (h2 : H b = some (.tup ys)) : a ≠ b := ne_of h1 h2 (by intro z; cases z)
theorem free2 {H H' : Hp} {l : Addr} (n : H' l = none) (s : Same H H') : H l = none := s.free n
theorem trans2 {H H1 H2 : Hp} (b : Same H1 H2) (a : Same H H1) : Same H H2 := Same.trans a b
def KT (H H' : Hp) : Prop := ∀ b xs, H b = some (.tup xs) → H' b = some (.tup xs)
theorem KT.refl (H : Hp) : KT H H := fun _ _ h => h
theorem KT.same {G H H' : Hp} (s : Same H H') (k : KT G H) : KT G H' := fun b xs h => s b _ (k b xs h)
theorem KT.lst {G H : Hp} {l : Addr} {o : HO} {ys : List V} (n : H l = some (.lst ys)) (k : KT G H) : KT G (upd H l o) := fun b xs h => by rw [upd_ne (ne3 (k b xs h) n)]; exact k b xs h
theorem _root_.L2.Net.kt {H H' : Hp} {v : V} {wide : Int} {ws : List (Int × Int)} (n : Net H v wide ws) (k : KT H H') : Net H' v wide ws := n.mono k
theorem _root_.L2.Refs.kt {H H' : Hp} {rs : List V} {ws : List (Int × Int)} (n : Refs H rs ws) (k : KT H H') : Refs H' rs ws := n.mono k
end Ep

namespace Ep
open PySem L2
def maxI (a b : Int) : Int := if b ≤ a then a else b
def layT (st : List Int × List Int) (w : Int × Int) : List Int × List Int :=
  let layer := 1 + maxI (st.1.getD w.1.toNat 0) (st.1.getD w.2.toNat 0)
  ((st.1.set w.1.toNat layer).set w.2.toNat layer, st.2 ++ [layer])
def layS (wide : Int) (ws : List (Int × Int)) : List Int × List Int := ws.foldl layT (List.replicate wide.toNat 0, [])
theorem ixN_of {n : Nat} {i : Int} (h0 : 0 ≤ i) (h1 : i < n) : ixN n i = some i.toNat := by
  unfold ixN
  rw [if_pos h0, if_pos h1]
def wAt (ws : List (Int × Int)) (j : Nat) : Int × Int := ws.getD j (0, 0)
inductive SpLawP (K : PySem.W.Frag) (vs : List V) (H : Hp) (Q : VK) : Prop
  | mk (a : Addr) (ns : List Int) (h1 : vs = [.ref a]) (h2 : SqL K H a (ns.map V.int)) (h3 : ns.length ≤ 63) (h4 : ∀ H', Q (.bl true) H') : SpLawP K vs H Q
def spLaw (K : PySem.W.Frag) : Sp := fun vs H Q _ => SpLawP K vs H Q
end Ep

namespace L2
open PySem PySem.Spec PyProof.Rows
section
variable {P : Program} {w : World} {A : Around} {s : Shared}
end
section
variable {X : Cx} {elts : List Expr} {kk : Nat} {ps : Pos}
end
end L2

namespace L2
open PySem PySem.Spec PyProof.Rows HT
section
variable {prog : Program} {w : World} {A : Around} {E : Value → Shared → Prop} {s : Shared}
end
section
variable {X : Cx}
def whole (n : Nat) (lo hi : Option Int) : Prop := sIx n 0 lo = 0 ∧ sIx n n hi = n
theorem cut_first {xs : List V} {n : Nat} (h : n ≤ xs.length) : cutV xs none (some (n : Int)) = xs.take n := by
  unfold cutV
  rw [sIx_nat, sIx_none]
  simp [Nat.min_eq_left h]
end
end L2

namespace Ep
open PySem L2
def both (cs : List Int) (w : Int × Int) : Int := cs.getD w.1.toNat 0 + cs.getD w.2.toNat 0
def letM (cs : List Int) (w : Int × Int) : List Int := (cs.set w.1.toNat ((both cs w + 1) / 2)).set w.2.toNat (both cs w / 2)
theorem take_snoc {α : Type} {ws : List α} {i : Nat} {w : α} (h : ws[i]? = some w) : ws.take (i + 1) = ws.take i ++ [w] := by rw [List.take_add_one, h]; rfl
end Ep

namespace L2
open PySem PySem.Spec PyProof.Rows
section
variable {X : Cx} {elts : List Expr} {kk : Nat} {ps : Pos}
end
end L2

namespace L2
open PySem PySem.Spec PyProof.Rows
section
variable {X : Cx}
end
end L2

namespace Ep
open PySem L2
abbrev LaneOk (wide : Int) (w : Int × Int) : Prop := 0 ≤ w.1 ∧ w.1 < wide ∧ 0 ≤ w.2 ∧ w.2 < wide ∧ w.1 ≠ w.2
end Ep
namespace Ep
open PySem L2
def mxL (L : List Int) : Int := L.foldl maxI 0
def depM (wide : Int) (ws : List (Int × Int)) : Nat := (mxL (layS wide ws).2).toNat
abbrev whole (wide : Int) (ws : List (Int × Int)) : Int := ((2 ^ depM wide ws : Nat) : Int)
def Rows (H : Hp) : List V → List (List Int) → Prop := Paired fun r w => ∃ t, r = .ref t ∧ H t = some (.lst (w.map V.int))
end Ep
namespace Ep
open PySem L2
end Ep

namespace Ep
open PySem L2
theorem cut_from {xs : List V} {n : Nat} (h : n ≤ xs.length) : cutV xs (some (n : Int)) none = xs.drop n := by
  unfold cutV
  rw [HT.sIx_nat, HT.sIx_none, Nat.min_eq_left h, List.take_of_length_le (by rw [List.length_drop]; (first | lia | omega))]
end Ep
namespace Ep
open PySem L2
end Ep

namespace L2
open PySem PySem.Spec PyProof.Rows PyProof.V PySem.SeqAt
mutual
inductive Dat (H : Hp) : V → PyData → Prop
  | non : Dat H .non .none
  | bl (b : Bool) : Dat H (.bl b) (.bool b)
  | int (i : Int) : Dat H (.int i) (.int i)
  | str (x : Str) : Dat H (.str x) (.str x)
  | lst {a : Addr} {xs : List V} {ds : List PyData} : H a = some (.lst xs) → Dats H xs ds → Dat H (.ref a) (.list ds)
  | tup {a : Addr} {xs : List V} {ds : List PyData} : H a = some (.tup xs) → Dats H xs ds → Dat H (.ref a) (.tuple ds)
inductive Dats (H : Hp) : List V → List PyData → Prop
  | nil : Dats H [] []
  | cons {v : V} {vs : List V} {d : PyData} {ds : List PyData} : Dat H v d → Dats H vs ds → Dats H (v :: vs) (d :: ds)
end
theorem Dat.reads {X : Cx} {pins : List (Addr × Obj)} {σ : St} {H : Hp} {s : Shared} (I : Inv X pins σ H s) {v : V} {d : PyData} (h : Dat H v d) : ∀ u, RelV v u → ∃ as, Reads s.heap u d as := by
  refine Dat.rec (H := H) (motive_1 := fun v d _ => ∀ u, RelV v u → ∃ as, Reads s.heap u d as) (motive_2 := fun vs ds _ => ∀ us, Vals vs us → ∃ as, ReadsAll s.heap us ds as) ?_ ?_ ?_ ?_ ?_ ?_ ?_ ?_ h
  · intro u r; cases r; exact ⟨_, .none⟩
  · intro b u r; cases r; exact ⟨_, .bool b⟩
  · intro i u r; obtain ⟨t, rfl⟩ := r; exact ⟨_, .int i t⟩
  · intro x u r; obtain ⟨t, rfl⟩ := r; exact ⟨_, .str x t⟩
  · intro a xs ds e _ ih u r
    cases r
    obtain ⟨its, rv, pl, _⟩ := I.list (SqL.of (K := X.K) e)
    obtain ⟨as, ra⟩ := ih its rv
    obtain ⟨o, ho, hc, n, hd⟩ := pl.isList
    exact ⟨_, .list ho hc hd (by simpa using ra)⟩
  · intro a xs ds e _ ih u r
    cases r
    obtain ⟨its, rv, pl, _⟩ := I.tuple (SqT.of (K := X.K) e)
    obtain ⟨as, ra⟩ := ih its rv
    obtain ⟨o, ho, hc, n, hd⟩ := (show s.heap.IsTuple a its.toArray from pl)
    exact ⟨_, .tuple ho hc hd (by simpa using ra)⟩
  · intro us r; cases r; exact ⟨_, .nil⟩
  · intro v vs d ds _ _ ih1 ih2 us r
    cases r with
    | cons r1 r2 =>
      obtain ⟨as, ra⟩ := ih1 _ r1
      obtain ⟨bs, rb⟩ := ih2 _ r2
      exact ⟨_, .cons ra rb⟩
section
variable {X : Cx}
def rEqD (neg : Bool) : R2 := fun x y H Q => ∃ dx dy, Dat H x dx ∧ Dat H y dy ∧ shaped dx = true ∧ shaped dy = true ∧ noMix dx dy = true ∧ Q (.bl (if neg then !same dx dy else same dx dy)) H
theorem op_eqD (hu : X.A.units + 64 < cLine) : OpR X (compareOp .Eq) (rEqD false) := by
  intro pins s σ H x y v u Q I rx ry h
  obtain ⟨dx, dy, d1, d2, s1, s2, nm, q⟩ := h
  obtain ⟨as, r1⟩ := d1.reads I v rx
  obtain ⟨bs, r2⟩ := d2.reads I u ry
  exact eq_dataH_same r1 r2 s1 s2 hu nm ⟨.bl _, H, I, rfl, q⟩
theorem op_neD (hu : X.A.units + 64 < cLine) : OpR X (compareOp .NotEq) (rEqD true) := by
  intro pins s σ H x y v u Q I rx ry h
  obtain ⟨dx, dy, d1, d2, s1, s2, nm, q⟩ := h
  obtain ⟨as, r1⟩ := d1.reads I v rx
  obtain ⟨bs, r2⟩ := d2.reads I u ry
  exact ne_dataH_same r1 r2 s1 s2 hu nm ⟨.bl _, H, I, rfl, q⟩
end
end L2

namespace Ep
open PySem L2 PySem.SeqAt
end Ep

namespace L2
open PySem PySem.Spec PyProof.Rows PyProof.V PySem.SeqAt
section
variable {X : Cx} {a : Expr} {ta : TE} {pos : Pos}
end
end L2

namespace L2
open PySem PySem.Spec PyProof.Rows
section
variable {X : Cx} {C : Addr} {x m : Str} {k : Nat} {ps : List Str} {sp : Sp} {o e : Expr} {es : List Expr} {ta : TE} {t : TA} {p pos apos : Pos}
end
end L2
namespace Ep
open PySem L2 PySem.SeqAt
inductive Place where
  | before (k : Nat) (l : Int)
  | exit (l : Int)
  | out (l n : Int)
def hasL (w : Int × Int) (l : Int) : Bool := decide (l = w.1) || decide (l = w.2)
structure PlS where
  fac : List Int
  tal : List Int
  pla : List Place
  chg : List Int
structure PlL where
  dx : Addr
  lf : Addr
  lt : Addr
  lp : Addr
  lc : Addr
end Ep
namespace L2
open PySem PySem.Spec PyProof.Rows
end L2
namespace Ep
open PySem L2 PySem.SeqAt
end Ep
namespace Ep
open PySem L2 PySem.SeqAt
end Ep
namespace Ep
open PySem L2
end Ep
namespace Ep
open PySem L2 PySem.SeqAt
theorem dats_refs {H : Hp} : ∀ {rs : List V} {ws : List (Int × Int)}, Refs H rs ws → Dats H rs (ws.map fun x => PyData.tuple [.int x.1, .int x.2])
  | _, _, .nil => .nil
  | _, _, .cons ⟨t, e, h⟩ r => by
    subst e
    exact .cons (.tup h (.cons (.int _) (.cons (.int _) .nil))) (dats_refs r)
theorem lay_pairs : ∀ ws : List (Int × Int), PyData.canLayAll0 (ws.map fun x => PyData.tuple [.int x.1, .int x.2]) = true ∧ PyData.depthAll (ws.map fun x => PyData.tuple [.int x.1, .int x.2]) ≤ 5
  | [] => by simp [PyData.canLayAll0, PyData.depthAll]
  | w :: r => by
    obtain ⟨a, b⟩ := lay_pairs r
    constructor
    · simp [PyData.canLayAll0, PyData.canLay0, a]
    · simp only [List.map_cons, PyData.depthAll, PyData.depth]
      (first | lia | omega)
theorem shaped_net (wide : Int) (ws : List (Int × Int)) : shaped (.tuple [.int wide, .tuple (ws.map fun x => .tuple [.int x.1, .int x.2])]) = true := by
  obtain ⟨a, b⟩ := lay_pairs ws
  show (PyData.canLay0 _ && decide (PyData.depth _ ≤ 64)) = true
  rw [Bool.and_eq_true]
  constructor
  · simp only [PyData.canLay0, PyData.canLayAll0, a, Bool.and_true]
  · refine decide_eq_true ?_
    simp only [PyData.depth, PyData.depthAll]
    (first | lia | omega)
end Ep

namespace Ep
open PySem L2 PySem.SeqAt
structure Sts where
  sa : Addr
  a0 : Addr
  a1 : Addr
  a2 : Addr
def Sts.own (A : Sts) : List Addr := [A.sa, A.a0, A.a1, A.a2]
def z1 (w : Int × Int) (f : Int) : Int := if f = w.1 then 0 else 1
end Ep
namespace Ep
open PySem L2 PySem.SeqAt
end Ep
namespace L2
open PySem
section
variable {X : Cx} (K : PySem.W.Frag) (hK : X.K = K) {tg : Expr}
include hK
end
end L2

namespace Ep
open PySem L2 PySem.SeqAt
def Vf (ws : List (Int × Int)) (e : Int → Int) (P : Nat → Int) : Nat → Int → Int
  | 0, x => e x
  | k + 1, x => if x = (wAt ws k).1 then (P k + 1) / 2 else if x = (wAt ws k).2 then P k / 2 else Vf ws e P k x
def sumC (p : Place → Bool) : List Int → List Place → Int
  | c :: cs, pl :: ps => (if p pl then c else 0) + sumC p cs ps
  | _, _ => 0
def isB (k : Nat) : Place → Bool
  | .before j _ => decide (j = k)
  | _ => false
def isX (l : Int) : Place → Bool
  | .exit x => decide (x = l)
  | _ => false
structure Flow (wide : Int) (ws : List (Int × Int)) (st : PlS) (e : Int → Int) (P : Nat → Int) : Prop where
  fa : ∀ k w, ws[k]? = some w → st.fac.getD k 0 = if P k % 2 = 0 then w.1 else w.2
  pa : ∀ k, k < ws.length → P k = Vf ws e P k (wAt ws k).1 + Vf ws e P k (wAt ws k).2 - sumC (isB k) st.chg st.pla
  ta : ∀ l, 0 ≤ l → l < wide → st.tal.getD l.toNat 0 = Vf ws e P ws.length l - sumC (isX l) st.chg st.pla
def clear (ws : List (Int × Int)) (l : Int) (s k : Nat) : Prop := ∀ j, s ≤ j → j < k → hasL (wAt ws j) l = false
-- one more on lane l from level s on, and its place
end Ep
namespace L2
open PySem PySem.Spec PyProof.Rows
end L2
namespace Ep
open PySem L2 PySem.SeqAt
end Ep
namespace Ep
open PySem L2 PySem.SeqAt
section
variable {C : Addr} {H H' : Hp} {p : Addr} {v : V} {wide : Int} {ws : List (Int × Int)} {L : PlL} {A : Sts} {st : PlS} {en : Addr} {cs : List Int}
end
end Ep

namespace L2
open PySem PySem.Spec PyProof.Rows
section
variable {prog : Program} {w : World} {A : Around} {s : Shared}
end
section
variable {X : Cx}
end
end L2

namespace L2
open PySem PySem.Spec PyProof.Rows
variable {X : Cx}
end L2
namespace Ep
open PySem L2 PySem.SeqAt
end Ep
namespace L2
open PySem
end L2

namespace L2
open PySem PySem.Spec PyProof.Rows
variable {X : Cx}
end L2
namespace Ep
open PySem L2 PySem.SeqAt
def netD (wide : Int) (ws : List (Int × Int)) : PyData := .tuple [.int wide, .tuple (ws.map fun x => .tuple [.int x.1, .int x.2])]
theorem _root_.L2.Net.dat {H : Hp} {v : V} {wide : Int} {ws : List (Int × Int)} (h : Net H v wide ws) : Dat H v (netD wide ws) := by
  obtain ⟨n, t, rs, rfl, hn, ht, hrs⟩ := h
  exact .tup hn (.cons (.int _) (.cons (.tup ht (dats_refs hrs)) .nil))
end Ep

namespace L2
open PySem PySem.Spec PyProof.Rows
end L2
namespace Ep
open PySem L2 PySem.SeqAt
end Ep

namespace Ep
open PySem L2 PySem.SeqAt
def meets (w o : Int × Int) : Bool := (o.1 == w.1 || o.1 == w.2) || (o.2 == w.1 || o.2 == w.2)
def lastW (p : Int × Int → Bool) (l : List (Int × Int)) : Option (Int × Int) := l.foldl (fun acc o => if p o then some o else acc) none
def idle (k : List (Int × Int)) (w : Int × Int) : Prop := lastW (meets w) k = some w
instance (k : List (Int × Int)) (w : Int × Int) : Decidable (idle k w) := by unfold idle; infer_instance
end Ep
namespace Ep
open PySem L2 PySem.SeqAt
def pairD (w : Int × Int) : PyData := .tuple [.int w.1, .int w.2]
theorem mix_pair (a w : Int × Int) : noMix (pairD a) (pairD w) = true := by simp [pairD, noMix, noMixAll]
end Ep

namespace Ep
open PySem L2 PySem.SeqAt
end Ep
namespace Ep
open PySem L2 PySem.SeqAt
end Ep

namespace Ep
open PySem L2
end Ep
namespace Ep
open PySem L2
end Ep

namespace Ep
open PySem L2 PySem.SeqAt
end Ep
namespace Ep
open PySem L2
end Ep
namespace Ep
open PySem L2 PySem.SeqAt
end Ep

namespace Ep
open PySem L2 PySem.SeqAt
end Ep

namespace L2
open PySem PySem.Spec PyProof.Rows
section
variable {P : Program} {w : World} {A : Around} {E : Value → Shared → Prop} {s : Shared}
end
section
variable {X : Cx} {elts : List Expr} {kk : Nat} {ps : Pos}
end
end L2

namespace L2
open PySem PySem.Spec PyProof.Rows
theorem ObjOk.ex {P : Program} {w : World} {H : Hp} {h : Heap} {a : Addr} {o : HO} (x : ObjOk P w H h a o) : ∃ ob, h.get? a = some ob := by
  cases o with
  | lst xs => exact let ⟨_, _, _, _, e⟩ := x; ⟨_, e⟩
  | tup xs => exact let ⟨_, _, _, ob, e, _⟩ := x; ⟨ob, e⟩
  | dK kvs => exact let ⟨_, _, _, _, ob, _, _, e, _⟩ := x; ⟨ob, e⟩
  | dT kvs => exact let ⟨_, _, _, _, ob, _, _, e, _⟩ := x; ⟨ob, e⟩
  | set S n => exact let ⟨ob, _, _, _, e, _⟩ := x; ⟨ob, e⟩
  | ins C dx fs => exact let ⟨_, _, _, e, _⟩ := x; ⟨_, e⟩
  | own y => exact x
  | xd fs => exact let ⟨_, ⟨ob, _, _, e, _⟩, _⟩ := x; ⟨ob, e⟩
  | rng lo hi => exact let ⟨_, _, _, e⟩ := x; ⟨_, e⟩
  | frz ob u => exact ⟨ob, x.1⟩
  | tbl q => exact match (show h.get? a = some { cls := .none, data := .fields #[] } ∨ ∃ c, h.get? a = some { cls := .none, data := .fields #[rawInt q.2.1, rawInt q.2.2, .ref c] } ∧ H c = some (.own a) ∧ h.CodeRec (.ref c) q.1 from x) with | .inl e => ⟨_, e⟩ | .inr ⟨_, e, _⟩ => ⟨_, e⟩
  | met f y => exact ⟨_, x⟩
  | ext φ => exact x.2.1
def CX1 (P : Program) (w : World) : CXT := fun outer H s E e s' => ∃ (ea : Addr) (cls a0 : Value) (B : Heap) (H' : Hp), e = .ref ea ∧ s'.os = s.os ∧ AllBare s'.gens ∧ Un (frs outer) [] H H' s.heap s'.heap ∧ HOk P w H' s'.heap ∧
  Heap.FlyingW B outer ea cls a0 s'.heap ∧ H' ea = none ∧ (∀ b o, s'.heap.get? b = some o → b ∉ frs outer → ((∃ u, s.heap.get? b = some u) ∨ ∃ u, H' b = some u) → B.get? b = some o) ∧ E cls none H'
theorem Un.left {L : Addr} {fs : List Addr} {H₀ H' : Hp} {g h h2 : Heap} (tr : Un (L :: fs) [] H₀ H' g h) (hL : ∀ b o, g.get? b = some o → b ≠ L) (hf : ∀ b ∈ fs, H₀ b = none)
    (k2 : ∀ b o, h.get? b = some o → b ∉ L :: fs → (∃ u, g.get? b = some u) → h2.get? b = some o) (up : ∀ b o, b ∈ fs → h.get? b = some o → ∃ sl, h2.get? b = some { o with slots := sl }) : Un fs [] H₀ H' g h2 := by
  have nm : ∀ {b o}, g.get? b = some o → b ∉ fs → b ∉ L :: fs := fun q n z => by
    rcases List.mem_cons.mp z with z | z
    · exact hL _ _ q z
    · exact n z
  refine ⟨fun b o q n hb hx => k2 b o (tr.keep b o q n (nm q hb) hx) (nm q hb) ⟨o, q⟩, fun b o q n hb hx => ?_, tr.free, fun b o q hx => ?_, tr.tups, tr.frzs, fun b ps q => ⟨(tr.tbls b ps q).1, fun c o ec x => let z := (tr.tbls b ps q).2 c o ec x; ⟨z.1, k2 c o z.2 (nm x fun m => by rw [hf c m] at ec; cases ec) ⟨o, x⟩⟩⟩⟩
  · obtain ⟨sl, e⟩ := tr.slot b o q n (List.mem_cons_of_mem _ hb) hx
    obtain ⟨sl', e'⟩ := up b _ hb e
    exact ⟨sl', e'⟩
  · obtain ⟨o', e⟩ := tr.there b o q hx
    by_cases hb : b ∈ fs
    · obtain ⟨sl, e'⟩ := up b o' hb e
      exact ⟨_, e'⟩
    · exact ⟨o', k2 b o' e (nm q hb) ⟨o, q⟩⟩
section
variable {P : Program} {w : World} {K : PySem.W.Frag} {mg : Str → Option Value} {base : Heap} {N : List Str} {qual : Str} {scope : Scope} {f : Addr} {cd : Value} {A : Around} {outer : List Env} {s₀ : Shared} {H₀ : Hp} {E : XK}
  {pins : List (Addr × Obj)} {σ : St} {H : Hp} {s : Shared}
abbrev XC (P : Program) (w : World) (K : PySem.W.Frag) (mg : Str → Option Value) (base : Heap) (N : List Str) (qual : Str) (scope : Scope) (f : Addr) (cd : Value) (A : Around) (outer : List Env) (s₀ : Shared) (H₀ : Hp) (E : XK) : Cx :=
  cxOf (CX1 P w) P w K mg base N qual scope f cd A outer s₀ H₀ E
theorem frame_mem {l : List Env} {env : Env} (he : env ∈ l) {b : Addr} (hb : env.frame = some b) : b ∈ frs l := List.mem_filterMap.mpr ⟨env, he, hb⟩
theorem Inv.notL (I : Inv (XC P w K mg base N qual scope f cd A outer s₀ H₀ E) pins σ H s) : ∀ b o, s₀.heap.get? b = some o → b ≠ s₀.heap.objs.size := fun b o q z => by
  have := Heap.lt_size q
  rw [z] at this
  exact Nat.lt_irrefl _ this
theorem xe_raise (I : Inv (XC P w K mg base N qual scope f cd A outer s₀ H₀ E) pins σ H s) {h' : Heap} {ea : Addr} {cls : Value} {vs : List Value} (hx : Heap.MadeExcOf s.heap h' ea cls vs) (hE : E cls none H) :
    (XC P w K mg base N qual scope f cd A outer s₀ H₀ E).xe (.ref ea) { s with heap := h' } := by
  have hst := I.stack
  have hfr := I.ok.frames
  have mem : ∀ {b : Addr}, b ∈ frs (envOfC qual scope s₀.heap.objs.size f cd :: outer) ↔ b = s₀.heap.objs.size ∨ b ∈ frs outer := fun {b} => by
    show b ∈ s₀.heap.objs.size :: frs outer ↔ _
    exact List.mem_cons
  refine wpAny_leaves_madeW (base := PySem.W.hideAll s.heap (frs (envOfC qual scope s₀.heap.objs.size f cd :: outer))) (h := s.heap) (outer := outer) hfr rfl (fun b o q => PySem.W.of_hideAll _ q)
    (PySem.W.funFrames_hide hst (fun env he b hb => frame_mem he hb)) hx fun h2 t fl tup bt ups => ?_
  have kB : ∀ b o, s.heap.get? b = some o → b ∉ frs (envOfC qual scope s₀.heap.objs.size f cd :: outer) → h2.get? b = some o := fun b o q n => fl.1 _ _ (PySem.W.hideAll_get _ q n)
  have free := I.stkFree
  have trk : ∀ b u, H b = some u → b ∉ frs (envOfC qual scope s₀.heap.objs.size f cd :: outer) := fun b u q z => by
    rw [free b z] at q
    cases q
  refine ⟨ea, cls, .ref t, _, H, rfl, I.os, I.bare, ?_, ?_, fl, ?_, ?_, hE⟩
  · refine Un.left (I.base.mono (fs' := s₀.heap.objs.size :: frs outer) (fun b hb => List.mem_cons_of_mem _ hb) (fun b hb => hb)) I.notL I.ok.frf (fun b o q n _ => kB b o q n) fun b o hb q => ?_
    obtain ⟨_, o', ho', hd⟩ := hst.mem (b := b) (mem.mpr (.inr hb))
    rw [q] at ho'
    cases ho'
    exact ups b o (hx.keeps b o q) hd
  · exact fun a o e => (I.hok a o e).stay (fun b u hb q => by
      rcases hb with rfl | hb
      · exact kB b u q (trk b _ e)
      · exact kB b u q (trk b _ hb)) (fun _ q => q) fun _ _ q => q
  · cases e : H ea with
    | none => rfl
    | some u =>
      obtain ⟨ob, z⟩ := (I.hok ea u e).ex
      rw [hx.new] at z
      cases z
  · intro b o q n c
    have key : ∀ ob, s.heap.get? b = some ob → b ∉ frs (envOfC qual scope s₀.heap.objs.size f cd :: outer) → (PySem.W.hideAll s.heap (frs (envOfC qual scope s₀.heap.objs.size f cd :: outer))).get? b = some o := fun ob z nb => by
      have := kB b ob z nb
      rw [q] at this
      cases this
      exact PySem.W.hideAll_get _ z nb
    rcases c with ⟨u, c⟩ | ⟨u, c⟩
    · obtain ⟨ob, z⟩ := I.base.there b u c (List.not_mem_nil (a := b))
      refine key ob z fun hm => ?_
      rcases mem.mp hm with e | e
      · exact I.notL b u c e
      · exact n e
    · obtain ⟨ob, z⟩ := (I.hok b u c).ex
      exact key ob z (trk b u c)
theorem pass1 : Passes (CX1 P w) (XC P w K mg base N qual scope f cd A outer s₀ H₀ E) E := by
  rintro pins σ H s e s' I ⟨ea, cls, a0, B, H', rfl, os, bare, un, hok, fl, hea, kB, hE⟩
  have hst := I.stack
  have hfr := I.ok.frames
  have mem : ∀ {b : Addr}, b ∈ frs (envOfC qual scope s₀.heap.objs.size f cd :: outer) ↔ b = s₀.heap.objs.size ∨ b ∈ frs outer := fun {b} => by
    show b ∈ s₀.heap.objs.size :: frs outer ↔ _
    exact List.mem_cons
  have free : ∀ b ∈ frs (envOfC qual scope s₀.heap.objs.size f cd :: outer), H' b = none := fun b hb => by
    obtain ⟨_, o, ho, _⟩ := hst.mem (b := b) hb
    exact un.free b o ho (I.stkFree b hb) (List.not_mem_nil (a := b))
  have trk : ∀ b u, H' b = some u → b ∉ frs (envOfC qual scope s₀.heap.objs.size f cd :: outer) := fun b u q z => by
    rw [free b z] at q
    cases q
  have tr : Un (s₀.heap.objs.size :: frs outer) [] H₀ H' s₀.heap s'.heap := (I.base.mono (fs' := s₀.heap.objs.size :: frs outer) (fun b hb => List.mem_cons_of_mem _ hb) (fun b hb => hb)).trans un
  refine wpAny_leaves_onW (outer := outer) hfr rfl fl fun h2 fl' ups => ?_
  have k2 : ∀ b o, s'.heap.get? b = some o → b ∉ frs (envOfC qual scope s₀.heap.objs.size f cd :: outer) → ((∃ u, s.heap.get? b = some u) ∨ ∃ u, H' b = some u) → h2.get? b = some o := fun b o q n c => fl'.1 _ _ (kB b o q n c)
  refine ⟨ea, cls, a0, B, H', rfl, os.trans I.os, bare, ?_, ?_, fl', hea, ?_, hE⟩
  · refine Un.left tr I.notL I.ok.frf (fun b o q n ⟨u, c⟩ => k2 b o q n (.inl (I.base.there b u c (List.not_mem_nil (a := b))))) fun b o hb q => ?_
    obtain ⟨_, o', ho', hd⟩ := fl.2.2.1.mem (b := b) (mem.mpr (.inr hb))
    rw [q] at ho'
    cases ho'
    exact ups b o q hd
  · exact fun a o e => (hok a o e).stay (fun b u hb q => by
      rcases hb with rfl | hb
      · exact k2 b u q (trk b _ e) (.inr ⟨_, e⟩)
      · exact k2 b u q (trk b _ hb) (.inr ⟨_, hb⟩)) (fun _ q => q) fun _ _ q => q
  · intro b o q n c
    have key : ∀ ob, s'.heap.get? b = some ob → b ∉ frs (envOfC qual scope s₀.heap.objs.size f cd :: outer) → ((∃ u, s.heap.get? b = some u) ∨ ∃ u, H' b = some u) → B.get? b = some o := fun ob z nb c => by
      have := k2 b ob z nb c
      rw [q] at this
      cases this
      exact kB b _ z nb c
    rcases c with ⟨u, c⟩ | ⟨u, c⟩
    · obtain ⟨ob, z⟩ := tr.there b u c (List.not_mem_nil (a := b))
      refine key ob z (fun hm => ?_) (.inl (I.base.there b u c (List.not_mem_nil (a := b))))
      rcases mem.mp hm with e | e
      · exact I.notL b u c e
      · exact n e
    · obtain ⟨ob, z⟩ := (hok b u c).ex
      exact key ob z (trk b u c) (.inr ⟨u, c⟩)
end
theorem Fun.okE {P : Program} {w : World} {K : PySem.W.Frag} {mg : Str → Option Value} {base : Heap} {x qual : Str} {st : Stmt} {f : Addr} {fd : FuncData} {N ps : List Str} {k : Nat} {sp : Sp} (F : Fun K x qual st f fd) (S : FnScope N ps (defScope st)) (len : ∀ vs H Q E, sp vs H Q E → vs.length = ps.length)
    (hbody : ∀ (cdv : Value) (A : Around) (outer : List Env) (s : Shared) (H : Hp) (vs : List V) (Q : VK) (E : XK), Room k (A.deeper (envOfC qual (defScope st) s.heap.objs.size f cdv)) → sp vs H Q E →
      ∃ t, PSs (XC P w K mg base N qual (defScope st) f cdv A outer s H E) (defBody st) t ∧ t { nx := fun _ H' => Q .non H', rt := Q } (start N vs) H) : FnOk P w K mg base (CX1 P w) (k + 1) f fd ps sp := by
  obtain ⟨oc, od, kV, doc, pm, an, cdv, ct, osl, rfl, lk, hcd⟩ := F.ex
  exact fn_of lk hcd S len fun A outer s H vs Q E hr hsp => hbody cdv A outer s H vs Q E hr hsp
structure CalleeE (P : Program) (w : World) (K : PySem.W.Frag) (mg : Str → Option Value) (base : Heap) (x : Str) (k : Nat) (ps : List Str) (sp : Sp) : Prop where
  ex : ∃ (f : Addr) (fd : FuncData), FnOk P w K mg base (CX1 P w) k f fd ps sp ∧ Binds K fd ps [] ∧ PySem.W.keepIn K (.ref f) = true ∧ mg x = some (.ref f)
theorem Here.calleeE {P : Program} {w : World} {K : PySem.W.Frag} {mg : Str → Option Value} {base : Heap} {x : Str} {st : Stmt} {f : Addr} {fd : FuncData} {k : Nat} {ps : List Str} {sp : Sp} (h : Here K mg x st f fd) (F : FnOk P w K mg base (CX1 P w) k f fd ps sp)
    (hb : ∀ (kV doc pm : Value) (an : Option Addr) (cdv ct : Value) (us : List Value), us.length = ps.length → bindArgs (PySem.W.fnOf x x (defArgs st) (defBody st) (defScope st) .none kV doc pm an cdv ct) ⟨us, []⟩ = pure (ps.zip us)) : CalleeE P w K mg base x k ps sp :=
  ⟨f, fd, F, h.fn.binds hb, h.fn.kp, h.at_⟩
theorem pe_callE {P : Program} {w : World} {K : PySem.W.Frag} {mg : Str → Option Value} {base : Heap} {N : List Str} {qual : Str} {scope : Scope} {f : Addr} {cd : Value} {A : Around} {outer : List Env} {s₀ : Shared} {H₀ : Hp} {E : XK}
    {x : Str} {k : Nat} {ps : List Str} {sp : Sp} {e : Expr} {es : List Expr} {t : TA} {p pos : Pos} (C : CalleeE P w K mg base x k ps sp) (hr : Room k (XC P w K mg base N qual scope f cd A outer s₀ H₀ E).A) (hg : Gl (XC P w K mg base N qual scope f cd A outer s₀ H₀ E) x)
    (ha : PA (XC P w K mg base N qual scope f cd A outer s₀ H₀ E) (e :: es) t)
    (hdb : (x == ("__debug__" : Str)) = false := by decide) (he : starEach (e :: es) (XC P w K mg base N qual scope f cd A outer s₀ H₀ E).env = (false, eval e (XC P w K mg base N qual scope f cd A outer s₀ H₀ E).env) :: starEach es (XC P w K mg base N qual scope f cd A outer s₀ H₀ E).env := by rfl)
    (hpl : (backTo pos (starEach es (XC P w K mg base N qual scope f cd A outer s₀ H₀ E).env)).any (·.1) = false := by rfl) :
    PE (XC P w K mg base N qual scope f cd A outer s₀ H₀ E) (.Call (.Name x p) (e :: es) [] pos) (tCall sp [] E t) := by
  obtain ⟨f', fd, F, hb, hk, hm⟩ := C.ex
  exact pe_call F hr hg hm hk hb .nil pass1 ha hdb he hpl
end L2

namespace L2
open PySem PySem.Spec PyProof.Rows
structure ExcAt (h : Heap) (C : Addr) (bmB : List Value) (newId : String) : Prop where
  ex : ∃ (bm : List Value) (N : Addr) (nm qn : Str) (bs : List Value) (hd : Bool) (sn : List Str) (sub : List Value) (ab : Bool) (col : Option Bool) (dd : Option Addr) (k0 k1 k2 k3 k5 : Option Value) (mN : Str → Option Value),
    h.get? C = some (excClassObj nm qn C N bs bm hd sn sub ab col dd k0 k1 k2 k3 k5 newId) ∧ h.Ns N mN ∧ mN "__init__" = none ∧ OwnTail h bmB bm
theorem excAt_of {K : PySem.W.Frag} {h : Heap} {C : Addr} {bmB : List Value} {newId : String} (X : K.In h) (q : PySem.W.excIn K C bmB newId = true) : ExcAt h C bmB newId := by
  unfold PySem.W.excIn at q
  split at q
  case h_1 dd cd sl ho =>
    split at q
    case h_1 C' bm k0 k1 k2 k3 n k5 hm hs =>
      simp only [Bool.and_eq_true, beq_iff_eq, Bool.not_eq_true'] at q
      obtain ⟨⟨⟨⟨⟨e1, e2⟩, e3⟩, e4⟩, e5⟩, e6⟩ := q
      subst e1 e2
      cases cd with
      | mk nm bs mro ns qn hd sn sub ab col del =>
        dsimp only at hm e3 e5 e6
        subst hm e3
        have es : sl = #[k0, k1, k2, k3, some (.builtin n), k5] := by
          cases sl with
          | mk l => exact congrArg Array.mk hs
        subst es
        exact ⟨bm, ns, nm, qn, bs, hd, sn, sub, ab, col, dd, k0, k1, k2, k3, k5, _, X _ _ ho, .of_isNs (PySem.W.isNs_of_in X e5), PySem.W.nsMap_none_of_in X e5 e6, PySem.W.tail_of_in X e4⟩
    all_goals cases q
  all_goals cases q
section
variable {P : Program} {w : World} {K : PySem.W.Frag} {mg : Str → Option Value} {base : Heap} {N : List Str} {qual : Str} {scope : Scope} {f : Addr} {cd : Value} {A : Around} {outer : List Env} {s₀ : Shared} {H₀ : Hp} {E : XK}
abbrev veB : List Value := [.type "ValueError", .type "Exception", .type "BaseException", .type "object"]
theorem ps_raise {x : Str} {C : Addr} {e : Expr} {ta : TA} {np cpos pos : Pos} (hq : PySem.W.excIn K C veB "ValueError.__new__" = true) (hg : Gl (XC P w K mg base N qual scope f cd A outer s₀ H₀ E) x) (hm : mg x = some (.ref C))
    (ha : PA (XC P w K mg base N qual scope f cd A outer s₀ H₀ E) [e] ta) (hd : (x == ("__debug__" : Str)) = false := by decide)
    (he : starEach [e] (XC P w K mg base N qual scope f cd A outer s₀ H₀ E).env = [(false, eval e (XC P w K mg base N qual scope f cd A outer s₀ H₀ E).env)] := by rfl) :
    PS (XC P w K mg base N qual scope f cd A outer s₀ H₀ E) (.Raise (some (.Call (.Name x np) [e] [] cpos)) none pos) (fun _ σ H => ta σ H fun vs H1 => vs.length ≤ 1000 ∧ E (.ref C) none H1) := by
  intro pins s σ H D I h
  obtain ⟨bm, N', nm, qn, bs, hdc, sn, sub, ab, col, dd, k0, k1, k2, k3, k5, mN, hC, hN, hni, T⟩ := (excAt_of I.ok.mod.kin hq).ex
  refine wpAny_Raise_call_subT (C := C) (nm := nm) (q := qn) (N := N') (bs := bs) (bm := bm) (hdct := hdc) (sn := sn) (sub := sub) (ab := ab) (col := col) (dd := dd) (k0 := k0) (k1 := k1) (k2 := k2) (k3 := k3) (k5 := k5)
    PySem.F.excBase_ValueError (mN := mN) (T.hasType PySem.F.excBase_ValueError.hasBase) (I.ok.hd rfl) (by rw [he]; rfl) hni (ld_glob I hg hm ⟨rfl, ?_⟩ hd)
  have hA := ha cpos pins s σ H _ I h
  rw [he] at hA ⊢
  refine Calls.evalArgs_plain (thn hA fun us s1 ⟨vs, H1, I1, r, l, q⟩ => ⟨rfl, ?_, I1.bk _ _ hC, hN.keeps I1.bk, T.keeps I1.bk, fun h' ea hx => xe_raise I1 hx q⟩)
  rw [← r.length]
  exact Nat.le_of_lt (small1000 l)
end
def excO (ea : Addr) (cls : Value) : HO := .ext fun h => ∃ o, h.get? ea = some o ∧ o.cls = cls
section
variable {X : Cx} {pins : List (Addr × Obj)} {σ : St} {H H' : Hp} {s s' : Shared} {B h5 : Heap} {ea : Addr} {cls a0 : Value}
theorem landed (I : Inv X pins σ H s) (os : s'.os = s.os) (bare : AllBare s'.gens) (un : Un (frs X.stack) [] H H' s.heap s'.heap) (hok : HOk X.prog X.w H' s'.heap) (fl : Heap.FlyingW B X.stack ea cls a0 s'.heap) (hea : H' ea = none)
    (kB : ∀ b o, s'.heap.get? b = some o → b ∉ frs X.stack → ((∃ u, s.heap.get? b = some u) ∨ ∃ u, H' b = some u) → B.get? b = some o) (fl5 : Heap.FlyingW B X.stack ea cls a0 h5) (up : s'.heap.UpToSlots h5) :
    Inv X pins σ (upd H' ea (excO ea cls)) { s' with heap := h5 } := by
  have nn : ∀ b : Addr, b ∉ ([] : List Addr) := fun b => List.not_mem_nil (a := b)
  have free : ∀ b ∈ frs X.stack, H' b = none := fun b hb => by
    obtain ⟨_, o, ho, _⟩ := I.stack.mem (b := b) hb
    exact un.free b o ho (I.stkFree b hb) (nn b)
  have trk : ∀ b u, H' b = some u → b ∉ frs X.stack := fun b u q z => by
    rw [free b z] at q
    cases q
  have k5 : ∀ b o, s'.heap.get? b = some o → b ∉ frs X.stack → ((∃ u, s.heap.get? b = some u) ∨ ∃ u, H' b = some u) → h5.get? b = some o := fun b o q n c => fl5.1 _ _ (kB b o q n c)
  have nea : ∀ b o, s.heap.get? b = some o → b ≠ ea := fun b o q z => by
    subst z
    obtain ⟨o', e'⟩ := un.there b o q (nn b)
    by_cases hm : b ∈ frs X.stack
    · obtain ⟨_, o2, ho2, hd⟩ := fl.2.2.1.mem (b := b) hm
      obtain ⟨oe, vs, h1, _, h2, _⟩ := fl.first
      rw [ho2] at h1
      cases h1
      exact hd vs h2
    · have := kB b o' e' hm (.inl ⟨o, q⟩)
      rw [fl.2.1] at this
      cases this
  have slo : ∀ b o, b ∈ frs X.stack → s'.heap.get? b = some o → ∃ sl, h5.get? b = some { o with slots := sl } := fun b o hb e => by
    obtain ⟨_, o', ho', hd⟩ := fl.2.2.1.mem (b := b) hb
    rw [e] at ho'
    cases ho'
    exact up b o e hd
  refine I.call' (ch := []) os ⟨fun b o q n hb hx => k5 b o (un.keep b o q n hb hx) hb (.inl ⟨o, q⟩), fun b o q n hb hx => ?_, fun b o q n hx => by rw [upd_ne (nea b o q)]; exact un.free b o q n hx, fun b o q hx => ?_,
    fun b xs q => by rw [upd_ne (ne_of_none (un.tups b xs q) hea)]; exact un.tups b xs q, fun b u xs q => by rw [upd_ne (ne_of_none (un.frzs b u xs q) hea)]; exact un.frzs b u xs q, fun b ps q => ?_⟩ ?_ bare (fun b z => absurd z (nn b))
  · obtain ⟨sl, e⟩ := un.slot b o q n hb hx
    obtain ⟨sl', e'⟩ := slo b _ hb e
    exact ⟨sl', e'⟩
  · obtain ⟨o', e⟩ := un.there b o q hx
    by_cases hb : b ∈ frs X.stack
    · obtain ⟨sl, e'⟩ := slo b o' hb e
      exact ⟨_, e'⟩
    · exact ⟨o', k5 b o' e hb (.inl ⟨o, q⟩)⟩
  · have e := un.tbls b ps q
    exact ⟨by rw [upd_ne (ne_of_none e.1 hea)]; exact e.1, fun c o ec x => let z := e.2 c o ec x; ⟨by rw [upd_ne (ne_of_none z.1 hea)]; exact z.1, k5 c o z.2 (trk c _ z.1) (.inl ⟨o, x⟩)⟩⟩
  · intro a o e
    by_cases c : a = ea
    · subst c
      rw [upd_same] at e
      cases e
      obtain ⟨ob, hob, hc⟩ := fl5.there
      exact ⟨⟨ob, hob, hc⟩, ⟨ob, hob⟩, fun h1 h2 ⟨o1, z1, z2⟩ k => ⟨o1, k o1 z1, z2⟩⟩
    · rw [upd_ne c] at e
      have ne : ∀ b u, H' b = some u → b ≠ ea := fun b u q => ne_of_none q hea
      exact (hok a o e).stay (fun b u hb q => by
        rcases hb with rfl | hb
        · exact k5 b u q (trk b _ e) (.inr ⟨_, e⟩)
        · exact k5 b u q (trk b _ hb) (.inr ⟨_, hb⟩)) (fun b q => by rw [upd_ne (ne b _ q)]; exact q) fun b xs q => by rw [upd_ne (ne b _ q)]; exact q
abbrev Cx.inside (X : Cx) (ea : Addr) : Cx := { X with A := X.A.mark (some (.ref ea)), calm := false, xe := fun _ _ => False }
theorem Inv.inside (I : Inv X pins σ H s) (ea : Addr) : Inv (X.inside ea) pins σ H s :=
  ⟨⟨I.ok.mod, I.ok.kind, I.ok.glob, I.ok.blt, I.ok.above, I.ok.inj, I.ok.has, I.ok.cab, (fun z => by cases z), I.ok.frames, I.ok.stk, I.ok.exf, I.ok.bs, I.ok.bsz, I.ok.noex, I.ok.exfs, I.ok.funs, I.ok.frf⟩, I.os, I.bare, I.base, I.loc, I.cell, I.free, I.freeC, I.pin, I.hok, I.len⟩
theorem Inv.outside {ea : Addr} (ok : X.Ok) (I : Inv (X.inside ea) pins σ H s) : Inv X pins σ H s := ⟨ok, I.os, I.bare, I.base, I.loc, I.cell, I.free, I.freeC, I.pin, I.hok, I.len⟩
end
def PX (X : Cx) (e : Expr) (t : St → Hp → VK → XK → Prop) : Prop := ∀ (pins : List (Addr × Obj)) (s : Shared) (σ : St) (H : Hp) (Q : VK) (E : XK) (xe : Value → Shared → Prop), Inv X pins σ H s → t σ H Q E →
  (∀ H1 s1 e s', Inv X pins σ H1 s1 → CX1 X.prog X.w X.stack H1 s1 E e s' → xe e s') → wpAny (model X.prog X.w) X.A (eval e X.env) (EP X pins σ Q) xe s
def PSX (X : Cx) (st : Stmt) (t : Ends → XK → St → Hp → Prop) : Prop := ∀ (pins : List (Addr × Obj)) (s : Shared) (σ : St) (H : Hp) (D : Ends) (E : XK) (xe : Value → Shared → Prop), Inv X pins σ H s → t D E σ H →
  (∀ H1 s1 e s', Inv X pins σ H1 s1 → CX1 X.prog X.w X.stack H1 s1 E e s' → xe e s') → wpAny (model X.prog X.w) X.A (exec st X.env) (SP X pins D) xe s
section
variable {X : Cx}
theorem px_call {x : Str} {k : Nat} {ps : List Str} {sp : Sp} {e : Expr} {es : List Expr} {t : TA} {p pos : Pos} (C : CalleeE X.prog X.w X.K X.mg X.base x k ps sp) (hr : Room k X.A) (hg : Gl X x) (ha : PA X.nox (e :: es) t)
    (hdb : (x == ("__debug__" : Str)) = false := by decide) (he : starEach (e :: es) X.env = (false, eval e X.env) :: starEach es X.env := by rfl) (hpl : (backTo pos (starEach es X.env)).any (·.1) = false := by rfl) :
    PX X (.Call (.Name x p) (e :: es) [] pos) (fun σ H Q E => t σ H fun vs H1 => sp vs H1 Q E) := by
  intro pins s σ H Q E xe I h hx
  obtain ⟨f, fd, F, hb, hk, hm⟩ := C.ex
  refine wpAny_Call_Name_kw (ld_glob I hg hm ?_ hdb)
  refine PySem.W.callWith_K (h₀ := X.base) I.ok.mod.kin hk (wpAny_mono (ha pos pins s σ H _ (I.wish _) h) (fun us s1 ⟨vs, H1, I1, r, q⟩ => ⟨I1.unwish.kIn, ?_⟩) (fun _ _ z => False.elim z)) he hpl
  have I2 := I1.unwish
  have hl : us.length = ps.length := by rw [← r.length]; exact F.len _ _ _ _ q
  have hbb := hb s1 us I2.kIn (by rw [List.append_nil]; exact hl)
  rw [List.append_nil] at hbb
  refine wpAny_call (codeAny_mono (F.run X.A X.stack s1 H1 ⟨us, []⟩ us vs Q E hr I2.env0 hbb r q) fun res s' hq => ?_)
  cases res with
  | error e => exact hx H1 s1 e s' I2 hq
  | ok fl => cases fl with
    | ret u => exact I2.after hq
    | next => exact hq.elim
    | brk => exact hq.elim
    | cont => exact hq.elim
theorem psx_set {i : Nat} {x : Str} {e : Expr} {tx : St → Hp → VK → XK → Prop} {pos pos' : Pos} (hN : X.N.Nodup) (hi : X.N[i]? = some x) (hx : Loc X.env.scope x) (he : PX X e tx) (hs : swapsWith e (some (.Name x pos')) pos.line X.env = pure false := by rfl)
    (hf : X.fn x = true ∨ X.env.scope.names.lookup x = some .local := by first | exact .inl rfl | exact .inr rfl | assumption) : PSX X (.Assign [.Name x pos'] e pos) (fun D E σ H => tx σ H (fun v H1 => D.nx (σ.set i (some v)) H1) E) := by
  intro pins s σ H D E xe I h hxe
  refine wpAny_Assign_Name (thn (he pins s σ H _ E xe I h hxe) fun v s1 ⟨y, H1, I1, r1, q1⟩ => ?_) hs
  exact store_ok I1 hN hi hx r1 (fun s2 I2 => ⟨_, H1, I2, q1⟩) hf
end
end L2

namespace L2
open PySem PySem.Spec PyProof.Rows PySem.W Builtin Builtin.ObjectAttr Builtin.Getset_descriptor
structure ExcLook (K : PySem.W.Frag) (C : Addr) : Prop where
  ga : PySem.W.findIn K (.ref C) "__getattribute__" = some (some (.builtin "BaseException.__getattribute__"))
  hk : PySem.W.findIn K (.ref C) "__getattr__" = some none
  cl : PySem.W.findIn K (.ref C) "__class__" = some (some (.builtin "object.__class__"))
  sp : PySem.W.specialIn K (.builtin "object.__class__") "__get__" = some (some (.builtin "getset_descriptor.__get__"))
  tk : PySem.W.takesIn K (.builtin "object.__class__") = some true
  ob : PySem.W.mroIn K C (.type "object") = some true
  be : PySem.W.mroIn K C (.type "BaseException") = some true
  cs : (PySem.W.clsIn K C).isSome = true
section
variable {prog : Program} {w : World} {A : Around} {E : Value → Shared → Prop} {K : PySem.W.Frag} {x C : Addr} {s : Shared}
theorem find_cls {M : Model} {h : Heap} (L : ExcLook K C) (X : K.In h) : PySem.W.Looks M h (Builtin.ObjectAttr.find (.ref x) (.ref C) "__class__") (.bind (.builtin "getset_descriptor.__get__") (.builtin "object.__class__")) := by
  have L1 := PySem.W.looks_findIn (M := M) X L.cl
  have L2 : PySem.W.Looks M h (Builtin.ObjectAttr.getOf (some (.builtin "object.__class__"))) (some (.builtin "getset_descriptor.__get__")) := PySem.W.looks_specialIn X L.sp
  have L3 := PySem.W.looks_takesIn (M := M) X L.tk
  intro A' Q' E' s' k q
  unfold Builtin.ObjectAttr.find
  refine wpAny_bind (L1 _ _ _ _ k (wpAny_bind (L2 _ _ _ _ k ?_)))
  unfold Builtin.ObjectAttr.dataDescriptor?
  refine wpAny_bind (wpAny_bind (L3 _ _ _ _ k ?_))
  rw [if_pos rfl]
  exact wpAny_pure (wpAny_bind (wpAny_rule (wpAny_pure q)))
theorem cls_get {R : Result → Shared → Prop} {tp : Value} (L : ExcLook K C) (X : K.In s.heap) (L0 : PySem.W.Looks (model prog w) s.heap (typeOf (.ref x)) (.ref C)) (h : R (.ok (.ret (.ref C))) s) :
    codeAny (model prog w) A (.call (.builtin "getset_descriptor.__get__") ⟨[.builtin "object.__class__", .ref x, tp], []⟩) R s := by
  cases s with
  | mk hh g dr t os =>
    have L1 := PySem.W.looks_mroIn (M := model prog w) X L.ob
    refine codeAny_call_builtin PySem.W.KF.slot_gs.plain PySem.W.KF.entry_gs
      (PySem.W.KF.slot_gs.check _ _ _ _ _ _ _ _ PySem.W.KF.type_class (PySem.W.KF.args_gs _ _ _) ?_)
    unfold Builtin.«getset_descriptor.__get__» descrGet
    rw [PySem.W.dga_obj]
    refine wpAny_bind (wpAny_pure ?_)
    unfold descrGetter descrCheckInstance descrNameAndClass isInstance
    simp only [PySem.W.KF.owner_class]
    repeat lk
    refine ⟨Code.quiet_builtin _ (by decide +kernel), codeAny_builtin PySem.W.KF.entry_class ?_⟩
    unfold Builtin.«object.__class__» shownTypeOf; repeat lk
    exact h
theorem exc_ga {tk : Tok} {R : Result → Shared → Prop} (L : ExcLook K C) (X : K.In s.heap) (L0 : PySem.W.Looks (model prog w) s.heap (typeOf (.ref x)) (.ref C)) (hx : ∃ o, s.heap.get? x = some o ∧ o.cls = .ref C) (h : R (.ok (.ret (.ref C))) s) :
    codeAny (model prog w) A (.call (.builtin "BaseException.__getattribute__") ⟨[.ref x, .str "__class__" tk], []⟩) R s := by
  cases s with
  | mk hh g d t os =>
    have L1 := PySem.W.looks_mroIn (M := model prog w) X L.be
    have L2 := find_cls (x := x) (M := model prog w) L X
    have kd : builtinKind "BaseException.__getattribute__" = some .slot := by decide +kernel
    have spl : splitId "BaseException.__getattribute__" = some ("BaseException", "__getattribute__") := by decide +kernel
    have aok := PySem.F.args_bexc_ga (.ref x) (.str "__class__" tk)
    have LI : PySem.W.Looks (model prog w) hh (isInstance (.ref x) (.type "BaseException")) true := L0.andThen L1
    refine codeAny_call_builtin PySem.F.attr_ValueError.ga.plain PySem.F.entry_bexc_ga ?_
    simp only [checkBuiltinCall, kd, spl]
    refine wpAny_bind (LI.at ?_)
    repeat (any_goals (first | assumption | wp_step))
    obtain ⟨ox, hox, hcl⟩ := hx
    refine wpAny_loadPart_at (show (Shared.heap ⟨hh, g, d, t, os⟩).get? x = some ox from hox) ?_
    refine wpAny_pure ?_
    rw [hcl]
    refine wpAny_bind (L2.at ?_)
    show wpAny _ _ (holding [Value.builtin "object.__class__"] (call (.builtin "getset_descriptor.__get__") [.builtin "object.__class__", .ref x, .ref C]) >>= ret) _ _ _
    exact wpAny_bind (wpAny_holding (wpAny_call (cls_get (s := ⟨hh, g, d, t, os⟩) L X L0 (wpAny_pure h))))
theorem exc_class {Q : Option Value → Shared → Prop} (L : ExcLook K C) (X : K.In s.heap) (hx : ∃ o, s.heap.get? x = some o ∧ o.cls = .ref C) (h : Q (some (.ref C)) { s with toks := s.toks + 1 }) : wpAny (model prog w) A (getAttr? (.ref x) "__class__") Q E s := by
  cases s with
  | mk hh g d t os =>
    obtain ⟨ox, hox, hcl⟩ := id hx
    have L0 : PySem.W.Looks (model prog w) hh (typeOf (.ref x)) (.ref C) := hcl ▸ (PySem.W.Looks.ld hox).andThen .now
    have L1 := PySem.W.looks_findIn (M := model prog w) X L.ga
    have L2 := PySem.W.looks_findIn (M := model prog w) X L.hk
    unfold getAttr? getAttrBy? getAttrBy
    refine wpAny_bind (wpAny_mkText (wpAny_bind (wpAny_attempt (wpAny_holding ?_))))
    refine wpAny_bind (L0.at (wpAny_bind (L1.at ?_)))
    show wpAny _ _ (getAttrByItsOwn _ _ _ _ _ _) _ _ _
    unfold getAttrByItsOwn hookBefore
    refine wpAny_bind (L2.at (wpAny_bind (wpAny_attempt (wpAny_holding ?_))))
    show wpAny _ _ (boundAndCalled (.builtin "BaseException.__getattribute__") (.ref x) _) _ _ _
    unfold boundAndCalled
    rw [PySem.F.attr_ValueError.ga.bind (.ref x)]
    refine wpAny_bind (wpAny_pure ?_)
    exact wpAny_call (exc_ga (s := ⟨hh, g, d, t + 1, os⟩) L X L0 hx (wpAny_pure (wpAny_pure h)))
theorem cls_there {h : Heap} (L : ExcLook K C) (X : K.In h) : ∃ c d cd sl, h.get? C = some ⟨c, d, .cls cd, sl⟩ := by
  obtain ⟨cd, e⟩ := Option.isSome_iff_exists.mp L.cs
  unfold PySem.W.clsIn at e
  split at e
  case h_1 c d cd' sl ho => exact ⟨c, d, cd', sl, X _ _ ho⟩
  all_goals cases e
theorem kitx_exc (L : ExcLook K C) : PySem.W.KitX K (.ref x) (.ref C) (fun h => ∃ o, h.get? x = some o ∧ o.cls = .ref C) where
  ty := fun _ _ _ ⟨_, e, c⟩ => c ▸ (PySem.W.Looks.ld e).andThen .now
  it := fun _ _ X _ A' Q' E' s' k q => by
    obtain ⟨c, d, cd, sl, ho⟩ := cls_there L X
    unfold isType loadHead; exact wpAny_bind (wpAny_loadPart (k _ _ ho) (wpAny_pure q))
  ne := fun h tp dd its n sl X htp => by
    obtain ⟨c, d, cd, sl', ho⟩ := cls_there L X
    refine Bool.eq_false_iff.mpr fun q => ?_
    rw [← Value.ref.inj (beq_iff_eq.mp q), ho] at htp
    cases htp
  ca := fun X p k => exc_class L X p k
end
end L2

namespace L2
open PySem PySem.Spec PyProof.Rows
section
variable {X : Cx} {pins : List (Addr × Obj)} {σ : St} {H : Hp} {s : Shared}
theorem name_goes {M : Model} {A : Around} {E : Value → Shared → Prop} {j : Nat} {n : Str} {pos : Pos} {Q : Unit → Shared → Prop} (I : Inv X pins σ H s) (hN : X.N.Nodup) (hj : X.N[j]? = some n) (hk : X.env.scope.names.lookup n = some .local)
    (h : ∀ s', Inv X pins (σ.set j none) H s' → Q () s') : wpAny M A (do bindName X.env n .none; unbindBehindTheSuite X.env n pos) Q E s := by
  obtain ⟨m, hn, hl⟩ := id I.loc
  have hcls : (X.env.scope.kind == .class || (X.env.scope.kind == .module && X.env.locals != X.env.globals)) = false := by rw [I.ok.kind]; rfl
  have hjσ : j < σ.length := by rw [I.len]; exact (List.getElem?_eq_some_iff.mp hj).1
  have cne := I.cne
  obtain ⟨oL, _, _, hoL, _⟩ := id hn
  refine wpAny_nameGoes_keeps hk hn hcls fun h' v hn' hs => h _ ?_
  have lt : ∀ {b : Addr} {o : Obj}, X.s₀.heap.get? b = some o → b ≠ X.env.locals := fun e => Nat.ne_of_lt (Nat.lt_of_lt_of_le (Heap.lt_size e) I.ok.above)
  refine ⟨I.ok, I.os, I.bare, ⟨fun b o e nn hb hx => (hs.2 b (lt e)).trans (I.base.keep b o e nn hb hx), fun b o e nn hb hx => ?_, I.base.free, fun b o e hx => ?_, I.base.tups, I.base.frzs, fun b ps e => ⟨(I.base.tbls b ps e).1, fun d o e1 x1 => let z := (I.base.tbls b ps e).2 d o e1 x1; ⟨z.1, (hs.2 d (ne_of_none z.1 I.free)).trans z.2⟩⟩⟩, ⟨_, hn', fun i y v' e1 e2 e3 => ?_⟩, fun y c e => ?_, I.free, I.freeC, fun p hp => ?_, fun b ob e => ?_, by simpa using I.len⟩
  · obtain ⟨sl, e1⟩ := I.base.slot b o e nn hb hx
    exact ⟨sl, (hs.2 b (lt e)).trans e1⟩
  · obtain ⟨o', e1⟩ := I.base.there b o e hx
    exact ⟨o', (hs.2 b (lt e)).trans e1⟩
  · by_cases hji : i = j
    · subst hji
      rw [List.getElem?_set_self hjσ] at e2
      cases e2
    · rw [List.getElem?_set_ne (Ne.symm hji)] at e2
      obtain ⟨u', r', q⟩ := hl i y v' e1 e2 e3
      refine ⟨u', r', ?_⟩
      rcases q with ⟨k, e⟩ | ⟨k, c, e, z⟩
      · refine .inl ⟨k, ?_⟩
        have ny : y ≠ n := fun e => hji (nodup_ix hN e1 (e ▸ hj))
        show (if y = n then v else m y) = _
        rw [if_neg ny]
        exact e
      · exact .inr ⟨k, c, e, z.sameBut hs (cne y c e)⟩
  · obtain ⟨w', z⟩ := I.cell y c e
    exact ⟨w', z.sameBut hs (cne y c e)⟩
  · obtain ⟨e, nn, ne, nf, d⟩ := I.pin p hp
    exact ⟨(hs.2 p.1 ne).trans e, nn, ne, nf, d⟩
  · refine (I.hok b ob e).stay (fun c w' hc q => (hs.2 c ?_).trans q) (fun _ q => q) fun _ _ q => q
    rintro rfl
    rcases hc with rfl | hc
    · rw [I.free] at e; cases e
    · rw [I.free] at hc; cases hc
end
section
variable {X : Cx}
def asEnds (j : Nat) (D : Ends) : Ends := { nx := fun σ H => D.nx (σ.set j none) H, rt := D.rt, bk := fun σ H => D.bk (σ.set j none) H, ct := fun σ H => D.ct (σ.set j none) H }
theorem ps_tryAs {st : Stmt} {tx : Ends → XK → St → Hp → Prop} {x n : Str} {j : Nat} {C : Addr} {b₀ : Stmt} {suite : List Stmt} {np hpos pos : Pos} {ts : TS} (hst : X.stack = X.env :: X.outer) (hf : X.env.frame = some X.env.locals) (hN : X.N.Nodup) (hj : X.N[j]? = some n) (hk : X.env.scope.names.lookup n = some .local)
    (hb : PSX X st tx) (hg : Gl X x) (hm : X.mg x = some (.ref C)) (hs : ∀ ea, PSs (X.inside ea) (b₀ :: suite) ts) (hd : (x == ("__debug__" : Str)) = false := by decide) :
    PS X (.Try [st] [.ExceptHandler (some (.Name x np)) (some n) (b₀ :: suite) hpos] [] [] pos) (fun D σ H => tx D (fun cls _ H1 => PySem.W.exmOne X.K cls (.ref C) = some true ∧ ∀ ea, H1 ea = none → ts (asEnds j D) (σ.set j (some (.ref ea))) (upd H1 ea (excO ea cls))) σ H) := by
  intro pins s σ H D I h
  refine wpAny_Try_except (wpAny_execs_cons (thn (hb pins s σ H D _ _ I h fun H1 s1 e s' I1 c => ?_) fun fl s1 q => ?_))
  · obtain ⟨ea, cls, a0, B, H', rfl, os, bare, un, hok, fl, hea, kB, hE⟩ := c
    have hfr := I1.ok.frames
    rw [hst] at hfr
    have fl' := fl
    rw [hst] at fl'
    refine wpAny_looks_onW hfr hf fl' fun h4 held up4 => ?_
    refine wpAny_landsW held fun h5 fl5 up5 => ?_
    have up45 := up4.trans up5
    rw [← hst] at fl5
    have I5 := (landed I1 os bare un hok fl hea kB fl5 up45).inside ea
    obtain ⟨ob, hob, hc⟩ := fl5.there
    have LT : PySem.W.Looks (model X.prog X.w) h5 (typeOf (.ref ea)) cls := hc ▸ (PySem.W.Looks.ld hob).andThen .now
    refine wpAny_handleBy_cons (codeAny_handlers_test (ld_glob I5 hg hm ?_ hd)) (by intro q; cases q)
    refine PySem.W.exm_one (h := h5) I5.kIn LT hE.1 _ _ _ _ (fun _ _ z => z) ?_
    refine codeAny_handlers_suite_as ?_
    refine lands_againW fl5 fun h6 fl6 up6 => ?_
    have I6 := landed I1 os bare un hok fl hea kB fl6 (up45.trans up6)
    refine store_ok I6 hN hj (.inl hk) (v := .ref ea) rfl (fun s7 I7 => ?_) (.inr hk)
    refine wpAny_mono (hs ea pins _ _ _ (asEnds j D) (I7.inside ea) (hE.2 ea hea)) (fun f s2 q => ?_) (fun _ _ z => z.elim)
    cases f with
    | next =>
      obtain ⟨a, b, J, q⟩ := q
      exact name_goes (J.outside I.ok) hN hj hk fun s3 J3 => ⟨_, _, J3, q⟩
    | brk =>
      obtain ⟨a, b, J, q⟩ := q
      exact name_goes (J.outside I.ok) hN hj hk fun s3 J3 => ⟨_, _, J3, q⟩
    | cont =>
      obtain ⟨a, b, J, q⟩ := q
      exact name_goes (J.outside I.ok) hN hj hk fun s3 J3 => ⟨_, _, J3, q⟩
    | ret u =>
      obtain ⟨v, a, b, J, r, q⟩ := q
      exact name_goes (J.outside I.ok) hN hj hk fun s3 J3 => ⟨v, _, _, J3, r, q⟩
  · cases fl with
    | next => exact wpAny_execs_nil (wpAny_execs_nil q)
    | brk => exact q
    | cont => exact q
    | ret u => exact q
def clV : V → Option Value
  | .ref a => some (.ref a)
  | .ty n => some (.type n)
  | _ => none
theorem clV_rel {c : V} {u t : Value} (e : clV c = some t) (r : RelV c u) : u = t := by
  cases c with
  | ref a => cases e; exact r
  | ty n => cases e; exact r
  | _ => cases e
def clVs : List V → Option (List Value)
  | [] => some []
  | c :: r => match clV c, clVs r with
    | some t, some ts => some (t :: ts)
    | _, _ => none
theorem clVs_rel : ∀ {cs : List V} {us ts : List Value}, clVs cs = some ts → Vals cs us → us = ts
  | [], _, _, e, .nil => by cases e; rfl
  | c :: r, _, _, e, .cons h1 h2 => by
    unfold clVs at e
    split at e
    case h_1 t ts e1 e2 =>
      cases e
      rw [clV_rel e1 h1, clVs_rel e2 h2]
    case h_2 => cases e
inductive P_call_isX (K : PySem.W.Frag) (xs : List V) (H : Hp) (Q : VK) : Prop
  | mk (ea : _) (C : _) (c : _) (t : _) (b : _) (h1 : xs = [.ref ea, c]) (h2 : H ea = some (excO ea (.ref C))) (h3 : ExcLook K C) (h4 : clV c = some t) (h5 : PySem.W.kitOne K (.ref C) t = some b) (h6 : Q (.bl b) H) : P_call_isX K xs H Q
theorem call_isX : CallR X (.builtin "isinstance") (P_call_isX X.K) := by
  intro pins s σ H xs us Q I r h
  obtain ⟨ea, C, c, t, b, rfl, he, L, hc, e, q⟩ := h
  obtain ⟨u, v, rfl, ru, rv⟩ := r.two
  cases ru
  rw [clV_rel hc rv]
  have p : ∃ o, s.heap.get? ea = some o ∧ o.cls = .ref C := (show ObjOk X.prog X.w H s.heap ea (excO ea (.ref C)) from I.hok ea _ he).1
  exact PySem.W.kia_one (kitx_exc L) I.kIn p e (fun z => nomatch z) fun tk => ⟨.bl b, H, I.tok tk, rfl, q⟩
inductive P_call_isXT (K : PySem.W.Frag) (xs : List V) (H : Hp) (Q : VK) : Prop
  | mk (ea : _) (C : _) (tp : _) (cs : _) (ts : _) (b : _) (h1 : xs = [.ref ea, .ref tp]) (h2 : H ea = some (excO ea (.ref C))) (h3 : ExcLook K C) (h4 : H tp = some (.tup cs)) (h5 : clVs cs = some ts) (h6 : PySem.W.kitAny K (.ref C) ts = some b) (h7 : Q (.bl b) H) : P_call_isXT K xs H Q
theorem call_isXT : CallR X (.builtin "isinstance") (P_call_isXT X.K) := by
  intro pins s σ H xs us Q I r h
  obtain ⟨ea, C, tp, cs, ts, b, rfl, he, L, ht, hc, e, q⟩ := h
  obtain ⟨u, v, rfl, ru, rv⟩ := r.two
  cases ru
  cases rv
  have p : ∃ o, s.heap.get? ea = some o ∧ o.cls = .ref C := (show ObjOk X.prog X.w H s.heap ea (excO ea (.ref C)) from I.hok ea _ he).1
  obtain ⟨its, rv, pl, _⟩ := I.tuple (SqT.of (K := X.K) ht)
  obtain ⟨o, ho, hcl, n, hd⟩ := (show s.heap.IsTuple tp its.toArray from pl)
  cases clVs_rel hc rv
  cases o with
  | mk oc od oda osl =>
    cases hcl
    cases hd
    exact PySem.W.kia_tup (kitx_exc L) I.kIn p ho e (fun z => nomatch z) fun tk => ⟨.bl b, H, I.tok tk, rfl, q⟩
end
end L2

namespace L2
open PySem PySem.Spec PyProof.Rows
variable {X : Cx}
theorem pe_gint {x : Str} {i : Int} {pos : Pos} (hg : Gl X x) (h : ∃ t, X.mg x = some (.int i t)) (hd : (x == ("__debug__" : Str)) = false := by decide) : PE X (.Name x pos) (tC (.int i)) := by
  obtain ⟨t, h⟩ := h
  exact pe_glob hg h ⟨t, rfl⟩ hd
end L2

namespace L2
open PySem PySem.Spec PyProof.Rows
variable {X : Cx}
theorem pi_or {tg e : Expr} {w1 w2 : TI} (h1 : PI X tg e w1) (h2 : PI X tg e w2) : PI X tg e (fun σ H R => w1 σ H R ∨ w2 σ H R) := fun pins s σ H R I h => h.elim (h1 pins s σ H R I) (h2 pins s σ H R I)
end L2
namespace Ep
open PySem L2 PySem.SeqAt
structure ErrA where
  net : Addr
  nonet : Addr
  nolane : Addr
  nowalker : Addr
  many : Addr
  notext : Addr
  norow : Addr
  noname : Addr
end Ep

namespace L2
open PySem PySem.Spec PyProof.Rows
end L2

namespace L2
open PySem PySem.Spec PyProof.Rows PyProof.V PySem.SeqAt
section
variable {X : Cx}
end
end L2
namespace Ep
open PySem L2 PySem.SeqAt PySem.Spec PyProof.Rows
end Ep

namespace L2
open PySem PySem.Spec PyProof.Rows
section
variable {X : Cx} {tg : Expr}
end
end L2

namespace L2
open PySem PySem.Spec PyProof.Rows
def n2 (a b : Int) : Nat := ((b - a + 1) / 2).toNat
section
variable {X : Cx} {tg : Expr}
end
end L2
namespace Ep
open PySem L2 PySem.SeqAt
structure NoNetT (K : PySem.W.Frag) (mg : Str → Option Value) (a : Addr) : Prop where
  q_NoNet : PySem.W.excIn K a veB "ValueError.__new__" = true
  at_NoNet : mg "NoNet" = some (.ref a)
end Ep
namespace L2
open PySem
theorem FnOk.down {P : Program} {w : World} {K : PySem.W.Frag} {mg : Str → Option Value} {base : Heap} {k : Nat} {f : Addr} {fd : FuncData} {ps : List Str} {sp : Sp} (F : FnOk P w K mg base (CX1 P w) k f fd ps sp) (h : ∀ vs H Q E, sp vs H Q E → sp vs H Q fun _ _ _ => False) : FnOk P w K mg base CX0 k f fd ps sp :=
  ⟨F.len, fun A outer s H args us vs Q E hr e0 hb r hs => codeAny_mono (F.run A outer s H args us vs Q (fun _ _ _ => False) hr e0 hb r (h _ _ _ _ hs)) fun res s' q => by
    cases res with
    | ok fl => cases fl with
      | ret u => exact q
      | next => exact q
      | brk => exact q
      | cont => exact q
    | error e =>
      obtain ⟨_, _, _, _, _, _, _, _, _, _, _, _, _, z⟩ := q
      exact z.elim⟩
end L2
namespace Ep
open PySem L2 PySem.SeqAt
end Ep

namespace L2
open PySem PySem.Spec PyProof.Rows
section
variable {P : Program} {w : World} {A : Around} {E : Value → Shared → Prop}
variable {s : Shared}
end
section
variable {X : Cx} {pos : Pos}
end
end L2

namespace Ep
open PySem L2 PySem.SeqAt
end Ep
namespace Ep
open PySem L2 PySem.SeqAt
end Ep
namespace Ep
open PySem L2 PySem.SeqAt
end Ep
namespace Ep
open PySem L2 PySem.SeqAt
end Ep
namespace Ep
open PySem L2 PySem.SeqAt
end Ep
namespace Ep
open PySem L2 PySem.SeqAt
end Ep
namespace Ep
open PySem L2 PySem.SeqAt
end Ep

namespace L2
open PySem PySem.Spec PyProof.Rows
variable {X : Cx}
end L2
namespace Ep
open PySem L2 PySem.SeqAt
end Ep

namespace L2
open PySem PySem.Spec PyProof.Rows
section
variable {X : Cx}
def tNewD : TE := fun _ H Q => ∀ p, H p = none → Q (.ref p) (upd H p (.dK []))
theorem pe_dict0 {pos : Pos} : PE X (.Dict [] [] pos) tNewD := by
  intro pins s σ H Q I h
  refine wpAny_Dict_empty ?_
  have ok : ObjOk X.prog X.w (upd H s.heap.objs.size (.dK [])) (s.heap.push { cls := .type "dict", data := .dict #[] }) s.heap.objs.size (.dK []) := by
    refine ⟨Nat.zero_le _, ?_, [], .nil, Heap.DictOf.new s.heap⟩
    have g : mainGlobals < s.heap.objs.size := (I.mod.glob.keeps I.bk).lt
    have b : sysModules < mainGlobals := by decide
    exact beq_eq_false_iff_ne.mpr (fun z => by rw [z] at g; exact absurd (Nat.lt_trans b g) (Nat.lt_irrefl _))
  exact ⟨.ref s.heap.objs.size, _, I.laid (t' := s.toks) (fun _ _ q => Heap.get?_push_of_some _ q) (Nat.le_refl _) ok, rfl, h _ (I.hok.fresh (Nat.le_refl _))⟩
structure PEs (X : Cx) (e : Expr) (t : TE) : Prop where
  h : PE X e t
theorem pe_dict0S {pos : Pos} : PEs X (.Dict [] [] pos) tNewD := PEs.mk pe_dict0
structure PAs (X : Cx) (es : List Expr) (t : TA) : Prop where
  h : PA X es t
theorem pas_nil : PAs X [] tNil := PAs.mk pa_nil
theorem pas_consD {e : Expr} {es : List Expr} {te : TE} {t : TA} (ha : PEs X e te) (hr : PAs X es t) (hs : starEach (e :: es) X.env = (false, eval e X.env) :: starEach es X.env := by rfl) : PAs X (e :: es) (tCons te t) := PAs.mk (pa_cons ha.h hr.h hs)
end
end L2
namespace Ep
open PySem L2 PySem.SeqAt
inductive Odd (H : Hp) : V → Prop
  | bl (b : Bool) : Odd H (.bl b)
  | non : Odd H .non
  | str (s : Str) : Odd H (.str s)
  | lst {a : Addr} {xs : List V} (h : H a = some (.lst xs)) : Odd H (.ref a)
  | tup {a : Addr} {xs : List V} (h : H a = some (.tup xs)) : Odd H (.ref a)
  | dct {a : Addr} {kvs : List (Key × V)} (h : H a = some (.dK kvs)) : Odd H (.ref a)
theorem Odd.same {H H' : Hp} {x : V} (h : Odd H x) (s : Same H H') : Odd H' x := by
  cases h with
  | bl b => exact .bl b
  | non => exact .non
  | str z => exact .str z
  | lst h => exact .lst (s _ _ h)
  | tup h => exact .tup (s _ _ h)
  | dct h => exact .dct (s _ _ h)
def halved (i : Int) : Prop := i = 1 ∨ i = 2 ∨ i = 4 ∨ i = 8
instance (i : Int) : Decidable (halved i) := inferInstanceAs (Decidable (i = 1 ∨ i = 2 ∨ i = 4 ∨ i = 8))
def SqW (H : Hp) (l : Addr) (ws : List (Int × Int)) : Prop := ∃ rs, (H l = some (.lst rs) ∨ H l = some (.tup rs)) ∧ Refs H rs ws
end Ep

namespace Ep
open PySem L2 PySem.SeqAt
theorem t03 (c0 c1 c2 c3 c4 c5 c6 c7 : Int) : letM [c0, c1, c2, c3, c4, c5, c6, c7] (0, 3) = [(c0 + c3 + 1) / 2, c1, c2, (c0 + c3) / 2, c4, c5, c6, c7] := rfl
end Ep

namespace Ep
open PySem L2 PySem.SeqAt
theorem cut_take (xs : List V) (n : Nat) : cutV xs none (some (n : Int)) = xs.take n := by
  by_cases h : n ≤ xs.length
  · exact cut_first h
  · unfold cutV
    rw [HT.sIx_nat, HT.sIx_none, Nat.min_eq_right (by (first | lia | omega))]
    simp
    rw [List.take_of_length_le (by (first | lia | omega))]
end Ep

namespace L2
open PySem PySem.Spec PyProof.Rows
section
variable {X : Cx}
inductive P_call_isTT (K : PySem.W.Frag) (xs : List V) (H : Hp) (Q : VK) : Prop
  | mk (x : _) (tp : _) (t : _) (cs : _) (ts : _) (b : _) (h1 : xs = [x, .ref tp]) (h2 : TyOf K H x t) (h3 : H tp = some (.tup cs)) (h4 : clVs cs = some ts) (h5 : PySem.W.kitAny K t ts = some b) (h6 : Q (.bl b) H) : P_call_isTT K xs H Q
theorem call_isTT : CallR X (.builtin "isinstance") (P_call_isTT X.K) := by
  intro pins s σ H xs us Q I r h
  obtain ⟨x, tp, t, cs, ts, b, rfl, ty, ht, hc, e, q⟩ := h
  obtain ⟨u, v, rfl, ru, rv⟩ := r.two
  cases rv
  obtain ⟨its, rv, pl, _⟩ := I.tuple (SqT.of (K := X.K) ht)
  obtain ⟨o, ho, hcl, n, hd⟩ := (show s.heap.IsTuple tp its.toArray from pl)
  cases clVs_rel hc rv
  cases o with
  | mk oc od oda osl =>
    cases hcl
    cases hd
    have h : ∀ tk, ∃ y H', Inv X pins σ H' { s with toks := tk } ∧ RelV y (Value.bool b) ∧ Q y H' := fun tk => ⟨.bl b, H, I.tok tk, rfl, q⟩
    cases ty with
    | non => cases (show u = Value.none from ru); exact PySem.W.kia_tup PySem.W.kitx_none I.kIn True.intro ho e (fun z => nomatch z) h
    | bl y => cases (show u = Value.bool y from ru); exact PySem.W.kia_tup PySem.W.kitx_bool I.kIn True.intro ho e (fun z => nomatch z) h
    | int i => obtain ⟨t, q⟩ := (show ∃ t, u = Value.int i t from ru); cases q; exact PySem.W.kia_tup PySem.W.kitx_int I.kIn True.intro ho e (fun z => nomatch z) h
    | str y => obtain ⟨t, q⟩ := (show ∃ t, u = Value.str y t from ru); cases q; exact PySem.W.kia_tup PySem.W.kitx_str I.kIn True.intro ho e (fun z => nomatch z) h
    | flt y => obtain ⟨t, q⟩ := (show ∃ t, u = Value.float y t from ru); cases q; exact PySem.W.kia_tup PySem.W.kitx_float I.kIn True.intro ho e (fun z => nomatch z) h
    | @lst a xs ea =>
      cases (show u = Value.ref a from ru)
      obtain ⟨_, _, n, _, h1⟩ := (show ObjOk X.prog X.w H s.heap a (.lst xs) from I.hok a _ ea)
      exact PySem.W.kia_tup PySem.W.kitx_list I.kIn ⟨_, h1, rfl⟩ ho e (fun z => nomatch z) h
    | @frz a ob xs ea =>
      cases (show u = Value.ref a from ru)
      obtain ⟨_, _, _, n, _, h1⟩ := (show ObjOk X.prog X.w H s.heap a (.frz ob (.lst xs)) from I.hok a _ ea)
      exact PySem.W.kia_tup PySem.W.kitx_list I.kIn ⟨_, h1, rfl⟩ ho e (fun z => nomatch z) h
    | @tup a xs ea =>
      cases (show u = Value.ref a from ru)
      obtain ⟨_, _, _, p⟩ := (show ObjOk X.prog X.w H s.heap a (.tup xs) from I.hok a _ ea)
      obtain ⟨o, h1, h2, _⟩ := p
      exact PySem.W.kia_tup PySem.W.kitx_tuple I.kIn ⟨o, h1, h2⟩ ho e (fun z => nomatch z) h
    | @dK a kvs ea =>
      cases (show u = Value.ref a from ru)
      obtain ⟨_, _, vs, _, p⟩ := (show ObjOk X.prog X.w H s.heap a (.dK kvs) from I.hok a _ ea)
      obtain ⟨o, es, ep, h1, h2, _⟩ := p
      exact PySem.W.kia_tup PySem.W.kitx_dict I.kIn ⟨o, h1, h2.1⟩ ho e (fun z => nomatch z) h
    | @dT a kvs ea =>
      cases (show u = Value.ref a from ru)
      obtain ⟨_, _, xs, _, o, es, ep, h1, h2, _⟩ := (show ObjOk X.prog X.w H s.heap a (.dT kvs) from I.hok a _ ea)
      exact PySem.W.kia_tup PySem.W.kitx_dict I.kIn ⟨o, h1, h2.1⟩ ho e (fun z => nomatch z) h
    | @ins a C dx fs ea cl ha hn htk hm =>
      cases (show u = Value.ref a from ru)
      obtain ⟨mA, O, _⟩ := ins_get I.hok ea
      obtain ⟨od, J, _⟩ := O.look
      exact PySem.W.kia_tup (PySem.W.kitx_own (cl.get _) cl.hd ha hn htk hm) I.kIn J ho e (fun z => nomatch z) h
end
end L2
namespace Ep
open PySem L2 PySem.SeqAt
def Th (H : Hp) (x : V) : Prop := (∃ i, x = .int i) ∨ Odd H x
theorem Th.same {H H' : Hp} {x : V} (h : Th H x) (s : Same H H') : Th H' x := h.imp id fun o => o.same s
theorem Th.back {H H' : Hp} {a : Addr} (h : Th H (.ref a)) (s : Same H H') {o : HO} (e : H' a = some o) : H a = some o := by
  rcases h with ⟨i, z⟩ | z
  · cases z
  · cases z with
    | lst h => rw [s _ _ h] at e; exact h.trans e
    | tup h => rw [s _ _ h] at e; exact h.trans e
    | dct h => rw [s _ _ h] at e; exact h.trans e
def isI : V → Bool
  | .int _ => true
  | _ => false
theorem odd_notI {H : Hp} {x : V} (h : Odd H x) : isI x = false := by cases h <;> rfl
inductive SpWholeTP (vs : List V) (H : Hp) (Q : VK) : Prop
  | mk (x : _) (h1 : vs = [x]) (h2 : Th H x) (h3 : Q (.bl (isI x)) H) : SpWholeTP vs H Q
def spWholeT : Sp := fun vs H Q _ => SpWholeTP  vs H Q
def laneB (wide : Int) : V → Bool
  | .int i => decide (0 ≤ i ∧ i < wide)
  | _ => false
theorem odd_notL {H : Hp} {x : V} {wide : Int} (h : Odd H x) : laneB wide x = false := by cases h <;> rfl
inductive SpLaneTP (vs : List V) (H : Hp) (Q : VK) : Prop
  | mk (wide : Int) (x : V) (h1 : vs = [.int wide, x]) (h2 : Th H x) (h3 : Q (.bl (laneB wide x)) H) : SpLaneTP vs H Q
def spLaneT : Sp := fun vs H Q _ => SpLaneTP  vs H Q
structure ThW (H : Hp) (x : V) : Prop where
  th : Th H x
  two : ∀ a y z, x = .ref a → H a = some (.tup [y, z]) → Th H y ∧ Th H z
theorem ThW.same {H H' : Hp} {x : V} (h : ThW H x) (s : Same H H') : ThW H' x := ⟨h.th.same s, fun a y z e k => by
  subst e
  obtain ⟨p, q⟩ := h.two a y z rfl (h.th.back s k)
  exact ⟨p.same s, q.same s⟩⟩
def IsW (wide : Int) (H : Hp) (x : V) : Prop := ∃ t a b, x = .ref t ∧ H t = some (.tup [.int a, .int b]) ∧ LaneOk wide (a, b)
theorem IsW.same {wide : Int} {H H' : Hp} {x : V} (h : IsW wide H x) (s : Same H H') : IsW wide H' x := let ⟨t, a, b, e, k, l⟩ := h; ⟨t, a, b, e, s _ _ k, l⟩
theorem IsW.back {wide : Int} {H H' : Hp} {x : V} (h : IsW wide H' x) (t : Th H x) (s : Same H H') : IsW wide H x := by
  obtain ⟨t', a, b, rfl, k, l⟩ := h
  exact ⟨t', a, b, rfl, t.back s k, l⟩
theorem isW_iff {wide : Int} {H H' : Hp} {x : V} (t : Th H x) (s : Same H H') : IsW wide H' x ↔ IsW wide H x := ⟨fun h => h.back t s, fun h => h.same s⟩
theorem IsW.thw {wide : Int} {H : Hp} {x : V} (h : IsW wide H x) : ThW H x := by
  obtain ⟨t, a, b, rfl, k, l⟩ := h
  refine ⟨.inr (.tup k), fun a' y z e k' => ?_⟩
  cases e
  rw [k] at k'
  cases k'
  exact ⟨.inl ⟨_, rfl⟩, .inl ⟨_, rfl⟩⟩
inductive SpWickTP (vs : List V) (H : Hp) (Q : VK) : Prop
  | mk (wide : Int) (x : V) (h1 : vs = [.int wide, x]) (h2 : ThW H x) (h3 : ∀ b : Bool, (b = true ↔ IsW wide H x) → Q (.bl b) H) : SpWickTP vs H Q
def spWickT : Sp := fun vs H Q _ => SpWickTP  vs H Q
def Sq (H : Hp) (l : Addr) (rs : List V) : Prop := H l = some (.lst rs) ∨ H l = some (.tup rs)
theorem Sq.same {H H' : Hp} {l : Addr} {rs : List V} (h : Sq H l rs) (s : Same H H') : Sq H' l rs := h.imp (s _ _) (s _ _)
theorem Sq.inj {H : Hp} {l : Addr} {rs us : List V} (h : Sq H l rs) (k : Sq H l us) : rs = us := by
  rcases h with h | h <;> rcases k with k | k <;> rw [h] at k <;> cases k <;> rfl
inductive SpAreTP (vs : List V) (H : Hp) (Q : VK) : Prop
  | mk (wide : Int) (l : Addr) (rs : List V) (h1 : vs = [.int wide, .ref l]) (h2 : Sq H l rs) (h3 : rs.length ≤ 2000) (h4 : (∀ x ∈ rs, ThW H x)) (h5 : ∀ (b : Bool) (H' : Hp), Same H H' → (b = true ↔ rs.length ≤ 40 ∧ ∀ x ∈ rs, IsW wide H x) → Q (.bl b) H') : SpAreTP vs H Q
def spAreT : Sp := fun vs H Q _ => SpAreTP  vs H Q
structure ThL (H : Hp) (y : V) : Prop where
  th : Th H y
  each : ∀ a rs, y = .ref a → Sq H a rs → rs.length ≤ 2000 ∧ ∀ x ∈ rs, ThW H x
theorem ThL.same {H H' : Hp} {y : V} (h : ThL H y) (s : Same H H') : ThL H' y := ⟨h.th.same s, fun a rs e k => by
  subst e
  obtain ⟨p, q⟩ := h.each a rs rfl (k.imp (h.th.back s) (h.th.back s))
  exact ⟨p, fun x hx => (q x hx).same s⟩⟩
def Makes (H : Hp) (x y : V) : Prop := ∃ wide l rs, x = .int wide ∧ 1 ≤ wide ∧ wide ≤ 8 ∧ y = .ref l ∧ Sq H l rs ∧ rs.length ≤ 40 ∧ ∀ z ∈ rs, IsW wide H z
inductive SpMakesTP (vs : List V) (H : Hp) (Q : VK) : Prop
  | mk (x y : V) (h1 : vs = [x, y]) (h2 : Th H x) (h3 : ThL H y) (h4 : ∀ (b : Bool) (H' : Hp), Same H H' → (b = true ↔ Makes H x y) → Q (.bl b) H') : SpMakesTP vs H Q
def spMakesT : Sp := fun vs H Q _ => SpMakesTP  vs H Q
theorem refs_isW {wide : Int} {H : Hp} {rs : List V} {ws : List (Int × Int)} (h : Refs H rs ws) (ok : WOk wide ws) : ∀ z ∈ rs, IsW wide H z := fun z hz => by
  obtain ⟨i, hi⟩ := List.getElem?_of_mem hz
  obtain ⟨w0, t0, hw0, rfl, ht0⟩ := h.get hi
  exact ⟨t0, w0.1, w0.2, rfl, ht0, ok w0 (List.mem_of_getElem? hw0)⟩
theorem SqW.makes {H : Hp} {l : Addr} {wide : Int} {ws : List (Int × Int)} (h : SqW H l ws) (w1 : 1 ≤ wide) (w8 : wide ≤ 8) (ok : WOk wide ws) (len : ws.length ≤ 40) : Makes H (.int wide) (.ref l) ∧ ThL H (.ref l) := by
  obtain ⟨rs, k, r⟩ := h
  have lr := r.len
  refine ⟨⟨wide, l, rs, rfl, w1, w8, rfl, k, by (first | lia | omega), refs_isW r ok⟩, ⟨.inr (k.elim .lst .tup), fun a us e k' => ?_⟩⟩
  cases e
  cases Sq.inj k k'
  exact ⟨by (first | lia | omega), fun x hx => (refs_isW r ok x hx).thw⟩
inductive SpNetTP (an : Addr) (vs : List V) (H : Hp) (Q : VK) (E : XK) : Prop
  | mk (x y : V) (h1 : vs = [x, y]) (h2 : Th H x) (h3 : ThL H y) (h4 : ((¬ Makes H x y ∧ ∀ H', Same H H' → E (.ref an) none H') ∨ ∃ (wide : Int) (l : Addr) (ws : List (Int × Int)), x = .int wide ∧ y = .ref l ∧ SqW H l ws ∧ 1 ≤ wide ∧ wide ≤ 8 ∧ WOk wide ws ∧ ws.length ≤ 40 ∧ ∀ (v : V) (H' : Hp), Same H H' → Net H' v wide ws → Q v H')) : SpNetTP an vs H Q E
def spNetT (an : Addr) : Sp := fun vs H Q E => SpNetTP an vs H Q E
inductive SpNetNP (vs : List V) (H : Hp) (Q : VK) : Prop
  | mk (wide : Int) (l : Addr) (ws : List (Int × Int)) (h1 : vs = [.int wide, .ref l]) (h2 : SqW H l ws) (h3 : 1 ≤ wide) (h4 : wide ≤ 8) (h5 : WOk wide ws) (h6 : ws.length ≤ 40) (h7 : ∀ (v : V) (H' : Hp), Same H H' → Net H' v wide ws → Q v H') : SpNetNP vs H Q
def spNetN : Sp := fun vs H Q _ => SpNetNP  vs H Q
theorem net_n {an : Addr} (vs : List V) (H : Hp) (Q : VK) (E : XK) (h : spNetN vs H Q E) : spNetT an vs H Q E := by
  obtain ⟨wide, l, ws, rfl, sq, w1, w8, ok, len, q⟩ := h
  exact ⟨_, _, rfl, .inl ⟨_, rfl⟩, (sq.makes w1 w8 ok len).2, .inr ⟨wide, l, ws, rfl, rfl, sq, w1, w8, ok, len, q⟩⟩
theorem pair_thw {H : Hp} {t : Addr} {a b : Int} (h : H t = some (.tup [.int a, .int b])) : ThW H (.ref t) := by
  refine ⟨.inr (.tup h), fun a' y z e k' => ?_⟩
  cases e
  rw [h] at k'
  cases k'
  exact ⟨.inl ⟨_, rfl⟩, .inl ⟨_, rfl⟩⟩
end Ep

namespace L2
open PySem PySem.Spec PyProof.Rows
open AutoSeq1 (wpAny_loadPart')
section
variable {prog : Program} {w : World} {A : Around} {E : Value → Shared → Prop} {s : Shared}
end
section
variable {prog : Program} {w : World} {A : Around} {E : Value → Shared → Prop} {s : Shared}
end
variable {X : Cx}
end L2

namespace L2
open PySem PySem.Spec PyProof.Rows
section
variable {X : Cx} {C : Addr} {m : Str} {k : Nat} {ps : List Str} {sp : Sp} {o e : Expr} {es : List Expr} {ta : TE} {t : TA} {pos apos : Pos}
end
end L2
namespace Ep
open PySem L2 PySem.SeqAt
end Ep

namespace Ep
open PySem L2 PySem.SeqAt
theorem ffI {p : Prop} (h : ¬ p) : (false = true) ↔ p := ⟨fun z => Bool.noConfusion z, fun z => absurd z h⟩
theorem ttI {p : Prop} (h : p) : (true = true) ↔ p := ⟨fun _ => h, fun _ => rfl⟩
theorem at0 (y : V) (ys : List V) : atI (y :: ys) 0 = some y := by
  unfold atI ixN
  simp
end Ep

namespace L2
open PySem PySem.Spec PyProof.Rows
open AutoSeq1 (wpAny_loadPart')
variable {X : Cx}
theorem noFill_tuple_mul : fillsNumberSlot (.type "tuple") "mul" = pure false :=
  PySem.fillsNumberSlot_seq (id := "tuple.__mul__") (r := some (.builtin "tuple.__rmul__")) F.slot_tuple_mul.lookup (by decide +kernel) F.slot_tuple_rmul.lookup (by decide +kernel)
theorem repeat_tuple : seqRepeat? (.type "tuple") = pure (some (.builtin "tuple.__mul__")) := by
  unfold seqRepeat?
  rw [PySem.seqSlot_of (T := "tuple") (name := "__mul__") (id := "tuple.__mul__") F.slot_tuple_mul.lookup (by decide +kernel), PySem.seqSlot_of (T := "tuple") (name := "__rmul__") (id := "tuple.__rmul__") F.slot_tuple_rmul.lookup (by decide +kernel)]
  rfl
theorem int_rmul_tuple (a : Int) (t : Tok) (l : Addr) (items : Array Value) (n : Nat) (dd : Option Addr) (sl : Array (Option Value)) :
    Meets (Builtin.«int.__rmul__» ⟨[.int a t, .ref l], []⟩) (fun _ R s => s.heap.get? l = some { cls := .type "tuple", dict := dd, data := .seq items n, slots := sl } ∧ R (.ok (.ret Value.notImplemented)) s) :=
  .of_wp fun prog w A R s h => by
    obtain ⟨hp, g, d, tk, os⟩ := s; obtain ⟨hl, h⟩ := h
    wp_walk
    exact ⟨_, rfl, h⟩
theorem tuple_mul_int (l : Addr) (items : Array Value) (n : Nat) (dd : Option Addr) (sl : Array (Option Value)) (x : Int) (u : Tok) (h0 : items.isEmpty = false) (h1 : 2 ≤ x) (h2 : items.size * x.toNat ≤ 1000) :
    Meets (Builtin.«tuple.__mul__» ⟨[.ref l, .int x u], []⟩) (fun _ R s => s.heap.get? l = some { cls := .type "tuple", dict := dd, data := .seq items n, slots := sl } ∧ R (.ok (.ret (.ref s.heap.objs.size))) { s with heap := s.heap.push { cls := .type "tuple", data := .seq ((List.replicate x.toNat items).foldl (· ++ ·) #[]) } }) :=
  .of_wp fun prog w A R s h => by
    obtain ⟨hp, g, d, tk, os⟩ := s; obtain ⟨hl, h⟩ := h
    have hs : 1 ≤ items.size := by
      cases e : items.size with
      | zero => rw [Array.isEmpty_iff_size_eq_zero.mpr e] at h0; cases h0
      | succ k => (first | lia | omega)
    have hx : x.toNat ≤ 1000 := Nat.le_trans (Nat.le_mul_of_pos_left _ hs) h2
    have hz : (items.size : Int) * x ≤ 1000 := by
      have : ((items.size * x.toNat : Nat) : Int) ≤ 1000 := by (first | lia | omega)
      rw [Int.natCast_mul, Int.toNat_of_nonneg (by (first | lia | omega))] at this
      exact this
    wp_walk using wpAny_loadPart' hl
    rw [if_neg (by simp; (first | lia | omega))]
    wp_walk using wpAny_loadPart' hl
    rw [if_neg (by simp [h0]; (first | lia | omega))]
    wp_walk
    rw [if_neg (by simp [h0]; (first | lia | omega))]
    wp_walk
    rw [if_neg (by (first | lia | omega))]
    wp_walk
    rw [if_neg (by unfold Builtin.Tuple.tupleTooMany; simp only [decide_eq_true_eq, Int.not_lt]; exact Int.le_trans hz (by decide))]
    have e : (List.foldl (fun x1 x2 => x1 ++ x2) #[] (List.replicate x.toNat items)).size ≤ 1000 := by
      have z : ∀ (k : Nat) (b : Array Value), (List.foldl (fun x1 x2 => x1 ++ x2) b (List.replicate k items)).size = b.size + k * items.size := by
        intro k
        induction k with
        | zero => intro b; simp
        | succ k ih => intro b; rw [List.replicate_succ, List.foldl_cons, ih, Array.size_append, Nat.succ_mul]; (first | lia | omega)
      rw [z, Nat.mul_comm]
      simpa using h2
    show wpAny _ _ (Builtin.Tuple.tupleExact _ >>= fun v => ret v) _ _ _
    unfold Builtin.Tuple.tupleExact
    refine wpAny_bind (wpAny_newObj_type ?_ (lenLine (by (first | lia | omega))))
    exact wpAny_pure ⟨_, rfl, h⟩
inductive RRepTP (x : V) (y : V) (H : Hp) (Q : VK) : Prop
  | mk (l : Addr) (k : Int) (xs : List V) (h1 : x = .ref l) (h2 : y = .int k) (h3 : H l = some (.tup xs)) (h4 : 1 ≤ xs.length) (h5 : 2 ≤ k) (h6 : xs.length * k.toNat ≤ 1000) (h7 : ∀ p, H p = none → Q (.ref p) (upd H p (.tup (List.replicate k.toNat xs).flatten))) : RRepTP x y H Q
def rRepT : R2 := fun x y H Q => RRepTP x y H Q
theorem op_repT : OpR X (binaryOp .Mult) rRepT := by
  intro pins s σ H x y v u Q I rx ry h
  obtain ⟨l, k, xs, rfl, rfl, hH, h1, h2, hz, q⟩ := h
  cases rx
  obtain ⟨t, rfl⟩ := ry
  obtain ⟨its, r, p1, _⟩ := I.tuple (SqT.of (K := X.K) hH)
  obtain ⟨⟨c1, d1, k1, l1⟩, ho, hc, n, hd⟩ := id p1
  cases hc; cases hd
  have hl : xs.length = its.length := r.length
  have hnew : List.foldl (fun x1 x2 => x1 ++ x2) #[] (List.replicate k.toNat its.toArray) = (List.replicate k.toNat its).flatten.toArray := by
    have := foldl_rep its k.toNat []
    rw [List.nil_append] at this
    exact this
  have he : its.toArray.isEmpty = false := by
    cases its with
    | nil => rw [show xs.length = 0 from hl] at h1; (first | lia | omega)
    | cons a b => rfl
  refine wpAny_binaryOp_repeat_ref (T := "tuple") (U := "int") (by decide) ⟨_, ho, rfl⟩ (fun s' => typeIs_int s' k t) noFill_tuple_mul F.fills_int_mul F.slot_int_rmul repeat_tuple F.slot_int_index.lookup
    (call_meets F.slot_int_rmul (typeIs_int s k t) F.entry_int_rmul (F.args_int_rmul_2 _ _) (int_rmul_tuple k t l its.toArray n d1 l1)
      ⟨ho, rfl, ⟨_, ho, rfl⟩, call_meets F.slot_tuple_mul ⟨_, ho, rfl⟩ F.entry_tuple_mul (F.args_tuple_mul_2 _ _) (tuple_mul_int l its.toArray n d1 l1 k t he h2 (by rw [List.size_toArray, ← hl]; exact hz)) ⟨ho, ?_⟩⟩)
  rw [hnew]
  have I2 : Inv X pins σ (upd H s.heap.objs.size (.tup (List.replicate k.toNat xs).flatten)) { s with heap := s.heap.push { cls := .type "tuple", data := .seq (List.replicate k.toNat its).flatten.toArray } } :=
    I.laid (t' := s.toks) (fun b o e => Heap.get?_push_of_some _ e) (Nat.le_refl _) (show ObjOk X.prog X.w _ _ _ (.tup (List.replicate k.toNat xs).flatten) from ⟨by rw [len_rep]; exact lenLine (by rw [Nat.mul_comm]; (first | lia | omega)), _, r.rep k.toNat, IsTupD.new _ _⟩)
  exact ⟨.ref _, _, I2, rfl, q _ I.fresh⟩
end L2

namespace Ep
open PySem L2 PySem.SeqAt PyProof.Rows
end Ep

namespace L2
open PySem PySem.Spec PyProof.Rows
variable {X : Cx}
end L2

namespace L2
open PySem PySem.Spec PyProof.Rows
section
variable {κ : Type} [DecidableEq κ]
end


abbrev KT (H : Hp) : List (List Key × V) → List (List Key × Addr × Value) → Prop := Paired fun p q => p.1 = q.1 ∧ H q.2.1 = some (.tup (p.1.map kV)) ∧ RelV p.2 q.2.2
section
variable {P : Program} {w : World} {H : Hp} {h : Heap} {a : Addr}
end

section
variable {X : Cx} {pins : List (Addr × Obj)} {σ : St} {H : Hp} {s : Shared} {a : Addr} {y v : V} {u r : Value} {o : Option V} {A : Around} {E : Value → Shared → Prop}

end

section
variable {X : Cx} {pins : List (Addr × Obj)} {σ : St} {H : Hp} {s : Shared} {a : Addr} {kvs : List (Key × V)} {k : Key} {u : Value} {A : Around} {E : Value → Shared → Prop}
end


section
variable {X : Cx} {o i e value : Expr} {pos pos' tpos : Pos} {td ty tv : TE}
end


section
variable {X : Cx} {pos : Pos}
end

section
variable {X : Cx} {pins : List (Addr × Obj)} {σ : St} {H : Hp} {s : Shared} {a : Addr} {y d : V} {u r : Value} {o : Option V} {A : Around} {E : Value → Shared → Prop}
end

section
variable {X : Cx} {o e f : Expr} {apos cpos : Pos} {td ty tx : TE}
end

section
variable {X : Cx} {pins : List (Addr × Obj)} {σ : St} {H : Hp} {s : Shared} {a : Addr} {kvs : List (Key × V)} {A : Around} {E : Value → Shared → Prop}
end


section
variable {X : Cx} {pins : List (Addr × Obj)} {σ : St} {H : Hp} {s : Shared} {a : Addr} {y : V} {u : Value} {A : Around} {E : Value → Shared → Prop}
end
end L2

namespace Ep
open PySem L2 PySem.SeqAt
end Ep
namespace Ep
open PySem L2 PySem.SeqAt
end Ep
namespace L2
open PySem PySem.Spec PyProof.Rows
variable {X : Cx}
theorem q_lst {es : List Expr} {t : TA} {pos : Pos} (h : PAs X es t) : PEs X (.List es pos) (tLst t) := PEs.mk (pe_lst h.h)
theorem q_tup {es : List Expr} {t : TA} {k : _} {pos : Pos} (h : PAs X es t) : PEs X (.Tuple es k pos) (tTup t) := PEs.mk (pe_tup h.h)
end L2
namespace Ep
open PySem L2 PySem.SeqAt
end Ep
namespace L2
open PySem PySem.Spec PyProof.Rows
variable {X : Cx}
end L2
namespace Ep
open PySem L2 PySem.SeqAt
end Ep
namespace Ep
open PySem L2 PySem.SeqAt
end Ep
namespace Ep
open PySem L2 PySem.SeqAt
end Ep
namespace Ep
open PySem L2 PySem.SeqAt
end Ep

namespace L2
open PySem PySem.Spec PyProof.Rows PySem.SeqAt
open AutoSeq1 (wpAny_loadPart')
variable {X : Cx}
end L2

namespace Ep
open PySem L2 PySem.SeqAt PyProof.Rows
end Ep

namespace Ep
open PySem L2 PySem.SeqAt PyProof.Rows
end Ep

namespace L2
open PySem PySem.Spec PyProof.Rows
section
variable {prog : Program} {w : World} {A : Around} {E : Value → Shared → Prop} {s : Shared}
end
variable {X : Cx}
end L2

namespace L2
open PySem PySem.Spec PyProof.Rows
open PySem.W (CodeHd tabObj kla_fn kla_obj envX)
section
variable {X : Cx} {pins : List (Addr × Obj)} {σ : St} {H : Hp} {s : Shared} {A : Around} {E : Value → Shared → Prop} {Q : Value → Shared → Prop} {c P : Addr} {params : Arguments} {body : Expr} {scope : Scope} {pos : Pos} {clos : List (Str × Addr)}
end
section
variable {X : Cx} {pins : List (Addr × Obj)} {σ : St} {H : Hp} {s : Shared} {A : Around} {params : Arguments} {body : Expr} {scope : Scope} {x y qual : Str} {j : Nat} {f c' cy P : Addr} {pm ctv u : Value} {v wv : V} {tb : TE} {Q : VK} {q : Str × Int × Int}
end
section
variable {X : Cx} {pins : List (Addr × Obj)} {σ : St} {rows : List V} {l q S It : Addr} {J : Hp → Heap → Prop} {kf : Nat → Int}
end
end L2

namespace Ep
open PySem L2
end Ep
namespace L2
open PySem PySem.Spec PyProof.Rows
variable {X : Cx}
end L2

namespace Ep
open PySem L2 PySem.SeqAt
end Ep

namespace L2
end L2
namespace Ep
open PySem L2 PySem.SeqAt
end Ep

namespace Ep
open PySem L2 PySem.SeqAt
end Ep

namespace Ep
open PySem L2 PySem.SeqAt
end Ep

namespace Ep
open PySem L2 PySem.SeqAt PyProof.Rows
structure Txt (d : PyData) (m n : Nat) : Prop where
  sh : d.showable = true
  nd : d.hasDict = false
  dp : d.depth ≤ m
  ln : d.shown.length ≤ n
  cl : d.canLay0 = true
end Ep

namespace L2
open PySem PySem.Spec PyProof.Rows
section
variable {X : Cx}
end
end L2

namespace L2
open PySem PySem.Spec PyProof.Rows HT
section
variable {prog : Program} {w : World} {A : Around} {E : Value → Shared → Prop} {s : Shared}
end
section
variable {X : Cx}
end
end L2
namespace Ep
open PySem L2 PySem.SeqAt PyProof.Rows
end Ep

namespace L2
open PySem PySem.Spec PyProof.Rows
section
variable {X : Cx}
theorem vals_of_strs : ∀ {us : List Value} {ys : List Str}, Vals (ys.map V.str) us → StrsAre us ys
  | _, [], .nil => .nil
  | _, y :: r, .cons ⟨t, rfl⟩ h => .cons y t (vals_of_strs h)
inductive RJoinP (K : PySem.W.Frag) (x : V) (xs : List V) (H : Hp) (Q : VK) : Prop
  | mk (sep : Str) (l : Addr) (ys : List Str) (h1 : x = .str sep) (h2 : xs = [.ref l]) (h3 : SqL K H l (ys.map V.str)) (h4 : (ys.map (·.length)).sum + ys.length * sep.length ≤ 16777216) (h5 : Q (.str (Txt.join sep ys)) H) : RJoinP K x xs H Q
theorem mt_join : MtR X "str.join" (RJoinP X.K) := by
  intro pins s σ H x xs v us Q I rx rv h
  obtain ⟨sep, l, ys, rfl, rfl, hl, hz, q⟩ := h
  obtain ⟨t, rfl⟩ := rx
  obtain ⟨u, rfl, ru⟩ := rv.one
  cases ru
  obtain ⟨its, r, p, _⟩ := I.list hl
  exact join_list p.isList (vals_of_strs r) hz fun t' k => ⟨.str _, H, I.kept (t' := k) fun _ _ e => e, ⟨_, rfl⟩, q⟩
inductive RStartsP (x : V) (xs : List V) (H : Hp) (Q : VK) : Prop
  | mk (a b : Str) (h1 : x = .str a) (h2 : xs = [.str b]) (h3 : Q (.bl (Txt.startswith a b)) H) : RStartsP x xs H Q
theorem mt_startswith : MtR X "str.startswith" RStartsP := by
  intro pins s σ H x xs v us Q I rx rv h
  obtain ⟨a, b, rfl, rfl, q⟩ := h
  obtain ⟨t, rfl⟩ := rx
  obtain ⟨u, rfl, t', rfl⟩ := rv.one
  exact SC.startswith ⟨.bl _, H, I, rfl, q⟩
inductive RPartP (x : V) (xs : List V) (H : Hp) (Q : VK) : Prop
  | mk (a b : Str) (h1 : x = .str a) (h2 : xs = [.str b]) (h3 : (b.length == 0) = false) (h4 : a.length ≤ sizeLine) (h5 : ∀ t, H t = none → Q (.ref t) (upd H t (.tup [.str (Txt.partition a b).1, .str (Txt.partition a b).2.1, .str (Txt.partition a b).2.2]))) : RPartP x xs H Q
theorem mt_partition : MtR X "str.partition" RPartP := by
  intro pins s σ H x xs v us Q I rx rv h
  obtain ⟨a, b, rfl, rfl, hb, ha, q⟩ := h
  obtain ⟨t, rfl⟩ := rx
  obtain ⟨u, rfl, t', rfl⟩ := rv.one
  refine call_meets F.slot_str_partition (typeIs_str _ _ _) F.entry_str_partition (F.args_str_partition_2 _ _) (meets_str_partition a b t t' hb ha) ?_
  unfold Txt.partition at q
  cases ho : Builtin.Str.occurrences a b 0 a.length 1 with
  | nil =>
    rw [ho] at q
    refine ⟨.ref s.heap.objs.size, _, I.laid (t' := s.toks + 1) (o := .tup [.str a, .str Str.empty, .str Str.empty]) (fun b ob q => Heap.get?_push_of_some _ q) (Nat.le_refl _) ?_, rfl, q _ (I.hok.fresh (Nat.le_refl _))⟩
    exact ⟨lenLine (by show 3 ≤ 100000; decide), _, .cons ⟨_, rfl⟩ (.cons ⟨_, rfl⟩ (.cons ⟨_, rfl⟩ .nil)), IsTupD.new _ _⟩
  | cons i r =>
    rw [ho] at q
    refine ⟨.ref s.heap.objs.size, _, I.laid (t' := s.toks + 1 + 1) (o := .tup [.str (Builtin.Str.strSub a 0 i), .str b, .str (Builtin.Str.strSub a (i + b.length) a.length)]) (fun b ob q => Heap.get?_push_of_some _ q) (Nat.le_refl _) ?_, rfl, q _ (I.hok.fresh (Nat.le_refl _))⟩
    exact ⟨lenLine (by show 3 ≤ 100000; decide), _, .cons ⟨_, rfl⟩ (.cons ⟨_, rfl⟩ (.cons ⟨_, rfl⟩ .nil)), IsTupD.new _ _⟩
theorem vals_strs : ∀ (n : Nat) (l : List Str), Vals (l.map V.str) (strsFrom n l)
  | _, [] => .nil
  | n, y :: r => .cons ⟨_, rfl⟩ (vals_strs (n + 1) r)
inductive RSplitP (x : V) (xs : List V) (H : Hp) (Q : VK) : Prop
  | mk (a b : Str) (h1 : x = .str a) (h2 : xs = [.str b]) (h3 : (b.length == 0) = false) (h4 : a.length ≤ 100000) (h5 : ∀ l, H l = none → Q (.ref l) (upd H l (.lst ((Txt.split a b).map V.str)))) : RSplitP x xs H Q
theorem mt_split : MtR X "str.split" RSplitP := by
  intro pins s σ H x xs v us Q I rx rv h
  obtain ⟨a, b, rfl, rfl, hb, ha, q⟩ := h
  obtain ⟨t, rfl⟩ := rx
  obtain ⟨u, rfl, t', rfl⟩ := rv.one
  have one : ∀ tk : Nat, Txt.split a b = [a] → EP X pins σ Q (.ref s.heap.objs.size) { s with heap := s.heap.push { cls := .type "list", data := .seq [Value.str a t].toArray }, toks := tk } := fun tk e => by
    rw [e] at q
    refine ⟨.ref s.heap.objs.size, _, I.laid (t' := tk) (o := .lst [.str a]) (fun b ob q => Heap.get?_push_of_some _ q) (Nat.le_refl _) ?_, rfl, q _ (I.hok.fresh (Nat.le_refl _))⟩
    exact ⟨lenLine (by show 1 ≤ 100000; decide), _, 0, .cons ⟨_, rfl⟩ .nil, Heap.get?_push_size _ rfl⟩
  cases h1 : (decide (a.length < b.length) || decide (Builtin.Str.strKind a < Builtin.Str.strKind b))
  · cases hf : (Builtin.Str.occurrences a b 0 a.length (a.length + 1)).isEmpty
    · have e : Txt.split a b = Builtin.Str.partsBetween a (Builtin.Str.occurrences a b 0 a.length (a.length + 1)) b.length := by
        unfold Txt.split
        rw [if_neg (ne_true_of_eq_false h1), if_neg (ne_true_of_eq_false hf)]
      have hn := split_le a b
      rw [e] at hn q
      refine call_meets F.slot_str_split (typeIs_str _ _ _) F.entry_str_split (F.args_str_split_2 _ _) (meets_str_split_sep a b t t' h1 hb hf (lenLine ha) (Nat.le_trans hn (by rw [PySem.sizeLine_eq]; (first | lia | omega)))) ?_
      refine ⟨.ref s.heap.objs.size, _, I.laid (t' := s.toks + (Builtin.Str.partsBetween a (Builtin.Str.occurrences a b 0 a.length (a.length + 1)) b.length).length) (o := .lst ((Builtin.Str.partsBetween a (Builtin.Str.occurrences a b 0 a.length (a.length + 1)) b.length).map V.str)) (fun b ob q => Heap.get?_push_of_some _ q) (Nat.le_refl _) ?_, rfl, q _ (I.hok.fresh (Nat.le_refl _))⟩
      exact ⟨by rw [List.length_map]; exact Nat.le_trans hn (by rw [PySem.sizeLine_eq]; (first | lia | omega)), _, 0, vals_strs _ _, Heap.get?_push_size _ rfl⟩
    · have e : Txt.split a b = [a] := by
        unfold Txt.split
        rw [if_neg (ne_true_of_eq_false h1), if_pos hf]
      exact call_meets F.slot_str_split (typeIs_str _ _ _) F.entry_str_split (F.args_str_split_2 _ _) (meets_str_split_not_found a b t t' h1 hb hf) (one s.toks e)
  · have e : Txt.split a b = [a] := by
      unfold Txt.split
      rw [if_pos h1]
    exact call_meets F.slot_str_split (typeIs_str _ _ _) F.entry_str_split (F.args_str_split_2 _ _) (meets_str_split_cannot_occur a b t t' h1) (one s.toks e)
inductive RIntSP (xs : List V) (H : Hp) (Q : VK) : Prop
  | mk (x : Str) (n : Int) (h1 : xs = [.str x]) (h2 : PySem.intText? x = some n) (h3 : x.length ≤ 640) (h4 : Q (.int n) H) : RIntSP xs H Q
theorem call_intS : CallR X (.type "int") RIntSP := by
  intro pins s σ H xs us Q I r h
  obtain ⟨x, n, rfl, hn, hl, q⟩ := h
  obtain ⟨u, rfl, t, rfl⟩ := r.one
  exact PySem.W.KIN.call_text hn hl ⟨.int n, H, I.tok _, ⟨_, rfl⟩, q⟩
def Itx (x : Str) : It := ⟨fun i _ => i < x.cps.size, fun i H v H' => H' = H ∧ ∃ c, x.cps[i]? = some c ∧ v = .str ⟨#[c]⟩, fun i _ => x.cps.size ≤ i⟩
theorem turn_ascii {P : Program} {w : World} {K : PySem.W.Frag} {tg : Expr} (x : Str) (t : Tok) (it : Addr) : Turn P w K tg (Itx x) [it] it (fun i h => h.IsStrIter it "str_ascii_iterator" x t i) where
  mem := by simp
  obj := fun i h st b hb => by
    have e : b = it := by simpa using hb
    subst e
    obtain ⟨o, e, c, d⟩ := st
    exact ⟨o, e, fun v z => by rw [d] at z; cases z⟩
  keep := fun i h h' st k => by
    obtain ⟨o, e, r⟩ := st
    exact ⟨o, k it (by simp) o e, r⟩
  item := by
    intro X hP hw hK hc i pins s σ H E I hf st hg
    subst hP hw hK
    have hi : i < x.cps.size := hg
    obtain ⟨f0, f1, f2, f3, f4, f5⟩ := hf it (by simp)
    refine wpAny_pyNext_ascii_item st (c := x.cps[i]) (by simp [hi]) fun h' st' sb => ?_
    have I1 : Inv X pins σ H { s with heap := h', toks := s.toks + 1 } := I.turned (t' := s.toks + 1) (fun b o hb e => (sb.2 b hb).trans e) f0 f1 f3 f4 f5
    obtain ⟨o, e, c, d⟩ := id st'
    exact ⟨_, rfl, go_of (s := { s with heap := h', toks := s.toks + 1 }) e c d (by decide) ⟨.str ⟨#[x.cps[i]]⟩, H, I1, ⟨_, rfl⟩, ⟨rfl, x.cps[i], by simp [hi], rfl⟩, st', fun b hb => (hf b hb).1⟩⟩
  done := by
    intro X hP hw hK hc i pins s σ H E I hf st hg
    subst hP hw hK
    have hi : x.cps.size ≤ i := hg
    obtain ⟨f0, f1, f2, f3, f4, f5⟩ := hf it (by simp)
    exact wpAny_pyNext_ascii_end (I.ok.hd hc) st (by simp; (first | lia | omega)) fun h' eb => ⟨rfl, I.turned (t' := s.toks) (fun b o hb e => eb b o hb e) f0 f1 f3 f4 f5⟩
  self := fun _ _ _ _ _ st h => wpAny_pyIter_striter_ascii st h
theorem turn_wide {P : Program} {w : World} {K : PySem.W.Frag} {tg : Expr} (x : Str) (t : Tok) (it : Addr) : Turn P w K tg (Itx x) [it] it (fun i h => h.IsStrIter it "str_iterator" x t i) where
  mem := by simp
  obj := fun i h st b hb => by
    have e : b = it := by simpa using hb
    subst e
    obtain ⟨o, e, c, d⟩ := st
    exact ⟨o, e, fun v z => by rw [d] at z; cases z⟩
  keep := fun i h h' st k => by
    obtain ⟨o, e, r⟩ := st
    exact ⟨o, k it (by simp) o e, r⟩
  item := by
    intro X hP hw hK hc i pins s σ H E I hf st hg
    subst hP hw hK
    have hi : i < x.cps.size := hg
    obtain ⟨f0, f1, f2, f3, f4, f5⟩ := hf it (by simp)
    refine wpAny_pyNext_wide_item st (c := x.cps[i]) (by simp [hi]) fun h' st' sb => ?_
    have I1 : Inv X pins σ H { s with heap := h', toks := s.toks + 1 } := I.turned (t' := s.toks + 1) (fun b o hb e => (sb.2 b hb).trans e) f0 f1 f3 f4 f5
    obtain ⟨o, e, c, d⟩ := id st'
    exact ⟨_, rfl, go_of (s := { s with heap := h', toks := s.toks + 1 }) e c d (by decide) ⟨.str ⟨#[x.cps[i]]⟩, H, I1, ⟨_, rfl⟩, ⟨rfl, x.cps[i], by simp [hi], rfl⟩, st', fun b hb => (hf b hb).1⟩⟩
  done := by
    intro X hP hw hK hc i pins s σ H E I hf st hg
    subst hP hw hK
    have hi : x.cps.size ≤ i := hg
    obtain ⟨f0, f1, f2, f3, f4, f5⟩ := hf it (by simp)
    exact wpAny_pyNext_wide_end (I.ok.hd hc) st (by simp; (first | lia | omega)) fun h' eb => ⟨rfl, I.turned (t' := s.toks) (fun b o hb e => eb b o hb e) f0 f1 f3 f4 f5⟩
  self := fun _ _ _ _ _ st h => wpAny_pyIter_striter_wide st h
theorem pi_str {tg l : Expr} {tl : TE} (hl : PE X l tl) : PI X tg l (fun σ H R => tl σ H fun v H1 => ∃ x, v = .str x ∧ R (Itx x) H1) := by
  intro pins s σ H R I h
  refine thn (hl pins s σ H _ I h) fun v s1 ⟨y, H1, I1, r1, x, ex, q⟩ => ?_
  subst ex
  obtain ⟨t, rfl⟩ := r1
  have fp : ∀ b ∈ [s1.heap.objs.size], FpOk X pins H1 b := fun b hb => by
    have e : b = s1.heap.objs.size := by simpa using hb
    subst e
    exact I1.fpOk (Nat.le_refl _) (I1.hok.fresh (Nat.le_refl _))
  cases ha : x.cps.all (· < 128)
  · refine wpAny_pyIter_wide ha ?_
    exact ⟨s1.heap.objs.size, [s1.heap.objs.size], _, _, H1, rfl, I1.kept (t' := s1.toks) fun b o e => Heap.get?_push_of_some _ e, turn_wide x t _, ⟨_, Heap.get?_push_size _ rfl, rfl, rfl⟩, fp, q⟩
  · refine wpAny_pyIter_ascii ha ?_
    exact ⟨s1.heap.objs.size, [s1.heap.objs.size], _, _, H1, rfl, I1.kept (t' := s1.toks) fun b o e => Heap.get?_push_of_some _ e, turn_ascii x t _, ⟨_, Heap.get?_push_size _ rfl, rfl, rfl⟩, fp, q⟩
theorem comp_str {x : Str} {own : Nat} {caps : List Nat} {g : TG} {tt : TT} {te : TE} {σ : St} {R : Hp → Prop} {l : Addr} {H1 : Hp} (Pv : Nat → List V → Hp → Prop) (h0 : Pv 0 [] (upd H1 l (.lst []))) (hz : x.cps.size ≤ sizeLine)
    (hl : ∀ i ys H, Pv i ys H → H l = some (.lst ys) ∧ ys.length ≤ i)
    (hs : ∀ i c ys H, x.cps[i]? = some c → Pv i ys H → g (.str ⟨#[c]⟩) (stC own caps σ) H fun σ2 H2 => Wk (stC own caps σ) σ2 ∧
      tt σ2 H2 fun b H3 => if b = true then te σ2 H3 fun y H4 => H4 l = some (.lst ys) ∧ Pv (i + 1) (ys ++ [y]) (upd H4 l (.lst (ys ++ [y]))) else Pv (i + 1) ys H3)
    (hd : ∀ ys H, Pv x.cps.size ys H → R H) :
    ∃ W : Nat → Nat → List V → Hp → Prop, (∃ m, W 0 m [] (upd H1 l (.lst []))) ∧
      ∀ i m ys H, W i m ys H → H l = some (.lst ys) ∧ (((Itx x).stop i H ∧ R H) ∨ ((Itx x).go i H ∧ ys.length < sizeLine ∧ ∃ N : List V → Hp → Prop, (∀ ys' H', N ys' H' → ∃ m', m' < m ∧ W (i + 1) m' ys' H') ∧
        ∀ v H', (Itx x).yld i H v H' → g v (stC own caps σ) H' fun σ2 H2 => Wk (stC own caps σ) σ2 ∧
        tt σ2 H2 fun b H3 => if b = true then te σ2 H3 fun y H4 => H4 l = some (.lst ys) ∧ N (ys ++ [y]) (upd H4 l (.lst (ys ++ [y]))) else N ys H3)) := by
  refine ⟨fun i m ys H => m = x.cps.size - i ∧ i ≤ x.cps.size ∧ Pv i ys H, ⟨x.cps.size, by simp, Nat.zero_le _, h0⟩, ?_⟩
  rintro i m ys H ⟨rfl, hi, p⟩
  obtain ⟨e1, e2⟩ := hl i ys H p
  refine ⟨e1, ?_⟩
  by_cases hlt : i < x.cps.size
  · refine .inr ⟨hlt, by (first | lia | omega), Pv (i + 1), fun ys' H' p' => ⟨x.cps.size - (i + 1), by (first | lia | omega), rfl, hlt, p'⟩, fun v H' y => ?_⟩
    obtain ⟨e, c, hc, y⟩ := y
    subst e y
    exact hs i c ys _ hc p
  · have e : i = x.cps.size := by (first | lia | omega)
    subst e
    exact .inl ⟨Nat.le_refl _, hd ys H p⟩
end
end L2
namespace L2
open PySem PySem.Spec PyProof.Rows
section
variable {X : Cx}
def fromS (x : Str) (n : Nat) : Str := ⟨(x.cps.toList.drop n).toArray⟩
theorem fromS_idx (x : Str) (n : Nat) : Builtin.Str.strSliceIndices (some (n : Int)) none 1 x.length = Builtin.Str.strSliceIndices (some (n : Int)) (some (x.length : Int)) 1 x.length := by
    have h2 : ¬ ((x.length : Int) < 0) := by (first | lia | omega)
    have e2 : max (0 : Int) (min (x.length : Int) (x.length : Int)) = x.length := by (first | lia | omega)
    unfold Builtin.Str.strSliceIndices
    simp only [h2, if_false, e2]
    simp
theorem fromS_pick (x : Str) {n : Nat} (h : n ≤ x.length) : (Builtin.Str.strSliceIndices (some (n : Int)) none 1 x.length).filterMap (x.cps[·]?) = x.cps.toList.drop n := by
  have e := fromS_idx x n
  rw [e, StrLaws.sliced_plain x h (Nat.le_refl _)]
  refine List.take_of_length_le ?_
  rw [List.length_drop]
  have : x.cps.toList.length = x.length := Array.length_toList
  (first | lia | omega)
def rSlS : V → Option Int → Option Int → Hp → VK → Prop := fun x lo hi H Q => ∃ (a : Str) (n : Nat), x = .str a ∧ lo = some (n : Int) ∧ hi = none ∧ n ≤ a.length ∧ a.length ≤ sizeLine ∧ Q (.str (fromS a n)) H
theorem sl_str : SlR X rSlS := by
  intro pins s σ H x v vl vu lo hi sl Q I rx hs pl pu h
  obtain ⟨a, n, rfl, rfl, rfl, hn, hz, q⟩ := h
  obtain ⟨t, rfl⟩ := rx
  cases pu
  cases pl with
  | int i tk =>
  refine ⟨"str", _, PyProof.Rows.slot_str_getitem.lookup, typeIs_str _ _ _, ?_⟩
  have hs' : s.heap.IsSlice sl (some ((n : Int), tk)) none none := hs
  refine wpAny_getItem_str_slice hs' (by decide) ?_
  unfold sliceMade
  have ep : (slicePicked a (some ((n : Int), tk)) none none).filterMap (a.cps[·]?) = a.cps.toList.drop n := fromS_pick a hn
  split
  · rename_i hw
    rw [Bool.and_eq_true] at hw
    have h2 : (slicePicked a (some ((n : Int), tk)) none none).length = a.length := eq_of_beq hw.2
    have h3 : (slicePicked a (some ((n : Int), tk)) none none).length = a.length - n := by
      show (Builtin.Str.strSliceIndices (some (n : Int)) none 1 a.length).length = _
      rw [fromS_idx, StrLaws.strSliceIndices_plain hn (Nat.le_refl _), List.length_map, List.length_range]
    have n0 : n = 0 := by (first | lia | omega)
    have : fromS a n = a := by
      rw [n0]
      unfold fromS
      simp
    rw [this] at q
    exact ⟨.str a, H, I, ⟨_, rfl⟩, q⟩
  · refine ⟨?_, ⟨.str _, H, I.tok _, ⟨_, rfl⟩, ?_⟩⟩
    · rw [ep]
      show (a.cps.toList.drop n).toArray.size ≤ sizeLine
      rw [List.size_toArray, List.length_drop]
      have : a.cps.toList.length = a.length := Array.length_toList
      (first | lia | omega)
    · rw [ep]; exact q
end
end L2
namespace L2
open PySem PySem.Spec PyProof.Rows
theorem pe_gstr {X : Cx} {x y : Str} {pos : Pos} (hg : Gl X x) (h : ∃ t, X.mg x = some (.str y t)) (hd : (x == ("__debug__" : Str)) = false := by decide) : PE X (.Name x pos) (tC (.str y)) := by
  obtain ⟨t, h⟩ := h
  exact pe_glob hg h ⟨t, rfl⟩ hd
end L2
namespace L2
open PySem PySem.Spec PyProof.Rows
theorem boot_strT : bootBuiltins "str" = some (.type "str") := by decide +kernel
theorem call_str_intK {X : Cx} (K : PySem.W.Frag) (hK : X.K = K) : CallR X (.type "str") (P_call_str_int K) := by subst hK; exact call_str_int
end L2

namespace Ep
open PySem L2 PySem.SeqAt PyProof.Rows
def Ls (x : Str) : List Nat := x.cps.toList
def Mk (l : List Nat) : Str := ⟨l.toArray⟩
theorem mk_ls (x : Str) : Mk (Ls x) = x := by
  unfold Mk Ls
  simp
theorem ls_inj {x y : Str} (h : Ls x = Ls y) : x = y := by rw [← mk_ls x, h, mk_ls]
theorem ls_app (x y : Str) : Ls (x ++ y) = Ls x ++ Ls y := by
  show (x.cps ++ y.cps).toList = _
  rw [Array.toList_append]
  rfl
theorem ls_len (x : Str) : (Ls x).length = x.length := Array.length_toList
theorem len_app (x y : Str) : (x ++ y).length = x.length + y.length := by rw [← ls_len, ls_app, List.length_append, ls_len, ls_len]
theorem at_one {x : Str} {c i : Nat} : StrLaws.At x ⟨#[c]⟩ x.length i ↔ (Ls x)[i]? = some c := StrLaws.subAt_one x c i
theorem part_one {a b : List Nat} {c : Nat} (h : c ∉ a) : Txt.partition (Mk (a ++ c :: b)) ⟨#[c]⟩ = (Mk a, ⟨#[c]⟩, Mk b) := by
  have hc : (a ++ c :: b)[a.length]? = some c := by simp
  rcases StrLaws.occ_head (Mk (a ++ c :: b)) ⟨#[c]⟩ 1 (Nat.le_refl _) with ⟨_, no⟩ | ⟨i, r, eo, ai, no⟩
  · exact absurd (at_one.mpr hc) (no a.length)
  · have hi : (a ++ c :: b)[i]? = some c := at_one.mp ai
    have i1 : ¬ a.length < i := fun z => no _ z (at_one.mpr hc)
    have i2 : ¬ i < a.length := fun z => by
      rw [List.getElem?_append_left z] at hi
      exact h (List.mem_of_getElem? hi)
    have e : i = a.length := by (first | lia | omega)
    subst e
    unfold Txt.partition
    rw [eo]
    refine Prod.ext ?_ (Prod.ext rfl ?_)
    · refine ls_inj ?_
      show ((Mk (a ++ c :: b)).cps.extract 0 a.length).toList = a
      unfold Mk
      simp
    · refine ls_inj ?_
      show ((Mk (a ++ c :: b)).cps.extract (a.length + 1) (Mk (a ++ c :: b)).length).toList = b
      unfold Mk
      simp [Str.length]
      exact List.take_of_length_le (by (first | lia | omega))
theorem cut_uni {a b a' b' : List Nat} {c : Nat} : ∀ (h : c ∉ a) (h' : c ∉ a') (e : a ++ c :: b = a' ++ c :: b'), a = a' ∧ b = b' := by
  induction a generalizing a' with
  | nil =>
    intro _ h' e
    cases a' with
    | nil => simp at e; exact ⟨rfl, e⟩
    | cons x r => simp at e; exact absurd (e.1 ▸ List.mem_cons_self) h'
  | cons x r ih =>
    intro h h' e
    cases a' with
    | nil => simp at e; exact absurd (e.1 ▸ List.mem_cons_self) h
    | cons y s =>
      simp at e
      obtain ⟨e1, e2⟩ := ih (fun z => h (List.mem_cons_of_mem _ z)) (fun z => h' (List.mem_cons_of_mem _ z)) e.2
      exact ⟨by rw [e.1, e1], e2⟩
theorem ls_join1 (c : Nat) (x y : Str) (r : List Str) : Ls (Str.join ⟨#[c]⟩ (x :: y :: r)) = Ls x ++ c :: Ls (Str.join ⟨#[c]⟩ (y :: r)) := by
  show Ls (x ++ ⟨#[c]⟩ ++ Str.join ⟨#[c]⟩ (y :: r)) = _
  rw [ls_app, ls_app, List.append_assoc]
  rfl
theorem join_inj {c : Nat} : ∀ (xs ys : List Str), xs ≠ [] → ys ≠ [] → (∀ p ∈ xs, c ∉ Ls p) → (∀ p ∈ ys, c ∉ Ls p) → Ls (Str.join ⟨#[c]⟩ xs) = Ls (Str.join ⟨#[c]⟩ ys) → xs = ys
  | [], _, h, _, _, _, _ => absurd rfl h
  | _, [], _, h, _, _, _ => absurd rfl h
  | [x], [y], _, _, _, _, e => by rw [ls_inj (show Ls x = Ls y from e)]
  | [x], y :: z :: r, _, _, hx, hy, e => by
    rw [ls_join1] at e
    have : c ∈ Ls x := by rw [show Ls x = _ from e]; simp
    exact absurd this (hx x (by simp))
  | x :: z :: r, [y], _, _, hx, hy, e => by
    rw [ls_join1] at e
    have : c ∈ Ls y := by rw [show Ls y = _ from e.symm]; simp
    exact absurd this (hy y (by simp))
  | x :: x2 :: r, y :: y2 :: s, _, _, hx, hy, e => by
    rw [ls_join1, ls_join1] at e
    obtain ⟨e1, e2⟩ := cut_uni (hx x (by simp)) (hy y (by simp)) e
    rw [ls_inj e1, join_inj (x2 :: r) (y2 :: s) (by simp) (by simp) (fun p hp => hx p (List.mem_cons_of_mem _ hp)) (fun p hp => hy p (List.mem_cons_of_mem _ hp)) e2]
theorem split_words {c : Nat} {ws : List Str} (ne : ws ≠ []) (h : ∀ p ∈ ws, c ∉ Ls p) : Txt.split (Str.join ⟨#[c]⟩ ws) ⟨#[c]⟩ = ws :=
  join_inj _ _ (fun z => by have := split_pos (Str.join ⟨#[c]⟩ ws) ⟨#[c]⟩; rw [z] at this; simp at this) ne (StrLaws.split_free _ c) h (by rw [StrLaws.join_split])
theorem join_glued (sep : Str) : ∀ l : List Str, Txt.join sep l = Str.join sep l := StrLaws.glued_eq_join sep
def dg (n : Int) : Nat := 48 + n.toNat
def numS (n : Int) : Str := toString n
theorem num_dg {n : Int} (h0 : 0 ≤ n) (h9 : n ≤ 9) : numS n = Mk [dg n] := by
  have c : n = 0 ∨ n = 1 ∨ n = 2 ∨ n = 3 ∨ n = 4 ∨ n = 5 ∨ n = 6 ∨ n = 7 ∨ n = 8 ∨ n = 9 := by (first | lia | omega)
  rcases c with e | e | e | e | e | e | e | e | e | e <;> subst e <;> decide +kernel
def wkS (w : Int × Int) : Str := Mk [dg w.1, 45, dg w.2]
def restL (ws : List (Int × Int)) : List Nat := ws.flatMap fun w => 32 :: Ls (wkS w)
def netS (wide : Int) (ws : List (Int × Int)) : Str := Mk (dg wide :: 58 :: restL ws)
def Fig (ws : List (Int × Int)) : Prop := ∀ w ∈ ws, 0 ≤ w.1 ∧ w.1 ≤ 9 ∧ 0 ≤ w.2 ∧ w.2 ≤ 9
theorem fig_ok {wide : Int} {ws : List (Int × Int)} (w8 : wide ≤ 8) (h : WOk wide ws) : Fig ws := fun w hw => by
  obtain ⟨a, b, c, d, _⟩ := h w hw
  exact ⟨a, by (first | lia | omega), c, by (first | lia | omega)⟩
theorem restL_len (ws : List (Int × Int)) : (restL ws).length = 4 * ws.length := by
  induction ws with
  | nil => rfl
  | cons w r ih =>
    have e : restL (w :: r) = (32 :: Ls (wkS w)) ++ restL r := rfl
    rw [e, List.length_append, ih, List.length_cons]
    show 4 + 4 * r.length = 4 * (r.length + 1)
    (first | lia | omega)
theorem netS_len (wide : Int) (ws : List (Int × Int)) : (netS wide ws).length = 4 * ws.length + 2 := by
  rw [← ls_len]
  show (dg wide :: 58 :: restL ws).length = _
  rw [List.length_cons, List.length_cons, restL_len]
theorem sum_len (f : (Int × Int) → Str) {n : Nat} : ∀ (ws : List (Int × Int)), (∀ w ∈ ws, (f w).length ≤ n) → ((ws.map f).map (·.length)).sum ≤ n * ws.length
  | [], _ => by simp
  | w :: r, h => by
    rw [List.map_cons, List.map_cons, List.sum_cons, List.length_cons]
    have a := h w List.mem_cons_self
    have b := sum_len f r fun x hx => h x (List.mem_cons_of_mem _ hx)
    rw [Nat.mul_add]
    (first | lia | omega)
theorem join_blank {x : Str} {f : Int × Int → Str} : ∀ (ws : List (Int × Int)), (∀ w ∈ ws, f w = wkS w) → Ls (Str.join ⟨#[32]⟩ (x :: ws.map f)) = Ls x ++ restL ws := by
  intro ws
  induction ws generalizing x with
  | nil => intro _; show Ls x = Ls x ++ []; rw [List.append_nil]
  | cons w r ih =>
    intro h
    rw [List.map_cons, ls_join1, ih fun y hy => h y (List.mem_cons_of_mem _ hy), h w List.mem_cons_self]
    rfl
theorem rest_join {w : Int × Int} {ws : List (Int × Int)} : restL (w :: ws) = 32 :: Ls (Str.join ⟨#[32]⟩ ((w :: ws).map wkS)) := by
  rw [List.map_cons, join_blank ws (fun _ _ => rfl)]
  rfl
theorem wk_free {c : Nat} (hc : c = 32) {w : Int × Int} (h : 0 ≤ w.1 ∧ w.1 ≤ 9 ∧ 0 ≤ w.2 ∧ w.2 ≤ 9) : c ∉ Ls (wkS w) := by
  subst hc
  show 32 ∉ [dg w.1, 45, dg w.2]
  unfold dg
  simp
  (first | lia | omega)
theorem dg_inj {a b : Int} (ha : 0 ≤ a) (hb : 0 ≤ b) (e : dg a = dg b) : a = b := by unfold dg at e; (first | lia | omega)
theorem rest_inj : ∀ {us ws : List (Int × Int)}, Fig us → Fig ws → restL us = restL ws → us = ws
  | [], [], _, _, _ => rfl
  | [], w :: r, _, _, e => by have := congrArg List.length e; rw [restL_len, restL_len] at this; simp at this
  | w :: r, [], _, _, e => by have := congrArg List.length e; rw [restL_len, restL_len] at this; simp at this
  | u :: r, w :: s, h, h', e => by
    have e' : 32 :: dg u.1 :: 45 :: dg u.2 :: restL r = 32 :: dg w.1 :: 45 :: dg w.2 :: restL s := e
    simp at e'
    obtain ⟨a1, a2, a3, a4⟩ := h u List.mem_cons_self
    obtain ⟨b1, b2, b3, b4⟩ := h' w List.mem_cons_self
    have x1 := dg_inj a1 b1 e'.1
    have x2 := dg_inj a3 b3 e'.2.1
    rw [rest_inj (fun x hx => h x (List.mem_cons_of_mem _ hx)) (fun x hx => h' x (List.mem_cons_of_mem _ hx)) e'.2.2, show u = w from Prod.ext x1 x2]
theorem net_inj {a b : Int} {us ws : List (Int × Int)} (ha : 0 ≤ a) (hb : 0 ≤ b) (h : Fig us) (h' : Fig ws) (e : netS a us = netS b ws) : a = b ∧ us = ws := by
  have e' : dg a :: 58 :: restL us = dg b :: 58 :: restL ws := congrArg Ls e
  simp at e'
  exact ⟨dg_inj ha hb e'.1, rest_inj h h' e'.2⟩
theorem small_log {n : Int} (h0 : 0 ≤ n) (h9 : n ≤ 9) : n.natAbs.log2 < 1920 := by
  have c : n = 0 ∨ n = 1 ∨ n = 2 ∨ n = 3 ∨ n = 4 ∨ n = 5 ∨ n = 6 ∨ n = 7 ∨ n = 8 ∨ n = 9 := by (first | lia | omega)
  rcases c with e | e | e | e | e | e | e | e | e | e <;> subst e <;> decide +kernel
theorem num_len {n : Int} (h0 : 0 ≤ n) (h9 : n ≤ 9) : (numS n).length = 1 := by rw [num_dg h0 h9]; rfl
theorem mix_ws2 : ∀ us ws : List (Int × Int), noMixAll (us.map pairD) (ws.map pairD) = true
  | [], [] => rfl
  | [], _ :: _ => rfl
  | _ :: _, [] => rfl
  | u :: us, w :: ws => by
    rw [List.map_cons, List.map_cons, noMixAll, mix_pair, mix_ws2 us ws]
    rfl
theorem mix_net2 (a b : Int) (us ws : List (Int × Int)) : noMix (netD a us) (netD b ws) = true := by
  show noMix (.tuple [.int a, .tuple (us.map pairD)]) (.tuple [.int b, .tuple (ws.map pairD)]) = true
  simp only [noMix, noMixAll, mix_ws2, Bool.and_true]
end Ep

namespace L2
open PySem PySem.Spec PyProof.Rows
section
variable {M : Model} {A : Around} {E : Value → Shared → Prop} {s : Shared}
theorem leaves_atW {base : Heap} {env : Env} {outer : List Env} {L e : Addr} {cls a0 fl : Value} {Q : Unit → Shared → Prop}
    (hfr : A.frames = some (env :: outer)) (hf : env.frame = some L) (hkb : base.StaysIn s.heap) (hen : base.get? e = none) (hl : s.heap.FunFrames base (env :: outer)) (ht : s.heap.TracedAtW base e cls a0 fl)
    (hQ : ∀ h', Heap.FlyingW base outer e cls a0 h' → s.heap.UpToSlots h' → Q () { s with heap := h' }) : wpAny M A (leaving env (.ref e)) Q E s := by
  by_cases c : fl = rawInt L
  · subst c
    unfold leaving
    refine wpAny_bind (wpAny_noteFrame_againW hf ht ?_)
    refine wpAny_landsW ⟨hkb, hen, hl, ht⟩ fun h' hfl hs => ?_
    obtain ⟨k1, k2, ⟨_, _, k3⟩, k4⟩ := hfl
    exact hQ h' ⟨k1, k2, k3, k4⟩ hs
  · obtain ⟨oe, vs, T, oT, ts, he, ⟨hcls, h0⟩, hd, h1, hnT, hTe, hT, hdT, h3⟩ := ht
    subst hcls
    unfold leaving noteFrame
    simp only [hf]
    refine wpAny_bind (wpAny_bind (wpAny_field he hd h1 ?_))
    rw [if_pos (show (Value.ref T != Value.none) = true from by simp)]
    refine wpAny_bind (wpAny_field hT hdT h3 ?_)
    rw [if_neg (show ¬ ((fl == rawInt L) = true) from by simpa using c)]
    refine wpAny_bind (wpAny_setField hT hdT (Array.getElem?_eq_some_iff.mp h3).1 ?_)
    have other : ∀ b, b ≠ T → (s.heap.update T (Obj.mapFields (·.setIfInBounds 3 Value.none))).get? b = s.heap.get? b := fun b hb => Heap.get?_update_other _ _ (Ne.symm hb)
    have noRecord : ∀ b o, s.heap.get? b = some o → (∀ vs, o.data ≠ .fields vs) → b ≠ T := fun b o hb hnf q => by
      rw [q, hT] at hb; injection hb with hb; subst hb; exact hnf ts hdT
    refine wpAny_newEntryW hfr (hl.of_keeps fun b o hb hnf => ⟨o, (other b (noRecord b o hb hnf)).trans hb, rfl⟩) hf ((other e (Ne.symm hTe)).trans he)
      (fun b o hbo => (other b fun q => by rw [q, hnT] at hbo; cases hbo).trans (hkb b o hbo)) hen hd (Array.getElem?_eq_some_iff.mp h1).1 h0
      fun h' ⟨x1, ⟨_, _, x2⟩, x3, x4⟩ => hQ h' ⟨x1, hen, x2, x3⟩ fun b o hb hnf => x4 b o ((other b (noRecord b o hb hnf)).trans hb) hnf
theorem setFlight_anyW {base : Heap} {l : List Env} {e : Addr} {cls a0 fl : Value} {fr : Option Addr} {Q : Unit → Shared → Prop}
    (hkb : base.StaysIn s.heap) (hl : s.heap.FunFrames base l) (ht : s.heap.TracedAtW base e cls a0 fl)
    (h : ∀ h', base.StaysIn h' → h'.FunFrames base l → h'.TracedAtW base e cls a0 (fr.elim Value.none fun f => rawInt f) → s.heap.UpToSlots h' → Q () { s with heap := h' }) :
    wpAny M A (setFlight (.ref e) fr) Q E s := by
  obtain ⟨oe, vs, T, oT, ts, he, hcls, hd, h1, hnT, hTe, hT, hdT, h3⟩ := ht
  have hsz3 : 3 < ts.size := (Array.getElem?_eq_some_iff.mp h3).1
  have other : ∀ b, b ≠ T → (s.heap.update T (Obj.mapFields (·.setIfInBounds 3 (fr.elim Value.none fun f => rawInt f)))).get? b = s.heap.get? b :=
    fun b hb => Heap.get?_update_other _ _ (Ne.symm hb)
  have noRecord : ∀ b o, s.heap.get? b = some o → (∀ vs, o.data ≠ .fields vs) → b ≠ T := fun b o hb hnf q => by
    rw [q, hT] at hb; injection hb with hb; subst hb; exact hnf ts hdT
  unfold setFlight
  refine wpAny_bind (wpAny_field he hd h1 ?_)
  rw [if_pos (show (Value.ref T != Value.none) = true from by simp)]
  refine wpAny_setField hT hdT hsz3 (h _ (fun b o hbo => (other b fun q => by rw [q, hnT] at hbo; cases hbo).trans (hkb b o hbo))
    (hl.of_keeps fun b o hb hnf => ⟨o, (other b (noRecord b o hb hnf)).trans hb, rfl⟩) ?_ fun b o hb hnf => ⟨o.slots, (other b (noRecord b o hb hnf)).trans hb⟩)
  exact ⟨oe, vs, T, _, _, (other e (Ne.symm hTe)).trans he, hcls, hd, h1, hnT, hTe, Heap.get?_update_self _ hT (Obj.isFreed_of_fields (Obj.data_mapFields hdT _)), Obj.data_mapFields hdT _, by simp [hsz3]⟩
end
theorem frames_but {h h' base : Heap} {C : Addr} (k : ∀ b o, b ≠ C → h.get? b = some o → h'.get? b = some o) : ∀ {l : List Env}, C ∉ frs l → h.FunFrames base l → h'.FunFrames base l
  | [], _, _ => trivial
  | env :: r, n, ⟨a, ⟨L, o, hf, hb, ho, hd⟩, rest⟩ => ⟨a, ⟨L, o, hf, hb, k L o (fun z => n (frame_mem List.mem_cons_self (by rw [hf, z]))) ho, hd⟩, frames_but k (fun z => n (by
      obtain ⟨e, he, hz⟩ := List.mem_filterMap.mp z
      exact frame_mem (List.mem_cons_of_mem _ he) hz)) rest⟩
section
variable {P : Program} {w : World} {K : PySem.W.Frag} {mg : Str → Option Value} {base : Heap} {N : List Str} {qual : Str} {scope : Scope} {f : Addr} {cd : Value} {A : Around} {outer : List Env} {s₀ : Shared} {H₀ : Hp} {E : XK}
  {pins : List (Addr × Obj)} {σ : St} {H : Hp} {s : Shared}
theorem xe_comp {C : Addr} {e : Value} {s' : Shared} {cenv : Env} {use : Option (Value → Sem Unit)} {Q : Value → Shared → Prop} {acc : Value} (I : Inv (XC P w K mg base N qual scope f cd A outer s₀ H₀ E) pins σ H s)
    (hC : H C = none) (nC : ∃ m, s.heap.Ns C m) (c0 : s₀.heap.objs.size < C) (cf : C ∉ frs outer) (hcf : cenv.frame = some s₀.heap.objs.size)
    (cx : CX1 P w (envOfC qual scope s₀.heap.objs.size f cd :: outer) H s E e s') :
    notedBy (model P w) (A.deeper (envOfC qual scope s₀.heap.objs.size f cd)) cenv (fun x s'' => compPost (model P w) (A.deeper (envOfC qual scope s₀.heap.objs.size f cd)) (XC P w K mg base N qual scope f cd A outer s₀ H₀ E).xe use Q acc C (.error x) s'') e s' := by
  obtain ⟨ea, cls, a0, B, H', rfl, os, bare, un, hok, fl, hea, kB, hE⟩ := cx
  have hst := I.stack
  have hfr := I.ok.frames
  have mem : ∀ {b : Addr}, b ∈ frs (envOfC qual scope s₀.heap.objs.size f cd :: outer) ↔ b = s₀.heap.objs.size ∨ b ∈ frs outer := fun {b} => by
    show b ∈ s₀.heap.objs.size :: frs outer ↔ _
    exact List.mem_cons
  have cF : C ∉ frs (envOfC qual scope s₀.heap.objs.size f cd :: outer) := fun z => by
    rcases mem.mp z with e | e
    · exact absurd e (Nat.ne_of_gt c0)
    · exact cf e
  have free : ∀ b ∈ frs (envOfC qual scope s₀.heap.objs.size f cd :: outer), H' b = none := fun b hb => by
    obtain ⟨_, o, ho, _⟩ := hst.mem (b := b) hb
    exact un.free b o ho (I.stkFree b hb) (List.not_mem_nil (a := b))
  have trk : ∀ b u, H' b = some u → b ∉ frs (envOfC qual scope s₀.heap.objs.size f cd :: outer) := fun b u q z => by
    rw [free b z] at q
    cases q
  have tr : Un (s₀.heap.objs.size :: frs outer) [] H₀ H' s₀.heap s'.heap := (I.base.mono (fs' := s₀.heap.objs.size :: frs outer) (fun b hb => List.mem_cons_of_mem _ hb) (fun b hb => hb)).trans un
  obtain ⟨m, oC, esC, epC, hoC, hdC, rC⟩ := nC
  have hC' : H' C = none := un.free C oC hoC hC (List.not_mem_nil (a := C))
  have oC' : s'.heap.get? C = some oC := un.keep C oC hoC hC cF (List.not_mem_nil (a := C))
  have old : ∀ b u, s₀.heap.get? b = some u → b ≠ C := fun b u q z => by
    have h := Heap.lt_size q
    rw [z] at h
    exact absurd h (Nat.not_lt.mpr (Nat.le_of_lt c0))
  have sub : (PySem.W.hideAll B [C]).StaysIn B := fun b o q => PySem.W.of_hideAll _ q
  have nB : (PySem.W.hideAll B [C]).get? C = none := PySem.W.hideAll_none _ (by simp)
  have fl1 := PySem.W.flyingW_base sub fl
  have kB1 : ∀ b o, b ≠ C → B.get? b = some o → (PySem.W.hideAll B [C]).get? b = some o := fun b o n q => PySem.W.hideAll_get _ q (by simpa using n)
  generalize PySem.W.hideAll B [C] = B1 at sub nB fl1 kB1
  have eN : noteFrame (.ref ea) cenv = noteFrame (.ref ea) (envOfC qual scope s₀.heap.objs.size f cd) := by
    unfold noteFrame PySem.frameOf
    rw [show cenv.frame = (envOfC qual scope s₀.heap.objs.size f cd).frame from hcf]
  show wpAny _ _ (noteFrame (.ref ea) cenv) _ _ s'
  rw [eN]
  refine wpAny_looks_onW hfr rfl fl1 fun h1 ⟨a1, a2, a3, a4⟩ up1 => ?_
  have oC1 := up1 C oC oC' (fun vs q => by rw [hdC] at q; cases q)
  refine ⟨m, up1.ns ⟨oC, esC, epC, oC', hdC, rC⟩, fun h2 sb2 cenv' hcl => ?_⟩
  have sb : ∀ b o, b ≠ C → h1.get? b = some o → h2.get? b = some o := fun b o n q => sb2.extBut b o n q
  obtain ⟨sl1, oC1⟩ := oC1
  have b2 : B1.StaysIn h2 := fun b o q => sb b o (fun z => by rw [z, nB] at q; cases q) (a1 b o q)
  have notF : ∀ b o, h1.get? b = some o → (∃ vs, o.data = .fields vs) → b ≠ C := fun b o q ⟨vs, d⟩ z => by
    rw [z, oC1] at q
    cases q
    rw [hdC] at d
    cases d
  have t2 : h2.TracedAtW B1 ea cls a0 (rawInt s₀.heap.objs.size) := by
    obtain ⟨oe, vs, T, oT, ts, he, hcls, hd, h1', hnT, hTe, hT, hdT, h3⟩ := a4
    exact ⟨oe, vs, T, oT, ts, sb _ _ (notF _ _ he ⟨_, hd⟩) he, hcls, hd, h1', hnT, hTe, sb _ _ (notF _ _ hT ⟨_, hdT⟩) hT, hdT, h3⟩
  have l2 : h2.FunFrames B1 (envOfC qual scope s₀.heap.objs.size f cd :: outer) := frames_but sb cF a3
  -- passed on
  unfold PySem.passOn
  obtain ⟨oe, vs, T, oT, ts, he, hcls, hd, h1', hnT, hTe, hT, hdT, h3⟩ := id t2
  refine wpAny_bind (wpAny_field he hd h1' ?_)
  rw [if_neg (show ¬ ((Value.ref T == Value.none) = true) from by simp)]
  clear h1' hnT hTe hT hdT h3 he hcls hd
  refine wpAny_bind (setFlight_anyW b2 l2 t2 fun h3 b3 l3 t3 up3 => wpAny_throw ?_)
  show wpAny _ _ (leaving (envOfC qual scope s₀.heap.objs.size f cd) (.ref ea)) _ _ _
  refine leaves_atW hfr rfl b3 a2 l3 t3 fun h4 fl' up4 => ?_
  have k2 : ∀ b o, b ≠ C → s'.heap.get? b = some o → b ∉ frs (envOfC qual scope s₀.heap.objs.size f cd :: outer) → ((∃ u, s.heap.get? b = some u) ∨ ∃ u, H' b = some u) → h4.get? b = some o := fun b o nc q n c => fl'.1 _ _ (kB1 b o nc (kB b o q n c))
  have tC : ∀ b u, H' b = some u → b ≠ C := fun b u q z => by rw [z, hC'] at q; cases q
  refine ⟨ea, cls, a0, B1, H', rfl, os.trans I.os, bare, ?_, ?_, fl', hea, ?_, hE⟩
  · refine Un.left tr I.notL I.ok.frf (fun b o q n ⟨u, c⟩ => k2 b o (old b u c) q n (.inl (I.base.there b u c (List.not_mem_nil (a := b))))) fun b o hb q => ?_
    obtain ⟨_, o', ho', hd⟩ := fl.2.2.1.mem (b := b) (mem.mpr (.inr hb))
    rw [q] at ho'
    cases ho'
    obtain ⟨sl, e1⟩ := up1 b o q hd
    have e2 := sb b _ (fun z => cf (z ▸ hb)) e1
    obtain ⟨sl3, e3⟩ := up3 b _ e2 hd
    obtain ⟨sl4, e4⟩ := up4 b _ e3 hd
    exact ⟨sl4, e4⟩
  · exact fun a o e => (hok a o e).stay (fun b u hb q => by
      rcases hb with rfl | hb
      · exact k2 b u (tC _ _ e) q (trk b _ e) (.inr ⟨_, e⟩)
      · exact k2 b u (tC _ _ hb) q (trk b _ hb) (.inr ⟨_, hb⟩)) (fun _ q => q) fun _ _ q => q
  · intro b o q n c
    have key : ∀ ob, b ≠ C → s'.heap.get? b = some ob → b ∉ frs (envOfC qual scope s₀.heap.objs.size f cd :: outer) → ((∃ u, s.heap.get? b = some u) ∨ ∃ u, H' b = some u) → B1.get? b = some o := fun ob nc z nb c => by
      have := k2 b ob nc z nb c
      rw [q] at this
      cases this
      exact kB1 b _ nc (kB b _ z nb c)
    rcases c with ⟨u, c⟩ | ⟨u, c⟩
    · obtain ⟨ob, z⟩ := tr.there b u c (List.not_mem_nil (a := b))
      refine key ob (old b u c) z (fun hm => ?_) (.inl (I.base.there b u c (List.not_mem_nil (a := b))))
      rcases mem.mp hm with e | e
      · exact I.notL b u c e
      · exact n e
    · obtain ⟨ob, z⟩ := (hok b u c).ex
      exact key ob (tC b u c) z (trk b u c) (.inr ⟨u, c⟩)
end
theorem compLoop_goE {prog : Program} {w : World} {A : Around} {R : Result → Shared → Prop} {s : Shared} {elt target iter : Expr} {ifs : List Expr} {scope : Scope} {pos : Pos} {it acc : Value} {env : Env} (I : Nat → Shared → Prop) (XE : Value → Shared → Prop) (hXE : ∀ e s', XE e s' → notedBy (model prog w) (A.under (.compLoop (.ListComp elt [⟨target, iter, ifs, 0⟩] scope pos) 0 it acc env)) env (fun x s' => R (.error x) s') e s')
    (turn : ∀ n s, I n s → wpAny (model prog w) A (pyNext it) (fun r s₁ => match r with
      | none => R (.ok .next) s₁
      | some v => wpAny (model prog w) A (letOwnedTupleGo target it v) (fun _ s₁' => wpAny (model prog w) A (assign target env v) (fun _ s₂ =>
          wpAny (model prog w) A (forIn ifs true fun c r => if r = true then do let ok ← isTrue c env (eval c env); pure (ForInStep.yield ok) else pure (ForInStep.yield r)) (fun ok s₃ =>
            if ok = true then wpAny (model prog w) A (eval elt env) (fun x s₄ =>
              wpAny (model prog w) A (call (.builtin "list.append") [acc, x]) (fun _ s₅ => ∃ m, m < n ∧ I m s₅) (fun _ _ => False) s₄) XE s₃
            else ∃ m, m < n ∧ I m s₃) (fun _ _ => False) s₂) (fun _ _ => False) s₁') (fun _ _ => False) s₁) (fun _ _ => False) s)
    (n : Nat) (h : I n s) :
    codeAny (model prog w) A (.compLoop (.ListComp elt [⟨target, iter, ifs, 0⟩] scope pos) 0 it acc env) R s := by
  refine codeAny_loop rfl I (fun n s hI => ?_) n h
  show wpAny _ A ((compTurn (.ListComp elt [⟨target, iter, ifs, 0⟩] scope pos) 0 it acc env).onRaise (fun x => do noteFrame x env; theTreesLotGoes x)) _ _ s
  refine wpAny_noted ?_
  rw [compTurn_list]
  refine wpAny_bind (wpAny_standAt (wpAny_bind (wpAny_mono (turn n s hI) (fun r s₁ h₁ => ?_) fun _ _ h' => False.elim h')))
  cases r with
  | none => exact wpAny_pure h₁
  | some v =>
    refine wpAny_bind (wpAny_mono h₁ (fun _ s₁' h₁' => ?_) fun _ _ h' => False.elim h')
    refine wpAny_bind (wpAny_mono h₁' (fun _ s₂ h₂ => wpAny_bind (wpAny_mono h₂ (fun ok s₃ h₃ => ?_) fun _ _ h' => False.elim h')) fun _ _ h' => False.elim h')
    cases ok with
    | false => exact wpAny_pure ⟨rfl, h₃⟩
    | true =>
      exact wpAny_bind (wpAny_bind (wpAny_mono h₃ (fun x s₄ h₄ => wpAny_bind (wpAny_mono h₄ (fun _ s₅ h₅ => wpAny_pure (wpAny_pure ⟨rfl, h₅⟩)) fun _ _ h' => False.elim h')) fun e s' h' => hXE e s' h'))

section
variable {P : Program} {w : World} {K : PySem.W.Frag} {mg : Str → Option Value} {base : Heap} {Nm : List Str} {qual : Str} {scope0 : Scope} {f : Addr} {cd : Value} {A : Around} {outer : List Env} {s₀ : Shared} {H₀ : Hp} {E : XK}
variable {tg elt iter : Expr} {ifs : List Expr} {scope : Scope} {pos : Pos} {wi : TI} {g : TG} {tt : TT} {te : TE}
theorem pe_compE (ownN : List Str) (caps : List (Str × Nat)) (hi : PI (XC P w K mg base Nm qual scope0 f cd A outer s₀ H₀ E) tg iter wi)
    (hg : ∀ cl C s H fp pn, PG (cxComp (XC P w K mg base Nm qual scope0 f cd A outer s₀ H₀ E) (ownN ++ caps.map (·.1)) scope cl C s H fp pn) tg g)
    (ht : ∀ cl C s H fp pn, PTs (cxComp (XC P w K mg base Nm qual scope0 f cd A outer s₀ H₀ E) (ownN ++ caps.map (·.1)) scope cl C s H fp pn) ifs tt)
    (he : ∀ cl C s H fp pn XE, Passes (CX1 P w) ((cxComp (XC P w K mg base Nm qual scope0 f cd A outer s₀ H₀ E) (ownN ++ caps.map (·.1)) scope cl C s H fp pn).wish XE) E → PE ((cxComp (XC P w K mg base Nm qual scope0 f cd A outer s₀ H₀ E) (ownN ++ caps.map (·.1)) scope cl C s H fp pn).wish XE) elt te)
    (hkind : scope.kind = .function := by rfl) (hcell : ∀ y ∈ scope.names, y.2 ≠ .cell := by decide)
    (hfr : (scope.names.all fun p => p.2 != .free || (XC P w K mg base Nm qual scope0 f cd A outer s₀ H₀ E).env.scope.names.lookup p.1 == some .cell) = true := by rfl)
    (hcp : (caps.all fun c => (XC P w K mg base Nm qual scope0 f cd A outer s₀ H₀ E).N[c.2]? == some c.1 && ((XC P w K mg base Nm qual scope0 f cd A outer s₀ H₀ E).env.scope.names.lookup c.1 == some .cell && scope.names.lookup c.1 == some .free)) = true := by rfl)
    (hnames : ∀ x ∈ scope.names, x.2 = .local → scope.names.lookup x.1 = some .local := by decide)
    (hs : ∀ x, foldedSetIterable iter (XC P w K mg base Nm qual scope0 f cd A outer s₀ H₀ E).env x = pure x := by intro _; rfl) :
    PE (XC P w K mg base Nm qual scope0 f cd A outer s₀ H₀ E) (.ListComp elt [⟨tg, iter, ifs, 0⟩] scope pos) (tComp wi ownN.length (caps.map (·.2)) g tt te) := by
  have hc : (XC P w K mg base Nm qual scope0 f cd A outer s₀ H₀ E).calm = true := rfl
  intro pins s σ H Q I h
  have hfree : ∀ p ∈ scope.names, p.2 = .free → (XC P w K mg base Nm qual scope0 f cd A outer s₀ H₀ E).env.scope.names.lookup p.1 = some .cell := fun p hp e => by
    have z := List.all_eq_true.mp hfr p hp
    rw [e] at z
    simpa using z
  have hcaps : ∀ c ∈ caps, (XC P w K mg base Nm qual scope0 f cd A outer s₀ H₀ E).N[c.2]? = some c.1 ∧ (XC P w K mg base Nm qual scope0 f cd A outer s₀ H₀ E).env.scope.names.lookup c.1 = some .cell ∧ scope.names.lookup c.1 = some .free := fun c hc => by
    have z := List.all_eq_true.mp hcp c hc
    simpa using z
  have has : ∀ p ∈ scope.names, p.2 = .free → ∃ a, (XC P w K mg base Nm qual scope0 f cd A outer s₀ H₀ E).env.cells.lookup p.1 = some a := fun p hp hfr => I.ok.has p.1 (.inl (hfree p hp hfr))
  rw [eval_ListComp]
  refine wpAny_comprehension_free (use := none) rfl hs (closureFor_clo has) hkind hnames (thn (hi pins s σ H _ I h) fun v s1 h1 => thn h1 fun itv s2 h2 => ?_)
  obtain ⟨it, fp, tn, J, H2, rfl, I2, T, st2, f2, red⟩ := h2
  have hf2 : H2 s2.heap.objs.size = none := I2.hok.fresh (Nat.le_refl _)
  obtain ⟨W, ⟨m0, w0⟩, turn⟩ := red s2.heap.objs.size hf2
  refine wpAny_newObj_type ?_
  generalize hac : s2.heap.objs.size = ac at hf2 turn w0 ⊢
  have I3 : Inv (XC P w K mg base Nm qual scope0 f cd A outer s₀ H₀ E) pins σ (upd H2 ac (.lst [])) { s2 with heap := s2.heap.push { cls := .type "list", dict := none, data := .seq ([] : List Value).toArray } } := by
    subst hac
    exact I2.laid (t' := s2.toks) (o := .lst []) (fun b u e => Heap.get?_push_of_some _ e) (Nat.le_refl _) ⟨Nat.zero_le _, [], 0, .nil, Heap.get?_push_size _ rfl⟩
  generalize hs3 : ({ s2 with heap := s2.heap.push { cls := .type "list", dict := none, data := .seq ([] : List Value).toArray } } : Shared) = s3 at I3 ⊢
  have obj2 := T.obj 0 s2.heap st2
  have fne : ∀ b ∈ fp, b ≠ ac := fun b hb z => by
    obtain ⟨o, e, _⟩ := obj2 b hb
    exact absurd (Heap.lt_size e) (by rw [z, hac]; exact Nat.lt_irrefl _)
  have f3 : ∀ b ∈ fp, FpOk (XC P w K mg base Nm qual scope0 f cd A outer s₀ H₀ E) pins (upd H2 ac (.lst [])) b := fun b hb => ⟨by rw [upd_ne (fne b hb)]; exact (f2 b hb).1, (f2 b hb).2⟩
  have st3 : tn 0 s3.heap := T.keep 0 _ _ st2 fun b hb o e => by subst hs3; exact Heap.get?_push_of_some _ e
  have fl3 : ∀ b ∈ fp, b < s3.heap.objs.size := fun b hb => by
    obtain ⟨o, e, _⟩ := T.obj 0 s3.heap st3 b hb
    exact Heap.lt_size e
  have acl : ac < s3.heap.objs.size := by subst hs3; subst hac; simp [Heap.size_push]
  refine wpAny_newFunctionEnv hcell (by intro y hy; simp at hy) (fun h₁ hns₁ hsb₁ => ?_) hkind
  have old : ∀ b o, s3.heap.get? b = some o → h₁.get? b = some o := fun b o e => hsb₁.extBut b o (Nat.ne_of_lt (Heap.lt_size e)) (Heap.get?_push_of_some _ e)
  have I4 := inv_comp (ownN := ownN) (caps := caps) (tk := s3.toks + ([] : List (Str × Value)).length) I3 f3 fl3 hkind hcell hfree hcaps hns₁ old
  have st4 : tn 0 h₁ := T.keep 0 _ _ st3 fun b hb o e => old b o e
  -- behind the block
  have after : ∀ (s5 : Shared) (σ5 : St) (H5 : Hp), Inv (cxComp (XC P w K mg base Nm qual scope0 f cd A outer s₀ H₀ E) (ownN ++ caps.map (·.1)) scope (clo (XC P w K mg base Nm qual scope0 f cd A outer s₀ H₀ E).env scope.names []) s3.heap.objs.size s3 (upd H2 ac (.lst [])) fp ((XC P w K mg base Nm qual scope0 f cd A outer s₀ H₀ E).pn ++ pins)) [] σ5 H5 s5 → Q (.ref ac) H5 →
      compPost (model (XC P w K mg base Nm qual scope0 f cd A outer s₀ H₀ E).prog (XC P w K mg base Nm qual scope0 f cd A outer s₀ H₀ E).w) (XC P w K mg base Nm qual scope0 f cd A outer s₀ H₀ E).A (XC P w K mg base Nm qual scope0 f cd A outer s₀ H₀ E).xe none (EP (XC P w K mg base Nm qual scope0 f cd A outer s₀ H₀ E) pins σ Q) (.ref ac) s3.heap.objs.size (.ok .next) s5 := by
    intro s5 σ5 H5 J5 q
    obtain ⟨m, hm, _⟩ := J5.loc
    refine ⟨m, hm, fun h' hs' => ?_⟩
    have nC : H5 s3.heap.objs.size = none := J5.free
    refine ⟨.ref ac, H5, ?_, rfl, q⟩
    have ub := J5.base
    have u : Un (frs (XC P w K mg base Nm qual scope0 f cd A outer s₀ H₀ E).stack) fp (upd H2 ac (.lst [])) H5 s3.heap h' :=
      ⟨fun b o e n hb hx => hs'.extBut b o (Nat.ne_of_lt (Heap.lt_size e)) (ub.keep b o e n hb hx), fun b o e n hb hx => by
        obtain ⟨sl, z⟩ := ub.slot b o e n hb hx
        exact ⟨sl, hs'.extBut b _ (Nat.ne_of_lt (Heap.lt_size e)) z⟩, ub.free, fun b o e hx => by
        obtain ⟨o', z⟩ := ub.there b o e hx
        exact ⟨o', hs'.extBut b _ (Nat.ne_of_lt (Heap.lt_size e)) z⟩, ub.tups, ub.frzs, fun b ps q => ⟨(ub.tbls b ps q).1, fun c o ec x => let z := (ub.tbls b ps q).2 c o ec x; ⟨z.1, hs'.extBut c o (ne_of_none z.1 nC) z.2⟩⟩⟩
    refine I3.call' (s' := { s5 with heap := h' }) (ch := fp) J5.os u (fun b u e => ?_) J5.bare (fun b hb => ⟨(f3 b hb).2.2.2.1, (f3 b hb).2.1, (f3 b hb).2.2.2.2.1, (f3 b hb).2.2.2.2.2⟩)
    refine (J5.hok b u e).stay (fun c v hc z => hs'.extBut c v ?_ z) (fun _ z => z) fun _ _ z => z
    rintro rfl
    rcases hc with z' | z'
    · rw [z', e] at nC; cases nC
    · rw [nC] at z'; cases z'
  let XE : Value → Shared → Prop := fun e s' => ∃ pins1 σ1 H1 s1, Inv (cxComp (XC P w K mg base Nm qual scope0 f cd A outer s₀ H₀ E) (ownN ++ caps.map (·.1)) scope (clo (XC P w K mg base Nm qual scope0 f cd A outer s₀ H₀ E).env scope.names []) s3.heap.objs.size s3 (upd H2 ac (.lst [])) fp ((XC P w K mg base Nm qual scope0 f cd A outer s₀ H₀ E).pn ++ pins)) pins1 σ1 H1 s1 ∧ CX1 P w (envOfC qual scope0 s₀.heap.objs.size f cd :: outer) H1 s1 E e s'
  have pas : Passes (CX1 P w) ((cxComp (XC P w K mg base Nm qual scope0 f cd A outer s₀ H₀ E) (ownN ++ caps.map (·.1)) scope (clo (XC P w K mg base Nm qual scope0 f cd A outer s₀ H₀ E).env scope.names []) s3.heap.objs.size s3 (upd H2 ac (.lst [])) fp ((XC P w K mg base Nm qual scope0 f cd A outer s₀ H₀ E).pn ++ pins)).wish XE) E := fun pins1 σ1 H1 s1 e s' J c => ⟨pins1, σ1, H1, s1, J.unwish, c⟩
  have hXE : ∀ e s', XE e s' → notedBy (model (XC P w K mg base Nm qual scope0 f cd A outer s₀ H₀ E).prog (XC P w K mg base Nm qual scope0 f cd A outer s₀ H₀ E).w) (XC P w K mg base Nm qual scope0 f cd A outer s₀ H₀ E).A (compEnvC scope (clo (XC P w K mg base Nm qual scope0 f cd A outer s₀ H₀ E).env scope.names []) s3.heap.objs.size (XC P w K mg base Nm qual scope0 f cd A outer s₀ H₀ E).env) (fun x s' => compPost (model (XC P w K mg base Nm qual scope0 f cd A outer s₀ H₀ E).prog (XC P w K mg base Nm qual scope0 f cd A outer s₀ H₀ E).w) (XC P w K mg base Nm qual scope0 f cd A outer s₀ H₀ E).A (XC P w K mg base Nm qual scope0 f cd A outer s₀ H₀ E).xe none (EP (XC P w K mg base Nm qual scope0 f cd A outer s₀ H₀ E) pins σ Q) (.ref ac) s3.heap.objs.size (.error x) s') e s' := by
    rintro e s' ⟨pins1, σ1, H1, s1, J, c⟩
    have I5 : Inv (XC P w K mg base Nm qual scope0 f cd A outer s₀ H₀ E) pins σ H1 s1 := I3.call' (s' := s1) (ch := fp) J.os J.base J.hok J.bare (fun b hb => ⟨(f3 b hb).2.2.2.1, (f3 b hb).2.1, (f3 b hb).2.2.2.2.1, (f3 b hb).2.2.2.2.2⟩)
    obtain ⟨m1, hm1, _⟩ := J.loc
    obtain ⟨m3, ⟨oL, _, _, hoL, _⟩, _⟩ := I3.loc
    have cL : s₀.heap.objs.size < s3.heap.objs.size := Heap.lt_size (show s3.heap.get? s₀.heap.objs.size = some oL from hoL)
    refine xe_comp I5 J.free ⟨m1, hm1⟩ cL (fun z => ?_) rfl c
    obtain ⟨_, o, ho, _⟩ := I3.stack.mem (b := s3.heap.objs.size) (List.mem_cons_of_mem _ z)
    exact absurd (Heap.lt_size ho) (Nat.lt_irrefl _)
  have loop : ∀ s4 : Shared, s4 = { s3 with heap := h₁, toks := s3.toks + ([] : List (Str × Value)).length } → codeAny (model (XC P w K mg base Nm qual scope0 f cd A outer s₀ H₀ E).prog (XC P w K mg base Nm qual scope0 f cd A outer s₀ H₀ E).w) (XC P w K mg base Nm qual scope0 f cd A outer s₀ H₀ E).A (.compLoop (.ListComp elt [⟨tg, iter, ifs, 0⟩] scope pos) 0 (.ref it) (.ref ac) (compEnvC scope (clo (XC P w K mg base Nm qual scope0 f cd A outer s₀ H₀ E).env scope.names []) s3.heap.objs.size (XC P w K mg base Nm qual scope0 f cd A outer s₀ H₀ E).env))
      (compPost (model (XC P w K mg base Nm qual scope0 f cd A outer s₀ H₀ E).prog (XC P w K mg base Nm qual scope0 f cd A outer s₀ H₀ E).w) (XC P w K mg base Nm qual scope0 f cd A outer s₀ H₀ E).A (XC P w K mg base Nm qual scope0 f cd A outer s₀ H₀ E).xe none (EP (XC P w K mg base Nm qual scope0 f cd A outer s₀ H₀ E) pins σ Q) (.ref ac) s3.heap.objs.size) s4 := by
    rintro s4 rfl
    refine compLoop_goE (XE := XE) (hXE := hXE) (I := fun n s' => ∃ i ys H', Inv (cxComp (XC P w K mg base Nm qual scope0 f cd A outer s₀ H₀ E) (ownN ++ caps.map (·.1)) scope (clo (XC P w K mg base Nm qual scope0 f cd A outer s₀ H₀ E).env scope.names []) s3.heap.objs.size s3 (upd H2 ac (.lst [])) fp ((XC P w K mg base Nm qual scope0 f cd A outer s₀ H₀ E).pn ++ pins)) [] (stC ownN.length (caps.map (·.2)) σ) H' s' ∧ tn i s'.heap ∧ (∀ b ∈ fp, H' b = none) ∧ W i n ys H') ?_ m0
      ⟨0, [], _, I4, st4, fun b hb => (f3 b hb).1, w0⟩
    rintro n s6 ⟨i, ys, H6, I6, st6, fr6, w6⟩
    obtain ⟨hl6, alt⟩ := turn i n ys H6 w6
    have fpok : ∀ {H' : Hp}, (∀ b ∈ fp, H' b = none) → ∀ b ∈ fp, FpOk (cxComp (XC P w K mg base Nm qual scope0 f cd A outer s₀ H₀ E) (ownN ++ caps.map (·.1)) scope (clo (XC P w K mg base Nm qual scope0 f cd A outer s₀ H₀ E).env scope.names []) s3.heap.objs.size s3 (upd H2 ac (.lst [])) fp ((XC P w K mg base Nm qual scope0 f cd A outer s₀ H₀ E).pn ++ pins)) [] H' b := fun {H'} hn b hb =>
      ⟨hn b hb, Nat.ne_of_lt (fl3 b hb), I6.ok.exfs b hb, .inl hb, (I6.ok.exf b hb).2, fun p hp z => (f3 b hb).2.2.2.2.2 p (by
        have hp' : p ∈ ((XC P w K mg base Nm qual scope0 f cd A outer s₀ H₀ E).pn ++ pins) ++ [] := hp
        simpa using hp') z⟩
    rcases alt with ⟨stop, qn⟩ | ⟨go, hsz, N, hN, step⟩
    · refine thn (T.done (cxComp (XC P w K mg base Nm qual scope0 f cd A outer s₀ H₀ E) (ownN ++ caps.map (·.1)) scope (clo (XC P w K mg base Nm qual scope0 f cd A outer s₀ H₀ E).env scope.names []) s3.heap.objs.size s3 (upd H2 ac (.lst [])) fp ((XC P w K mg base Nm qual scope0 f cd A outer s₀ H₀ E).pn ++ pins)) rfl rfl rfl hc i [] s6 _ H6 _ I6 (fpok fr6) st6 stop) fun r s7 ⟨hr, I7⟩ => ?_
      subst hr
      exact after s7 _ H6 I7 qn
    · refine thn (T.item (cxComp (XC P w K mg base Nm qual scope0 f cd A outer s₀ H₀ E) (ownN ++ caps.map (·.1)) scope (clo (XC P w K mg base Nm qual scope0 f cd A outer s₀ H₀ E).env scope.names []) s3.heap.objs.size s3 (upd H2 ac (.lst [])) fp ((XC P w K mg base Nm qual scope0 f cd A outer s₀ H₀ E).pn ++ pins)) rfl rfl rfl hc i [] s6 _ H6 _ I6 (fpok fr6) st6 go) fun r s7 ⟨u, hr, h7⟩ => ?_
      subst hr
      refine thn h7 fun _ s8 ⟨x, H8, I8, r8, y8, st8, fr8⟩ => ?_
      have I8' := I8.pinned (fpok fr8) (T.obj _ _ st8)
      have fin : ∀ {σ' : St} {H' : Hp} {s' : Shared}, Inv (cxComp (XC P w K mg base Nm qual scope0 f cd A outer s₀ H₀ E) (ownN ++ caps.map (·.1)) scope (clo (XC P w K mg base Nm qual scope0 f cd A outer s₀ H₀ E).env scope.names []) s3.heap.objs.size s3 (upd H2 ac (.lst [])) fp ((XC P w K mg base Nm qual scope0 f cd A outer s₀ H₀ E).pn ++ pins)) ([] ++ pinsAt fp s8.heap) σ' H' s' → tn (i + 1) s'.heap ∧ ∀ b ∈ fp, H' b = none := fun {σ' H' s'} J =>
        ⟨T.keep _ _ _ st8 fun b hb o e => (J.pin (b, o) (List.mem_append_right _ (List.mem_append_right _ (mem_pinsAt hb e)))).1, fun b hb => by
          obtain ⟨o, e, _⟩ := T.obj _ _ st8 b hb
          exact (J.pin (b, o) (List.mem_append_right _ (List.mem_append_right _ (mem_pinsAt hb e)))).2.1⟩
      refine thn (hg _ _ _ _ _ _ _ s8 _ H8 x u _ I8' r8 (step x H8 y8)) fun _ s9 ⟨σ9, H9, I9, wk, q9⟩ => ?_
      refine thn (ht _ _ _ _ _ _ _ s9 σ9 H9 _ I9 q9) fun b s10 ⟨H10, I10, q10⟩ => ?_
      cases b with
      | false =>
        rw [if_neg Bool.false_ne_true] at q10 ⊢
        obtain ⟨m', hm', w'⟩ := hN _ _ q10
        obtain ⟨e1, e2⟩ := fin I10
        exact ⟨m', hm', i + 1, ys, H10, (I10.weak wk.len wk.get).unpinned, e1, e2, w'⟩
      | true =>
        rw [if_pos rfl] at q10 ⊢
        refine thn (he _ _ _ _ _ _ XE pas _ s10 σ9 H10 _ (I10.wish XE) q10) fun y s11 ⟨yv, H11, I11w, r11, hl11, q11⟩ => ?_
        have I11 := I11w.unwish
        obtain ⟨m', hm', w'⟩ := hN _ _ q11
        refine thn (mt_append (X := cxComp (XC P w K mg base Nm qual scope0 f cd A outer s₀ H₀ E) (ownN ++ caps.map (·.1)) scope (clo (XC P w K mg base Nm qual scope0 f cd A outer s₀ H₀ E).env scope.names []) s3.heap.objs.size s3 (upd H2 ac (.lst [])) fp ((XC P w K mg base Nm qual scope0 f cd A outer s₀ H₀ E).pn ++ pins)) (pinsAt fp s8.heap) s11 σ9 H11 (.ref ac) [yv] (.ref ac) [y] (fun v H' => H' = upd H11 ac (.lst (ys ++ [yv]))) I11 rfl (.cons r11 .nil) ⟨ac, ys, yv, rfl, rfl, hl11, hsz, rfl⟩) fun _ s12 ⟨v12, H12, I12, _, e12⟩ => ?_
        subst e12
        obtain ⟨e1, e2⟩ := fin I12
        exact ⟨m', hm', i + 1, _, _, (I12.weak wk.len wk.get).unpinned, e1, e2, w'⟩
  exact codeAny_compStart_list (loop _ rfl) (T.self _ 0 _ _ _ st4 (loop _ rfl))

theorem pe_callP {X : Cx} {x : Str} {k : Nat} {ps : List Str} {sp : Sp} {E : XK} {e : Expr} {es : List Expr} {t : TA} {p pos : Pos} (C : CalleeE X.prog X.w X.K X.mg X.base x k ps sp) (hp : Passes (CX1 X.prog X.w) X E) (hr : Room k X.A) (hg : Gl X x) (ha : PA X (e :: es) t)
    (hdb : (x == ("__debug__" : Str)) = false := by decide) (he : starEach (e :: es) X.env = (false, eval e X.env) :: starEach es X.env := by rfl) (hpl : (backTo pos (starEach es X.env)).any (·.1) = false := by rfl) :
    PE X (.Call (.Name x p) (e :: es) [] pos) (tCall sp [] E t) := by
  obtain ⟨f', fd, F, hb, hk, hm⟩ := C.ex
  exact pe_call F hr hg hm hk hb .nil hp ha hdb he hpl
end
end L2

namespace Ep
open PySem L2 PySem.SeqAt PySem.NumText
def figL (l : List Nat) : List Nat := if l.head? = some 45 then l.tail else l
def IsNum (l : List Nat) : Prop := 1 ≤ (figL l).length ∧ (figL l).length ≤ 60 ∧ AllDigits (figL l) ∧ (l = [48] ∨ (figL l).head? ≠ some 48)
def RdN (l : List Nat) (n : Int) : Prop := ∀ d : Int, 0 ≤ d → d ≤ 9 → (n = d ↔ l = [dg d])
theorem num_one {d : Int} (h0 : 0 ≤ d) (h9 : d ≤ 9) : IsNum [dg d] := by
  have e : figL [dg d] = [dg d] := by
    unfold figL
    rw [if_neg]
    intro z
    have : dg d = 45 := Option.some.inj z
    unfold dg at this
    (first | lia | omega)
  unfold IsNum
  rw [e]
  refine ⟨by simp, by simp, fun c hc => ?_, ?_⟩
  · rw [List.mem_singleton.mp hc]
    unfold dg
    (first | lia | omega)
  · by_cases c : d = 0
    · subst c; exact .inl rfl
    · refine .inr fun z => ?_
      have : dg d = 48 := Option.some.inj z
      unfold dg at this
      (first | lia | omega)
theorem val_ge : ∀ (cs : List Nat) (a : Nat), a * 10 ^ cs.length ≤ cs.foldl (fun acc c => acc * 10 + (c - 48)) a
  | [], a => by simp
  | c :: r, a => by
    rw [List.foldl_cons, List.length_cons, Nat.pow_succ]
    refine Nat.le_trans ?_ (val_ge r (a * 10 + (c - 48)))
    rw [Nat.mul_comm (10 ^ r.length) 10, ← Nat.mul_assoc]
    exact Nat.mul_le_mul_right _ (Nat.le_add_right _ _)
theorem val_big {c d : Nat} {r : List Nat} (h : AllDigits (c :: d :: r)) (n0 : c ≠ 48) : 10 ≤ digitsVal (c :: d :: r) := by
  have hc := h.head
  unfold digitsVal
  rw [List.foldl_cons, List.foldl_cons]
  refine Nat.le_trans ?_ (val_ge r _)
  have p : 1 ≤ 10 ^ r.length := Nat.pow_pos (by decide)
  have q : 10 ≤ (0 * 10 + (c - 48)) * 10 + (d - 48) := by (first | lia | omega)
  calc 10 = 10 * 1 := rfl
    _ ≤ _ := Nat.mul_le_mul q p
theorem val_pos {c : Nat} {r : List Nat} (h : AllDigits (c :: r)) (n0 : c ≠ 48) : 1 ≤ digitsVal (c :: r) := by
  have hc := h.head
  unfold digitsVal
  rw [List.foldl_cons]
  refine Nat.le_trans ?_ (val_ge r _)
  have p : 1 ≤ 10 ^ r.length := Nat.pow_pos (by decide)
  have q : 1 ≤ 0 * 10 + (c - 48) := by (first | lia | omega)
  calc 1 = 1 * 1 := rfl
    _ ≤ _ := Nat.mul_le_mul q p
theorem num_val {l : List Nat} (h : IsNum l) : ∃ n : Int, PySem.intText? (Mk l) = some n ∧ RdN l n ∧ l.length ≤ 61 := by
  obtain ⟨l1, l60, ad, z⟩ := h
  by_cases c : l.head? = some 45
  · obtain ⟨r, rfl⟩ : ∃ r, l = 45 :: r := by
      cases l with
      | nil => cases c
      | cons a r => exact ⟨r, by rw [Option.some.inj c]⟩
    have ef : figL (45 :: r) = r := by unfold figL; rw [if_pos c]; rfl
    rw [ef] at l1 l60 ad z
    have rne : r ≠ [] := fun e => by rw [e] at l1; simp at l1
    refine ⟨_, intText_neg (x := Mk (45 :: r)) (cs := r) rfl ad rne (by rw [← ls_len]; show (45 :: r).length ≤ 4300; rw [List.length_cons]; (first | lia | omega)), fun d d0 d9 => ?_, by rw [List.length_cons]; (first | lia | omega)⟩
    constructor
    · intro e
      exfalso
      rcases z with z | z
      · cases z
      · cases r with
        | nil => exact rne rfl
        | cons a q =>
          have := val_pos ad (fun y => z (by rw [y]; rfl))
          (first | lia | omega)
    · intro e
      exfalso
      have : (45 : Nat) = dg d := (List.cons.inj e).1
      unfold dg at this
      (first | lia | omega)
  · have ef : figL l = l := by unfold figL; rw [if_neg c]
    rw [ef] at l1 l60 ad z
    have lne : l ≠ [] := fun e => by rw [e] at l1; simp at l1
    refine ⟨_, intText_digits (x := Mk l) ad lne (by rw [← ls_len]; show l.length ≤ 4300; (first | lia | omega)), fun d d0 d9 => ?_, by (first | lia | omega)⟩
    show ((digitsVal l : Nat) : Int) = d ↔ _
    match l, lne with
    | [a], _ =>
      have ha := ad.head
      have ev : digitsVal [a] = a - 48 := by unfold digitsVal; simp
      rw [ev]
      constructor
      · intro e
        have : a = dg d := by unfold dg; (first | lia | omega)
        rw [this]
      · intro e
        have : a = dg d := (List.cons.inj e).1
        unfold dg at this
        (first | lia | omega)
    | a :: b :: r, _ =>
      have n0 : a ≠ 48 := fun y => by
        rcases z with z | z
        · cases z
        · exact z (by rw [y]; rfl)
      have := val_big ad n0
      constructor
      · intro e; (first | lia | omega)
      · intro e; cases e
structure NoTextT (K : PySem.W.Frag) (mg : Str → Option Value) (a : Addr) : Prop where
  q_NoText : PySem.W.excIn K a veB "ValueError.__new__" = true
  at_NoText : mg "NoText" = some (.ref a)
inductive SpIsNumGP (vs : List V) (H : Hp) (Q : VK) : Prop
  | mk (x : Str) (h1 : vs = [.str x]) (h2 : x.length ≤ 5000) (h3 : ∀ (b : Bool) (H' : Hp), Same H H' → (b = true ↔ IsNum (Ls x)) → Q (.bl b) H') : SpIsNumGP vs H Q
def spIsNumG : Sp := fun vs H Q _ => SpIsNumGP vs H Q
inductive SpNumGP (an : Addr) (vs : List V) (H : Hp) (Q : VK) (E : XK) : Prop
  | mk (x : Str) (h1 : vs = [.str x]) (h2 : x.length ≤ 5000) (h3 : ∀ (n : Int) (H' : Hp), Same H H' → IsNum (Ls x) → RdN (Ls x) n → Q (.int n) H') (h4 : ∀ H', Same H H' → ¬ IsNum (Ls x) → E (.ref an) none H') : SpNumGP an vs H Q E
def spNumG (an : Addr) : Sp := fun vs H Q E => SpNumGP an vs H Q E
def Fg (w : Int × Int) : Prop := 0 ≤ w.1 ∧ w.1 ≤ 9 ∧ 0 ≤ w.2 ∧ w.2 ≤ 9
inductive SpWkGP (an : Addr) (vs : List V) (H : Hp) (Q : VK) (E : XK) : Prop
  | mk (x : Str) (h1 : vs = [.str x]) (h2 : x.length ≤ 5000) (h3 : ∀ (t : Addr) (v : Int × Int) (H' : Hp), Same H H' → H' t = some (.tup [.int v.1, .int v.2]) → (∀ w, Fg w → (v = w ↔ x = wkS w)) → Q (.ref t) H') (h4 : ∀ H', Same H H' → (∀ w, Fg w → x ≠ wkS w) → E (.ref an) none H') : SpWkGP an vs H Q E
def spWkG (an : Addr) : Sp := fun vs H Q E => SpWkGP an vs H Q E
inductive SpWksGP (an : Addr) (vs : List V) (H : Hp) (Q : VK) (E : XK) : Prop
  | mk (x : Str) (h1 : vs = [.str x]) (h2 : x.length ≤ 5000) (h3 : ∀ (l : Addr) (vs' : List (Int × Int)) (H' : Hp), Same H H' → WsL H' l vs' → vs'.length ≤ x.length + 1 → (∀ ws, Fig ws → (vs' = ws ↔ Ls x = restL ws)) → Q (.ref l) H') (h4 : ∀ H', Same H H' → (∀ ws, Fig ws → Ls x ≠ restL ws) → E (.ref an) none H') : SpWksGP an vs H Q E
def spWksG (an : Addr) : Sp := fun vs H Q E => SpWksGP an vs H Q E
inductive SpReadGP (an : Addr) (vs : List V) (H : Hp) (Q : VK) (E : XK) : Prop
  | mk (x : Str) (h1 : vs = [.str x]) (h2 : x.length ≤ 1990) (h3 : ∀ (v : V) (wide : Int) (ws : List (Int × Int)) (H' : Hp), Same H H' → 1 ≤ wide → wide ≤ 8 → WOk wide ws → ws.length ≤ 40 → x = netS wide ws → Net H' v wide ws → Q v H') (h4 : ∀ H', Same H H' → (∀ wide ws, 1 ≤ wide → wide ≤ 8 → WOk wide ws → ws.length ≤ 40 → x ≠ netS wide ws) → E (.ref an) none H') : SpReadGP an vs H Q E
  | odd (v : V) (h1 : vs = [v]) (h2 : Th H v) (h3 : ∀ x, v ≠ .str x) (h4 : ∀ H', Same H H' → E (.ref an) none H') : SpReadGP an vs H Q E
def spReadG (an : Addr) : Sp := fun vs H Q E => SpReadGP an vs H Q E
theorem starts_one (x : Str) (c : Nat) : Txt.startswith x ⟨#[c]⟩ = decide ((Ls x).head? = some c) := by
  unfold Txt.startswith
  have h := StrLaws.subAt_one x c 0
  have e : (Ls x).head? = (Ls x)[0]? := by cases Ls x <;> rfl
  rw [e, Bool.eq_iff_iff, Bool.and_eq_true, decide_eq_true_iff, decide_eq_true_iff]
  exact h
theorem part_no {x : Str} {c : Nat} (h : c ∉ Ls x) : Txt.partition x ⟨#[c]⟩ = (x, Str.empty, Str.empty) := by
  rcases StrLaws.occ_head x ⟨#[c]⟩ 1 (Nat.le_refl _) with ⟨eo, no⟩ | ⟨i, r, eo, ai, no⟩
  · unfold Txt.partition
    rw [eo]
  · exact absurd (List.mem_of_getElem? (at_one.mp ai)) h
theorem cut_at {l : List Nat} {c : Nat} : c ∉ l ∨ ∃ a b, c ∉ a ∧ l = a ++ c :: b := by
  induction l with
  | nil => exact .inl (by simp)
  | cons x r ih =>
    by_cases e : x = c
    · exact .inr ⟨[], r, by simp, by rw [e]; rfl⟩
    · rcases ih with h | ⟨a, b, h, rfl⟩
      · exact .inl fun z => (List.mem_cons.mp z).elim (fun y => e y.symm) h
      · exact .inr ⟨x :: a, b, fun z => (List.mem_cons.mp z).elim (fun y => e y.symm) h, rfl⟩
theorem fig_any (c : Nat) : (!(Builtin.Str.occurrences (Str.ofString "0123456789") ⟨#[c]⟩ 0 (Str.ofString "0123456789").length 1).isEmpty) = decide (48 ≤ c ∧ c ≤ 57) := by
  rw [StrLaws.found_one]
  have e : (Str.ofString "0123456789").cps.toList = [48, 49, 50, 51, 52, 53, 54, 55, 56, 57] := by decide +kernel
  rw [e, Bool.eq_iff_iff, decide_eq_true_iff, decide_eq_true_iff]
  simp only [List.mem_cons, List.not_mem_nil, or_false]
  (first | lia | omega)
theorem no_empty : ¬ IsNum [] := fun h => by
  have := h.1
  simp [figL] at this
theorem wk_dash {w : Int × Int} (f : Fg w) : wkS w = Mk ([dg w.1] ++ 45 :: [dg w.2]) ∧ 45 ∉ [dg w.1] := by
  refine ⟨rfl, fun z => ?_⟩
  have := List.mem_singleton.mp z
  have := f.1
  unfold dg at *
  (first | lia | omega)
theorem split_all (x : Str) (c : Nat) : Txt.split x ⟨#[c]⟩ ≠ [] ∧ (∀ p ∈ Txt.split x ⟨#[c]⟩, c ∉ Ls p) ∧ Str.join ⟨#[c]⟩ (Txt.split x ⟨#[c]⟩) = x ∧ (Txt.split x ⟨#[c]⟩).length ≤ x.length + 2 := by
  refine ⟨?_, StrLaws.split_free x c, StrLaws.join_split x _, PyProof.Rows.split_le x _⟩
  unfold Txt.split
  split
  · simp
  · split
    · simp
    · intro h
      have := congrArg List.length h
      rw [PyProof.Rows.len_partsBetween] at this
      simp at this
theorem join_each {c : Nat} : ∀ (ps : List Str), ∀ p ∈ ps, p.length ≤ (Str.join ⟨#[c]⟩ ps).length
  | [x], p, hp => by
    rw [List.mem_singleton.mp hp]
    exact Nat.le_of_eq (by rfl)
  | x :: y :: r, p, hp => by
    have e := congrArg List.length (ls_join1 c x y r)
    rw [ls_len, List.length_append, ls_len, List.length_cons, ls_len] at e
    rcases List.mem_cons.mp hp with z | z
    · rw [z]; (first | lia | omega)
    · have := join_each (c := c) (y :: r) p z
      (first | lia | omega)
theorem split_each (x : Str) (c : Nat) : ∀ p ∈ Txt.split x ⟨#[c]⟩, p.length ≤ x.length := fun p hp => by
  have := join_each (c := c) _ p hp
  rw [StrLaws.join_split] at this
  exact this
theorem refs_thw {H : Hp} {rs : List V} {ws : List (Int × Int)} (h : Refs H rs ws) : ∀ z ∈ rs, ThW H z := fun z hz => by
  obtain ⟨i, hi⟩ := List.getElem?_of_mem hz
  obtain ⟨w0, t0, hw0, rfl, ht0⟩ := h.get hi
  exact pair_thw ht0
theorem wsl_thl {H : Hp} {l : Addr} {ws : List (Int × Int)} (h : WsL H l ws) (n : ws.length ≤ 2000) : ThL H (.ref l) := by
  obtain ⟨rs, k, r⟩ := h
  have lr := r.len
  refine ⟨.inr (.lst k), fun a us e k' => ?_⟩
  cases e
  cases Sq.inj (.inl k) k'
  exact ⟨by (first | lia | omega), refs_thw r⟩
theorem makes_ws {H : Hp} {l : Addr} {ws : List (Int × Int)} {n : Int} (h : WsL H l ws) : Makes H (.int n) (.ref l) ↔ (1 ≤ n ∧ n ≤ 8 ∧ ws.length ≤ 40 ∧ WOk n ws) := by
  obtain ⟨rs, k, r⟩ := h
  have lr := r.len
  constructor
  · rintro ⟨wide, l', us, e, w1, w8, e2, k', ln, all⟩
    cases e; cases e2
    cases Sq.inj (.inl k) k'
    refine ⟨w1, w8, by (first | lia | omega), fun w hw => ?_⟩
    obtain ⟨i, hi⟩ := List.getElem?_of_mem hw
    have il : i < ws.length := (List.getElem?_eq_some_iff.mp hi).1
    obtain ⟨z, hz⟩ : ∃ z, rs[i]? = some z := ⟨rs[i]'(by (first | lia | omega)), List.getElem?_eq_getElem _⟩
    obtain ⟨w0, t0, hw0, rfl, ht0⟩ := r.get hz
    rw [hi] at hw0
    cases hw0
    obtain ⟨t, a, b, e, kt, lo⟩ := all _ (List.mem_of_getElem? hz)
    cases e
    rw [ht0] at kt
    cases kt
    exact lo
  · rintro ⟨w1, w8, ln, ok⟩
    exact ⟨n, l, rs, rfl, w1, w8, rfl, .inl k, by (first | lia | omega), refs_isW r ok⟩
theorem net_cut {wide : Int} {ws : List (Int × Int)} (w1 : 1 ≤ wide) (w8 : wide ≤ 8) : Ls (netS wide ws) = [dg wide] ++ 58 :: restL ws ∧ 58 ∉ [dg wide] := by
  refine ⟨rfl, fun z => ?_⟩
  have := List.mem_singleton.mp z
  unfold dg at this
  (first | lia | omega)
end Ep

namespace L2
open PySem PySem.Spec PyProof.Rows
variable {X : Cx}
inductive RIdxSP (x : V) (xs : List V) (H : Hp) (Q : VK) : Prop
  | mk (a b : Str) (i : Nat) (r : List Nat) (h1 : x = .str a) (h2 : xs = [.str b]) (h3 : Builtin.Str.occurrences a b 0 a.length 1 = i :: r) (h4 : Q (.int i) H) : RIdxSP x xs H Q
theorem mt_indexS : MtR X "str.index" RIdxSP := by
  intro pins s σ H x xs v us Q I rx rv h
  obtain ⟨a, b, i, r, rfl, rfl, ho, q⟩ := h
  obtain ⟨t, rfl⟩ := rx
  obtain ⟨u, rfl, t', rfl⟩ := rv.one
  exact call_gives F.slot_str_index (typeIs_str _ _ _) F.entry_str_index (F.args_str_index_2 _ _) (gives_str_index a b t t' i r ho) ⟨.int _, H, I.tok _, ⟨_, rfl⟩, q⟩
theorem fromS_idxF (x : Str) (n : Nat) : Builtin.Str.strSliceIndices (some (n : Int)) none 1 x.length = Builtin.Str.strSliceIndices (some ((min n x.length : Nat) : Int)) none 1 x.length := by
  have h1 : ¬ ((n : Int) < 0) := by (first | lia | omega)
  have h2 : ¬ (((min n x.length : Nat) : Int) < 0) := by (first | lia | omega)
  have h3 : max (0 : Int) (min (n : Int) (x.length : Int)) = max (0 : Int) (min ((min n x.length : Nat) : Int) (x.length : Int)) := by (first | lia | omega)
  unfold Builtin.Str.strSliceIndices
  simp only [h1, h2, if_false, h3]
  simp
def rSlSF : V → Option Int → Option Int → Hp → VK → Prop := fun x lo hi H Q => ∃ (a : Str) (n : Nat), x = .str a ∧ lo = some (n : Int) ∧ hi = none ∧ a.length ≤ sizeLine ∧ Q (.str (fromS a n)) H
theorem sl_strF : SlR X rSlSF := by
  intro pins s σ H x v vl vu lo hi sl Q I rx hs pl pu h
  obtain ⟨a, n, rfl, rfl, rfl, hz, q⟩ := h
  obtain ⟨t, rfl⟩ := rx
  cases pu
  cases pl with
  | int i tk =>
  refine ⟨"str", _, PyProof.Rows.slot_str_getitem.lookup, typeIs_str _ _ _, ?_⟩
  have hs' : s.heap.IsSlice sl (some ((n : Int), tk)) none none := hs
  refine wpAny_getItem_str_slice hs' (by decide) ?_
  unfold sliceMade
  have al : a.cps.toList.length = a.length := Array.length_toList
  have ed : a.cps.toList.drop (min n a.length) = a.cps.toList.drop n := by
    by_cases c : n ≤ a.length
    · rw [Nat.min_eq_left c]
    · rw [Nat.min_eq_right (by (first | lia | omega)), List.drop_of_length_le (by (first | lia | omega)), List.drop_of_length_le (by (first | lia | omega))]
  have ep : (slicePicked a (some ((n : Int), tk)) none none).filterMap (a.cps[·]?) = a.cps.toList.drop n := by
    show (Builtin.Str.strSliceIndices (some (n : Int)) none 1 a.length).filterMap (a.cps[·]?) = _
    rw [fromS_idxF, fromS_pick a (Nat.min_le_right _ _), ed]
  split
  · rename_i hw
    rw [Bool.and_eq_true] at hw
    have h2 : (slicePicked a (some ((n : Int), tk)) none none).length = a.length := eq_of_beq hw.2
    have h3 : (slicePicked a (some ((n : Int), tk)) none none).length = a.length - min n a.length := by
      show (Builtin.Str.strSliceIndices (some (n : Int)) none 1 a.length).length = _
      rw [fromS_idxF, fromS_idx, StrLaws.strSliceIndices_plain (Nat.min_le_right _ _) (Nat.le_refl _), List.length_map, List.length_range]
    have : fromS a n = a := by
      unfold fromS
      rw [← ed, show min n a.length = 0 by (first | lia | omega)]
      simp
    rw [this] at q
    exact ⟨.str a, H, I, ⟨_, rfl⟩, q⟩
  · refine ⟨?_, ⟨.str _, H, I.tok _, ⟨_, rfl⟩, ?_⟩⟩
    · rw [ep]
      show (a.cps.toList.drop n).toArray.size ≤ sizeLine
      rw [List.size_toArray, List.length_drop]
      (first | lia | omega)
    · rw [ep]; exact q
def toS (x : Str) (n : Nat) : Str := ⟨(x.cps.toList.take n).toArray⟩
theorem toS_idx (x : Str) (n : Nat) : Builtin.Str.strSliceIndices none (some (n : Int)) 1 x.length = Builtin.Str.strSliceIndices (some ((0 : Nat) : Int)) (some (n : Int)) 1 x.length := by
  have h2 : max (0 : Int) (min ((0 : Nat) : Int) (x.length : Int)) = 0 := by (first | lia | omega)
  unfold Builtin.Str.strSliceIndices
  simp [h2]
  have h3 : max (0 : Int) (min 0 (x.length : Int)) = 0 := by (first | lia | omega)
  rw [h3]
def rSlTo : V → Option Int → Option Int → Hp → VK → Prop := fun x lo hi H Q => ∃ (a : Str) (n : Nat), x = .str a ∧ lo = none ∧ hi = some (n : Int) ∧ n ≤ a.length ∧ a.length ≤ sizeLine ∧ Q (.str (toS a n)) H
theorem sl_strT : SlR X rSlTo := by
  intro pins s σ H x v vl vu lo hi sl Q I rx hs pl pu h
  obtain ⟨a, n, rfl, rfl, rfl, hn, hz, q⟩ := h
  obtain ⟨t, rfl⟩ := rx
  cases pl
  cases pu with
  | int i tk =>
  refine ⟨"str", _, PyProof.Rows.slot_str_getitem.lookup, typeIs_str _ _ _, ?_⟩
  have hs' : s.heap.IsSlice sl none (some ((n : Int), tk)) none := hs
  refine wpAny_getItem_str_slice hs' (by decide) ?_
  unfold sliceMade
  have ei := toS_idx a n
  have ep : (slicePicked a none (some ((n : Int), tk)) none).filterMap (a.cps[·]?) = a.cps.toList.take n := by
    show (Builtin.Str.strSliceIndices none (some (n : Int)) 1 a.length).filterMap (a.cps[·]?) = _
    rw [ei, StrLaws.sliced_plain a (Nat.zero_le _) hn]
    simp
  split
  · rename_i hw
    rw [Bool.and_eq_true] at hw
    have h2 : (slicePicked a none (some ((n : Int), tk)) none).length = a.length := eq_of_beq hw.2
    have h3 : (slicePicked a none (some ((n : Int), tk)) none).length = n := by
      show (Builtin.Str.strSliceIndices none (some (n : Int)) 1 a.length).length = _
      rw [ei, StrLaws.strSliceIndices_plain (Nat.zero_le _) hn, List.length_map, List.length_range]
      rfl
    have : toS a n = a := by
      unfold toS
      rw [List.take_of_length_le (by have : a.cps.toList.length = a.length := Array.length_toList; (first | lia | omega))]
    rw [this] at q
    exact ⟨.str a, H, I, ⟨_, rfl⟩, q⟩
  · refine ⟨?_, ⟨.str _, H, I.tok _, ⟨_, rfl⟩, ?_⟩⟩
    · rw [ep]
      show (a.cps.toList.take n).toArray.size ≤ sizeLine
      rw [List.size_toArray, List.length_take]
      have : a.cps.toList.length = a.length := Array.length_toList
      (first | lia | omega)
    · rw [ep]; exact q
def repS (x : Str) (n : Nat) : Str := ⟨(List.replicate n x.cps.toList).flatten.toArray⟩
theorem repS_fold (x : Str) : ∀ (n : Nat) (b : Array Nat), (List.replicate n x.cps).foldl (· ++ ·) b = b ++ (List.replicate n x.cps.toList).flatten.toArray
  | 0, b => by simp
  | n + 1, b => by
    rw [List.replicate_succ, List.foldl_cons, repS_fold x n, List.replicate_succ, List.flatten_cons]
    apply Array.toList_inj.mp
    simp
inductive RRepSP (x y : V) (H : Hp) (Q : VK) : Prop
  | mk (a : Str) (n : Int) (h1 : x = .str a) (h2 : y = .int n) (h3 : 0 ≤ n) (h4 : n ≤ 1000) (h5 : a.length ≤ 100) (h6 : Q (.str (repS a n.toNat)) H) : RRepSP x y H Q
def rRepS : R2 := fun x y H Q => RRepSP x y H Q
theorem op_repS : OpR X (binaryOp .Mult) rRepS := by
  intro pins s σ H x y v u Q I rx ry h
  obtain ⟨a, n, rfl, rfl, n0, n1, la, q⟩ := h
  obtain ⟨t, rfl⟩ := rx
  obtain ⟨t', rfl⟩ := ry
  have big : a.length * n.toNat ≤ 100000 := by
    have : n.toNat ≤ 1000 := by (first | lia | omega)
    calc a.length * n.toNat ≤ 100 * 1000 := Nat.mul_le_mul la this
      _ = 100000 := rfl
  refine P.mul_str (by simp; (first | lia | omega)) (fun h1 h2 => ?_) (fun h1 h2 => ?_) ?_
  · intro z
    have h3 : (1000 : Int) ≤ (2 ^ 63 - 1) / n := by
      rw [Int.le_ediv_iff_mul_le (by (first | lia | omega))]
      have : 1000 * n ≤ 1000 * 1000 := by (first | lia | omega)
      have : (1000 * 1000 : Int) ≤ 2 ^ 63 - 1 := by decide
      (first | lia | omega)
    (first | lia | omega)
  · unfold Builtin.Str.tooLong
    rw [decide_eq_false_iff_not]
    have := lenLine (n := a.length * n.toNat) big
    (first | lia | omega)
  · by_cases c : n < 1
    · have e : n = 0 := by (first | lia | omega)
      subst e
      rw [if_pos (by decide)]
      have : repS a (0 : Int).toNat = Str.empty := rfl
      rw [this] at q
      exact ⟨by decide, ⟨.str _, H, I.tok _, ⟨_, rfl⟩, q⟩⟩
    · rw [if_neg c]
      by_cases c1 : (n == 1 || a.length == 0) = true
      · rw [if_pos c1]
        have : repS a n.toNat = a := by
          unfold repS
          rcases Bool.or_eq_true_iff.mp c1 with z | z
          · have : n = 1 := by simpa using z
            subst this
            simp
          · have z0 : a.length = 0 := by simpa using z
            have z1 : a.cps.toList = [] := by
              have : a.cps.toList.length = a.length := Array.length_toList
              exact List.length_eq_zero_iff.mp (by (first | lia | omega))
            rw [z1]
            have : a = ⟨#[]⟩ := by
              cases a with
              | mk c => simp at z1; rw [z1]
            rw [this]
            simp
        rw [this] at q
        exact ⟨.str a, H, I, ⟨_, rfl⟩, q⟩
      · rw [if_neg c1]
        have e : (⟨(List.replicate n.toNat a.cps).foldl (· ++ ·) #[]⟩ : Str) = repS a n.toNat := by
          unfold repS
          rw [repS_fold]
          simp
        rw [e]
        refine ⟨?_, ⟨.str _, H, I.tok _, ⟨_, rfl⟩, q⟩⟩
        refine Nat.le_trans ?_ (lenLine (n := a.length * n.toNat) big)
        show (List.replicate n.toNat a.cps.toList).flatten.toArray.size ≤ _
        rw [List.size_toArray, List.length_flatten, List.map_replicate, List.sum_replicate_nat]
        have : a.cps.toList.length = a.length := Array.length_toList
        rw [this, Nat.mul_comm]
        exact Nat.le_refl _
end L2
namespace Ep
open PySem L2 PySem.SeqAt
inductive SpText82P (vs : List V) (H : Hp) (Q : VK) : Prop
  | mk (n l : Addr) (wide : Int) (ws : List (Int × Int)) (h1 : vs = [.ref n]) (h2 : H n = some (.tup [.int wide, .ref l])) (h3 : WsL H l ws) (h4 : 1 ≤ wide) (h5 : wide ≤ 8) (h6 : WOk wide ws) (h7 : ws.length ≤ 41) (h8 : ∀ H', Same H H' → Q (.str (netS wide ws)) H') : SpText82P vs H Q
def spText82 : Sp := fun vs H Q _ => SpText82P vs H Q
def LaneV (l : List Nat) (wide : Int) (v : V) : Prop := (v = .non ∧ ∀ d, 0 ≤ d → d < wide → l ≠ [dg d]) ∨ ∃ d, 0 ≤ d ∧ d < wide ∧ v = .int d ∧ l = [dg d]
inductive SpLane82P (vs : List V) (H : Hp) (Q : VK) : Prop
  | mk (x : Str) (wide : Int) (h1 : vs = [.str x, .int wide]) (h2 : x.length ≤ 2000) (h3 : 1 ≤ wide) (h4 : wide ≤ 8) (h5 : ∀ v, LaneV (Ls x) wide v → Q v H) : SpLane82P vs H Q
def spLane82 : Sp := fun vs H Q _ => SpLane82P vs H Q
inductive SpRead82P (vs : List V) (H : Hp) (Q : VK) : Prop
  | mk (x : Str) (h1 : vs = [.str x]) (h2 : x.length ≤ 1990) (h3 : ∀ (v : V) (wide : Int) (ws : List (Int × Int)) (H' : Hp), Same H H' → 1 ≤ wide → wide ≤ 8 → WOk wide ws → ws.length ≤ 40 → x = netS wide ws → Net H' v wide ws → Q v H') (h4 : ∀ H', Same H H' → (∀ wide ws, 1 ≤ wide → wide ≤ 8 → WOk wide ws → ws.length ≤ 40 → x ≠ netS wide ws) → Q .non H') : SpRead82P vs H Q
def spRead82 : Sp := fun vs H Q _ => SpRead82P vs H Q
inductive SpHeard82P (vs : List V) (H : Hp) (Q : VK) : Prop
  | mk (x : Str) (h1 : vs = [.str x]) (h2 : x.length ≤ 1990) (h3 : ∀ (v : V) (wide : Int) (ws : List (Int × Int)) (H' : Hp), Same H H' → 1 ≤ wide → wide ≤ 8 → WOk wide ws → ws.length ≤ 40 → x = netS wide ws → Net H' v wide ws → Q v H') (h4 : ∀ H', Same H H' → (∀ wide ws, 1 ≤ wide → wide ≤ 8 → WOk wide ws → ws.length ≤ 40 → x ≠ netS wide ws) → Q (.str "refused") H') : SpHeard82P vs H Q
  | odd (v : V) (h1 : vs = [v]) (h2 : Th H v) (h3 : ∀ x, v ≠ .str x) (h4 : ∀ H', Same H H' → Q (.str "refused") H') : SpHeard82P vs H Q
def spHeard82 : Sp := fun vs H Q _ => SpHeard82P vs H Q
inductive SpBend82P (vs : List V) (H : Hp) (Q : VK) : Prop
  | mk (p : Addr) (x : Str) (h1 : vs = [.ref p, .str x]) (h2 : Pen H p) (h3 : x.length ≤ 1000) (h4 : ∀ (y : Str) (H' : Hp), Kp p H H' → Pen H' p → y.length ≤ 2 * x.length + 10 → Q (.str y) H') : SpBend82P vs H Q
def spBend82 : Sp := fun vs H Q _ => SpBend82P vs H Q
theorem fromS_len (x : Str) (n : Nat) : (fromS x n).length = x.length - n := by
  rw [← ls_len]
  show ((Ls x).drop n).length = _
  rw [List.length_drop, ls_len]
theorem toS_len (x : Str) (n : Nat) : (toS x n).length ≤ x.length := by
  rw [← ls_len]
  show ((Ls x).take n).length ≤ _
  rw [List.length_take, ls_len]
  (first | lia | omega)
theorem repS_len (x : Str) (n : Nat) : (repS x n).length = n * x.length := by
  rw [← ls_len]
  show ((List.replicate n (Ls x)).flatten).length = _
  rw [List.length_flatten, List.map_replicate, List.sum_replicate_nat, ls_len]
def Wt (qs : List Str) : Nat := (qs.map (·.length)).sum + qs.length
theorem wt_app (a b : List Str) : Wt (a ++ b) = Wt a + Wt b := by
  unfold Wt
  rw [List.map_append, List.sum_append_nat, List.length_append]
  (first | lia | omega)
theorem wt_cons (y : Str) (b : List Str) : Wt (y :: b) = y.length + 1 + Wt b := by
  unfold Wt
  rw [List.map_cons, List.sum_cons, List.length_cons]
  (first | lia | omega)
theorem wt_cut (ps : List Str) (i : Nat) : Wt (ps.take i) + Wt (ps.drop i) = Wt ps := by
  rw [← wt_app, List.take_append_drop]
theorem wt_drop (ps : List Str) (i : Nat) : Wt (ps.drop (i + 1)) ≤ Wt (ps.drop i) := by
  by_cases h : i < ps.length
  · rw [List.drop_eq_getElem_cons h, wt_cons]
    (first | lia | omega)
  · rw [List.drop_of_length_le (by (first | lia | omega)), List.drop_of_length_le (by (first | lia | omega))]
    exact Nat.le_refl _
theorem wt_set {y : Str} : ∀ (qs : List Str) (i : Nat) (z : Str), qs[i]? = some z → Wt (qs.set i y) + z.length = Wt qs + y.length
  | [], i, z, h => by simp at h
  | q :: r, 0, z, h => by
    cases h
    rw [List.set_cons_zero, wt_cons, wt_cons]
    (first | lia | omega)
  | q :: r, i + 1, z, h => by
    rw [List.set_cons_succ, wt_cons, wt_cons]
    have := wt_set (y := y) r i z h
    (first | lia | omega)
theorem wt_join : ∀ (qs : List Str), qs ≠ [] → (Str.join ⟨#[32]⟩ qs).length + 1 = Wt qs
  | [x], _ => by
    rw [wt_cons]
    show x.length + 1 = _
    rfl
  | x :: y :: r, _ => by
    have e := congrArg List.length (ls_join1 32 x y r)
    rw [ls_len, List.length_append, ls_len, List.length_cons, ls_len] at e
    have := wt_join (y :: r) (by simp)
    rw [wt_cons]
    (first | lia | omega)
theorem wt_txt (qs : List Str) : (Txt.join ⟨#[32]⟩ qs).length ≤ Wt qs := by
  rw [join_glued]
  cases qs with
  | nil => exact Nat.zero_le _
  | cons a b =>
    have := wt_join (a :: b) (by simp)
    (first | lia | omega)
theorem wt_one {qs : List Str} {z : Str} (h : z ∈ qs) : z.length + 1 ≤ Wt qs := by
  induction qs with
  | nil => cases h
  | cons a b ih =>
    rw [wt_cons]
    rcases List.mem_cons.mp h with e | e
    · rw [e]; (first | lia | omega)
    · have := ih e
      (first | lia | omega)
theorem odd_words : ∀ y ∈ [Str.ofString "0-1", Str.ofString "0-0", Str.ofString "-0-1", Str.ofString "1-", Str.ofString "00-1", Str.ofString "7-8", Str.ofString "1-0-1"], y.length ≤ 5 := by decide +kernel
theorem wk_split {w : Int × Int} (f : Fg w) : Txt.split (wkS w) ⟨#[45]⟩ = [Mk [dg w.1], Mk [dg w.2]] := by
  have e : wkS w = Str.join ⟨#[45]⟩ [Mk [dg w.1], Mk [dg w.2]] := by
    refine ls_inj ?_
    rw [ls_join1]
    rfl
  rw [e]
  refine split_words (by simp) fun p hp => ?_
  have h1 := f.1
  have h2 := f.2.2.1
  simp only [List.mem_cons, List.not_mem_nil, or_false] at hp
  rcases hp with rfl | rfl
  · intro z
    have := List.mem_singleton.mp (show 45 ∈ [dg w.1] from z)
    unfold dg at this
    (first | lia | omega)
  · intro z
    have := List.mem_singleton.mp (show 45 ∈ [dg w.2] from z)
    unfold dg at this
    (first | lia | omega)
theorem split_wk {y : Str} {w : Int × Int} (h : Txt.split y ⟨#[45]⟩ = [Mk [dg w.1], Mk [dg w.2]]) : y = wkS w := by
  have := StrLaws.join_split y ⟨#[45]⟩
  rw [h] at this
  rw [← this]
  refine ls_inj ?_
  rw [ls_join1]
  rfl
structure ErrXK (K : PySem.W.Frag) (a : ErrA) : Prop where
  q_NoText : PySem.W.excIn K a.notext veB "ValueError.__new__" = true
  m_NoText : PySem.W.exmOne K (.ref a.notext) (.ref a.net) = some true
  l_NoText : ExcLook K a.notext
  i_NoText : PySem.W.kitAny K (.ref a.notext) [.ref a.nolane, .ref a.noname, .ref a.nonet, .ref a.norow, .ref a.nowalker, .ref a.many] = some false
  t_NoText : PySem.W.kitOne K (.ref a.notext) (.ref a.notext) = some true
  v_NoText : PySem.W.kitOne K (.ref a.notext) (.type "ValueError") = some true
structure ErrX (K : PySem.W.Frag) (mg : Str → Option Value) (a : ErrA) : Prop extends ErrXK K a where
  at_NetError : mg "NetError" = some (.ref a.net)
  at_NoNet : mg "NoNet" = some (.ref a.nonet)
  at_NoLane : mg "NoLane" = some (.ref a.nolane)
  at_NoWalker : mg "NoWalker" = some (.ref a.nowalker)
  at_TooMany : mg "TooMany" = some (.ref a.many)
  at_NoText : mg "NoText" = some (.ref a.notext)
  at_NoRow : mg "NoRow" = some (.ref a.norow)
  at_NoName : mg "NoName" = some (.ref a.noname)
theorem read_mono {an : Addr} {v : V} {H : Hp} {P1 : V → Hp → Prop} {P2 : Hp → Prop} {Q : VK} {E : XK} (h : spReadG an [v] H P1 (fun c _ H1 => c = .ref an ∧ P2 H1)) (q : ∀ u H1, P1 u H1 → Q u H1) (e : ∀ H1, P2 H1 → E (.ref an) none H1) : spReadG an [v] H Q E := by
  rcases h with ⟨x, h1, len, a, b⟩ | ⟨v', h1, th, ns, b⟩
  · exact .mk x h1 len (fun u wide ws H' s' a1 a8 ok ln z n => q u H' (a u wide ws H' s' a1 a8 ok ln z n)) (fun H' s' hn => e H' (b H' s' hn).2)
  · exact .odd v' h1 th ns fun H' s' => e H' (b H' s').2
theorem sh_ref : shaped (.str "refused") = true := by
  show (PyData.canLay0 _ && decide (PyData.depth _ ≤ 64)) = true
  simp [PyData.canLay0, PyData.depth]
  decide +kernel
theorem not_net {x : Str} (h : x.length % 4 ≠ 2) (wide : Int) (ws : List (Int × Int)) : x ≠ netS wide ws := fun z => by
  rw [z, netS_len] at h
  (first | lia | omega)
theorem many_net {x : Str} (h : x.length = 166) (wide : Int) (ws : List (Int × Int)) (l : ws.length ≤ 40) : x ≠ netS wide ws := fun z => by
  rw [z, netS_len] at h
  (first | lia | omega)
theorem forty_net : (Str.ofString "2:") ++ repS (Str.ofString " 1-0") 40 = netS 2 (List.replicate 40 (1, 0)) := by decide +kernel
theorem forty_ok : WOk 2 (List.replicate 40 ((1 : Int), (0 : Int))) := fun w hw => by
  rw [(List.mem_replicate.mp hw).2]
  decide
theorem heard_mono {v : V} {H : Hp} {Q : VK} {E : XK} (h : spHeard82 [v] H (fun u H' => u = .str "refused" ∧ Same H H') (fun _ _ _ => True)) (q : ∀ H', Same H H' → Q (.str "refused") H') : spHeard82 [v] H Q E := by
  rcases h with ⟨x, h1, len, a, b⟩ | ⟨v', h1, th, ns, b⟩
  · refine .mk x h1 len (fun u wide ws H' s' a1 a8 ok ln z n => ?_) (fun H' s' hn => q H' s')
    obtain ⟨e, _⟩ := a u wide ws H' s' a1 a8 ok ln z n
    rw [e]
    exact q H' s'
  · exact .odd v' h1 th ns fun H' s' => q H' s'
theorem refs_rep {H : Hp} {t : Addr} {a b : Int} (h : H t = some (.tup [.int a, .int b])) : ∀ n : Nat, Refs H (List.replicate n [V.ref t]).flatten (List.replicate n (a, b))
  | 0 => .nil
  | n + 1 => by
    rw [List.replicate_succ, List.flatten_cons, List.replicate_succ]
    exact .cons ⟨t, rfl, h⟩ (refs_rep h n)
end Ep


namespace Ep
open PySem L2
def top (i : Nat) : Stmt := PySem.Challenge.pw_evenpass_k82_texts_of_no_nets.main.body.getD i (.Pass ⟨0, 0, 0, 0⟩)
abbrev s_is_whole : Stmt := top 12
abbrev s_is_lane : Stmt := top 13
abbrev s_is_wicket : Stmt := top 14
abbrev s_are_wickets : Stmt := top 15
abbrev s_makes_net : Stmt := top 16
abbrev s_net_of : Stmt := top 17
abbrev s_is_number : Stmt := top 21
abbrev s_number_of : Stmt := top 22
abbrev s_wicket_of : Stmt := top 23
abbrev s_wickets_of : Stmt := top 24
abbrev s_read_net : Stmt := top 25
abbrev s_pen : Stmt := top 27
abbrev s_take : Stmt := top 28
abbrev s_wickets : Stmt := top 29
abbrev s_text : Stmt := top 30
abbrev s_lane : Stmt := top 31
abbrev s_read : Stmt := top 32
abbrev s_signs : Stmt := top 33
abbrev s_words : Stmt := top 34
abbrev s_heard : Stmt := top 35
abbrev s_law : Stmt := top 36
end Ep

namespace Ep
open PySem L2 PySem.SeqAt
local macro_rules | `(tactic| walk_at "cm") => `(tactic| first | exact .inr ⟨by decide, by decide⟩ | exact .inl ⟨by decide, by decide⟩ | exact .inl ⟨by omega, by omega⟩ | exact .inr ⟨by omega, by omega⟩)
local macro_rules | `(tactic| walk_at "side") => `(tactic| first
  | (show (0 : Int) < _; first | decide | omega)
  | (show CMul _ _; walk_at "cm")
  | (show List.length _ ≤ sizeLine; exact lenLine (by simp only [List.length_cons, List.length_nil] <;> omega))
  | (show tyV _ _ _ _; exact .inl ⟨rfl, _, SqL.of (by walk_at "hh")⟩)
  | (show CPow _ _; exact ⟨by decide, by decide, by decide⟩)
  | (show _ ∧ _; exact ⟨by first | decide | omega, by first | decide | omega⟩)
  | omega)
local macro_rules | `(tactic| walk_at "rd1") => `(tactic| first
  | refine ⟨_, rfl, ?_⟩
  | refine ⟨_, _, rfl, rfl, ?_⟩
  | refine ⟨_, _, _, _, rfl, rfl, SqL.of (by assumption), by first | rfl | assumption, ?_⟩
  | refine ⟨_, _, _, _, rfl, rfl, SqT.of (by assumption), by first | rfl | assumption, ?_⟩
  | refine ⟨_, _, rfl, rfl, by walk_at "side", ?_⟩
  | refine REqP.mk rfl ?_
  | refine RNeP.mk rfl ?_
  | refine NewOb.mk (by walk_at "side") ?_
  | refine And.intro rfl ?_
  | refine And.intro (by walk_at "side") ?_
  | refine Or.inr ⟨_, rfl, ?_⟩)
local macro_rules | `(tactic| walk_at "rd") => `(tactic| repeat walk_at "rd1")
local macro_rules | `(tactic| walk_at "ne") => `(tactic| first
  | assumption
  | exact Ne.symm (by assumption)
  | exact ne1 (by assumption) (by walk_at "hh")
  | exact ne2 (by assumption) (by walk_at "hh")
  | exact ne3 (by assumption) (by walk_at "hh")
  | exact ne4 (by assumption) (by walk_at "hh"))
local macro_rules | `(tactic| walk_at "hh") => `(tactic| first
  | assumption
  | exact upd_same
  | exact (upd_ne (by walk_at "ne")).trans (by walk_at "hh")
  | exact (by assumption : Same _ _) _ _ (by walk_at "hh")
  | exact (by assumption : Kp _ _ _) _ _ (by walk_at "hh") (by walk_at "ne"))
local macro_rules | `(tactic| walk_at "fr") => `(tactic| first
  | assumption
  | exact free2 (by assumption) (by walk_at "sm"))
local macro_rules | `(tactic| walk_at "sm") => `(tactic| first
  | assumption
  | exact Same.refl _
  | exact Same.put (by walk_at "fr") (by walk_at "sm")
  | exact trans2 (by assumption) (by walk_at "sm"))
local macro_rules | `(tactic| walk_at "kt") => `(tactic| first
  | exact KT.refl _
  | assumption
  | exact KT.new (by assumption) (by walk_at "kt")
  | exact KT.lst (by walk_at "hh") (by walk_at "kt")
  | exact KT.same (by assumption) (by walk_at "kt")
  | exact KT.kp (by assumption) (by walk_at "hh") (by walk_at "kt"))

section
variable {P : Program} {w : World} {K : PySem.W.Frag} {mg : Str → Option Value} {base : Heap} {f : Addr} {fd : FuncData}
theorem sc_take : FnScope ["_law_pen_here", "_law_size", "_law_found", "_law_number"] ["_law_pen_here", "_law_size"] (defScope s_take) := ⟨rfl, rfl, rfl, by decide +kernel, rfl, by decide +kernel, by decide +kernel⟩
theorem ok_take (F : Here K mg "_law_take" s_take f fd) : FnOk P w K mg base CX0 1 f fd ["_law_pen_here", "_law_size"] spTake := by
  refine F.fn.ok sc_take (fun vs H Q E h => ?_) (fun cdv A outer s H vs Q E hr h => ?_)
  · obtain ⟨p, a, b, c, n, rfl, _⟩ := h
    rfl
  · obtain ⟨p, a, b, c, n, rfl, hp, h0, h1, k⟩ := h
    refine ⟨_, (pss_cons (ps_if (pt_cmpR op_gt (pe_ix ix_list (pv 0) pe_int (fun _ _ => rfl)) pe_int (nomark _))
    (pss_cons (ps_set (i := 2) sc_take.nd rfl (by first | exact Or.inl rfl | exact Or.inr rfl) (pe_op op_mod (pe_ix ix_list (pv 0) pe_int (fun _ _ => rfl)) (pv 1)))
    (pss_cons (ps_asg (pe_op op_fdivB (pe_ix ix_list (pv 0) pe_int (fun _ _ => rfl)) (pv 1)) (pg_sub (pv 0) pe_int set_list))
    (pss_one (ps_ret (pv 2)))))
    pss_nil)
    (pss_cons (ps_asg (pe_op op_add (pe_ix ix_list (pv 0) pe_int (fun _ _ => rfl)) pe_int) (pg_sub (pv 0) pe_int set_list))
    (pss_cons (ps_set (i := 3) sc_take.nd rfl (by first | exact Or.inl rfl | exact Or.inr rfl) (pe_op op_mod (pe_op op_mul (pe_op op_add (pe_ix ix_list (pv 0) pe_int (fun _ _ => rfl)) (pe_op op_mul pe_int (pe_ix ix_list (pv 0) pe_int (fun _ _ => rfl)))) pe_int) pe_int))
    (pss_cons (ps_set (i := 3) sc_take.nd rfl (by first | exact Or.inl rfl | exact Or.inr rfl) (pe_op op_mod (pe_op op_add (pe_op op_mul (pv 3) (pv 3)) (pe_op op_mul pe_int (pe_ix ix_list (pv 0) pe_int (fun _ _ => rfl)))) pe_int))
    (pss_cons (ps_set (i := 3) sc_take.nd rfl (by first | exact Or.inl rfl | exact Or.inr rfl) (pe_op op_mod (pe_op op_mul (pv 3) (pe_op op_add (pe_op op_mod (pv 3) pe_int) (pe_ix ix_list (pv 0) pe_int (fun _ _ => rfl)))) pe_int))
    (pss_one (ps_ret (pe_op op_mod (pe_op op_fdivB (pv 3) pe_int) (pv 1))))))))), ?_⟩
    walk_at "rd"
    refine ite2 (fun g => ?_) (fun g => ?_)
    · walk_at "rd"
      refine ⟨p, _, _, _, rfl, rfl, hp, rfl, ?_⟩
      walk_at "rd"
      exact k _ _ _ _ (Int.emod_nonneg _ (by (first | lia | omega))) (Int.emod_lt_of_pos _ h0)
    · walk_at "rd"
      refine ⟨p, _, _, _, rfl, rfl, hp, rfl, ?_⟩
      have hp2 : (upd H p (HO.lst [V.int a, V.int (b + 1), V.int c])) p = some (.lst [V.int a, V.int (b + 1), V.int c]) := upd_same
      walk_at "rd"
      exact k _ _ _ _ (Int.emod_nonneg _ (by (first | lia | omega))) (Int.emod_lt_of_pos _ h0)
end
section
variable {P : Program} {w : World} {K : PySem.W.Frag} {mg : Str → Option Value} {base : Heap} {f : Addr} {fd : FuncData}
theorem sc_pen : FnScope ["_law_script", "_law_k", "_law_cell"] ["_law_script", "_law_k"] (defScope s_pen) := ⟨rfl, rfl, rfl, by decide +kernel, rfl, by decide +kernel, by decide +kernel⟩
theorem ok_pen (T : Bn mg) (F : Here K mg "_law_pen" s_pen f fd) : FnOk P w K mg base CX0 1 f fd ["_law_script", "_law_k"] (spPen K) := by
  refine F.fn.ok sc_pen (fun vs H Q E h => ?_) (fun cdv A outer s H vs Q E hr h => ?_)
  · obtain ⟨a, ns, k, rfl, _⟩ := h
    rfl
  · obtain ⟨a, ns, k, rfl, hS, h63, h0, h1, q⟩ := h
    refine ⟨_, (pss_cons (ps_set (i := 2) sc_pen.nd rfl (by first | exact Or.inl rfl | exact Or.inr rfl) (pe_op op_add (pe_op op_mul pe_int (pv 1)) pe_int))
    (pss_cons (ps_if (pt_cmpR op_gt (pe_callB call_len_seq rfl T.n_len PySem.boot_len (pa_cons (pv 0) pa_nil)) pe_int (nomark _))
    (pss_cons (ps_set (i := 2) sc_pen.nd rfl (by first | exact Or.inl rfl | exact Or.inr rfl) (pe_ix ix_list (pv 0) (pe_op op_mod (pv 1) (pe_callB call_len_seq rfl T.n_len PySem.boot_len (pa_cons (pv 0) pa_nil))) (fun _ _ => rfl)))
    (pss_one (ps_if (pt_cmpR op_ge (pv 1) (pe_callB call_len_seq rfl T.n_len PySem.boot_len (pa_cons (pv 0) pa_nil)) (nomark _))
    (pss_one (ps_set (i := 2) sc_pen.nd rfl (by first | exact Or.inl rfl | exact Or.inr rfl) (pe_op op_add (pe_op op_mod (pv 2) pe_int) (pe_op op_mul pe_int (pv 1)))))
    pss_nil)))
    pss_nil)
    (pss_cons (ps_if (pt_cmpR op_ge (pv 2) (pe_op op_pow pe_int pe_int) (nomark _))
    (pss_one (ps_ret (pe_lst (pa_cons (pe_op op_sub (pv 2) (pe_op op_pow pe_int pe_int)) (pa_cons pe_int (pa_cons (pe_op op_add (pe_op op_mod (pv 2) pe_int) (pv 1)) pa_nil))))))
    pss_nil)
    (pss_one (ps_ret (pe_lst (pa_cons pe_int (pa_cons pe_int (pa_cons (pe_op op_add (pe_op op_mod (pv 2) pe_int) (pe_op op_mul pe_int (pv 1))) pa_nil))))))))), ?_⟩
    have hl : (ns.map V.int).length = ns.length := List.length_map _
    walk_at "rd"
    refine ⟨_, _, rfl, .inl hS, ?_⟩
    walk_at "rd"
    refine ite2 (fun g => ?_) (fun g => ?_)
    · have g' := of_decide_eq_true g
      rw [hl] at g'
      walk_at "rd"
      refine ⟨_, _, rfl, .inl hS, ?_⟩
      walk_at "rd"
      refine ⟨a, _, _, _, rfl, rfl, hS, atI_int (Int.emod_nonneg _ (by (first | lia | omega))) (by rw [hl]; exact Int.emod_lt_of_pos _ (by (first | lia | omega))), ?_⟩
      walk_at "rd"
      refine ⟨_, _, rfl, .inl hS, ?_⟩
      walk_at "rd"
      refine ite2 (fun g => ?_) (fun g => ?_)
      all_goals
        walk_at "rd"
        refine ite2 (fun g => ?_) (fun g => ?_)
        · walk_at "rd"
          intro p hp
          exact q p _ _ _ hp
        · walk_at "rd"
          intro p hp
          exact q p _ _ _ hp
    · walk_at "rd"
      refine ite2 (fun g => ?_) (fun g => ?_)
      · walk_at "rd"
        intro p hp
        exact q p _ _ _ hp
      · walk_at "rd"
        intro p hp
        exact q p _ _ _ hp
end
section
variable {P : Program} {w : World} {K : PySem.W.Frag} {mg : Str → Option Value} {base : Heap} {f : Addr} {fd : FuncData}
theorem sc_wickets : FnScope ["_law_pen_here", "_law_wide", "_law_many", "_law_found", "_law_k", "_law_first"] ["_law_pen_here", "_law_wide", "_law_many"] (defScope s_wickets) := ⟨rfl, rfl, rfl, by decide +kernel, rfl, by decide +kernel, by decide +kernel⟩
theorem ok_wickets (T : Bn mg) (F : Here K mg "_law_wickets" s_wickets f fd) (C_law_take : Callee P w K mg base "_law_take" 1 ["_law_pen_here", "_law_size"] spTake) :
    FnOk P w K mg base CX0 2 f fd ["_law_pen_here", "_law_wide", "_law_many"] spWickets := by
  refine F.fn.ok sc_wickets (fun vs H Q E h => ?_) (fun cdv A outer s H vs Q E hr h => ?_)
  · obtain ⟨p, wide, many, rfl, _⟩ := h
    rfl
  · obtain ⟨p, wide, many, rfl, ⟨a0, b0, c0, hp0⟩, w1, w8, m0, m41, q⟩ := h
    refine ⟨_, (pss_cons (ps_set (i := 3) sc_wickets.nd rfl (by first | exact Or.inl rfl | exact Or.inr rfl) (pe_lst pa_nil))
    (pss_cons (ps_for PassesOwn.never rfl  (pi_range1 rfl T.n_range (pa_cons (pe_op op_mul (pv 2) (pe_callTy call_int1 rfl T.n_int boot_intT (pa_cons (pe_cmpR op_gt (pv 1) pe_int (nomark _)) pa_nil))) pa_nil)) (pg_name (i := 4) sc_wickets.nd rfl (by first | exact Or.inl rfl | exact Or.inr rfl))
    (pss_cons (ps_set (i := 5) sc_wickets.nd rfl (by first | exact Or.inl rfl | exact Or.inr rfl) (pe_callC C_law_take (hr.mono (by first | decide | (first | lia | omega))) rfl (pa_cons (pv 0) (pa_cons (pv 1) pa_nil))))
    (pss_one (ps_expr (pe_bm PySem.F.plainAttrs_list PySem.F.slot_list_append PySem.F.type_list_append mt_append (pv 3) (pa_cons (pe_tup (pa_cons (pv 5) (pa_cons (pe_op op_mod (pe_op op_add (pe_op op_add (pv 5) pe_int) (pe_callC C_law_take (hr.mono (by first | decide | (first | lia | omega))) rfl (pa_cons (pv 0) (pa_cons (pe_op op_sub (pv 1) pe_int) pa_nil)))) (pv 1)) pa_nil))) pa_nil))))))
    (pss_one (ps_ret (pv 3))))), ?_⟩
    walk_at "rd"
    intro l hl
    have npl : p ≠ l := ne_of_none hp0 hl
    walk_at "rd"
    have hj : ∃ j : Nat, many * (if decide (1 < wide) = true then (1 : Int) else 0) = (j : Int) ∧ (j : Int) ≤ many ∧ (0 < j → 1 < wide) := by
      by_cases hw : 1 < wide
      · exact ⟨many.toNat, by rw [if_pos (decide_eq_true hw)]; (first | lia | omega), by (first | lia | omega), fun _ => hw⟩
      · exact ⟨0, by rw [if_neg (by simpa using hw)]; (first | lia | omega), by (first | lia | omega), fun z => absurd z (by (first | lia | omega))⟩
    obtain ⟨j, ej, jm, jw⟩ := hj
    show -(2 ^ 62) ≤ many * (if decide (1 < wide) = true then (1 : Int) else 0) ∧ _
    rw [ej]
    refine ⟨by (first | lia | omega), by (first | lia | omega), ?_⟩
    refine for_range (n := (j : Int).toNat) (fun i σ Hc => ∃ (v4 v5 : Option V) (ws : List (Int × Int)), σ = [some (.ref p), some (.int wide), some (.int many), some (.ref l), v4, v5] ∧ Kp p H Hc ∧ Pen Hc p ∧ WsL Hc l ws ∧ WOk wide ws ∧ ws.length = i)
      ⟨none, none, [], rfl, Kp.put hl (Kp.refl _ _), ⟨a0, b0, c0, by rw [upd_ne npl]; exact hp0⟩, ⟨[], upd_same, .nil⟩, WOk.nil, rfl⟩ ?_ ?_
    · rintro i σ Hc hlt ⟨v4, v5, ws, rfl, kp, ⟨a, b, c, hp⟩, ⟨rs, hls, hrs⟩, ok, len⟩
      have hw : 1 < wide := jw (by (first | lia | omega))
      walk_at "rd"
      refine ⟨p, a, b, c, wide, rfl, hp, by (first | lia | omega), by (first | lia | omega), fun v a' b' c' v0 vw => ?_⟩
      have hl1 : (upd Hc p (HO.lst [V.int a', V.int b', V.int c'])) l = some (.lst rs) := by rw [upd_ne (Ne.symm npl)]; exact hls
      walk_at "rd"
      refine ⟨p, a', b', c', wide - 1, rfl, upd_same, by (first | lia | omega), by (first | lia | omega), fun u a2 b2 c2 u0 uw => ?_⟩
      walk_at "rd"
      intro t ht
      have kp2 : Kp p Hc (upd (upd (upd Hc p (HO.lst [V.int a', V.int b', V.int c'])) p (HO.lst [V.int a2, V.int b2, V.int c2])) t (HO.tup [V.int v, V.int ((v + 1 + u) % wide)])) :=
        Kp.trans (Kp.trans Kp.upd Kp.upd) (Kp.same (same_new ht _))
      have ntl : t ≠ l := fun z => by
        rw [z, upd_ne (Ne.symm npl), upd_ne (Ne.symm npl), hls] at ht
        cases ht
      have ntp : t ≠ p := fun z => by
        rw [z, upd_same] at ht
        cases ht
      refine ⟨l, rs, _, rfl, rfl, kp2 l _ hls (Ne.symm npl), lenLt (by have := hrs.len; (first | lia | omega)), ?_⟩
      have hv : (v + 1 + u) % wide ≠ v ∧ 0 ≤ (v + 1 + u) % wide ∧ (v + 1 + u) % wide < wide := by
        refine ⟨fun z => ?_, Int.emod_nonneg _ (by (first | lia | omega)), Int.emod_lt_of_pos _ (by (first | lia | omega))⟩
        by_cases hh : v + 1 + u < wide
        · rw [Int.emod_eq_of_lt (by (first | lia | omega)) hh] at z
          (first | lia | omega)
        · have e2 : (v + 1 + u) % wide = v + 1 + u - wide := by
            rw [Int.emod_eq_emod_iff_emod_sub_eq_zero.mpr (show (v + 1 + u - (v + 1 + u - wide)) % wide = 0 by rw [show v + 1 + u - (v + 1 + u - wide) = wide by (first | lia | omega)]; exact Int.emod_self)]
            exact Int.emod_eq_of_lt (by (first | lia | omega)) (by (first | lia | omega))
          rw [e2] at z
          (first | lia | omega)
      refine ⟨_, _, ws ++ [(v, (v + 1 + u) % wide)], rfl, Kp.put hl (Kp.trans kp kp2), ?_, ?_, ok.app (WOk.one ⟨v0, vw, hv.2.1, hv.2.2, Ne.symm hv.1⟩), by simp [len]⟩
      · exact ⟨a2, b2, c2, by rw [upd_ne npl, upd_ne (Ne.symm ntp), upd_same]⟩
      · refine ⟨_, upd_same, ?_⟩
        have hr2 := hrs.kp kp2 hp
        refine (hr2.app (.cons ⟨t, rfl, upd_same⟩ .nil)).mono fun b xs e => ?_
        rw [upd_ne (fun z => ?_)]
        · exact e
        · subst z
          rw [kp2 _ _ hls (Ne.symm npl)] at e
          cases e
    · rintro σ Hc ⟨v4, v5, ws, rfl, kp, pn, wl, ok, len⟩
      walk_at "rd"
      exact q l ws Hc hl kp pn wl ok (by (first | lia | omega))
end
section
variable {P : Program} {w : World} {K : PySem.W.Frag} {mg : Str → Option Value} {base : Heap} {f : Addr} {fd : FuncData}
theorem sc_is_whole : FnScope ["thing"] ["thing"] (defScope s_is_whole) := ⟨rfl, rfl, rfl, by decide +kernel, rfl, by decide +kernel, by decide +kernel⟩
theorem ok_is_whole (T : Bn mg) (F : Here K mg "is_whole" s_is_whole f fd) : FnOk P w K mg base CX0 1 f fd ["thing"] spWholeT := by
  refine F.fn.ok sc_is_whole (fun vs H Q E h => ?_) (fun cdv A outer s H vs Q E hr h => ?_)
  · obtain ⟨x, rfl, _⟩ := h
    rfl
  · obtain ⟨x, rfl, t, q⟩ := h
    refine ⟨_, (pss_one (ps_ret (pe_and (pe_callB call_isinst rfl T.n_isinstance boot_isinstance (pa_cons (pv 0) (pa_cons (pe_bltn (v := V.ty "int") (u := .type "int") rfl T.n_int (by decide +kernel) rfl) pa_nil))) (pe_one (pe_not (pe_callB call_isinst rfl T.n_isinstance boot_isinstance (pa_cons (pv 0) (pa_cons (pe_bltn (v := V.ty "bool") (u := .type "bool") rfl T.n_bool (by decide +kernel) rfl) pa_nil)))))))), ?_⟩
    rcases t with ⟨i, rfl⟩ | o
    · refine ⟨_, rfl, _, _, _, true, rfl, TyOf.int i, rfl, _, rfl, iteTd rfl ?_⟩
      exact ⟨_, rfl, _, _, _, false, rfl, TyOf.int i, rfl, _, rfl, q⟩
    · cases o with
      | bl b =>
        refine ⟨_, rfl, _, _, _, true, rfl, TyOf.bl b, rfl, _, rfl, iteTd rfl ?_⟩
        exact ⟨_, rfl, _, _, _, true, rfl, TyOf.bl b, rfl, _, rfl, q⟩
      | non => exact ⟨_, rfl, _, _, _, false, rfl, TyOf.non, rfl, _, rfl, iteFd (by decide) q⟩
      | str z => exact ⟨_, rfl, _, _, _, false, rfl, TyOf.str z, rfl, _, rfl, iteFd (by decide) q⟩
      | lst h => exact ⟨_, rfl, _, _, _, false, rfl, TyOf.lst h, rfl, _, rfl, iteFd (by decide) q⟩
      | tup h => exact ⟨_, rfl, _, _, _, false, rfl, TyOf.tup h, rfl, _, rfl, iteFd (by decide) q⟩
      | dct h => exact ⟨_, rfl, _, _, _, false, rfl, TyOf.dK h, rfl, _, rfl, iteFd (by decide) q⟩
end
section
variable {P : Program} {w : World} {K : PySem.W.Frag} {mg : Str → Option Value} {base : Heap} {f : Addr} {fd : FuncData}
theorem sc_is_lane : FnScope ["wide", "thing"] ["wide", "thing"] (defScope s_is_lane) := ⟨rfl, rfl, rfl, by decide +kernel, rfl, by decide +kernel, by decide +kernel⟩
theorem ok_is_lane (T : Bn mg) (F : Here K mg "is_lane" s_is_lane f fd) (Cis_whole : Callee P w K mg base "is_whole" 1 ["thing"] spWholeT) : FnOk P w K mg base CX0 2 f fd ["wide", "thing"] spLaneT := by
  refine F.fn.ok sc_is_lane (fun vs H Q E h => ?_) (fun cdv A outer s H vs Q E hr h => ?_)
  · obtain ⟨wide, x, rfl, _⟩ := h
    rfl
  · obtain ⟨wide, x, rfl, t, q⟩ := h
    refine ⟨_, (pss_one (ps_ret (pe_and (pe_callC Cis_whole (hr.mono (by first | decide | (first | lia | omega))) rfl (pa_cons (pv 1) pa_nil)) (pe_one (pe_chain op_le op_lt pe_int (pv 1) (pv 0)))))), ?_⟩
    rcases t with ⟨i, rfl⟩ | o
    · refine ⟨_, rfl, _, rfl, .inl ⟨i, rfl⟩, _, rfl, iteTd rfl ?_⟩
      refine ⟨_, rfl, _, _, rfl, rfl, _, rfl, ?_⟩
      by_cases h0 : 0 ≤ i
      · refine iteTd (decide_eq_true h0) ?_
        refine ⟨_, rfl, _, _, rfl, rfl, ?_⟩
        have e : laneB wide (.int i) = decide (i < wide) := by unfold laneB; simp [h0]
        rw [e] at q
        exact q
      · refine iteFd (by simpa using h0) ?_
        have e : laneB wide (.int i) = false := by unfold laneB; simp [h0]
        rw [e] at q
        exact q
    · refine ⟨_, rfl, x, rfl, .inr o, _, rfl, iteFd (by rw [odd_notI o]; decide) ?_⟩
      rw [odd_notL o] at q
      exact q
end
section
variable {P : Program} {w : World} {K : PySem.W.Frag} {mg : Str → Option Value} {base : Heap} {f : Addr} {fd : FuncData}
theorem sc_is_wicket : FnScope ["wide", "thing"] ["wide", "thing"] (defScope s_is_wicket) := ⟨rfl, rfl, rfl, by decide +kernel, rfl, by decide +kernel, by decide +kernel⟩
theorem ok_is_wicket (T : Bn mg) (F : Here K mg "is_wicket" s_is_wicket f fd) (Cis_lane : Callee P w K mg base "is_lane" 2 ["wide", "thing"] spLaneT) : FnOk P w K mg base CX0 3 f fd ["wide", "thing"] spWickT := by
  refine F.fn.ok sc_is_wicket (fun vs H Q E h => ?_) (fun cdv A outer s H vs Q E hr h => ?_)
  · obtain ⟨wide, x, rfl, _⟩ := h
    rfl
  · obtain ⟨wide, x, rfl, ⟨th, two⟩, q⟩ := h
    refine ⟨_, (pss_cons (ps_if (PW.pt (pw_or (pt_not (pt_val (pe_callB call_isinst rfl T.n_isinstance boot_isinstance (pa_cons (pv 1) (pa_cons (pe_bltn (v := V.ty "tuple") (u := .type "tuple") rfl T.n_tuple (by decide +kernel) rfl) pa_nil))))) (pw_or1 (pt_cmpR op_ne (pe_callB call_len_seq rfl T.n_len PySem.boot_len (pa_cons (pv 1) pa_nil)) pe_int (nomark _)))))
    (pss_one (ps_ret pe_bl))
    pss_nil)
    (pss_one (ps_ret (pe_and (pe_callC Cis_lane (hr.mono (by first | decide | (first | lia | omega))) rfl (pa_cons (pv 0) (pa_cons (pe_ix ix_tup (pv 1) pe_int (fun _ _ => rfl)) pa_nil))) (pe_and (pe_callC Cis_lane (hr.mono (by first | decide | (first | lia | omega))) rfl (pa_cons (pv 0) (pa_cons (pe_ix ix_tup (pv 1) pe_int (fun _ _ => rfl)) pa_nil))) (pe_one (pe_cmpR op_ne (pe_ix ix_tup (pv 1) pe_int (fun _ _ => rfl)) (pe_ix ix_tup (pv 1) pe_int (fun _ _ => rfl)) (nomark _)))))))), ?_⟩
    have no : (¬ IsW wide H x) → Q (.bl false) H := fun h => q false ⟨(fun z => nomatch z), fun z => absurd z h⟩
    rcases th with ⟨i, rfl⟩ | o
    · exact ⟨_, rfl, _, _, _, false, rfl, TyOf.int i, rfl, _, rfl, iteTd rfl (iteTd rfl (no fun ⟨_, _, _, e, _⟩ => nomatch e))⟩
    · cases o with
      | bl b => exact ⟨_, rfl, _, _, _, false, rfl, TyOf.bl b, rfl, _, rfl, iteTd rfl (iteTd rfl (no fun ⟨_, _, _, e, _⟩ => nomatch e))⟩
      | non => exact ⟨_, rfl, _, _, _, false, rfl, TyOf.non, rfl, _, rfl, iteTd rfl (iteTd rfl (no fun ⟨_, _, _, e, _⟩ => nomatch e))⟩
      | str z => exact ⟨_, rfl, _, _, _, false, rfl, TyOf.str z, rfl, _, rfl, iteTd rfl (iteTd rfl (no fun ⟨_, _, _, e, _⟩ => nomatch e))⟩
      | lst h => exact ⟨_, rfl, _, _, _, false, rfl, TyOf.lst h, rfl, _, rfl, iteTd rfl (iteTd rfl (no fun ⟨_, _, _, e, k, _⟩ => by cases e; rw [h] at k; cases k))⟩
      | dct h => exact ⟨_, rfl, _, _, _, false, rfl, TyOf.dK h, rfl, _, rfl, iteTd rfl (iteTd rfl (no fun ⟨_, _, _, e, k, _⟩ => by cases e; rw [h] at k; cases k))⟩
      | @tup t0 xs h =>
        refine ⟨_, rfl, _, _, _, true, rfl, TyOf.tup h, rfl, _, rfl, iteFd (by decide) ?_⟩
        match xs, h with
        | [y, z], h =>
          obtain ⟨ty, tz⟩ := two t0 y z rfl h
          refine ⟨_, rfl, t0, _, rfl, .inr (SqT.of h), rfl, _, rfl, iteFd (by simp) ?_⟩
          refine ⟨_, rfl, _, rfl, t0, _, _, _, rfl, rfl, SqT.of h, rfl, wide, y, rfl, ty, _, rfl, ?_⟩
          have inv : ∀ {a b}, IsW wide H (.ref t0) → y = a → z = b → ∃ i j, a = .int i ∧ b = .int j ∧ LaneOk wide (i, j) := fun {a b} ⟨_, i, j, e, k, l⟩ e1 e2 => by
            cases e
            rw [h] at k
            cases k
            exact ⟨i, j, e1.symm, e2.symm, l⟩
          cases y with
          | int a =>
            by_cases ha : 0 ≤ a ∧ a < wide
            · refine iteTd (decide_eq_true ha) ?_
              refine ⟨_, rfl, _, rfl, t0, _, _, _, rfl, rfl, SqT.of h, rfl, wide, z, rfl, tz, _, rfl, ?_⟩
              cases z with
              | int b =>
                by_cases hb : 0 ≤ b ∧ b < wide
                · refine iteTd (decide_eq_true hb) ?_
                  refine ⟨_, rfl, t0, _, _, _, rfl, rfl, SqT.of h, rfl, _, rfl, t0, _, _, _, rfl, rfl, SqT.of h, rfl, rfl, ?_⟩
                  refine q _ ?_
                  constructor
                  · intro e
                    refine ⟨t0, a, b, rfl, h, ha.1, ha.2, hb.1, hb.2, fun z => ?_⟩
                    have z' : a = b := z
                    subst z'
                    simp at e
                  · intro w
                    obtain ⟨i, j, e1, e2, l⟩ := inv w rfl rfl
                    cases e1
                    cases e2
                    simp
                    exact l.2.2.2.2
                · exact iteFd (by unfold laneB; simpa using hb) (no fun w => by obtain ⟨i, j, e1, e2, l⟩ := inv w rfl rfl; cases e2; exact hb ⟨l.2.2.1, l.2.2.2.1⟩)
              | non => exact iteFd (by unfold laneB; simp) (no fun w => by obtain ⟨i, j, e1, e2, l⟩ := inv w rfl rfl; cases e2)
              | bl _ => exact iteFd (by unfold laneB; simp) (no fun w => by obtain ⟨i, j, e1, e2, l⟩ := inv w rfl rfl; cases e2)
              | str _ => exact iteFd (by unfold laneB; simp) (no fun w => by obtain ⟨i, j, e1, e2, l⟩ := inv w rfl rfl; cases e2)
              | byt _ => exact iteFd (by unfold laneB; simp) (no fun w => by obtain ⟨i, j, e1, e2, l⟩ := inv w rfl rfl; cases e2)
              | flt _ => exact iteFd (by unfold laneB; simp) (no fun w => by obtain ⟨i, j, e1, e2, l⟩ := inv w rfl rfl; cases e2)
              | ref _ => exact iteFd (by unfold laneB; simp) (no fun w => by obtain ⟨i, j, e1, e2, l⟩ := inv w rfl rfl; cases e2)
              | ty _ => exact iteFd (by unfold laneB; simp) (no fun w => by obtain ⟨i, j, e1, e2, l⟩ := inv w rfl rfl; cases e2)
            · exact iteFd (by unfold laneB; simpa using ha) (no fun w => by obtain ⟨i, j, e1, e2, l⟩ := inv w rfl rfl; cases e1; exact ha ⟨l.1, l.2.1⟩)
          | non => exact iteFd (by unfold laneB; simp) (no fun w => by obtain ⟨i, j, e1, e2, l⟩ := inv w rfl rfl; cases e1)
          | bl _ => exact iteFd (by unfold laneB; simp) (no fun w => by obtain ⟨i, j, e1, e2, l⟩ := inv w rfl rfl; cases e1)
          | str _ => exact iteFd (by unfold laneB; simp) (no fun w => by obtain ⟨i, j, e1, e2, l⟩ := inv w rfl rfl; cases e1)
          | byt _ => exact iteFd (by unfold laneB; simp) (no fun w => by obtain ⟨i, j, e1, e2, l⟩ := inv w rfl rfl; cases e1)
          | flt _ => exact iteFd (by unfold laneB; simp) (no fun w => by obtain ⟨i, j, e1, e2, l⟩ := inv w rfl rfl; cases e1)
          | ref _ => exact iteFd (by unfold laneB; simp) (no fun w => by obtain ⟨i, j, e1, e2, l⟩ := inv w rfl rfl; cases e1)
          | ty _ => exact iteFd (by unfold laneB; simp) (no fun w => by obtain ⟨i, j, e1, e2, l⟩ := inv w rfl rfl; cases e1)
        | [], h => exact ⟨_, rfl, t0, _, rfl, .inr (SqT.of h), rfl, _, rfl, iteTd (by simp) (no fun ⟨_, _, _, e, k, _⟩ => by cases e; rw [h] at k; cases k)⟩
        | [y], h => exact ⟨_, rfl, t0, _, rfl, .inr (SqT.of h), rfl, _, rfl, iteTd (by simp) (no fun ⟨_, _, _, e, k, _⟩ => by cases e; rw [h] at k; cases k)⟩
        | y :: z :: u :: xs, h => exact ⟨_, rfl, t0, _, rfl, .inr (SqT.of h), rfl, _, rfl, iteTd (by simp; (first | lia | omega)) (no fun ⟨_, _, _, e, k, _⟩ => by cases e; rw [h] at k; cases k)⟩
end
section
variable {P : Program} {w : World} {K : PySem.W.Frag} {mg : Str → Option Value} {base : Heap} {f : Addr} {fd : FuncData}
theorem sc_are_wickets : FnScope ["wide", "things"] ["wide", "things"] (defScope s_are_wickets) := ⟨rfl, rfl, rfl, by decide +kernel, rfl, by decide +kernel, by decide +kernel⟩
theorem ok_are_wickets (T : Bn mg) (F : Here K mg "are_wickets" s_are_wickets f fd) (GMOST_WICKETS : ∃ t, mg "MOST_WICKETS" = some (.int 40 t)) (Cis_wicket : Callee P w K mg base "is_wicket" 3 ["wide", "thing"] spWickT) : FnOk P w K mg base CX0 4 f fd ["wide", "things"] spAreT := by
  refine F.fn.ok sc_are_wickets (fun vs H Q E h => ?_) (fun cdv A outer s H vs Q E hr h => ?_)
  · obtain ⟨wide, l, rs, rfl, _⟩ := h
    rfl
  · obtain ⟨wide, l, rs, rfl, hl, len, tw, q⟩ := h
    refine ⟨_, (pss_one (ps_ret (pe_and (pe_cmpR op_le (pe_callB call_len_seq rfl T.n_len PySem.boot_len (pa_cons (pv 1) pa_nil)) (pe_gint rfl GMOST_WICKETS) (nomark _)) (pe_one (pe_callB (call_allB rfl) rfl T.n_all boot_all (pa_cons (pe_comp ["thing"] [("wide", 0)] rfl (pi_or (pi_list (pv 1)) (pi_tup (pv 1))) (fun _ _ _ _ _ _ => by exact (pg_name (i := 0) (show List.Nodup (["thing", "wide"] : List Str) by decide +kernel) rfl (by first | exact Or.inl rfl | exact Or.inr rfl))) (fun _ _ _ _ _ _ => by exact pts_nil) (fun _ _ _ _ _ _ => by exact (pe_callC Cis_wicket (hr.mono (by first | decide | (first | lia | omega))) rfl (pa_cons (pv 1) (pa_cons (pv 0) pa_nil))))) pa_nil)))))), ?_⟩
    refine ⟨_, rfl, l, _, rfl, (hl.elim (fun h => .inl (SqL.of h)) fun h => .inr (SqT.of h)), _, _, rfl, rfl, _, rfl, ?_⟩
    by_cases l40 : rs.length ≤ 40
    · refine iteTd (decide_eq_true (by (first | lia | omega))) ?_
      have step : ∀ (i : Nat) (x : V) (bs : List Bool) (b : Bool), rs[i]? = some x → (bs.all id = true ↔ ∀ y ∈ rs.take i, IsW wide H y) → (b = true ↔ IsW wide H x) → ((bs ++ [b]).all id = true ↔ ∀ y ∈ rs.take (i + 1), IsW wide H y) := fun i x bs b hx h1 h2 => by
        rw [List.take_add_one, hx, List.all_append, Bool.and_eq_true, h1]
        simp only [List.all_cons, List.all_nil, id, Bool.and_true, h2]
        constructor
        · rintro ⟨a, c⟩ y hy
          rcases List.mem_append.mp hy with hy | hy
          · exact a y hy
          · have : y = x := by simpa using hy
            rw [this]; exact c
        · intro a
          exact ⟨fun y hy => a y (List.mem_append.mpr (.inl hy)), a x (List.mem_append.mpr (.inr (by simp)))⟩
      have fin : ∀ (bs : List Bool) (Hc : Hp), Same H Hc → (bs.all id = true ↔ ∀ y ∈ rs.take rs.length, IsW wide H y) → Q (.bl (bs.all id)) Hc := fun bs Hc sc h => q _ Hc sc (by rw [h, List.take_length]; exact ⟨fun z => ⟨l40, z⟩, fun z => z.2⟩)
      rcases hl with hl | hl
      · refine .inl ⟨_, rfl, l, rfl, ⟨_, SqL.of hl⟩, fun lc fc => ?_⟩
        refine comp_list (xs := rs) (fun i ys Hc => Same H Hc ∧ Hc lc = some (.lst ys) ∧ ∃ bs : List Bool, ys = bs.map V.bl ∧ bs.length = i ∧ (bs.all id = true ↔ ∀ y ∈ rs.take i, IsW wide H y)) ⟨Same.put fc (Same.refl H), upd_same, [], rfl, rfl, by simp⟩ (lenLine (by (first | lia | omega))) (fun i ys Hc hi ⟨sc, e1, bs, r1, r2, _⟩ => ⟨SqL.of (sc _ _ hl), e1, by rw [r1, List.length_map, r2]; exact Nat.le_refl _⟩) ?_ ?_
        · rintro i x ys Hc hx ⟨sc, e1, bs, rfl, lb, hb⟩
          have tx := tw x (List.mem_of_getElem? hx)
          refine ⟨⟨.inl rfl, .inr rfl, trivial⟩, tru_if ?_⟩
          refine ⟨_, rfl, _, rfl, wide, x, rfl, tx.same sc, fun b h => ⟨e1, Same.put fc sc, upd_same, bs ++ [b], by rw [List.map_append]; rfl, by simp [lb], step i x bs b hx hb (h.trans (isW_iff tx.th sc))⟩⟩
        · rintro ys Hc ⟨sc, e1, bs, rfl, lb, hb⟩
          exact ⟨lc, bs, rfl, SqL.of e1, fin bs Hc sc hb⟩
      · refine .inr ⟨_, rfl, l, rfl, ⟨_, SqT.of hl⟩, fun lc fc => ?_⟩
        refine comp_tup (xs := rs) (fun i ys Hc => Same H Hc ∧ Hc lc = some (.lst ys) ∧ ∃ bs : List Bool, ys = bs.map V.bl ∧ bs.length = i ∧ (bs.all id = true ↔ ∀ y ∈ rs.take i, IsW wide H y)) ⟨Same.put fc (Same.refl H), upd_same, [], rfl, rfl, by simp⟩ (lenLine (by (first | lia | omega))) (fun i ys Hc hi ⟨sc, e1, bs, r1, r2, _⟩ => ⟨SqT.of (sc _ _ hl), e1, by rw [r1, List.length_map, r2]; exact Nat.le_refl _⟩) ?_ ?_
        · rintro i x ys Hc hx ⟨sc, e1, bs, rfl, lb, hb⟩
          have tx := tw x (List.mem_of_getElem? hx)
          refine ⟨⟨.inl rfl, .inr rfl, trivial⟩, tru_if ?_⟩
          refine ⟨_, rfl, _, rfl, wide, x, rfl, tx.same sc, fun b h => ⟨e1, Same.put fc sc, upd_same, bs ++ [b], by rw [List.map_append]; rfl, by simp [lb], step i x bs b hx hb (h.trans (isW_iff tx.th sc))⟩⟩
        · rintro ys Hc ⟨sc, e1, bs, rfl, lb, hb⟩
          exact ⟨lc, bs, rfl, SqL.of e1, fin bs Hc sc hb⟩
    · exact iteFd (by simp; (first | lia | omega)) (q false H (Same.refl H) ⟨(fun z => nomatch z), fun z => absurd z.1 l40⟩)
end
section
variable {P : Program} {w : World} {K : PySem.W.Frag} {mg : Str → Option Value} {base : Heap} {f : Addr} {fd : FuncData}
theorem sc_makes_net : FnScope ["wide", "wickets"] ["wide", "wickets"] (defScope s_makes_net) := ⟨rfl, rfl, rfl, by decide +kernel, rfl, by decide +kernel, by decide +kernel⟩
theorem ok_makes_net (T : Bn mg) (F : Here K mg "makes_net" s_makes_net f fd) (GMOST_LANES : ∃ t, mg "MOST_LANES" = some (.int 8 t)) (Cis_whole : Callee P w K mg base "is_whole" 1 ["thing"] spWholeT) (Care_wickets : Callee P w K mg base "are_wickets" 4 ["wide", "things"] spAreT) : FnOk P w K mg base CX0 5 f fd ["wide", "wickets"] spMakesT := by
  refine F.fn.ok sc_makes_net (fun vs H Q E h => ?_) (fun cdv A outer s H vs Q E hr h => ?_)
  · obtain ⟨x, y, rfl, _⟩ := h
    rfl
  · obtain ⟨x, y, rfl, tx, ty, q⟩ := h
    refine ⟨_, (pss_cons (ps_if (PW.pt (pw_or (pt_not (pt_val (pe_callC Cis_whole (hr.mono (by first | decide | (first | lia | omega))) rfl (pa_cons (pv 0) pa_nil)))) (pw_or1 (pt_not (pt_chain op_le op_le pe_int (pv 0) (pe_gint rfl GMOST_LANES))))))
    (pss_one (ps_ret pe_bl))
    pss_nil)
    (pss_one (ps_ret (pe_and (pe_callB call_isTT rfl T.n_isinstance boot_isinstance (pa_cons (pv 1) (pa_cons (pe_tup (pa_cons (pe_bltn (v := V.ty "list") (u := .type "list") rfl T.n_list (by decide +kernel) rfl) (pa_cons (pe_bltn (v := V.ty "tuple") (u := .type "tuple") rfl T.n_tuple (by decide +kernel) rfl) pa_nil))) pa_nil))) (pe_one (pe_callC Care_wickets (hr.mono (by first | decide | (first | lia | omega))) rfl (pa_cons (pv 0) (pa_cons (pv 1) pa_nil)))))))), ?_⟩
    have no : ∀ H', Same H H' → (¬ Makes H x y) → Q (.bl false) H' := fun H' s' h => q false H' s' ⟨(fun z => nomatch z), fun z => absurd z h⟩
    refine ⟨_, rfl, x, rfl, tx, ?_⟩
    rcases tx with ⟨i, rfl⟩ | o
    · refine ⟨_, rfl, iteFd (by show ¬ (!true) = true; decide) ?_⟩
      refine ⟨_, rfl, _, _, rfl, rfl, _, rfl, ?_⟩
      by_cases w1 : 1 ≤ i
      · refine iteTd (decide_eq_true w1) ?_
        refine ⟨_, _, rfl, rfl, _, rfl, ?_⟩
        by_cases w8 : i ≤ 8
        · refine iteFd (by simp; (first | lia | omega)) ?_
          refine ⟨_, rfl, lenLine (by show 2 ≤ 100000; decide), fun tp ftp => ?_⟩
          have s1 : Same H (upd H tp (HO.tup [V.ty "list", V.ty "tuple"])) := same_new ftp _
          have x1 : (upd H tp (HO.tup [V.ty "list", V.ty "tuple"])) tp = some (.tup [V.ty "list", V.ty "tuple"]) := upd_same
          generalize upd H tp (HO.tup [V.ty "list", V.ty "tuple"]) = H1 at s1 x1
          have ty1 := ty.same s1
          have sq : ∀ (l : Addr) (rs : List V), y = .ref l → Sq H l rs → tCall spAreT [] E0 (tCons (tVar 0) (tCons (tVar 1) tNil)) [some (.int i), some (.ref l)] H1 (fun v H' => Q v H') := fun l rs e k => by
            subst e
            refine ⟨_, rfl, _, rfl, i, l, rs, rfl, k.same s1, (ty.each l rs rfl k).1, (ty1.each l rs rfl (k.same s1)).2, fun b H2 s2 h => q b H2 (Same.trans s1 s2) (h.trans ?_)⟩
            constructor
            · rintro ⟨n, a⟩
              exact ⟨i, l, rs, rfl, w1, w8, rfl, k, n, fun z hz => (a z hz).back ((ty.each l rs rfl k).2 z hz).th s1⟩
            · rintro ⟨w', l', us, e1, _, _, e2, k', n, a⟩
              cases e1
              cases e2
              cases k.inj k'
              exact ⟨n, fun z hz => (a z hz).same s1⟩
          have nm : (∀ l rs, y = .ref l → ¬ Sq H l rs) → ¬ Makes H (.int i) y := fun h ⟨_, l, rs, _, _, _, e, k, _⟩ => h l rs e k
          rcases ty.th with ⟨j, rfl⟩ | o
          · exact ⟨_, tp, _, _, _, false, rfl, TyOf.int j, x1, rfl, rfl, _, rfl, iteFd (by decide) (no H1 s1 (nm fun _ _ e => nomatch e))⟩
          · cases o with
            | bl b => exact ⟨_, tp, _, _, _, false, rfl, TyOf.bl b, x1, rfl, rfl, _, rfl, iteFd (by decide) (no H1 s1 (nm fun _ _ e => nomatch e))⟩
            | non => exact ⟨_, tp, _, _, _, false, rfl, TyOf.non, x1, rfl, rfl, _, rfl, iteFd (by decide) (no H1 s1 (nm fun _ _ e => nomatch e))⟩
            | str z => exact ⟨_, tp, _, _, _, false, rfl, TyOf.str z, x1, rfl, rfl, _, rfl, iteFd (by decide) (no H1 s1 (nm fun _ _ e => nomatch e))⟩
            | @dct a kvs h => exact ⟨_, tp, _, _, _, false, rfl, TyOf.dK (s1 _ _ h), x1, rfl, rfl, _, rfl, iteFd (by decide) (no H1 s1 (nm fun _ _ e k => by cases e; rcases k with k | k <;> rw [h] at k <;> cases k))⟩
            | @lst a rs h => exact ⟨_, tp, _, _, _, true, rfl, TyOf.lst (s1 _ _ h), x1, rfl, rfl, _, rfl, iteTd rfl (sq a rs rfl (.inl h))⟩
            | @tup a rs h => exact ⟨_, tp, _, _, _, true, rfl, TyOf.tup (s1 _ _ h), x1, rfl, rfl, _, rfl, iteTd rfl (sq a rs rfl (.inr h))⟩
        · exact iteTd (by simp; (first | lia | omega)) (no H (Same.refl H) fun ⟨_, _, _, e, _, h8, _⟩ => by cases e; exact w8 h8)
      · refine iteFd (by simpa using w1) ?_
        exact ⟨_, rfl, iteTd rfl (no H (Same.refl H) fun ⟨_, _, _, e, h1, _⟩ => by cases e; exact w1 h1)⟩
    · refine ⟨_, rfl, iteTd (by rw [odd_notI o]; rfl) ?_⟩
      exact iteTd rfl (no H (Same.refl H) fun ⟨_, _, _, e, _⟩ => by subst e; cases o)
end
section
variable {P : Program} {w : World} {K : PySem.W.Frag} {mg : Str → Option Value} {base : Heap} {f : Addr} {fd : FuncData}
theorem sc_net_of : FnScope ["wide", "wickets"] ["wide", "wickets"] (defScope s_net_of) := ⟨rfl, rfl, rfl, by decide +kernel, rfl, by decide +kernel, by decide +kernel⟩
theorem ok_net_of {an : Addr} (T : Bn mg) (F : Here K mg "net_of" s_net_of f fd) (ER : NoNetT K mg an) (Cmakes_net : Callee P w K mg base "makes_net" 5 ["wide", "wickets"] spMakesT) : FnOk P w K mg base (CX1 P w) 6 f fd ["wide", "wickets"] (spNetT an) := by
  refine F.fn.okE sc_net_of (fun vs H Q E h => ?_) (fun cdv A outer s H vs Q E hr h => ?_)
  · obtain ⟨x, y, rfl, _⟩ := h
    rfl
  · obtain ⟨x, y, rfl, tx, ty, h⟩ := h
    refine ⟨_, (pss_cons (ps_if (pt_not (pt_val (pe_callC Cmakes_net (hr.mono (by first | decide | (first | lia | omega))) rfl (pa_cons (pv 0) (pa_cons (pv 1) pa_nil)))))
    (pss_one (ps_raise ER.q_NoNet rfl ER.at_NoNet (pa_cons pe_str pa_nil)))
    pss_nil)
    (pss_one (ps_ret (pe_tup (pa_cons (pv 0) (pa_cons (pe_callTy call_tuple_of rfl T.n_tuple boot_tupleT (pa_cons (pe_comp ["wicket"] [] rfl (pi_or (pi_list (pv 1)) (pi_tup (pv 1))) (fun _ _ _ _ _ _ => by exact (pg_name (i := 0) (show List.Nodup (["wicket"] : List Str) by decide +kernel) rfl (by first | exact Or.inl rfl | exact Or.inr rfl))) (fun _ _ _ _ _ _ => by exact pts_nil) (fun _ _ _ _ _ _ => by exact (pe_tup (pa_cons (pe_ix (ix_tupK K rfl) (pv 0) pe_int (fun _ _ => rfl)) (pa_cons (pe_ix (ix_tupK K rfl) (pv 0) pe_int (fun _ _ => rfl)) pa_nil))))) pa_nil)) pa_nil)))))), ?_⟩
    refine ⟨_, rfl, _, rfl, x, y, rfl, tx, ty, fun b H1 s1 hb => ⟨_, rfl, ?_⟩⟩
    rcases h with ⟨nm, q⟩ | ⟨wide, l, ws, rfl, rfl, sq, w1, w8, ok, len, q⟩
    · have eb : b = false := by
        cases b with
        | false => rfl
        | true => exact absurd (hb.mp rfl) nm
      subst eb
      refine iteTd rfl ?_
      exact ⟨by show 1 ≤ 1000; decide, q H1 s1⟩
    · obtain rfl : b = true := hb.mpr (sq.makes w1 w8 ok len).1
      obtain ⟨rs, hl, hrs⟩ := sq
      have lrs := hrs.len
      refine iteFd (by decide) ?_
      have step : ∀ (lc : Addr) (i : Nat) (x : V) (ys : List V) (Hc : Hp), H1 lc = none → rs[i]? = some x → Same H1 Hc → Hc lc = some (.lst ys) → ys.length ≤ i → Refs Hc ys (ws.take i) → ∃ t0 a0 b0, x = .ref t0 ∧ Hc t0 = some (.tup [.int a0, .int b0]) ∧ ∀ u, Hc u = none → Same Hc (upd Hc u (.tup [.int a0, .int b0])) ∧ (upd Hc u (.tup [.int a0, .int b0])) lc = some (.lst ys) ∧ Same H1 (upd (upd Hc u (.tup [.int a0, .int b0])) lc (.lst (ys ++ [.ref u]))) ∧ Refs (upd (upd Hc u (.tup [.int a0, .int b0])) lc (.lst (ys ++ [.ref u]))) (ys ++ [.ref u]) (ws.take (i + 1)) := fun lc i x ys Hc fc hx sc e1 l1 r1 => by
        obtain ⟨w0, t0, hw0, rfl, ht0⟩ := hrs.get hx
        refine ⟨t0, w0.1, w0.2, rfl, sc _ _ (s1 _ _ ht0), fun u fu => ?_⟩
        have s3 : Same Hc (upd Hc u (HO.tup [V.int w0.1, V.int w0.2])) := same_new fu _
        have x3 : (upd Hc u (HO.tup [V.int w0.1, V.int w0.2])) u = some (.tup [V.int w0.1, V.int w0.2]) := upd_same
        generalize upd Hc u (HO.tup [V.int w0.1, V.int w0.2]) = H3 at s3 x3
        have e3 := s3 _ _ e1
        refine ⟨s3, e3, Same.put fc (Same.trans sc s3), ?_⟩
        rw [take_snoc hw0]
        have k4 : KT H3 (upd H3 lc (HO.lst (ys ++ [V.ref u]))) := KT.lst e3 (KT.refl _)
        exact ((r1.same s3).kt k4).app (.cons ⟨u, rfl, k4 _ _ x3⟩ .nil)
      have last : ∀ (ys : List V) (Hc : Hp), Same H1 Hc → Refs Hc ys (ws.take rs.length) → ∀ t5, Hc t5 = none → ∀ n6, (upd Hc t5 (.tup ys)) n6 = none → Q (.ref n6) (upd (upd Hc t5 (.tup ys)) n6 (.tup [.int wide, .ref t5])) := fun ys Hc sc r1 t5 f5 n6 f6 => by
        rw [lrs, List.take_length] at r1
        have s5 : Same Hc (upd Hc t5 (HO.tup ys)) := same_new f5 _
        have x5 : (upd Hc t5 (HO.tup ys)) t5 = some (.tup ys) := upd_same
        generalize upd Hc t5 (HO.tup ys) = H5 at s5 x5 f6
        have s6 : Same H5 (upd H5 n6 (HO.tup [V.int wide, V.ref t5])) := same_new f6 _
        exact q _ _ (Same.trans s1 (Same.trans sc (Same.trans s5 s6))) ⟨n6, t5, ys, rfl, upd_same, s6 _ _ x5, r1.same (Same.trans s5 s6)⟩
      rcases hl with hl | hl
      · refine ⟨_, rfl, .inl ⟨_, rfl, l, rfl, ⟨_, SqL.of (s1 _ _ hl)⟩, fun lc fc => ?_⟩⟩
        refine comp_list (xs := rs) (fun i ys Hc => Same H1 Hc ∧ Hc lc = some (.lst ys) ∧ ys.length ≤ i ∧ Refs Hc ys (ws.take i)) ⟨Same.put fc (Same.refl H1), upd_same, Nat.zero_le _, .nil⟩ (lenLine (by (first | lia | omega))) (fun i ys Hc hi ⟨sc, e1, l1, r1⟩ => ⟨SqL.of (sc _ _ (s1 _ _ hl)), e1, l1⟩) ?_ ?_
        · rintro i x ys Hc hx ⟨sc, e1, l1, r1⟩
          obtain ⟨t0, a0, b0, rfl, htc, go⟩ := step lc i x ys Hc fc hx sc e1 l1 r1
          refine ⟨⟨.inl rfl, trivial⟩, tru_if ?_⟩
          refine ⟨_, rfl, t0, _, _, _, rfl, rfl, SqT.of htc, rfl, _, rfl, t0, _, _, _, rfl, rfl, SqT.of htc, rfl, lenLine (by show 2 ≤ 100000; decide), fun u fu => ?_⟩
          obtain ⟨_, g2, g3, g4⟩ := go u fu
          exact ⟨g2, g3, upd_same, by rw [List.length_append]; simp; (first | lia | omega), g4⟩
        · rintro ys Hc ⟨sc, e1, l1, r1⟩
          exact ⟨lc, _, rfl, .inl ⟨SqL.of e1, fun t5 f5 => ⟨lenLine (by show 2 ≤ 100000; decide), fun n6 f6 => last ys Hc sc r1 t5 f5 n6 f6⟩⟩⟩
      · refine ⟨_, rfl, .inr ⟨_, rfl, l, rfl, ⟨_, SqT.of (s1 _ _ hl)⟩, fun lc fc => ?_⟩⟩
        refine comp_tup (xs := rs) (fun i ys Hc => Same H1 Hc ∧ Hc lc = some (.lst ys) ∧ ys.length ≤ i ∧ Refs Hc ys (ws.take i)) ⟨Same.put fc (Same.refl H1), upd_same, Nat.zero_le _, .nil⟩ (lenLine (by (first | lia | omega))) (fun i ys Hc hi ⟨sc, e1, l1, r1⟩ => ⟨SqT.of (sc _ _ (s1 _ _ hl)), e1, l1⟩) ?_ ?_
        · rintro i x ys Hc hx ⟨sc, e1, l1, r1⟩
          obtain ⟨t0, a0, b0, rfl, htc, go⟩ := step lc i x ys Hc fc hx sc e1 l1 r1
          refine ⟨⟨.inl rfl, trivial⟩, tru_if ?_⟩
          refine ⟨_, rfl, t0, _, _, _, rfl, rfl, SqT.of htc, rfl, _, rfl, t0, _, _, _, rfl, rfl, SqT.of htc, rfl, lenLine (by show 2 ≤ 100000; decide), fun u fu => ?_⟩
          obtain ⟨_, g2, g3, g4⟩ := go u fu
          exact ⟨g2, g3, upd_same, by rw [List.length_append]; simp; (first | lia | omega), g4⟩
        · rintro ys Hc ⟨sc, e1, l1, r1⟩
          exact ⟨lc, _, rfl, .inl ⟨SqL.of e1, fun t5 f5 => ⟨lenLine (by show 2 ≤ 100000; decide), fun n6 f6 => last ys Hc sc r1 t5 f5 n6 f6⟩⟩⟩
end
section
variable {P : Program} {w : World} {K : PySem.W.Frag} {mg : Str → Option Value} {base : Heap} {f : Addr} {fd : FuncData}
theorem sc_is_number : FnScope ["word", "figures"] ["word"] (defScope s_is_number) := ⟨rfl, rfl, rfl, by decide +kernel, rfl, by decide +kernel, by decide +kernel⟩
theorem ok_is_number (T : Bn mg) (F : Here K mg "is_number" s_is_number f fd) (GMOST_FIGURES : ∃ t, mg "MOST_FIGURES" = some (.int 60 t)) (GFIGURES : ∃ t, mg "FIGURES" = some (.str "0123456789" t)) : FnOk P w K mg base CX0 1 f fd ["word"] spIsNumG := by
  refine F.fn.ok sc_is_number (fun vs H Q E h => ?_) (fun cdv A outer s H vs Q E hr h => ?_)
  · obtain ⟨x, rfl, _⟩ := h
    rfl
  · obtain ⟨x, rfl, len, q⟩ := h
    have ed : (Str.ofString "-") = ⟨#[45]⟩ := by decide +kernel
    refine ⟨_, (pss_cons (ps_set (i := 1) sc_is_number.nd rfl (by first | exact Or.inl rfl | exact Or.inr rfl) (pe_ifExp (pt_val (pe_bm PySem.F.plainAttrs_str PySem.F.slot_str_startswith PySem.F.type_str_startswith mt_startswith (pv 0) (pa_cons pe_str pa_nil))) (pe_slice sl_str (pv 0) (po_some pe_int) po_none) (pv 0)))
    (pss_cons (ps_if (PW.pt (pw_or (pt_not (pt_chain op_le op_le pe_int (pe_callB call_len_str rfl T.n_len PySem.boot_len (pa_cons (pv 1) pa_nil)) (pe_gint rfl GMOST_FIGURES))) (pw_or1 (pt_not (pt_val (pe_callB (call_allB rfl) rfl T.n_all boot_all (pa_cons (pe_comp ["sign"] [] rfl (pi_str (pv 1)) (fun _ _ _ _ _ _ => by exact (pg_name (i := 0) (show List.Nodup (["sign"] : List Str) by decide +kernel) rfl (by first | exact Or.inl rfl | exact Or.inr rfl))) (fun _ _ _ _ _ _ => by exact pts_nil) (fun _ _ _ _ _ _ => by exact (pe_cmpR op_in_str (pv 0) (pe_gstr rfl GFIGURES) (by with_unfolding_all rfl)))) pa_nil)))))))
    (pss_one (ps_ret pe_bl))
    pss_nil)
    (pss_one (ps_ret (pe_or (pe_cmpR op_eq (pv 0) pe_str (nomark _)) (pe_one (pe_cmpR op_ne (pe_ix ix_str (pv 1) pe_int (fun _ _ => rfl)) pe_str (nomark _)))))))), ?_⟩
    refine ⟨_, rfl, rfl, x, Str.ofString "-", rfl, rfl, ?_⟩
    rw [ed, starts_one]
    refine ⟨_, rfl, ?_⟩
    by_cases c0 : (Ls x).head? = some 45
    · refine iteTd (decide_eq_true c0) ?_
      have xl : 1 ≤ x.length := by
        rw [← ls_len]
        cases h : Ls x with
        | nil => rw [h] at c0; cases c0
        | cons a b => simp
      refine ⟨_, rfl, 1, rfl, x, 1, rfl, rfl, rfl, xl, lenLine (by (first | lia | omega)), ?_⟩
      have ey : Ls (fromS x 1) = figL (Ls x) := by
        unfold figL
        rw [if_pos c0]
        show (Ls x).drop 1 = _
        exact List.drop_one
      have yl : (fromS x 1).length ≤ 5000 := by
        rw [← ls_len]
        show ((Ls x).drop 1).length ≤ _
        rw [List.length_drop, ls_len]
        (first | lia | omega)
      generalize fromS x 1 = y at ey yl
      try dsimp only [gName]
      refine ⟨_, rfl, y, rfl, lenLine (by (first | lia | omega)), _, _, rfl, rfl, _, rfl, ?_⟩
      by_cases c1 : (1 : Int) ≤ (y.length : Int)
      rotate_left
      · refine iteFd (by simpa using c1) ?_
        exact ⟨_, rfl, iteTd rfl (q false H (Same.refl _) (ffI fun z => c1 (by have := z.1; rw [← ey, ls_len] at this; (first | lia | omega))))⟩
      refine iteTd (decide_eq_true c1) ?_
      by_cases c60 : (y.length : Int) ≤ 60
      rotate_left
      · refine ⟨_, _, rfl, rfl, _, rfl, iteTd (by simpa using c60) ?_⟩
        exact q false H (Same.refl _) (ffI fun z => c60 (by have := z.2.1; rw [← ey, ls_len] at this; (first | lia | omega)))
      refine ⟨_, _, rfl, rfl, _, rfl, iteFd (by simpa using c60) ?_⟩
      refine ⟨_, rfl, y, rfl, fun lc fc => ?_⟩
      refine comp_str (x := y) (fun i ys Hc => Same H Hc ∧ Hc lc = some (.lst ys) ∧ ys = (((Ls y).take i).map fun c => decide (48 ≤ c ∧ c ≤ 57)).map V.bl) ⟨Same.put fc (Same.refl H), upd_same, rfl⟩ (lenLine (by show (Ls y).length ≤ _; rw [ls_len]; (first | lia | omega))) (fun i ys Hc ⟨sc, e1, e2⟩ => ⟨e1, by rw [e2, List.length_map, List.length_map, List.length_take]; (first | lia | omega)⟩) ?_ ?_
      · rintro i c ys Hc hc ⟨sc, e1, rfl⟩
        refine ⟨⟨.inl rfl, trivial⟩, tru_if ?_⟩
        refine ⟨_, rfl, _, _, rfl, rfl, ?_⟩
        rw [fig_any c]
        refine ⟨e1, Same.put fc sc, upd_same, ?_⟩
        have hc' : (Ls y)[i]? = some c := by
          unfold Ls
          rw [Array.getElem?_toList]
          exact hc
        rw [take_snoc hc', List.map_append, List.map_append]
        rfl
      · rintro ys Hc ⟨sc, e1, rfl⟩
        have el : ((Ls y).take y.cps.size) = Ls y := List.take_of_length_le (by rw [ls_len]; exact Nat.le_refl _)
        rw [el] at e1
        refine ⟨lc, _, rfl, SqL.of e1, ?_⟩
        have al : (((Ls y).map fun c => decide (48 ≤ c ∧ c ≤ 57)).all id = true) ↔ PySem.NumText.AllDigits (figL (Ls x)) := by
          rw [← ey, List.all_eq_true]
          constructor
          · intro h c hc
            exact of_decide_eq_true (h _ (List.mem_map.mpr ⟨c, hc, rfl⟩))
          · intro h b hb
            obtain ⟨c, hc, rfl⟩ := List.mem_map.mp hb
            exact decide_eq_true (h c hc)
        cases ea : ((Ls y).map fun c => decide (48 ≤ c ∧ c ≤ 57)).all id with
        | false =>
          rw [ea] at al
          refine ⟨_, rfl, iteTd rfl ?_⟩
          exact q false Hc sc (ffI fun z => absurd (al.mpr z.2.2.1) (by decide))
        | true =>
          rw [ea] at al
          have ad := al.mp rfl
          refine ⟨_, rfl, iteFd (by decide) ?_⟩
          refine ⟨_, rfl, rfl, _, rfl, ?_⟩
          have e0 : (Str.ofString "0") = Mk [48] := by decide +kernel
          have l1 : 1 ≤ (figL (Ls x)).length := by rw [← ey, ls_len]; (first | lia | omega)
          have l60 : (figL (Ls x)).length ≤ 60 := by rw [← ey, ls_len]; (first | lia | omega)
          by_cases cz : x = Mk [48]
          · refine iteTd (by rw [cz, e0]; simp) ?_
            exact q true Hc sc (ttI ⟨l1, l60, ad, .inl (by rw [cz]; rfl)⟩)
          · refine iteFd (fun z => cz (e0 ▸ V.str.inj (of_decide_eq_true z))) ?_
            obtain ⟨c, r, er⟩ : ∃ c r, Ls y = c :: r := by
              cases h : Ls y with
              | nil => rw [← ls_len, h] at c1; simp at c1
              | cons c r => exact ⟨c, r, rfl⟩
            refine ⟨_, rfl, y, 0, c, rfl, rfl, lenLine (by (first | lia | omega)), by show atI (Ls y) 0 = some c; rw [er]; simp [atI, ixN], rfl, ?_⟩
            have hx : Ls x ≠ [48] := fun z => cz (by rw [← mk_ls x, z])
            refine q _ Hc sc ?_
            have en : (V.str (⟨#[c]⟩ : Str) = V.str (Str.ofString "0")) ↔ c = 48 := by
              rw [e0]
              constructor
              · intro z
                have := congrArg Ls (V.str.inj z)
                exact (List.cons.inj this).1
              · intro z; rw [z]; rfl
            have eh : (figL (Ls x)).head? = some c := by rw [← ey, er]; rfl
            by_cases c48 : c = 48
            · rw [decide_eq_true (en.mpr c48)]
              exact ffI fun z => z.2.2.2.elim hx fun y => y (by rw [eh, c48])
            · rw [decide_eq_false (fun z => c48 (en.mp z))]
              exact ttI ⟨l1, l60, ad, .inr (by rw [eh]; exact fun z => c48 (Option.some.inj z))⟩
    · refine iteFd (by simpa using c0) ?_
      refine ⟨_, rfl, ?_⟩
      obtain ⟨y, eyx⟩ : ∃ y, y = x := ⟨x, rfl⟩
      have ey : Ls y = figL (Ls x) := by
        unfold figL
        rw [if_neg c0, eyx]
      have yl : y.length ≤ 5000 := by rw [eyx]; exact len
      have hy : ∀ (R : V → Prop), R (.str y) → R (.str x) := fun R h => eyx ▸ h
      refine hy (fun v => gName 1 v _ _ _) ?_
      try dsimp only [gName]
      refine ⟨_, rfl, y, rfl, lenLine (by (first | lia | omega)), _, _, rfl, rfl, _, rfl, ?_⟩
      by_cases c1 : (1 : Int) ≤ (y.length : Int)
      rotate_left
      · refine iteFd (by simpa using c1) ?_
        exact ⟨_, rfl, iteTd rfl (q false H (Same.refl _) (ffI fun z => c1 (by have := z.1; rw [← ey, ls_len] at this; (first | lia | omega))))⟩
      refine iteTd (decide_eq_true c1) ?_
      by_cases c60 : (y.length : Int) ≤ 60
      rotate_left
      · refine ⟨_, _, rfl, rfl, _, rfl, iteTd (by simpa using c60) ?_⟩
        exact q false H (Same.refl _) (ffI fun z => c60 (by have := z.2.1; rw [← ey, ls_len] at this; (first | lia | omega)))
      refine ⟨_, _, rfl, rfl, _, rfl, iteFd (by simpa using c60) ?_⟩
      refine ⟨_, rfl, y, rfl, fun lc fc => ?_⟩
      refine comp_str (x := y) (fun i ys Hc => Same H Hc ∧ Hc lc = some (.lst ys) ∧ ys = (((Ls y).take i).map fun c => decide (48 ≤ c ∧ c ≤ 57)).map V.bl) ⟨Same.put fc (Same.refl H), upd_same, rfl⟩ (lenLine (by show (Ls y).length ≤ _; rw [ls_len]; (first | lia | omega))) (fun i ys Hc ⟨sc, e1, e2⟩ => ⟨e1, by rw [e2, List.length_map, List.length_map, List.length_take]; (first | lia | omega)⟩) ?_ ?_
      · rintro i c ys Hc hc ⟨sc, e1, rfl⟩
        refine ⟨⟨.inl rfl, trivial⟩, tru_if ?_⟩
        refine ⟨_, rfl, _, _, rfl, rfl, ?_⟩
        rw [fig_any c]
        refine ⟨e1, Same.put fc sc, upd_same, ?_⟩
        have hc' : (Ls y)[i]? = some c := by
          unfold Ls
          rw [Array.getElem?_toList]
          exact hc
        rw [take_snoc hc', List.map_append, List.map_append]
        rfl
      · rintro ys Hc ⟨sc, e1, rfl⟩
        have el : ((Ls y).take y.cps.size) = Ls y := List.take_of_length_le (by rw [ls_len]; exact Nat.le_refl _)
        rw [el] at e1
        refine ⟨lc, _, rfl, SqL.of e1, ?_⟩
        have al : (((Ls y).map fun c => decide (48 ≤ c ∧ c ≤ 57)).all id = true) ↔ PySem.NumText.AllDigits (figL (Ls x)) := by
          rw [← ey, List.all_eq_true]
          constructor
          · intro h c hc
            exact of_decide_eq_true (h _ (List.mem_map.mpr ⟨c, hc, rfl⟩))
          · intro h b hb
            obtain ⟨c, hc, rfl⟩ := List.mem_map.mp hb
            exact decide_eq_true (h c hc)
        cases ea : ((Ls y).map fun c => decide (48 ≤ c ∧ c ≤ 57)).all id with
        | false =>
          rw [ea] at al
          refine ⟨_, rfl, iteTd rfl ?_⟩
          exact q false Hc sc (ffI fun z => absurd (al.mpr z.2.2.1) (by decide))
        | true =>
          rw [ea] at al
          have ad := al.mp rfl
          refine ⟨_, rfl, iteFd (by decide) ?_⟩
          refine ⟨_, rfl, rfl, _, rfl, ?_⟩
          have e0 : (Str.ofString "0") = Mk [48] := by decide +kernel
          have l1 : 1 ≤ (figL (Ls x)).length := by rw [← ey, ls_len]; (first | lia | omega)
          have l60 : (figL (Ls x)).length ≤ 60 := by rw [← ey, ls_len]; (first | lia | omega)
          by_cases cz : x = Mk [48]
          · refine iteTd (by rw [cz, e0]; simp) ?_
            exact q true Hc sc (ttI ⟨l1, l60, ad, .inl (by rw [cz]; rfl)⟩)
          · refine iteFd (fun z => cz (e0 ▸ V.str.inj (of_decide_eq_true z))) ?_
            obtain ⟨c, r, er⟩ : ∃ c r, Ls y = c :: r := by
              cases h : Ls y with
              | nil => rw [← ls_len, h] at c1; simp at c1
              | cons c r => exact ⟨c, r, rfl⟩
            refine ⟨_, rfl, y, 0, c, rfl, rfl, lenLine (by (first | lia | omega)), by show atI (Ls y) 0 = some c; rw [er]; simp [atI, ixN], rfl, ?_⟩
            have hx : Ls x ≠ [48] := fun z => cz (by rw [← mk_ls x, z])
            refine q _ Hc sc ?_
            have en : (V.str (⟨#[c]⟩ : Str) = V.str (Str.ofString "0")) ↔ c = 48 := by
              rw [e0]
              constructor
              · intro z
                have := congrArg Ls (V.str.inj z)
                exact (List.cons.inj this).1
              · intro z; rw [z]; rfl
            have eh : (figL (Ls x)).head? = some c := by rw [← ey, er]; rfl
            by_cases c48 : c = 48
            · rw [decide_eq_true (en.mpr c48)]
              exact ffI fun z => z.2.2.2.elim hx fun y => y (by rw [eh, c48])
            · rw [decide_eq_false (fun z => c48 (en.mp z))]
              exact ttI ⟨l1, l60, ad, .inr (by rw [eh]; exact fun z => c48 (Option.some.inj z))⟩
end
section
variable {P : Program} {w : World} {K : PySem.W.Frag} {mg : Str → Option Value} {base : Heap} {f : Addr} {fd : FuncData}
theorem sc_number_of : FnScope ["word"] ["word"] (defScope s_number_of) := ⟨rfl, rfl, rfl, by decide +kernel, rfl, by decide +kernel, by decide +kernel⟩
theorem ok_number_of {an : Addr} (T : Bn mg) (F : Here K mg "number_of" s_number_of f fd) (ER : NoTextT K mg an) (Cis_number : Callee P w K mg base "is_number" 1 ["word"] spIsNumG) : FnOk P w K mg base (CX1 P w) 2 f fd ["word"] (spNumG an) := by
  refine F.fn.okE sc_number_of (fun vs H Q E h => ?_) (fun cdv A outer s H vs Q E hr h => ?_)
  · obtain ⟨x, rfl, _⟩ := h
    rfl
  · obtain ⟨x, rfl, len, q, e⟩ := h
    refine ⟨_, (pss_cons (ps_if (pt_not (pt_val (pe_callC Cis_number (hr.mono (by first | decide | (first | lia | omega))) rfl (pa_cons (pv 0) pa_nil))))
    (pss_one (ps_raise ER.q_NoText rfl ER.at_NoText (pa_cons pe_str pa_nil)))
    pss_nil)
    (pss_one (ps_ret (pe_callTy call_intS rfl T.n_int boot_intT (pa_cons (pv 0) pa_nil))))), ?_⟩
    refine ⟨_, rfl, x, rfl, len, fun b H1 s1 hb => ?_⟩
    refine ⟨_, rfl, ?_⟩
    cases b with
    | false =>
      refine iteTd rfl ?_
      exact ⟨by show 1 ≤ 1000; decide, e H1 s1 fun z => absurd (hb.mpr z) (by decide)⟩
    | true =>
      refine iteFd (by decide) ?_
      obtain ⟨n, hn, rd, ln⟩ := num_val (hb.mp rfl)
      rw [mk_ls] at hn
      exact ⟨_, rfl, x, n, rfl, hn, by rw [← ls_len]; (first | lia | omega), q n H1 s1 (hb.mp rfl) rd⟩
end
section
variable {P : Program} {w : World} {K : PySem.W.Frag} {mg : Str → Option Value} {base : Heap} {f : Addr} {fd : FuncData}
theorem sc_wicket_of : FnScope ["word", "parts"] ["word"] (defScope s_wicket_of) := ⟨rfl, rfl, rfl, by decide +kernel, rfl, by decide +kernel, by decide +kernel⟩
theorem ok_wicket_of {an : Addr} (T : Bn mg) (F : Here K mg "wicket_of" s_wicket_of f fd) (Cnumber_of : CalleeE P w K mg base "number_of" 2 ["word"] (spNumG an)) : FnOk P w K mg base (CX1 P w) 3 f fd ["word"] (spWkG an) := by
  refine F.fn.okE sc_wicket_of (fun vs H Q E h => ?_) (fun cdv A outer s H vs Q E hr h => ?_)
  · obtain ⟨x, rfl, _⟩ := h
    rfl
  · obtain ⟨x, rfl, len, q, e⟩ := h
    refine ⟨_, (pss_cons (ps_set (i := 1) sc_wicket_of.nd rfl (by first | exact Or.inl rfl | exact Or.inr rfl) (pe_bm PySem.F.plainAttrs_str PySem.F.slot_str_partition PySem.F.type_str_partition mt_partition (pv 0) (pa_cons pe_str pa_nil)))
    (pss_one (ps_ret (pe_tup (pa_cons (pe_callE Cnumber_of (hr.mono (by first | decide | (first | lia | omega))) rfl (pa_cons (pe_ix ix_tup (pv 1) pe_int (fun _ _ => rfl)) pa_nil)) (pa_cons (pe_callE Cnumber_of (hr.mono (by first | decide | (first | lia | omega))) rfl (pa_cons (pe_ix ix_tup (pv 1) pe_int (fun _ _ => rfl)) pa_nil)) pa_nil)))))), ?_⟩
    have e0 : (Str.ofString "-") = ⟨#[45]⟩ := by decide +kernel
    refine ⟨_, rfl, rfl, x, Str.ofString "-", rfl, rfl, rfl, lenLine (by (first | lia | omega)), fun t ft => ?_⟩
    rw [e0]
    rcases cut_at (l := Ls x) (c := 45) with no | ⟨a, b, na, ex⟩
    · rw [part_no no]
      have s1 : Same H (upd H t (HO.tup [V.str x, V.str Str.empty, V.str Str.empty])) := same_new ft _
      have x1 : (upd H t (HO.tup [V.str x, V.str Str.empty, V.str Str.empty])) t = some (.tup [V.str x, V.str Str.empty, V.str Str.empty]) := upd_same
      dsimp only
      generalize upd H t (HO.tup [V.str x, V.str Str.empty, V.str Str.empty]) = H1 at s1 x1
      refine ⟨_, rfl, t, _, _, _, rfl, rfl, SqT.of x1, rfl, x, rfl, len, fun n H2 s2 _ _ => ?_, fun H2 s2 nn => e H2 (Same.trans s1 s2) fun w fw z => ?_⟩
      · refine ⟨_, rfl, t, _, _, _, rfl, rfl, SqT.of (s2 _ _ x1), rfl, Str.empty, rfl, by decide, fun m H3 s3 in2 _ => absurd in2 no_empty, fun H3 s3 nn => e H3 (Same.trans s1 (Same.trans s2 s3)) fun w fw z => ?_⟩
        rw [z] at no
        exact no (by simp [wkS, Ls, Mk])
      · rw [z] at no
        exact no (by simp [wkS, Ls, Mk])
    · have exx : x = Mk (a ++ 45 :: b) := by rw [← mk_ls x, ex]
      have lab : a.length + b.length + 1 ≤ 5000 := by
        have h := ls_len x
        rw [ex, List.length_append, List.length_cons] at h
        (first | lia | omega)
      rw [show Txt.partition x ⟨#[45]⟩ = (Mk a, ⟨#[45]⟩, Mk b) from by rw [exx]; exact part_one na]
      have s1 : Same H (upd H t (HO.tup [V.str (Mk a), V.str ⟨#[45]⟩, V.str (Mk b)])) := same_new ft _
      have x1 : (upd H t (HO.tup [V.str (Mk a), V.str ⟨#[45]⟩, V.str (Mk b)])) t = some (.tup [V.str (Mk a), V.str ⟨#[45]⟩, V.str (Mk b)]) := upd_same
      dsimp only
      generalize upd H t (HO.tup [V.str (Mk a), V.str ⟨#[45]⟩, V.str (Mk b)]) = H1 at s1 x1
      have hw : ∀ w, Fg w → (x = wkS w ↔ a = [dg w.1] ∧ b = [dg w.2]) := fun w fw => by
        obtain ⟨ew, nw⟩ := wk_dash fw
        constructor
        · intro z
          have h : a ++ 45 :: b = [dg w.1] ++ 45 :: [dg w.2] := by
            have := congrArg Ls (exx.symm.trans (z.trans ew))
            exact this
          exact cut_uni na nw h
        · rintro ⟨z1, z2⟩
          rw [exx, z1, z2, ew]
      have len1 : ∀ l : List Nat, l.length ≤ 5000 → (Mk l).length ≤ 5000 := fun l h => by rw [← ls_len]; exact h
      refine ⟨_, rfl, t, _, _, _, rfl, rfl, SqT.of x1, rfl, Mk a, rfl, len1 a (by (first | lia | omega)), fun n H2 s2 in1 r1 => ?_, fun H2 s2 nn => e H2 (Same.trans s1 s2) fun w fw z => nn ?_⟩
      · refine ⟨_, rfl, t, _, _, _, rfl, rfl, SqT.of (s2 _ _ x1), rfl, Mk b, rfl, len1 b (by (first | lia | omega)), fun m H3 s3 in2 r2 => ?_, fun H3 s3 nn => e H3 (Same.trans s1 (Same.trans s2 s3)) fun w fw z => nn ?_⟩
        · refine ⟨lenLine (by show 2 ≤ 100000; decide), fun u fu => ?_⟩
          refine q u (n, m) _ (Same.trans s1 (Same.trans s2 (Same.trans s3 (same_new fu _)))) upd_same fun w fw => ?_
          rw [hw w fw]
          have q1 := r1 w.1 fw.1 fw.2.1
          have q2 := r2 w.2 fw.2.2.1 fw.2.2.2
          constructor
          · intro z; rw [← z] at q1 q2 ⊢; exact ⟨q1.mp rfl, q2.mp rfl⟩
          · rintro ⟨z1, z2⟩; exact Prod.ext (q1.mpr z1) (q2.mpr z2)
        · show IsNum b
          rw [((hw w fw).mp z).2]
          exact num_one fw.2.2.1 fw.2.2.2
      · show IsNum a
        rw [((hw w fw).mp z).1]
        exact num_one fw.1 fw.2.1
end
section
variable {P : Program} {w : World} {K : PySem.W.Frag} {mg : Str → Option Value} {base : Heap} {f : Addr} {fd : FuncData}
theorem sc_wickets_of : FnScope ["text"] ["text"] (defScope s_wickets_of) := ⟨rfl, rfl, rfl, by decide +kernel, rfl, by decide +kernel, by decide +kernel⟩
theorem ok_wickets_of {an : Addr} (T : Bn mg) (F : Here K mg "wickets_of" s_wickets_of f fd) (ER : NoTextT K mg an) (Cwicket_of : CalleeE P w K mg base "wicket_of" 3 ["word"] (spWkG an)) : FnOk P w K mg base (CX1 P w) 4 f fd ["text"] (spWksG an) := by
  refine F.fn.okE sc_wickets_of (fun vs H Q E h => ?_) (fun cdv A outer s H vs Q E hr h => ?_)
  · obtain ⟨x, rfl, _⟩ := h
    rfl
  · obtain ⟨x, rfl, len, q, e⟩ := h
    refine ⟨_, (pss_cons (ps_if (pt_cmpR op_eq (pv 0) pe_str (nomark _))
    (pss_one (ps_ret (pe_lst pa_nil)))
    pss_nil)
    (pss_cons (ps_if (pt_not (pt_val (pe_bm PySem.F.plainAttrs_str PySem.F.slot_str_startswith PySem.F.type_str_startswith mt_startswith (pv 0) (pa_cons pe_str pa_nil))))
    (pss_one (ps_raise ER.q_NoText rfl ER.at_NoText (pa_cons pe_str pa_nil)))
    pss_nil)
    (pss_one (ps_ret (pe_compE ["word"] [] (pi_list (pe_bm PySem.F.plainAttrs_str PySem.F.slot_str_split PySem.F.type_str_split mt_split (pe_slice sl_str (pv 0) (po_some pe_int) po_none) (pa_cons pe_str pa_nil))) (fun _ _ _ _ _ _ => by exact (pg_name (i := 0) (show List.Nodup (["word"] : List Str) by decide +kernel) rfl (by first | exact Or.inl rfl | exact Or.inr rfl))) (fun _ _ _ _ _ _ => by exact pts_nil) (fun _ _ _ _ _ _ _ hp => by exact (pe_callP Cwicket_of hp (hr.mono (by first | decide | (first | lia | omega))) rfl (pa_cons (pv 0) pa_nil)))))))), ?_⟩
    have e0 : (Str.ofString " ") = ⟨#[32]⟩ := by decide +kernel
    have ee : (Str.ofString "") = Mk [] := by decide +kernel
    refine ⟨_, rfl, rfl, _, rfl, ?_⟩
    by_cases c0 : Ls x = []
    · have ex : x = Str.ofString "" := by rw [ee, ← mk_ls x, c0]
      refine iteTd (by rw [ex]; simp) ?_
      refine ⟨lenLine (by show 0 ≤ 100000; decide), fun l fl => ?_⟩
      refine q l [] _ (same_new fl _) ⟨[], upd_same, .nil⟩ (Nat.zero_le _) fun ws fw => ?_
      rw [c0]
      constructor
      · intro z; rw [← z]; rfl
      · intro z
        cases ws with
        | nil => rfl
        | cons w r => rw [rest_join] at z; cases z
    refine iteFd (fun z => c0 ?_) ?_
    · have z' := V.str.inj (of_decide_eq_true z)
      rw [z', ee]
      rfl
    refine ⟨_, rfl, rfl, x, Str.ofString " ", rfl, rfl, ?_⟩
    rw [e0, starts_one]
    refine ⟨_, rfl, ?_⟩
    by_cases c1 : (Ls x).head? = some 32
    rotate_left
    · refine iteTd (by simpa using c1) ?_
      refine ⟨by show 1 ≤ 1000; decide, e H (Same.refl _) fun ws fw z => ?_⟩
      cases ws with
      | nil => exact c0 z
      | cons w r => rw [z, rest_join] at c1; exact c1 rfl
    refine iteFd (by simpa using c1) ?_
    obtain ⟨r, er⟩ : ∃ r, Ls x = 32 :: r := by
      cases h : Ls x with
      | nil => exact absurd h c0
      | cons a b => rw [h] at c1; exact ⟨b, by rw [Option.some.inj c1]⟩
    have xl : r.length + 1 = x.length := by rw [← ls_len, er]; rfl
    refine ⟨_, rfl, 1, rfl, x, 1, rfl, rfl, rfl, by (first | lia | omega), lenLine (by (first | lia | omega)), rfl, ?_⟩
    have ef : fromS x 1 = Mk r := by
      refine ls_inj ?_
      show (Ls x).drop 1 = r
      rw [er]
      rfl
    rw [ef]
    have fl1 : (Mk r).length ≤ 100000 := by rw [← ls_len]; show r.length ≤ _; (first | lia | omega)
    refine ⟨_, Str.ofString " ", rfl, rfl, rfl, fl1, fun l fl => ?_⟩
    rw [e0]
    obtain ⟨sne, sfr, sj, sln⟩ := split_all (Mk r) 32
    have slen : (Txt.split (Mk r) ⟨#[32]⟩).length ≤ x.length + 1 := by
      have : (Mk r).length = r.length := ls_len (Mk r) ▸ rfl
      (first | lia | omega)
    have each : ∀ y ∈ Txt.split (Mk r) ⟨#[32]⟩, y.length ≤ 5000 := fun y hy => by
      have := split_each (Mk r) 32 y hy
      have : (Mk r).length = r.length := ls_len (Mk r) ▸ rfl
      (first | lia | omega)
    generalize Txt.split (Mk r) ⟨#[32]⟩ = ps at sne sfr sj slen each
    have s1 : Same H (upd H l (HO.lst (ps.map V.str))) := same_new fl _
    have x1 : (upd H l (HO.lst (ps.map V.str))) l = some (.lst (ps.map V.str)) := upd_same
    generalize upd H l (HO.lst (ps.map V.str)) = H1 at s1 x1
    have whole : ∀ ws, Fig ws → (Ls x = restL ws ↔ ps = ws.map wkS) := fun ws fw => by
      rw [er]
      cases ws with
      | nil => exact ⟨(fun z => by cases z), (fun z => absurd z sne)⟩
      | cons w0 ws =>
        rw [rest_join]
        constructor
        · intro z
          refine join_inj ps _ sne (by simp) sfr (fun p hp => ?_) ?_
          · obtain ⟨v, hv, rfl⟩ := List.mem_map.mp hp
            exact wk_free rfl (fw v hv)
          · rw [sj]
            exact (List.cons.inj z).2
        · intro z
          rw [← z, sj]
          rfl
    refine ⟨l, rfl, ⟨_, SqL.of x1⟩, fun lc fc => ?_⟩
    refine comp_list (xs := ps.map V.str) (fun i ys Hc => Same H1 Hc ∧ Hc lc = some (.lst ys) ∧ ∃ us, us.length = i ∧ Refs Hc ys us ∧ ∀ ws : List (Int × Int), Fig ws → (us = ws ↔ ps.take i = ws.map wkS)) ⟨Same.put fc (Same.refl H1), upd_same, [], rfl, .nil, fun ws fw => by
        rw [List.take_zero]
        cases ws <;> simp⟩ (lenLine (by rw [List.length_map]; (first | lia | omega))) (fun i ys Hc hi ⟨sc, e1, us, lu, r1, _⟩ => ⟨SqL.of (sc _ _ x1), e1, by have := r1.len; (first | lia | omega)⟩) ?_ ?_
    · rintro i y ys Hc hy ⟨sc, e1, us, lu, r1, hu⟩
      rw [List.getElem?_map] at hy
      obtain ⟨z, hz, rfl⟩ : ∃ z, ps[i]? = some z ∧ y = V.str z := by
        cases hh : ps[i]? with
        | none => rw [hh] at hy; cases hy
        | some v => rw [hh] at hy; exact ⟨v, rfl, (Option.some.inj hy).symm⟩
      have il : i < ps.length := (List.getElem?_eq_some_iff.mp hz).1
      refine ⟨⟨.inl rfl, trivial⟩, tru_if ?_⟩
      refine ⟨_, rfl, z, rfl, each z (List.mem_of_getElem? hz), fun t v H2 s2 x2 hv => ?_, fun H2 s2 nn => e H2 (Same.trans s1 (Same.trans sc s2)) fun ws fw zz => ?_⟩
      · have e2 := s2 _ _ e1
        refine ⟨e2, Same.put fc (Same.trans sc s2), upd_same, us ++ [v], by rw [List.length_append, lu]; rfl, ?_, fun ws fw => ?_⟩
        · have k2 : KT H2 (upd H2 lc (HO.lst (ys ++ [V.ref t]))) := KT.lst e2 (KT.refl _)
          exact ((r1.same s2).kt k2).app (.cons ⟨t, rfl, k2 _ _ x2⟩ .nil)
        · rw [take_snoc hz]
          rcases List.eq_nil_or_concat ws with rfl | ⟨ws', w0, rfl⟩
          · constructor
            · intro z; simp at z
            · intro z; simp at z
          · have fw' : Fig ws' := fun w hw => fw w (by simp [hw])
            have f0 : Fg w0 := fw w0 (by simp)
            rw [List.concat_eq_append, List.map_append]
            have h1 := hu ws' fw'
            have h2 := hv w0 f0
            constructor
            · intro zz
              obtain ⟨a, b⟩ := List.append_inj' zz rfl
              rw [h1.mp a, h2.mp (List.cons.inj b).1]
              rfl
            · intro zz
              obtain ⟨a, b⟩ := List.append_inj' zz rfl
              rw [h1.mpr a, h2.mpr (List.cons.inj b).1]
      · have := (whole ws fw).mp zz
        rw [this, List.getElem?_map] at hz
        cases hw : ws[i]? with
        | none => rw [hw] at hz; cases hz
        | some w0 =>
          rw [hw] at hz
          exact nn w0 (fw w0 (List.mem_of_getElem? hw)) (Option.some.inj hz).symm
    · rintro ys Hc ⟨sc, e1, us, lu, r1, hu⟩
      rw [List.length_map] at hu lu
      rw [List.take_length] at hu
      exact q lc us Hc (Same.trans s1 sc) ⟨ys, e1, r1⟩ (by (first | lia | omega)) fun ws fw => (hu ws fw).trans (whole ws fw).symm
end
section
variable {P : Program} {w : World} {K : PySem.W.Frag} {mg : Str → Option Value} {base : Heap} {f : Addr} {fd : FuncData}
theorem sc_read_net : FnScope ["text", "parts", "wide", "wickets"] ["text"] (defScope s_read_net) := ⟨rfl, rfl, rfl, by decide +kernel, rfl, by decide +kernel, by decide +kernel⟩
theorem ok_read_net {an a2 : Addr} (T : Bn mg) (F : Here K mg "read_net" s_read_net f fd) (ER : NoTextT K mg an) (Cnumber_of : CalleeE P w K mg base "number_of" 2 ["word"] (spNumG an)) (Cwickets_of : CalleeE P w K mg base "wickets_of" 4 ["text"] (spWksG an)) (Cmakes_net : Callee P w K mg base "makes_net" 5 ["wide", "wickets"] spMakesT) (Cnet_of : CalleeE P w K mg base "net_of" 6 ["wide", "wickets"] (spNetT a2)) : FnOk P w K mg base (CX1 P w) 7 f fd ["text"] (spReadG an) := by
  refine F.fn.okE sc_read_net (fun vs H Q E h => ?_) (fun cdv A outer s H vs Q E hr h => ?_)
  · rcases h with ⟨x, rfl, _⟩ | ⟨v, rfl, _⟩ <;> rfl
  · rcases h with ⟨x, rfl, len, q, e⟩ | ⟨v, rfl, th, ns, e⟩
    rotate_left
    · refine ⟨_, (pss_cons (ps_if (pt_not (pt_val (pe_callB call_isinst rfl T.n_isinstance boot_isinstance (pa_cons (pv 0) (pa_cons (pe_bltn (v := V.ty "str") (u := .type "str") rfl T.n_str (by decide +kernel) rfl) pa_nil)))))
    (pss_one (ps_raise ER.q_NoText rfl ER.at_NoText (pa_cons pe_str pa_nil)))
    pss_nil)
    (pss_cons (ps_set (i := 1) sc_read_net.nd rfl (by first | exact Or.inl rfl | exact Or.inr rfl) (pe_bm PySem.F.plainAttrs_str PySem.F.slot_str_partition PySem.F.type_str_partition mt_partition (pv 0) (pa_cons pe_str pa_nil)))
    (pss_cons (ps_if (pt_cmpR op_eq (pe_ix ix_tup (pv 1) pe_int (fun _ _ => rfl)) pe_str (nomark _))
    (pss_one (ps_raise ER.q_NoText rfl ER.at_NoText (pa_cons pe_str pa_nil)))
    pss_nil)
    (pss_cons (ps_set (i := 2) sc_read_net.nd rfl (by first | exact Or.inl rfl | exact Or.inr rfl) (pe_callE Cnumber_of (hr.mono (by first | decide | (first | lia | omega))) rfl (pa_cons (pe_ix ix_tup (pv 1) pe_int (fun _ _ => rfl)) pa_nil)))
    (pss_cons (ps_set (i := 3) sc_read_net.nd rfl (by first | exact Or.inl rfl | exact Or.inr rfl) (pe_callE Cwickets_of (hr.mono (by first | decide | (first | lia | omega))) rfl (pa_cons (pe_ix ix_tup (pv 1) pe_int (fun _ _ => rfl)) pa_nil)))
    (pss_cons (ps_if (pt_not (pt_val (pe_callC Cmakes_net (hr.mono (by first | decide | (first | lia | omega))) rfl (pa_cons (pv 2) (pa_cons (pv 3) pa_nil)))))
    (pss_one (ps_raise ER.q_NoText rfl ER.at_NoText (pa_cons pe_str pa_nil)))
    pss_nil)
    (pss_one (ps_ret (pe_callE Cnet_of (hr.mono (by first | decide | (first | lia | omega))) rfl (pa_cons (pv 2) (pa_cons (pv 3) pa_nil))))))))))), ?_⟩
      rcases th with ⟨i, rfl⟩ | o
      · refine ⟨_, rfl, _, _, _, false, rfl, TyOf.int _, rfl, ?_⟩
        exact ⟨_, rfl, iteTd rfl ⟨by show 1 ≤ 1000; decide, e H (Same.refl _)⟩⟩
      · cases o with
        | str z => exact absurd rfl (ns z)
        | bl b =>
          refine ⟨_, rfl, _, _, _, false, rfl, TyOf.bl _, rfl, ?_⟩
          exact ⟨_, rfl, iteTd rfl ⟨by show 1 ≤ 1000; decide, e H (Same.refl _)⟩⟩
        | non =>
          refine ⟨_, rfl, _, _, _, false, rfl, TyOf.non, rfl, ?_⟩
          exact ⟨_, rfl, iteTd rfl ⟨by show 1 ≤ 1000; decide, e H (Same.refl _)⟩⟩
        | lst k =>
          refine ⟨_, rfl, _, _, _, false, rfl, TyOf.lst k, rfl, ?_⟩
          exact ⟨_, rfl, iteTd rfl ⟨by show 1 ≤ 1000; decide, e H (Same.refl _)⟩⟩
        | tup k =>
          refine ⟨_, rfl, _, _, _, false, rfl, TyOf.tup k, rfl, ?_⟩
          exact ⟨_, rfl, iteTd rfl ⟨by show 1 ≤ 1000; decide, e H (Same.refl _)⟩⟩
        | dct k =>
          refine ⟨_, rfl, _, _, _, false, rfl, TyOf.dK k, rfl, ?_⟩
          exact ⟨_, rfl, iteTd rfl ⟨by show 1 ≤ 1000; decide, e H (Same.refl _)⟩⟩
    refine ⟨_, (pss_cons (ps_if (pt_not (pt_val (pe_callB call_isinst rfl T.n_isinstance boot_isinstance (pa_cons (pv 0) (pa_cons (pe_bltn (v := V.ty "str") (u := .type "str") rfl T.n_str (by decide +kernel) rfl) pa_nil)))))
    (pss_one (ps_raise ER.q_NoText rfl ER.at_NoText (pa_cons pe_str pa_nil)))
    pss_nil)
    (pss_cons (ps_set (i := 1) sc_read_net.nd rfl (by first | exact Or.inl rfl | exact Or.inr rfl) (pe_bm PySem.F.plainAttrs_str PySem.F.slot_str_partition PySem.F.type_str_partition mt_partition (pv 0) (pa_cons pe_str pa_nil)))
    (pss_cons (ps_if (pt_cmpR op_eq (pe_ix ix_tup (pv 1) pe_int (fun _ _ => rfl)) pe_str (nomark _))
    (pss_one (ps_raise ER.q_NoText rfl ER.at_NoText (pa_cons pe_str pa_nil)))
    pss_nil)
    (pss_cons (ps_set (i := 2) sc_read_net.nd rfl (by first | exact Or.inl rfl | exact Or.inr rfl) (pe_callE Cnumber_of (hr.mono (by first | decide | (first | lia | omega))) rfl (pa_cons (pe_ix ix_tup (pv 1) pe_int (fun _ _ => rfl)) pa_nil)))
    (pss_cons (ps_set (i := 3) sc_read_net.nd rfl (by first | exact Or.inl rfl | exact Or.inr rfl) (pe_callE Cwickets_of (hr.mono (by first | decide | (first | lia | omega))) rfl (pa_cons (pe_ix ix_tup (pv 1) pe_int (fun _ _ => rfl)) pa_nil)))
    (pss_cons (ps_if (pt_not (pt_val (pe_callC Cmakes_net (hr.mono (by first | decide | (first | lia | omega))) rfl (pa_cons (pv 2) (pa_cons (pv 3) pa_nil)))))
    (pss_one (ps_raise ER.q_NoText rfl ER.at_NoText (pa_cons pe_str pa_nil)))
    pss_nil)
    (pss_one (ps_ret (pe_callE Cnet_of (hr.mono (by first | decide | (first | lia | omega))) rfl (pa_cons (pv 2) (pa_cons (pv 3) pa_nil))))))))))), ?_⟩
    have e0 : (Str.ofString ":") = ⟨#[58]⟩ := by decide +kernel
    refine ⟨_, rfl, _, _, _, true, rfl, TyOf.str _, rfl, ?_⟩
    refine ⟨_, rfl, iteFd (by decide) ?_⟩
    refine ⟨_, rfl, rfl, x, Str.ofString ":", rfl, rfl, rfl, lenLine (by (first | lia | omega)), fun t ft => ?_⟩
    rw [e0]
    rcases cut_at (l := Ls x) (c := 58) with no | ⟨a, b, na, ex⟩
    · rw [part_no no]
      have s1 : Same H (upd H t (HO.tup [V.str x, V.str Str.empty, V.str Str.empty])) := same_new ft _
      have x1 : (upd H t (HO.tup [V.str x, V.str Str.empty, V.str Str.empty])) t = some (.tup [V.str x, V.str Str.empty, V.str Str.empty]) := upd_same
      dsimp only
      generalize upd H t (HO.tup [V.str x, V.str Str.empty, V.str Str.empty]) = H1 at s1 x1
      refine ⟨_, rfl, t, _, _, _, rfl, rfl, SqT.of x1, rfl, rfl, _, rfl, iteTd (by decide +kernel) ?_⟩
      refine ⟨by show 1 ≤ 1000; decide, e H1 s1 fun wide ws w1 w8 _ _ z => no ?_⟩
      rw [z, (net_cut w1 w8).1]
      simp
    · have exx : x = Mk (a ++ 58 :: b) := by rw [← mk_ls x, ex]
      have lab : a.length + b.length + 1 = x.length := by
        have h := ls_len x
        rw [ex, List.length_append, List.length_cons] at h
        (first | lia | omega)
      rw [show Txt.partition x ⟨#[58]⟩ = (Mk a, ⟨#[58]⟩, Mk b) from by rw [exx]; exact part_one na]
      have s1 : Same H (upd H t (HO.tup [V.str (Mk a), V.str ⟨#[58]⟩, V.str (Mk b)])) := same_new ft _
      have x1 : (upd H t (HO.tup [V.str (Mk a), V.str ⟨#[58]⟩, V.str (Mk b)])) t = some (.tup [V.str (Mk a), V.str ⟨#[58]⟩, V.str (Mk b)]) := upd_same
      dsimp only
      generalize upd H t (HO.tup [V.str (Mk a), V.str ⟨#[58]⟩, V.str (Mk b)]) = H1 at s1 x1
      have hw : ∀ wide ws, 1 ≤ wide → wide ≤ 8 → (x = netS wide ws ↔ a = [dg wide] ∧ b = restL ws) := fun wide ws w1 w8 => by
        obtain ⟨ew, nw⟩ := net_cut (ws := ws) w1 w8
        constructor
        · intro z
          rw [z, ew] at ex
          obtain ⟨y1, y2⟩ := cut_uni nw na ex
          exact ⟨y1.symm, y2.symm⟩
        · rintro ⟨z1, z2⟩
          exact ls_inj (by rw [ex, ew, z1, z2])
      have len1 : ∀ l : List Nat, l.length ≤ 5000 → (Mk l).length ≤ 5000 := fun l h => by rw [← ls_len]; exact h
      refine ⟨_, rfl, t, _, _, _, rfl, rfl, SqT.of x1, rfl, rfl, _, rfl, iteFd (by decide +kernel) ?_⟩
      refine ⟨_, rfl, t, _, _, _, rfl, rfl, SqT.of x1, rfl, Mk a, rfl, len1 a (by (first | lia | omega)), fun n H2 s2 in1 r1 => ?_, fun H2 s2 nn => e H2 (Same.trans s1 s2) fun wide ws w1 w8 ok ln z => nn ?_⟩
      rotate_left
      · show IsNum a
        rw [((hw wide ws w1 w8).mp z).1]
        exact num_one (by (first | lia | omega)) (by (first | lia | omega))
      refine ⟨_, rfl, t, _, _, _, rfl, rfl, SqT.of (s2 _ _ x1), rfl, Mk b, rfl, len1 b (by (first | lia | omega)), fun l us H3 s3 wl lu hu => ?_, fun H3 s3 nn => e H3 (Same.trans s1 (Same.trans s2 s3)) fun wide ws w1 w8 ok ln z => nn ws (fig_ok w8 ok) ((hw wide ws w1 w8).mp z).2⟩
      have lb : (Mk b).length = b.length := by rw [← ls_len]; rfl
      have thl := wsl_thl wl (by (first | lia | omega))
      refine ⟨_, rfl, _, rfl, .int n, .ref l, rfl, .inl ⟨n, rfl⟩, thl, fun c H4 s4 hc => ?_⟩
      rw [makes_ws wl] at hc
      have s04 := Same.trans s1 (Same.trans s2 (Same.trans s3 s4))
      refine ⟨_, rfl, ?_⟩
      cases c with
      | false =>
        refine iteTd rfl ?_
        refine ⟨by show 1 ≤ 1000; decide, e H4 s04 fun wide ws w1 w8 ok ln z => ?_⟩
        obtain ⟨z1, z2⟩ := (hw wide ws w1 w8).mp z
        have en : n = wide := (r1 wide (by (first | lia | omega)) (by (first | lia | omega))).mpr z1
        have eu : us = ws := (hu ws (fig_ok w8 ok)).mpr z2
        subst en eu
        exact absurd (hc.mpr ⟨w1, w8, ln, ok⟩) (by decide)
      | true =>
        refine iteFd (by decide) ?_
        obtain ⟨w1, w8, ln, ok⟩ := hc.mp rfl
        have ex' : x = netS n us := (hw n us w1 w8).mpr ⟨(r1 n (by (first | lia | omega)) (by (first | lia | omega))).mp rfl, (hu us (fig_ok w8 ok)).mp rfl⟩
        obtain ⟨rs, k, r⟩ := wl.same s4
        refine ⟨_, rfl, _, rfl, .int n, .ref l, rfl, .inl ⟨n, rfl⟩, thl.same s4, .inr ⟨n, l, us, rfl, rfl, ⟨rs, .inl k, r⟩, w1, w8, ok, ln, fun v H5 s5 net => ?_⟩⟩
        exact q v n us H5 (Same.trans s04 s5) w1 w8 ok ln ex' net
end
section
variable {P : Program} {w : World} {K : PySem.W.Frag} {mg : Str → Option Value} {base : Heap} {f : Addr} {fd : FuncData}
theorem sc_text : FnScope ["_law_net"] ["_law_net"] (defScope s_text) := ⟨rfl, rfl, rfl, by decide +kernel, rfl, by decide +kernel, by decide +kernel⟩
def txS (w : Int × Int) : Str := numS w.1 ++ ("-" : Str) ++ numS w.2
theorem txS_eq {w : Int × Int} (h : 0 ≤ w.1 ∧ w.1 ≤ 9 ∧ 0 ≤ w.2 ∧ w.2 ≤ 9) : txS w = wkS w := by
  refine ls_inj ?_
  unfold txS
  rw [num_dg h.1 h.2.1, num_dg h.2.2.1 h.2.2.2, ls_app, ls_app]
  rfl
theorem ok_text (T : Bn mg) (F : Here K mg "_law_text" s_text f fd) : FnOk P w K mg base CX0 1 f fd ["_law_net"] spText82 := by
  refine F.fn.ok sc_text (fun vs H Q E h => ?_) (fun cdv A outer s H vs Q E hr h => ?_)
  · obtain ⟨n, t, wide, ws, rfl, _⟩ := h
    rfl
  · obtain ⟨n, t, wide, ws, rfl, hn, ⟨rs, ht, hrs⟩, w1, w8, ok, len, q⟩ := h
    have lrs := hrs.len
    have fg := fig_ok w8 ok
    have nl := num_len (n := wide) (by (first | lia | omega)) (by (first | lia | omega))
    refine ⟨_, (pss_one (ps_ret (pe_bm PySem.F.plainAttrs_str PySem.F.slot_str_join PySem.F.type_str_join mt_join pe_str (pa_cons (pe_op op_cat (pe_lst (pa_cons (pe_op op_add_str (pe_callTy call_str_int rfl T.n_str boot_strT (pa_cons (pe_ix ix_tup (pv 0) pe_int (fun _ _ => rfl)) pa_nil)) pe_str) pa_nil)) (pe_comp ["_law_first", "_law_second"] [] rfl (pi_list (pe_ix ix_tup (pv 0) pe_int (fun _ _ => rfl))) (fun _ _ _ _ _ _ => by exact (pg_tupK K rfl (n := 2) rfl (pgs_cons (pg_name (i := 0) (show List.Nodup (["_law_first", "_law_second"] : List Str) by decide +kernel) rfl (by first | exact Or.inl rfl | exact Or.inr rfl)) (pgs_cons (pg_name (i := 1) (show List.Nodup (["_law_first", "_law_second"] : List Str) by decide +kernel) rfl (by first | exact Or.inl rfl | exact Or.inr rfl)) pgs_nil)))) (fun _ _ _ _ _ _ => by exact pts_nil) (fun _ _ _ _ _ _ => by exact (pe_op op_add_str (pe_op op_add_str (pe_callTy (call_str_intK K rfl) rfl T.n_str boot_strT (pa_cons (pv 0) pa_nil)) pe_str) (pe_callTy (call_str_intK K rfl) rfl T.n_str boot_strT (pa_cons (pv 1) pa_nil)))))) pa_nil)))), ?_⟩
    refine ⟨rfl, ?_⟩
    refine ⟨_, rfl, n, _, _, _, rfl, rfl, SqT.of hn, rfl, wide, rfl, small_log (by (first | lia | omega)) (by (first | lia | omega)), ?_⟩
    refine ⟨numS wide, ":", rfl, rfl, lenLine (by rw [nl]; show 1 + 1 ≤ 100000; decide), ?_⟩
    refine ⟨lenLine (by show 1 ≤ 100000; decide), fun l1 f1 => ?_⟩
    have s1 : Same H (upd H l1 (HO.lst [V.str (numS wide ++ (":" : Str))])) := same_new f1 _
    have x1 : (upd H l1 (HO.lst [V.str (numS wide ++ (":" : Str))])) l1 = some (.lst [V.str (numS wide ++ (":" : Str))]) := upd_same
    generalize upd H l1 (HO.lst [V.str (numS wide ++ (":" : Str))]) = H1 at s1 x1
    refine ⟨_, rfl, n, _, _, _, rfl, rfl, SqT.of (s1 _ _ hn), rfl, t, rfl, ⟨_, SqL.of (s1 _ _ ht)⟩, fun lc fc => ?_⟩
    refine comp_list (xs := rs) (fun i ys Hc => Same H1 Hc ∧ Hc lc = some (.lst ys) ∧ ys = ((ws.take i).map txS).map V.str) ⟨Same.put fc (Same.refl H1), upd_same, rfl⟩ (lenLine (by (first | lia | omega))) (fun i ys Hc hi ⟨sc, e1, e2⟩ => ⟨SqL.of (sc _ _ (s1 _ _ ht)), e1, by rw [e2, List.length_map, List.length_map, List.length_take]; (first | lia | omega)⟩) ?_ ?_
    · rintro i x ys Hc hx ⟨sc, e1, rfl⟩
      obtain ⟨w0, t0, hw0, rfl, ht0⟩ := hrs.get hx
      have f0 := fg w0 (List.mem_of_getElem? hw0)
      have n1 := num_len f0.1 f0.2.1
      have n2 := num_len f0.2.2.1 f0.2.2.2
      refine ⟨t0, _, rfl, SqT.of (sc _ _ (s1 _ _ ht0)), rfl, ?_⟩
      refine ⟨_, _, rfl, _, _, rfl, rfl, ?_⟩
      refine ⟨⟨.inl rfl, .inl rfl, trivial⟩, tru_if ?_⟩
      refine ⟨_, rfl, w0.1, rfl, small_log f0.1 f0.2.1, ?_⟩
      refine ⟨numS w0.1, "-", rfl, rfl, lenLine (by rw [n1]; show 1 + 1 ≤ 100000; decide), ?_⟩
      refine ⟨_, rfl, w0.2, rfl, small_log f0.2.2.1 f0.2.2.2, ?_⟩
      refine ⟨_, numS w0.2, rfl, rfl, lenLine (by rw [len_app, n1, n2]; show 1 + 1 + 1 ≤ 100000; decide), ?_⟩
      refine ⟨e1, Same.put fc sc, upd_same, ?_⟩
      rw [take_snoc hw0, List.map_append, List.map_append]
      rfl
    · rintro ys Hc ⟨sc, e1, rfl⟩
      rw [lrs, List.take_length] at e1
      refine ⟨l1, lc, _, _, rfl, rfl, sc _ _ x1, e1, lenLine (by rw [List.length_map, List.length_map]; show 1 + _ ≤ _; (first | lia | omega)), fun l2 f2 => ?_⟩
      have s2 : Same Hc (upd Hc l2 (HO.lst ([V.str (numS wide ++ (":" : Str))] ++ (ws.map txS).map V.str))) := same_new f2 _
      have x2 : (upd Hc l2 (HO.lst ([V.str (numS wide ++ (":" : Str))] ++ (ws.map txS).map V.str))) l2 = some (.lst (((numS wide ++ (":" : Str)) :: ws.map txS).map V.str)) := upd_same
      generalize upd Hc l2 (HO.lst ([V.str (numS wide ++ (":" : Str))] ++ (ws.map txS).map V.str)) = H2 at s2 x2
      have e0 : (Str.ofString " ") = ⟨#[32]⟩ := by decide +kernel
      have sl := sum_len txS (n := 3) ws fun w hw => by rw [txS_eq (fg w hw)]; exact Nat.le_refl _
      have jl := join_blank (x := numS wide ++ (":" : Str)) ws fun w hw => txS_eq (fg w hw)
      refine ⟨Str.ofString " ", l2, (numS wide ++ (":" : Str)) :: ws.map txS, rfl, rfl, SqL.of x2, ?_, ?_⟩
      · rw [List.map_cons, List.sum_cons, List.length_cons, List.length_map, len_app, nl, e0]
        show 1 + 1 + _ + (ws.length + 1) * 1 ≤ _
        (first | lia | omega)
      · rw [e0, join_glued]
        have e : Str.join ⟨#[32]⟩ ((numS wide ++ (":" : Str)) :: ws.map txS) = netS wide ws := by
          refine ls_inj ?_
          rw [jl, ls_app, num_dg (by (first | lia | omega)) (by (first | lia | omega))]
          rfl
        rw [e]
        exact q _ (Same.trans s1 (Same.trans sc s2))
end
section
variable {P : Program} {w : World} {K : PySem.W.Frag} {mg : Str → Option Value} {base : Heap} {f : Addr} {fd : FuncData}
theorem sc_lane : FnScope ["_law_word", "_law_wide"] ["_law_word", "_law_wide"] (defScope s_lane) := ⟨rfl, rfl, rfl, by decide +kernel, rfl, by decide +kernel, by decide +kernel⟩
theorem ok_lane (T : Bn mg) (F : Here K mg "_law_lane" s_lane f fd) : FnOk P w K mg base CX0 1 f fd ["_law_word", "_law_wide"] spLane82 := by
  refine F.fn.ok sc_lane (fun vs H Q E h => ?_) (fun cdv A outer s H vs Q E hr h => ?_)
  · obtain ⟨x, wide, rfl, _⟩ := h
    rfl
  · obtain ⟨x, wide, rfl, len, w1, w8, q⟩ := h
    refine ⟨_, (pss_cons (ps_if (PW.pt (pw_or (pt_cmpR op_ne (pe_callB call_len_str rfl T.n_len PySem.boot_len (pa_cons (pv 0) pa_nil)) pe_int (nomark _)) (pw_or1 (pt_cmpR op_notIn_str (pv 0) (pe_slice sl_strT pe_str po_none (po_some (pv 1))) (by with_unfolding_all rfl)))))
    (pss_one (ps_ret pe_non))
    pss_nil)
    (pss_one (ps_ret (pe_bm PySem.F.plainAttrs_str PySem.F.slot_str_index PySem.F.type_str_index mt_indexS pe_str (pa_cons (pv 0) pa_nil))))), ?_⟩
    refine ⟨_, rfl, x, rfl, lenLine (by (first | lia | omega)), rfl, _, rfl, ?_⟩
    by_cases c1 : x.length = 1
    rotate_left
    · refine iteTd (by simp; (first | lia | omega)) ?_
      refine q _ (.inl ⟨rfl, fun d _ _ z => c1 ?_⟩)
      rw [← ls_len, z]
      rfl
    refine iteFd (by simp [c1]) ?_
    obtain ⟨c, ec⟩ : ∃ c, Ls x = [c] := List.length_eq_one_iff.mp (by rw [ls_len]; exact c1)
    have ex : x = ⟨#[c]⟩ := by rw [← mk_ls x, ec]; rfl
    have el : Ls (Str.ofString "01234567") = [48, 49, 50, 51, 52, 53, 54, 55] := by decide +kernel
    refine ⟨_, rfl, _, rfl, wide, rfl, Str.ofString "01234567", wide.toNat, rfl, rfl, by rw [show ((wide.toNat : Nat) : Int) = wide by (first | lia | omega)], by rw [← ls_len, el]; show _ ≤ 8; (first | lia | omega), lenLine (by rw [← ls_len, el]; decide), ?_⟩
    refine ⟨_, _, rfl, rfl, _, rfl, ?_⟩
    have en : (!(!(Builtin.Str.occurrences (toS (Str.ofString "01234567") wide.toNat) x 0 (toS (Str.ofString "01234567") wide.toNat).length 1).isEmpty)) = !decide (48 ≤ c ∧ (c : Int) < 48 + wide) := by
      rw [ex, StrLaws.found_one]
      congr 1
      have e2 : (toS (Str.ofString "01234567") wide.toNat).cps.toList = [48, 49, 50, 51, 52, 53, 54, 55].take wide.toNat := by
        show ((Ls (Str.ofString "01234567")).take wide.toNat) = _
        rw [el]
      rw [e2, Bool.eq_iff_iff, decide_eq_true_iff, decide_eq_true_iff]
      have wc : wide = 1 ∨ wide = 2 ∨ wide = 3 ∨ wide = 4 ∨ wide = 5 ∨ wide = 6 ∨ wide = 7 ∨ wide = 8 := by (first | lia | omega)
      rcases wc with z | z | z | z | z | z | z | z <;> subst z <;> simp <;> (first | lia | omega)
    by_cases cw : 48 ≤ c ∧ (c : Int) < 48 + wide
    rotate_left
    · refine iteTd (en.trans (by simp [cw])) ?_
      refine q _ (.inl ⟨rfl, fun d d0 d1 z => cw ?_⟩)
      rw [ec] at z
      have : c = dg d := (List.cons.inj z).1
      unfold dg at this
      (first | lia | omega)
    refine iteFd (fun h => absurd (en.symm.trans h) (by simp [cw])) ?_
    obtain ⟨d, hd⟩ : ∃ d : Int, d = (c : Int) - 48 := ⟨_, rfl⟩
    have cd' : c = dg d := by unfold dg; (first | lia | omega)
    refine ⟨rfl, _, rfl, Str.ofString "01234567", x, d.toNat, [], rfl, rfl, ?_, ?_⟩
    · rw [ex, cd']
      have dc : d = 0 ∨ d = 1 ∨ d = 2 ∨ d = 3 ∨ d = 4 ∨ d = 5 ∨ d = 6 ∨ d = 7 := by (first | lia | omega)
      rcases dc with z | z | z | z | z | z | z | z <;> rw [z] <;> decide +kernel
    · refine q _ (.inr ⟨d, by (first | lia | omega), by (first | lia | omega), ?_, by rw [ec, cd']⟩)
      rw [show ((d.toNat : Nat) : Int) = d by (first | lia | omega)]
end
section
variable {P : Program} {w : World} {K : PySem.W.Frag} {mg : Str → Option Value} {base : Heap} {f : Addr} {fd : FuncData}
theorem sc_read : FnScope ["_law_text_here", "_law_words_here", "_law_wide", "_law_wickets_here", "_law_word", "_law_parts"] ["_law_text_here"] (defScope s_read) := ⟨rfl, rfl, rfl, by decide +kernel, rfl, by decide +kernel, by decide +kernel⟩
theorem ok_read (T : Bn mg) (F : Here K mg "_law_read" s_read f fd) (C_law_lane : Callee P w K mg base "_law_lane" 1 ["_law_word", "_law_wide"] spLane82) : FnOk P w K mg base CX0 2 f fd ["_law_text_here"] spRead82 := by
  refine F.fn.ok sc_read (fun vs H Q E h => ?_) (fun cdv A outer s H vs Q E hr h => ?_)
  · obtain ⟨x, rfl, _⟩ := h
    rfl
  · obtain ⟨x, rfl, len, q, qn⟩ := h
    refine ⟨_, (pss_cons (ps_set (i := 1) sc_read.nd rfl (by first | exact Or.inl rfl | exact Or.inr rfl) (pe_bm PySem.F.plainAttrs_str PySem.F.slot_str_split PySem.F.type_str_split mt_split (pv 0) (pa_cons pe_str pa_nil)))
    (pss_cons (ps_if (PW.pt (pw_or (pt_cmpR op_ne (pe_callB call_len_str rfl T.n_len PySem.boot_len (pa_cons (pe_ix ix_list (pv 1) pe_int (fun _ _ => rfl)) pa_nil)) pe_int (nomark _)) (pw_or (pt_cmpR op_notIn_str (pe_ix ix_str (pe_ix ix_list (pv 1) pe_int (fun _ _ => rfl)) pe_int (fun _ _ => rfl)) pe_str (by with_unfolding_all rfl)) (pw_or (pt_cmpR op_ne (pe_ix ix_str (pe_ix ix_list (pv 1) pe_int (fun _ _ => rfl)) pe_int (fun _ _ => rfl)) pe_str (nomark _)) (pw_or1 (pt_cmpR op_gt (pe_callB call_len_seq rfl T.n_len PySem.boot_len (pa_cons (pv 1) pa_nil)) pe_int (nomark _)))))))
    (pss_one (ps_ret pe_non))
    pss_nil)
    (pss_cons (ps_set (i := 2) sc_read.nd rfl (by first | exact Or.inl rfl | exact Or.inr rfl) (pe_bm PySem.F.plainAttrs_str PySem.F.slot_str_index PySem.F.type_str_index mt_indexS pe_str (pa_cons (pe_ix ix_str (pe_ix ix_list (pv 1) pe_int (fun _ _ => rfl)) pe_int (fun _ _ => rfl)) pa_nil)))
    (pss_cons (ps_set (i := 3) sc_read.nd rfl (by first | exact Or.inl rfl | exact Or.inr rfl) (pe_lst pa_nil))
    (pss_cons (ps_for PassesOwn.never rfl  (pi_list (pe_slice sl_list (pv 1) (po_some pe_int) po_none)) (pg_name (i := 4) sc_read.nd rfl (by first | exact Or.inl rfl | exact Or.inr rfl))
    (pss_cons (ps_setComp (i := 5) sc_read.nd rfl (by first | exact Or.inl rfl | exact Or.inr rfl) ["_law_part"] [("_law_wide", 2)] rfl (pi_list (pe_bm PySem.F.plainAttrs_str PySem.F.slot_str_split PySem.F.type_str_split mt_split (pv 4) (pa_cons pe_str pa_nil))) (fun _ _ _ _ _ _ => by exact (pg_name (i := 0) (show List.Nodup (["_law_part", "_law_wide"] : List Str) by decide +kernel) rfl (by first | exact Or.inl rfl | exact Or.inr rfl))) (fun _ _ _ _ _ _ => by exact pts_nil) (fun _ _ _ _ _ _ => by exact (pe_callC C_law_lane (hr.mono (by first | decide | (first | lia | omega))) rfl (pa_cons (pv 0) (pa_cons (pv 1) pa_nil)))))
    (pss_cons (ps_if (PW.pt (pw_or (pt_cmpR op_ne (pe_callB call_len_seq rfl T.n_len PySem.boot_len (pa_cons (pv 5) pa_nil)) pe_int (nomark _)) (pw_or (pt_cmpR op_in_seq pe_non (pv 5) (by with_unfolding_all rfl)) (pw_or1 (pt_cmpR op_eq (pe_ix ix_list (pv 5) pe_int (fun _ _ => rfl)) (pe_ix ix_list (pv 5) pe_int (fun _ _ => rfl)) (nomark _))))))
    (pss_one (ps_ret pe_non))
    pss_nil)
    (pss_one (ps_expr (pe_bm PySem.F.plainAttrs_list PySem.F.slot_list_append PySem.F.type_list_append mt_append (pv 3) (pa_cons (pe_callTy call_tuple_of rfl T.n_tuple boot_tupleT (pa_cons (pv 5) pa_nil)) pa_nil)))))))
    (pss_one (ps_ret (pe_tup (pa_cons (pv 2) (pa_cons (pe_callTy call_tuple_of rfl T.n_tuple boot_tupleT (pa_cons (pv 3) pa_nil)) pa_nil)))))))))), ?_⟩
    have e0 : (Str.ofString " ") = ⟨#[32]⟩ := by decide +kernel
    refine ⟨_, rfl, rfl, x, Str.ofString " ", rfl, rfl, rfl, by (first | lia | omega), fun l fl => ?_⟩
    rw [e0]
    obtain ⟨sne, sfr, sj, sln⟩ := split_all x 32
    have each := split_each x 32
    generalize Txt.split x ⟨#[32]⟩ = ps at sne sfr sj sln each
    have s1 : Same H (upd H l (HO.lst (ps.map V.str))) := same_new fl _
    have x1 : (upd H l (HO.lst (ps.map V.str))) l = some (.lst (ps.map V.str)) := upd_same
    generalize upd H l (HO.lst (ps.map V.str)) = H1 at s1 x1
    obtain ⟨hd, tl, rfl⟩ : ∃ a b, ps = a :: b := by
      cases ps with
      | nil => exact absurd rfl sne
      | cons a b => exact ⟨a, b, rfl⟩
    -- the text as its words
    have key : ∀ wide ws, 1 ≤ wide → wide ≤ 8 → Fig ws → (x = netS wide ws ↔ Ls hd = [dg wide, 58] ∧ tl = ws.map wkS) := fun wide ws w1 w8 fw => by
      have jb := join_blank (x := Mk [dg wide, 58]) (f := wkS) ws (fun _ _ => rfl)
      have en : netS wide ws = Str.join ⟨#[32]⟩ (Mk [dg wide, 58] :: ws.map wkS) := ls_inj (by rw [jb]; rfl)
      rw [en, ← sj]
      constructor
      · intro z
        have := join_inj (c := 32) (hd :: tl) (Mk [dg wide, 58] :: ws.map wkS) (by simp) (by simp) sfr (fun p hp => by
          rcases List.mem_cons.mp hp with e | e
          · rw [e]
            intro y
            have : 32 ∈ [dg wide, 58] := y
            simp [dg] at this
            (first | lia | omega)
          · obtain ⟨v, hv, rfl⟩ := List.mem_map.mp e
            exact wk_free rfl (fw v hv)) (congrArg Ls z)
        obtain ⟨a, b⟩ := List.cons.inj this
        exact ⟨by rw [a]; rfl, b⟩
      · rintro ⟨a, b⟩
        rw [← mk_ls hd, a, b]
    have hl := each hd (by simp)
    have at0 : atI ((hd :: tl).map V.str) 0 = some (.str hd) := by simp [atI, ixN]
    refine ⟨_, rfl, l, _, _, _, rfl, rfl, SqL.of x1, at0, hd, rfl, lenLine (by (first | lia | omega)), rfl, _, rfl, ?_⟩
    by_cases c2 : hd.length = 2
    rotate_left
    · refine iteTd (by simp; (first | lia | omega)) ?_
      exact qn H1 s1 fun wide ws w1 w8 ok _ z => c2 (by rw [← ls_len, ((key wide ws w1 w8 (fig_ok w8 ok)).mp z).1]; rfl)
    refine iteFd (by simp [c2]) ?_
    obtain ⟨c, d, ecd⟩ : ∃ c d, Ls hd = [c, d] := by
      have h := ls_len hd
      rw [c2] at h
      match hh : Ls hd, h with
      | [a, b], _ => exact ⟨a, b, rfl⟩
    refine ⟨_, rfl, l, _, _, _, rfl, rfl, SqL.of x1, at0, hd, 0, c, rfl, rfl, lenLine (by (first | lia | omega)), by show atI (Ls hd) 0 = some c; rw [ecd]; simp [atI, ixN], ?_⟩
    refine ⟨_, _, rfl, rfl, _, rfl, ?_⟩
    have el : (Str.ofString "12345678").cps.toList = [49, 50, 51, 52, 53, 54, 55, 56] := by decide +kernel
    have en : (!(!(Builtin.Str.occurrences (Str.ofString "12345678") ⟨#[c]⟩ 0 (Str.ofString "12345678").length 1).isEmpty)) = !decide (49 ≤ c ∧ c ≤ 56) := by
      rw [StrLaws.found_one, el]
      congr 1
      rw [Bool.eq_iff_iff, decide_eq_true_iff, decide_eq_true_iff]
      simp only [List.mem_cons, List.not_mem_nil, or_false]
      (first | lia | omega)
    by_cases c3 : 49 ≤ c ∧ c ≤ 56
    rotate_left
    · refine iteTd (en.trans (by simp [c3])) ?_
      refine qn H1 s1 fun wide ws w1 w8 ok _ z => c3 ?_
      have := ((key wide ws w1 w8 (fig_ok w8 ok)).mp z).1
      rw [ecd] at this
      have : c = dg wide := (List.cons.inj this).1
      unfold dg at this
      (first | lia | omega)
    refine iteFd (fun h => absurd (en.symm.trans h) (by simp [c3])) ?_
    have e58 : (Str.ofString ":") = ⟨#[58]⟩ := by decide +kernel
    refine ⟨_, rfl, l, _, _, _, rfl, rfl, SqL.of x1, at0, hd, 1, d, rfl, rfl, lenLine (by (first | lia | omega)), by show atI (Ls hd) 1 = some d; rw [ecd]; simp [atI, ixN], rfl, _, rfl, ?_⟩
    have ed : (V.str (⟨#[d]⟩ : Str) = V.str (Str.ofString ":")) ↔ d = 58 := by
      rw [e58]
      constructor
      · intro z
        have := congrArg Ls (V.str.inj z)
        exact (List.cons.inj this).1
      · intro z; rw [z]
    by_cases c4 : d = 58
    rotate_left
    · refine iteTd (by rw [decide_eq_false (fun z => c4 (ed.mp z))]; rfl) ?_
      refine qn H1 s1 fun wide ws w1 w8 ok _ z => c4 ?_
      have := ((key wide ws w1 w8 (fig_ok w8 ok)).mp z).1
      rw [ecd] at this
      exact (List.cons.inj (List.cons.inj this).2).1
    refine iteFd (by rw [decide_eq_true (ed.mpr c4)]; decide) ?_
    subst c4
    refine ⟨_, rfl, l, _, rfl, .inl (SqL.of x1), _, _, rfl, rfl, _, rfl, ?_⟩
    rw [List.length_map]
    by_cases c5 : tl.length ≤ 40
    rotate_left
    · refine iteTd (by simp; (first | lia | omega)) ?_
      refine qn H1 s1 fun wide ws w1 w8 ok ln z => c5 ?_
      rw [((key wide ws w1 w8 (fig_ok w8 ok)).mp z).2, List.length_map]
      exact ln
    refine iteFd (by simp; (first | lia | omega)) ?_
    obtain ⟨wide, hwd⟩ : ∃ wide : Int, wide = (c : Int) - 48 := ⟨_, rfl⟩
    have ecw : c = dg wide := by unfold dg; (first | lia | omega)
    have w1 : 1 ≤ wide := by (first | lia | omega)
    have w8 : wide ≤ 8 := by (first | lia | omega)
    refine ⟨rfl, _, rfl, l, _, _, _, rfl, rfl, SqL.of x1, at0, hd, 0, c, rfl, rfl, lenLine (by (first | lia | omega)), by show atI (Ls hd) 0 = some c; rw [ecd]; simp [atI, ixN], ?_⟩
    refine ⟨Str.ofString "012345678", ⟨#[c]⟩, wide.toNat, [], rfl, rfl, ?_, ?_⟩
    · rw [ecw]
      have dc : wide = 1 ∨ wide = 2 ∨ wide = 3 ∨ wide = 4 ∨ wide = 5 ∨ wide = 6 ∨ wide = 7 ∨ wide = 8 := by (first | lia | omega)
      rcases dc with z | z | z | z | z | z | z | z <;> rw [z] <;> decide +kernel
    rw [show ((wide.toNat : Nat) : Int) = wide by (first | lia | omega)]
    have key2 : ∀ wide' ws, 1 ≤ wide' → wide' ≤ 8 → WOk wide' ws → ws.length ≤ 40 → x = netS wide' ws → wide' = wide ∧ tl = ws.map wkS := fun wide' ws a1 a8 ok ln z => by
      obtain ⟨z1, z2⟩ := (key wide' ws a1 a8 (fig_ok a8 ok)).mp z
      rw [ecd, ecw] at z1
      exact ⟨(dg_inj (by (first | lia | omega)) (by (first | lia | omega)) (List.cons.inj z1).1).symm, z2⟩
    refine ⟨lenLine (by show 0 ≤ 100000; decide), fun lw fw => ?_⟩
    have s2 : Same H1 (upd H1 lw (HO.lst [])) := same_new fw _
    have x2 : (upd H1 lw (HO.lst [])) lw = some (.lst []) := upd_same
    generalize upd H1 lw (HO.lst []) = H2 at s2 x2
    have frw : H lw = none := s1.free fw
    have y1 := s2 _ _ x1
    refine ⟨_, rfl, 1, rfl, l, _, rfl, SqL.of y1, fun lt ft => ?_⟩
    have ect : cutV ((hd :: tl).map V.str) (some 1) none = tl.map V.str := by
      have := cut_from (xs := (hd :: tl).map V.str) (n := 1) (by simp)
      exact this
    rw [ect]
    have s3 : Same H2 (upd H2 lt (HO.lst (tl.map V.str))) := same_new ft _
    have x3 : (upd H2 lt (HO.lst (tl.map V.str))) lt = some (.lst (tl.map V.str)) := upd_same
    have ntw : lt ≠ lw := fun z => by rw [z, x2] at ft; cases ft
    replace x2 := s3 _ _ x2
    generalize upd H2 lt (HO.lst (tl.map V.str)) = H3 at s3 x3 x2
    have s03 := Same.trans s1 (Same.trans s2 s3)
    clear y1 s1 s2 s3 x1 fw ft fl ect
    refine ⟨lt, rfl, ⟨_, SqL.of x3⟩, ?_⟩
    refine for_list (K := K) (a := lt) (xs := tl.map V.str) (fun i σ Hc => ∃ v4 v5 ys us, σ = [some (.str x), some (.ref l), some (.int wide), some (.ref lw), v4, v5] ∧ Same H Hc ∧ Hc lt = some (.lst (tl.map V.str)) ∧ Hc lw = some (.lst ys) ∧ Refs Hc ys us ∧ WOk wide us ∧ tl.take i = us.map wkS)
      ⟨none, none, [], [], rfl, s03, x3, x2, .nil, (fun w hw => nomatch hw), by rw [List.take_zero]; rfl⟩ (fun i σ Hc _ ⟨_, _, _, _, _, _, z3, _⟩ => SqL.of z3) ?_ ?_
    · rintro i xv σ Hc hx ⟨v4, v5, ys, us, rfl, sc, z3, zw, r1, oku, eu⟩
      rw [List.getElem?_map] at hx
      obtain ⟨y, hy, rfl⟩ : ∃ y, tl[i]? = some y ∧ xv = V.str y := by
        cases hh : tl[i]? with
        | none => rw [hh] at hx; cases hx
        | some v => rw [hh] at hx; exact ⟨v, rfl, (Option.some.inj hx).symm⟩
      have yl := each y (List.mem_cons_of_mem _ (List.mem_of_getElem? hy))
      have bad : ∀ H', Same H H' → (∀ w, LaneOk wide w → y ≠ wkS w) → Q .non H' := fun H' s' hn => qn H' s' fun wide' ws a1 a8 ok ln z => by
        obtain ⟨rfl, et⟩ := key2 wide' ws a1 a8 ok ln z
        rw [et, List.getElem?_map] at hy
        cases hw : ws[i]? with
        | none => rw [hw] at hy; cases hy
        | some w0 =>
          rw [hw] at hy
          exact hn w0 (ok w0 (List.mem_of_getElem? hw)) (Option.some.inj hy).symm
      have e45 : (Str.ofString "-") = ⟨#[45]⟩ := by decide +kernel
      refine ⟨_, rfl, rfl, y, Str.ofString "-", rfl, rfl, rfl, by (first | lia | omega), fun lq fq => ?_⟩
      rw [e45]
      obtain ⟨_, _, _, qln⟩ := split_all y 45
      have eachq := split_each y 45
      have hqs : ∀ w, LaneOk wide w → y = wkS w → Txt.split y ⟨#[45]⟩ = [Mk [dg w.1], Mk [dg w.2]] := fun w lo z => by
        rw [z]
        exact wk_split ⟨lo.1, by have := lo.2.1; (first | lia | omega), lo.2.2.1, by have := lo.2.2.2.1; (first | lia | omega)⟩
      have hqw : ∀ w, Txt.split y ⟨#[45]⟩ = [Mk [dg w.1], Mk [dg w.2]] → y = wkS w := fun w z => split_wk z
      generalize Txt.split y ⟨#[45]⟩ = qs at qln eachq hqs hqw
      have t1 : Same Hc (upd Hc lq (HO.lst (qs.map V.str))) := same_new fq _
      have u1 : (upd Hc lq (HO.lst (qs.map V.str))) lq = some (.lst (qs.map V.str)) := upd_same
      generalize upd Hc lq (HO.lst (qs.map V.str)) = G1 at t1 u1
      refine ⟨lq, rfl, ⟨_, SqL.of u1⟩, fun lc fc => ?_⟩
      refine comp_list (xs := qs.map V.str) (fun j zs Gc => Same G1 Gc ∧ Gc lc = some (.lst zs) ∧ zs.length = j ∧ ∀ (k : Nat) (p : Str) (z : V), qs[k]? = some p → zs[k]? = some z → LaneV (Ls p) wide z) ⟨Same.put fc (Same.refl G1), upd_same, rfl, fun k p z _ h => by simp at h⟩ (lenLine (by rw [List.length_map]; (first | lia | omega))) (fun j zs Gc hj ⟨sg, e1, lz, _⟩ => ⟨SqL.of (sg _ _ u1), e1, by (first | lia | omega)⟩) ?_ ?_
      · rintro j zv zs Gc hz ⟨sg, e1, lz, hl1⟩
        rw [List.getElem?_map] at hz
        obtain ⟨p, hp, rfl⟩ : ∃ p, qs[j]? = some p ∧ zv = V.str p := by
          cases hh : qs[j]? with
          | none => rw [hh] at hz; cases hz
          | some v => rw [hh] at hz; exact ⟨v, rfl, (Option.some.inj hz).symm⟩
        have pl := eachq p (List.mem_of_getElem? hp)
        refine ⟨⟨.inl rfl, .inr rfl, trivial⟩, tru_if ?_⟩
        refine ⟨_, rfl, _, rfl, p, wide, rfl, by (first | lia | omega), w1, w8, fun v lv => ?_⟩
        refine ⟨e1, Same.put fc sg, upd_same, by rw [List.length_append, lz]; rfl, fun k p' z' h1 h2 => ?_⟩
        by_cases ck : k < zs.length
        · rw [List.getElem?_append_left ck] at h2
          exact hl1 k p' z' h1 h2
        · rw [List.getElem?_append_right (by (first | lia | omega))] at h2
          have : k - zs.length = 0 := by
            by_cases h0 : k - zs.length = 0
            · exact h0
            · rw [List.getElem?_eq_none (by simp; (first | lia | omega))] at h2; cases h2
          have ek : k = j := by (first | lia | omega)
          subst ek
          rw [this] at h2
          cases h2
          rw [hp] at h1
          cases h1
          exact lv
      · rintro zs Gc ⟨sg, e1, lz, hl1⟩
        rw [List.length_map] at lz
        have s0g := Same.trans sc (Same.trans t1 sg)
        have scg := Same.trans t1 sg
        try dsimp only [gName]
        refine ⟨_, rfl, lc, _, rfl, .inl (SqL.of e1), rfl, _, rfl, ?_⟩
        by_cases c6 : zs.length = 2
        rotate_left
        · refine iteTd (by simp; (first | lia | omega)) ?_
          exact bad Gc s0g fun w lo z => c6 (by rw [lz, hqs w lo z]; rfl)
        refine iteFd (by simp [c6]) ?_
        obtain ⟨q1, q2, eq2⟩ : ∃ q1 q2, qs = [q1, q2] := by
          match qs, lz.symm.trans c6 with
          | [a, b], _ => exact ⟨a, b, rfl⟩
        obtain ⟨z1, z2, ez⟩ : ∃ z1 z2, zs = [z1, z2] := by
          match zs, c6 with
          | [a, b], _ => exact ⟨a, b, rfl⟩
        subst eq2 ez
        have l1 := hl1 0 q1 z1 rfl rfl
        have l2 := hl1 1 q2 z2 rfl rfl
        have flat : ∀ {z : V} {p : Str}, LaneV (Ls p) wide z → flatV z = true := fun {z p} h => by
          rcases h with ⟨rfl, _⟩ | ⟨d, _, _, rfl, _⟩ <;> rfl
        refine ⟨_, rfl, lc, _, rfl, .inl (SqL.of e1), rfl, by simp [flat l1, flat l2], _, rfl, ?_⟩
        have no1 : ∀ {p : Str} {z : V} {d : Int}, LaneV (Ls p) wide z → 0 ≤ d → d < wide → p = Mk [dg d] → z = .int d := fun {p z d} h d0 d1 e => by
          rcases h with ⟨_, hn⟩ | ⟨d', a0, a1, rfl, e'⟩
          · exact absurd (by rw [e]; rfl) (hn d d0 d1)
          · rw [e] at e'
            have : dg d = dg d' := (List.cons.inj (show [dg d] = [dg d'] from e')).1
            rw [dg_inj d0 a0 this]
        have two : ∀ w, LaneOk wide w → y = wkS w → z1 = .int w.1 ∧ z2 = .int w.2 := fun w lo z => by
          have h := hqs w lo z
          obtain ⟨h1, h2⟩ := List.cons.inj h
          obtain ⟨h2, _⟩ := List.cons.inj h2
          exact ⟨no1 l1 lo.1 lo.2.1 h1, no1 l2 lo.2.2.1 lo.2.2.2.1 h2⟩
        rcases l1 with ⟨rfl, n1⟩ | ⟨d1, a10, a11, rfl, e1'⟩
        · refine iteTd rfl ?_
          exact bad Gc s0g fun w lo z => nomatch (two w lo z).1
        rcases l2 with ⟨rfl, n2⟩ | ⟨d2, a20, a21, rfl, e2'⟩
        · refine iteTd rfl ?_
          exact bad Gc s0g fun w lo z => nomatch (two w lo z).2
        refine iteFd (by show ¬ false = true; decide) ?_
        refine ⟨_, rfl, lc, _, _, _, rfl, rfl, SqL.of e1, rfl, _, rfl, lc, _, _, _, rfl, rfl, SqL.of e1, rfl, rfl, _, rfl, ?_⟩
        by_cases c7 : d1 = d2
        · refine iteTd (by simp [c7]) ?_
          refine bad Gc s0g fun w lo z => ?_
          obtain ⟨f1, f2⟩ := two w lo z
          cases f1; cases f2
          exact lo.2.2.2.2 c7
        refine iteFd (by simpa using c7) ?_
        have ey : y = wkS (d1, d2) := hqw (d1, d2) (by rw [← mk_ls q1, ← mk_ls q2, e1', e2'])
        have zw' := scg _ _ zw
        refine ⟨_, rfl, .inl ⟨rfl, _, SqL.of zw'⟩, ?_⟩
        refine ⟨_, rfl, lc, _, rfl, .inl ⟨SqL.of e1, fun t6 f6 => ?_⟩⟩
        have s6 : Same Gc (upd Gc t6 (HO.tup [V.int d1, V.int d2])) := same_new f6 _
        have x6 : (upd Gc t6 (HO.tup [V.int d1, V.int d2])) t6 = some (.tup [V.int d1, V.int d2]) := upd_same
        generalize upd Gc t6 (HO.tup [V.int d1, V.int d2]) = G6 at s6 x6
        have sc6 := Same.trans scg s6
        have e6 := s6 _ _ zw'
        have lys : ys.length ≤ 41 := by
          have h1 := r1.len
          have h2 := congrArg List.length eu
          rw [List.length_take, List.length_map] at h2
          (first | lia | omega)
        refine ⟨lw, _, _, rfl, rfl, e6, lenLine (by (first | lia | omega)), ?_⟩
        have k4 : KT G6 (upd G6 lw (HO.lst (ys ++ [V.ref t6]))) := KT.lst e6 (KT.refl _)
        refine ⟨_, _, ys ++ [V.ref t6], us ++ [(d1, d2)], rfl, Same.put frw (Same.trans sc sc6), (upd_ne ntw).trans (sc6 _ _ z3), upd_same, ((r1.same sc6).kt k4).app (.cons ⟨t6, rfl, k4 _ _ x6⟩ .nil), ?_, ?_⟩
        · intro w hw
          rcases List.mem_append.mp hw with z | z
          · exact oku w z
          · rw [List.mem_singleton.mp z]
            exact ⟨a10, a11, a20, a21, c7⟩
        · rw [take_snoc hy, eu, List.map_append, ey]
          rfl
    · rintro σ Hc ⟨v4, v5, ys, us, rfl, sc, z3, zw, r1, oku, eu⟩
      rw [List.length_map, List.take_length] at eu
      refine ⟨_, rfl, _, rfl, lw, _, rfl, .inl ⟨SqL.of zw, fun t5 f5 => ?_⟩⟩
      have s5 : Same Hc (upd Hc t5 (HO.tup ys)) := same_new f5 _
      have x5 : (upd Hc t5 (HO.tup ys)) t5 = some (.tup ys) := upd_same
      generalize upd Hc t5 (HO.tup ys) = H5 at s5 x5
      refine ⟨lenLine (by show 2 ≤ 100000; decide), fun n6 f6 => ?_⟩
      have s6 : Same H5 (upd H5 n6 (HO.tup [V.int wide, V.ref t5])) := same_new f6 _
      have x6 : (upd H5 n6 (HO.tup [V.int wide, V.ref t5])) n6 = some (.tup [V.int wide, V.ref t5]) := upd_same
      generalize upd H5 n6 (HO.tup [V.int wide, V.ref t5]) = H6 at s6 x6
      refine q (.ref n6) wide us H6 (Same.trans sc (Same.trans s5 s6)) w1 w8 oku ?_ ?_ ⟨n6, t5, ys, rfl, x6, s6 _ _ x5, r1.same (Same.trans s5 s6)⟩
      · have := congrArg List.length eu
        rw [List.length_map] at this
        (first | lia | omega)
      · exact (key wide us w1 w8 (fig_ok w8 oku)).mpr ⟨by rw [ecd, ecw], eu⟩
end
section
variable {P : Program} {w : World} {K : PySem.W.Frag} {mg : Str → Option Value} {base : Heap} {f : Addr} {fd : FuncData}
theorem sc_signs : FnScope ["_law_pen_here", "_law_text_here", "_law_at", "_law_sign", "_law_way"] ["_law_pen_here", "_law_text_here"] (defScope s_signs) := ⟨rfl, rfl, rfl, by decide +kernel, rfl, by decide +kernel, by decide +kernel⟩
theorem ok_signs (T : Bn mg) (F : Here K mg "_law_signs" s_signs f fd) (C_law_take : Callee P w K mg base "_law_take" 1 ["_law_pen_here", "_law_size"] spTake) : FnOk P w K mg base CX0 2 f fd ["_law_pen_here", "_law_text_here"] spBend82 := by
  refine F.fn.ok sc_signs (fun vs H Q E h => ?_) (fun cdv A outer s H vs Q E hr h => ?_)
  · obtain ⟨p, x, rfl, _⟩ := h
    rfl
  · obtain ⟨p, x, rfl, ⟨a0, b0, c0, hp⟩, len, q⟩ := h
    refine ⟨_, (pss_cons (ps_set (i := 2) sc_signs.nd rfl (by first | exact Or.inl rfl | exact Or.inr rfl) (pe_callC C_law_take (hr.mono (by first | decide | (first | lia | omega))) rfl (pa_cons (pv 0) (pa_cons (pe_op op_add (pe_callB call_len_str rfl T.n_len PySem.boot_len (pa_cons (pv 1) pa_nil)) pe_int) pa_nil))))
    (pss_cons (ps_set (i := 3) sc_signs.nd rfl (by first | exact Or.inl rfl | exact Or.inr rfl) (pe_ix ix_str pe_str (pe_callC C_law_take (hr.mono (by first | decide | (first | lia | omega))) rfl (pa_cons (pv 0) (pa_cons pe_int pa_nil))) (fun _ _ => rfl)))
    (pss_cons (ps_set (i := 4) sc_signs.nd rfl (by first | exact Or.inl rfl | exact Or.inr rfl) (pe_callC C_law_take (hr.mono (by first | decide | (first | lia | omega))) rfl (pa_cons (pv 0) (pa_cons pe_int pa_nil))))
    (pss_cons (ps_if (pt_cmpR op_eq (pv 4) pe_int (nomark _))
    (pss_one (ps_ret (pe_op op_add_str (pe_op op_add_str (pe_slice sl_strT (pv 1) po_none (po_some (pv 2))) (pv 3)) (pe_slice sl_strF (pv 1) (po_some (pv 2)) po_none))))
    pss_nil)
    (pss_one (ps_ret (pe_op op_add_str (pe_op op_add_str (pe_slice sl_strT (pv 1) po_none (po_some (pv 2))) (pe_op op_repS (pv 3) (pe_op op_sub (pv 4) pe_int))) (pe_slice sl_strF (pv 1) (po_some (pe_op op_add (pv 2) pe_int)) po_none)))))))), ?_⟩
    refine ⟨_, rfl, _, rfl, x, rfl, lenLine (by (first | lia | omega)), _, _, rfl, rfl, ?_⟩
    refine ⟨p, _, _, _, _, rfl, hp, by (first | lia | omega), by (first | lia | omega), fun v1 a1 b1 c1 v10 v11 => ?_⟩
    have k1 : Kp p H (upd H p (HO.lst [V.int a1, V.int b1, V.int c1])) := Kp.upd
    have hp1 : (upd H p (HO.lst [V.int a1, V.int b1, V.int c1])) p = some (.lst [V.int a1, V.int b1, V.int c1]) := upd_same
    generalize upd H p (HO.lst [V.int a1, V.int b1, V.int c1]) = H1 at k1 hp1
    refine ⟨_, rfl, p, _, _, _, 18, rfl, hp1, by decide, by decide, fun v2 a2 b2 c2 v20 v21 => ?_⟩
    have k2 : Kp p H (upd H1 p (HO.lst [V.int a2, V.int b2, V.int c2])) := Kp.trans k1 Kp.upd
    have hp2 : (upd H1 p (HO.lst [V.int a2, V.int b2, V.int c2])) p = some (.lst [V.int a2, V.int b2, V.int c2]) := upd_same
    generalize upd H1 p (HO.lst [V.int a2, V.int b2, V.int c2]) = H2 at k2 hp2
    have sl : (Ls (Str.ofString "0123456789-: a,x+_")).length = 18 := by decide +kernel
    obtain ⟨c, hc⟩ : ∃ c, atI (Ls (Str.ofString "0123456789-: a,x+_")) v2 = some c := by
      have h : v2.toNat < (Ls (Str.ofString "0123456789-: a,x+_")).length := by (first | lia | omega)
      exact ⟨(Ls (Str.ofString "0123456789-: a,x+_"))[v2.toNat], by unfold atI; rw [ixN_of v20 (by (first | lia | omega))]; simp [h]⟩
    refine ⟨Str.ofString "0123456789-: a,x+_", v2, c, rfl, rfl, lenLine (by rw [← ls_len, sl]; decide), hc, ?_⟩
    refine ⟨_, rfl, p, _, _, _, 3, rfl, hp2, by decide, by decide, fun v3 a3 b3 c3 v30 v31 => ?_⟩
    have k3 : Kp p H (upd H2 p (HO.lst [V.int a3, V.int b3, V.int c3])) := Kp.trans k2 Kp.upd
    have hp3 : (upd H2 p (HO.lst [V.int a3, V.int b3, V.int c3])) p = some (.lst [V.int a3, V.int b3, V.int c3]) := upd_same
    generalize upd H2 p (HO.lst [V.int a3, V.int b3, V.int c3]) = H3 at k3 hp3
    have xl := ls_len x
    have el : (x.length : Int) + 1 = ((x.length + 1 : Nat) : Int) := by (first | lia | omega)
    have ev : v1 = ((v1.toNat : Nat) : Int) := by (first | lia | omega)
    have tl := toS_len x v1.toNat
    have fl0 := fromS_len x v1.toNat
    have c1l : (⟨#[c]⟩ : Str).length = 1 := rfl
    refine ⟨_, rfl, rfl, _, rfl, ?_⟩
    by_cases cz : v3 = 0
    · refine iteTd (by simp [cz]) ?_
      refine ⟨_, rfl, _, rfl, v1, rfl, x, v1.toNat, rfl, rfl, by rw [← ev], by (first | lia | omega), lenLine (by (first | lia | omega)), ?_⟩
      refine ⟨_, rfl, _, _, rfl, rfl, lenLine (by (first | lia | omega)), ?_⟩
      refine ⟨_, rfl, _, rfl, v1, rfl, x, v1.toNat, rfl, by rw [← ev], rfl, lenLine (by (first | lia | omega)), ?_⟩
      refine ⟨_, _, rfl, rfl, lenLine (by rw [len_app]; (first | lia | omega)), ?_⟩
      refine q _ H3 k3 ⟨_, _, _, hp3⟩ ?_
      rw [len_app, len_app]
      (first | lia | omega)
    · refine iteFd (by simpa using cz) ?_
      refine ⟨_, rfl, _, rfl, v1, rfl, x, v1.toNat, rfl, rfl, by rw [← ev], by (first | lia | omega), lenLine (by (first | lia | omega)), ?_⟩
      refine ⟨_, rfl, _, rfl, _, _, rfl, rfl, ?_⟩
      refine ⟨_, v3 - 1, rfl, rfl, by (first | lia | omega), by (first | lia | omega), by rw [c1l]; decide, ?_⟩
      have rl := repS_len (⟨#[c]⟩ : Str) (v3 - 1).toNat
      rw [c1l] at rl
      refine ⟨_, _, rfl, rfl, lenLine (by (first | lia | omega)), ?_⟩
      have fl1 := fromS_len x (v1.toNat + 1)
      refine ⟨_, rfl, _, rfl, _, _, rfl, rfl, v1 + 1, rfl, x, v1.toNat + 1, rfl, by rw [show v1 + 1 = ((v1.toNat + 1 : Nat) : Int) by (first | lia | omega)], rfl, lenLine (by (first | lia | omega)), ?_⟩
      refine ⟨_, _, rfl, rfl, lenLine (by rw [len_app]; (first | lia | omega)), ?_⟩
      refine q _ H3 k3 ⟨_, _, _, hp3⟩ ?_
      rw [len_app, len_app]
      (first | lia | omega)
end
section
variable {P : Program} {w : World} {K : PySem.W.Frag} {mg : Str → Option Value} {base : Heap} {f : Addr} {fd : FuncData}
theorem sc_words : FnScope ["_law_pen_here", "_law_text_here", "_law_words_here", "_law_one", "_law_other", "_law_way", "_law_turned"] ["_law_pen_here", "_law_text_here"] (defScope s_words) := ⟨rfl, rfl, rfl, by decide +kernel, rfl, by decide +kernel, by decide +kernel⟩
theorem ok_words (T : Bn mg) (F : Here K mg "_law_words" s_words f fd) (C_law_take : Callee P w K mg base "_law_take" 1 ["_law_pen_here", "_law_size"] spTake) : FnOk P w K mg base CX0 2 f fd ["_law_pen_here", "_law_text_here"] spBend82 := by
  refine F.fn.ok sc_words (fun vs H Q E h => ?_) (fun cdv A outer s H vs Q E hr h => ?_)
  · obtain ⟨p, x, rfl, _⟩ := h
    rfl
  · obtain ⟨p, x, rfl, ⟨a0, b0, c0, hp⟩, len, q⟩ := h
    refine ⟨_, (@pss_cons _ _ _ _ _ (@ps_set _ _ 2 _ _ _ _ (by exact sc_words.nd) (by exact rfl) (by first | exact Or.inl rfl | exact Or.inr rfl) (by exact (pe_bm PySem.F.plainAttrs_str PySem.F.slot_str_split PySem.F.type_str_split mt_split (pv 1) (pa_cons pe_str pa_nil))) (by rfl) (by first | exact .inl rfl | exact .inr rfl))
    (by exact (@pss_cons _ _ _ _ _ (@ps_set _ _ 3 _ _ _ _ (by exact sc_words.nd) (by exact rfl) (by first | exact Or.inl rfl | exact Or.inr rfl) (by exact (pe_callC C_law_take (hr.mono (by first | decide | (first | lia | omega))) rfl (pa_cons (pv 0) (pa_cons (pe_callB call_len_seq rfl T.n_len PySem.boot_len (pa_cons (pv 2) pa_nil)) pa_nil)))) (by rfl) (by first | exact .inl rfl | exact .inr rfl))
    (by exact (@pss_cons _ _ _ _ _ (@ps_set _ _ 4 _ _ _ _ (by exact sc_words.nd) (by exact rfl) (by first | exact Or.inl rfl | exact Or.inr rfl) (by exact (pe_callC C_law_take (hr.mono (by first | decide | (first | lia | omega))) rfl (pa_cons (pv 0) (pa_cons (pe_callB call_len_seq rfl T.n_len PySem.boot_len (pa_cons (pv 2) pa_nil)) pa_nil)))) (by rfl) (by first | exact .inl rfl | exact .inr rfl))
    (by exact (@pss_cons _ _ _ _ _ (@ps_set _ _ 5 _ _ _ _ (by exact sc_words.nd) (by exact rfl) (by first | exact Or.inl rfl | exact Or.inr rfl) (by exact (pe_callC C_law_take (hr.mono (by first | decide | (first | lia | omega))) rfl (pa_cons (pv 0) (pa_cons pe_int pa_nil)))) (by rfl) (by first | exact .inl rfl | exact .inr rfl))
    (by exact (@pss_cons _ _ _ _ _ (by exact (ps_if (pt_cmpR op_eq (pv 5) pe_int (nomark _))
    (pss_one (ps_ret (pe_bm PySem.F.plainAttrs_str PySem.F.slot_str_join PySem.F.type_str_join mt_join pe_str (pa_cons (pe_op op_cat (pe_slice sl_list (pv 2) po_none (po_some (pv 3))) (pe_slice sl_list (pv 2) (po_some (pe_op op_add (pv 3) pe_int)) po_none)) pa_nil))))
    pss_nil))
    (by exact (@pss_cons _ _ _ _ _ (by exact (ps_if (pt_cmpR op_eq (pv 5) pe_int (nomark _))
    (pss_one (ps_ret (pe_bm PySem.F.plainAttrs_str PySem.F.slot_str_join PySem.F.type_str_join mt_join pe_str (pa_cons (pe_op op_cat (pe_op op_cat (pe_slice sl_list (pv 2) po_none (po_some (pv 3))) (pe_lst (pa_cons (pe_ix ix_list (pv 2) (pv 3) (fun _ _ => rfl)) pa_nil))) (pe_slice sl_list (pv 2) (po_some (pv 3)) po_none)) pa_nil))))
    pss_nil))
    (by exact (@pss_cons _ _ _ _ _ (by exact (ps_if (pt_cmpR op_eq (pv 5) pe_int (nomark _))
    (pss_one (ps_ret (pe_bm PySem.F.plainAttrs_str PySem.F.slot_str_join PySem.F.type_str_join mt_join pe_str (pa_cons (pe_op op_cat (pe_op op_cat (pe_slice sl_list (pv 2) po_none (po_some (pv 3))) (pe_lst (pa_cons (pe_ix ix_list (pe_lst (pa_cons pe_str (pa_cons pe_str (pa_cons pe_str (pa_cons pe_str (pa_cons pe_str (pa_cons pe_str (pa_cons pe_str pa_nil)))))))) (pe_op op_mod (pv 4) pe_int) (fun _ _ => rfl)) pa_nil))) (pe_slice sl_list (pv 2) (po_some (pv 3)) po_none)) pa_nil))))
    pss_nil))
    (by exact (@pss_cons _ _ _ _ _ (@ps_set _ _ 6 _ _ _ _ (by exact sc_words.nd) (by exact rfl) (by first | exact Or.inl rfl | exact Or.inr rfl) (by exact (pe_callTy call_list_of rfl T.n_list boot_listT (pa_cons (pv 2) pa_nil))) (by rfl) (by first | exact .inl rfl | exact .inr rfl))
    (by exact (@pss_cons _ _ _ _ _ (by exact (ps_asg (pe_ix ix_list (pv 2) (pv 4) (fun _ _ => rfl)) (pg_sub (pv 6) (pv 3) set_list)))
    (by exact (@pss_cons _ _ _ _ _ (by exact (ps_asg (pe_ix ix_list (pv 2) (pv 3) (fun _ _ => rfl)) (pg_sub (pv 6) (pv 4) set_list)))
    (by exact (@pss_one _ _ _ (by exact (ps_ret (pe_bm PySem.F.plainAttrs_str PySem.F.slot_str_join PySem.F.type_str_join mt_join pe_str (pa_cons (pv 6) pa_nil))))))))))))))))))))))))), ?_⟩
    have e0 : (Str.ofString " ") = ⟨#[32]⟩ := by decide +kernel
    refine ⟨_, rfl, rfl, x, Str.ofString " ", rfl, rfl, rfl, by (first | lia | omega), fun l fl => ?_⟩
    rw [e0]
    obtain ⟨sne, sfr, sj, sln⟩ := split_all x 32
    generalize hps : Txt.split x ⟨#[32]⟩ = ps at sne sfr sj sln
    have s1 : Same H (upd H l (HO.lst (ps.map V.str))) := same_new fl _
    have x1 : (upd H l (HO.lst (ps.map V.str))) l = some (.lst (ps.map V.str)) := upd_same
    generalize upd H l (HO.lst (ps.map V.str)) = H1 at s1 x1
    have hp1 := s1 _ _ hp
    have npl : l ≠ p := fun z => by rw [z, hp] at fl; cases fl
    have pl : 0 < ps.length := List.length_pos_iff.mpr sne
    refine ⟨_, rfl, _, rfl, l, _, rfl, .inl (SqL.of x1), ?_⟩
    rw [List.length_map]
    refine ⟨p, _, _, _, _, rfl, hp1, by (first | lia | omega), by (first | lia | omega), fun v1 a1 b1 c1 v10 v11 => ?_⟩
    have k2 : Kp p H (upd H1 p (HO.lst [V.int a1, V.int b1, V.int c1])) := Kp.trans (Kp.same s1) Kp.upd
    have hp2 : (upd H1 p (HO.lst [V.int a1, V.int b1, V.int c1])) p = some (.lst [V.int a1, V.int b1, V.int c1]) := upd_same
    have x2 : (upd H1 p (HO.lst [V.int a1, V.int b1, V.int c1])) l = some (.lst (ps.map V.str)) := (upd_ne npl).trans x1
    generalize upd H1 p (HO.lst [V.int a1, V.int b1, V.int c1]) = H2 at k2 hp2 x2
    refine ⟨_, rfl, _, rfl, l, _, rfl, .inl (SqL.of x2), ?_⟩
    rw [List.length_map]
    refine ⟨p, _, _, _, _, rfl, hp2, by (first | lia | omega), by (first | lia | omega), fun v2 a2 b2 c2 v20 v21 => ?_⟩
    have k3 : Kp p H (upd H2 p (HO.lst [V.int a2, V.int b2, V.int c2])) := Kp.trans k2 Kp.upd
    have hp3 : (upd H2 p (HO.lst [V.int a2, V.int b2, V.int c2])) p = some (.lst [V.int a2, V.int b2, V.int c2]) := upd_same
    have x3 : (upd H2 p (HO.lst [V.int a2, V.int b2, V.int c2])) l = some (.lst (ps.map V.str)) := (upd_ne npl).trans x2
    generalize upd H2 p (HO.lst [V.int a2, V.int b2, V.int c2]) = H3 at k3 hp3 x3
    refine ⟨_, rfl, p, _, _, _, 4, rfl, hp3, by decide, by decide, fun v3 a3 b3 c3 v30 v31 => ?_⟩
    have k4 : Kp p H (upd H3 p (HO.lst [V.int a3, V.int b3, V.int c3])) := Kp.trans k3 Kp.upd
    have hp4 : (upd H3 p (HO.lst [V.int a3, V.int b3, V.int c3])) p = some (.lst [V.int a3, V.int b3, V.int c3]) := upd_same
    have x4 : (upd H3 p (HO.lst [V.int a3, V.int b3, V.int c3])) l = some (.lst (ps.map V.str)) := (upd_ne npl).trans x3
    generalize upd H3 p (HO.lst [V.int a3, V.int b3, V.int c3]) = H4 at k4 hp4 x4
    clear k2 k3 hp1 hp2 hp3 x1 x2 x3
    have wps : Wt ps = x.length + 1 := by
      have := wt_join ps sne
      rw [sj] at this
      exact this.symm
    have n1 : (v1.toNat : Int) = v1 := by (first | lia | omega)
    have n2 : (v2.toNat : Int) = v2 := by (first | lia | omega)
    have fin : ∀ {Hf : Hp} {m : Addr} {qs : List Str}, Same H4 Hf → Hf m = some (.lst (qs.map V.str)) → Wt qs ≤ 2 * x.length + 10 → RJoinP K (.str ⟨#[32]⟩) [.ref m] Hf Q := fun {Hf m qs} sf hm hy => by
      refine ⟨⟨#[32]⟩, m, qs, rfl, rfl, SqL.of hm, ?_, q _ Hf (Kp.trans k4 (Kp.same sf)) ⟨_, _, _, sf _ _ hp4⟩ (Nat.le_trans (wt_txt qs) hy)⟩
      have e1 : (⟨#[32]⟩ : Str).length = 1 := rfl
      unfold Wt at hy
      rw [e1]
      (first | lia | omega)
    have ct : cutV (ps.map V.str) none (some v1) = (ps.take v1.toNat).map V.str := by
      have := cut_take (ps.map V.str) v1.toNat
      rw [n1] at this
      rw [this, List.map_take]
    have cf : ∀ {k : Nat}, k ≤ ps.length → cutV (ps.map V.str) (some (k : Int)) none = (ps.drop k).map V.str := fun {k} h => by
      rw [cut_from (xs := ps.map V.str) (n := k) (by rw [List.length_map]; exact h), List.map_drop]
    obtain ⟨y1, hy1⟩ : ∃ y, ps[v1.toNat]? = some y := ⟨ps[v1.toNat]'(by (first | lia | omega)), List.getElem?_eq_getElem _⟩
    obtain ⟨y2, hy2⟩ : ∃ y, ps[v2.toNat]? = some y := ⟨ps[v2.toNat]'(by (first | lia | omega)), List.getElem?_eq_getElem _⟩
    have at1 : atI (ps.map V.str) v1 = some (.str y1) := by
      unfold atI
      rw [ixN_of v10 (by rw [List.length_map]; (first | lia | omega))]
      simp [hy1]
    have at2 : atI (ps.map V.str) v2 = some (.str y2) := by
      unfold atI
      rw [ixN_of v20 (by rw [List.length_map]; (first | lia | omega))]
      simp [hy2]
    have wc := wt_cut ps v1.toNat
    have wd := wt_drop ps v1.toNat
    have wy := wt_one (List.mem_of_getElem? hy1)
    refine ⟨_, rfl, rfl, _, rfl, ?_⟩
    by_cases z0 : v3 = 0
    · refine iteTd (by simp [z0]) ?_
      refine ⟨rfl, ?_⟩
      refine ⟨_, rfl, _, rfl, v1, rfl, l, _, rfl, SqL.of x4, fun m1 f1 => ?_⟩
      rw [ct]
      have t1 : Same H4 (upd H4 m1 (HO.lst ((ps.take v1.toNat).map V.str))) := same_new f1 _
      have u1 : (upd H4 m1 (HO.lst ((ps.take v1.toNat).map V.str))) m1 = some (.lst ((ps.take v1.toNat).map V.str)) := upd_same
      generalize upd H4 m1 (HO.lst ((ps.take v1.toNat).map V.str)) = G1 at t1 u1
      refine ⟨_, rfl, _, rfl, _, _, rfl, rfl, v1 + 1, rfl, l, _, rfl, SqL.of (t1 _ _ x4), fun m2 f2 => ?_⟩
      rw [show v1 + 1 = ((v1.toNat + 1 : Nat) : Int) by (first | lia | omega), cf (by (first | lia | omega))]
      have t2 : Same G1 (upd G1 m2 (HO.lst ((ps.drop (v1.toNat + 1)).map V.str))) := same_new f2 _
      have u2 : (upd G1 m2 (HO.lst ((ps.drop (v1.toNat + 1)).map V.str))) m2 = some (.lst ((ps.drop (v1.toNat + 1)).map V.str)) := upd_same
      generalize upd G1 m2 (HO.lst ((ps.drop (v1.toNat + 1)).map V.str)) = G2 at t2 u2
      refine ⟨m1, m2, _, _, rfl, rfl, t2 _ _ u1, u2, lenLine (by rw [List.length_map, List.length_map, List.length_take, List.length_drop]; (first | lia | omega)), fun m3 f3 => ?_⟩
      rw [← List.map_append]
      exact fin (Same.trans t1 (Same.trans t2 (same_new f3 _))) upd_same (by rw [wt_app]; (first | lia | omega))
    refine iteFd (by simpa using z0) ?_
    refine ⟨_, rfl, rfl, _, rfl, ?_⟩
    by_cases z1 : v3 = 1
    · refine iteTd (by simp [z1]) ?_
      refine ⟨rfl, ?_⟩
      refine ⟨_, rfl, _, rfl, v1, rfl, l, _, rfl, SqL.of x4, fun m1 f1 => ?_⟩
      rw [ct]
      have t1 : Same H4 (upd H4 m1 (HO.lst ((ps.take v1.toNat).map V.str))) := same_new f1 _
      have u1 : (upd H4 m1 (HO.lst ((ps.take v1.toNat).map V.str))) m1 = some (.lst ((ps.take v1.toNat).map V.str)) := upd_same
      generalize upd H4 m1 (HO.lst ((ps.take v1.toNat).map V.str)) = G1 at t1 u1
      refine ⟨_, rfl, _, rfl, l, _, _, _, rfl, rfl, SqL.of (t1 _ _ x4), at1, lenLine (by show 1 ≤ 100000; decide), fun m2 f2 => ?_⟩
      have t2 : Same G1 (upd G1 m2 (HO.lst [V.str y1])) := same_new f2 _
      have u2 : (upd G1 m2 (HO.lst [V.str y1])) m2 = some (.lst [V.str y1]) := upd_same
      generalize upd G1 m2 (HO.lst [V.str y1]) = G2 at t2 u2
      refine ⟨m1, m2, _, _, rfl, rfl, t2 _ _ u1, u2, lenLine (by rw [List.length_map, List.length_take]; show _ + 1 ≤ _; (first | lia | omega)), fun m3 f3 => ?_⟩
      have t3 : Same G2 (upd G2 m3 (HO.lst ((ps.take v1.toNat).map V.str ++ [V.str y1]))) := same_new f3 _
      have u3 : (upd G2 m3 (HO.lst ((ps.take v1.toNat).map V.str ++ [V.str y1]))) m3 = some (.lst ((ps.take v1.toNat ++ [y1]).map V.str)) := by rw [upd_same, List.map_append]; rfl
      generalize upd G2 m3 (HO.lst ((ps.take v1.toNat).map V.str ++ [V.str y1])) = G3 at t3 u3
      have t03 := Same.trans t1 (Same.trans t2 t3)
      refine ⟨_, rfl, _, rfl, v1, rfl, l, _, rfl, SqL.of (t03 _ _ x4), fun m4 f4 => ?_⟩
      rw [← n1, cf (by (first | lia | omega))]
      have t4 : Same G3 (upd G3 m4 (HO.lst ((ps.drop v1.toNat).map V.str))) := same_new f4 _
      have u4 : (upd G3 m4 (HO.lst ((ps.drop v1.toNat).map V.str))) m4 = some (.lst ((ps.drop v1.toNat).map V.str)) := upd_same
      generalize upd G3 m4 (HO.lst ((ps.drop v1.toNat).map V.str)) = G4 at t4 u4
      refine ⟨m3, m4, _, _, rfl, rfl, t4 _ _ u3, u4, lenLine (by rw [List.length_map, List.length_map, List.length_append, List.length_take, List.length_drop]; show _ + 1 + _ ≤ _; (first | lia | omega)), fun m5 f5 => ?_⟩
      rw [← List.map_append]
      refine fin (Same.trans t03 (Same.trans t4 (same_new f5 _))) upd_same ?_
      rw [wt_app, wt_app, wt_cons, show Wt [] = 0 from rfl]
      (first | lia | omega)
    refine iteFd (by simpa using z1) ?_
    refine ⟨_, rfl, rfl, _, rfl, ?_⟩
    by_cases z2 : v3 = 2
    · refine iteTd (by simp [z2]) ?_
      refine ⟨rfl, ?_⟩
      refine ⟨_, rfl, _, rfl, v1, rfl, l, _, rfl, SqL.of x4, fun m1 f1 => ?_⟩
      rw [ct]
      have t1 : Same H4 (upd H4 m1 (HO.lst ((ps.take v1.toNat).map V.str))) := same_new f1 _
      have u1 : (upd H4 m1 (HO.lst ((ps.take v1.toNat).map V.str))) m1 = some (.lst ((ps.take v1.toNat).map V.str)) := upd_same
      generalize upd H4 m1 (HO.lst ((ps.take v1.toNat).map V.str)) = G1 at t1 u1
      refine ⟨lenLine (by show 7 ≤ 100000; decide), fun m6 f6 => ?_⟩
      obtain ⟨zs, ezs⟩ : ∃ zs : List Str, zs = [Str.ofString "0-1", Str.ofString "0-0", Str.ofString "-0-1", Str.ofString "1-", Str.ofString "00-1", Str.ofString "7-8", Str.ofString "1-0-1"] := ⟨_, rfl⟩
      have ow : ∀ y ∈ zs, y.length ≤ 5 := by rw [ezs]; exact odd_words
      have lz : zs.length = 7 := by rw [ezs]; rfl
      have t6 : Same G1 (upd G1 m6 (HO.lst (zs.map V.str))) := same_new f6 _
      have u6 : (upd G1 m6 (HO.lst (zs.map V.str))) m6 = some (.lst (zs.map V.str)) := upd_same
      have eh : (HO.lst [V.str (Str.ofString "0-1"), V.str (Str.ofString "0-0"), V.str (Str.ofString "-0-1"), V.str (Str.ofString "1-"), V.str (Str.ofString "00-1"), V.str (Str.ofString "7-8"), V.str (Str.ofString "1-0-1")]) = HO.lst (zs.map V.str) := by rw [ezs]; rfl
      rw [eh]
      clear eh ezs
      generalize upd G1 m6 (HO.lst (zs.map V.str)) = G6 at t6 u6
      obtain ⟨r, er⟩ : ∃ r : Int, r = v2 % 7 := ⟨_, rfl⟩
      have r0 : 0 ≤ r := by (first | lia | omega)
      have r7 : r < 7 := by (first | lia | omega)
      obtain ⟨yo, hyo⟩ : ∃ y, zs[r.toNat]? = some y := ⟨zs[r.toNat]'(by (first | lia | omega)), List.getElem?_eq_getElem _⟩
      have ato : atI (zs.map V.str) r = some (.str yo) := by
        unfold atI
        rw [ixN_of r0 (by rw [List.length_map]; (first | lia | omega))]
        simp [hyo]
      have ylo := ow yo (List.mem_of_getElem? hyo)
      refine ⟨_, rfl, _, _, rfl, rfl, (by decide), ?_⟩
      rw [← er]
      refine ⟨m6, _, _, _, rfl, rfl, SqL.of u6, ato, lenLine (by show 1 ≤ 100000; decide), fun m2 f2 => ?_⟩
      have t2 : Same G6 (upd G6 m2 (HO.lst [V.str yo])) := same_new f2 _
      have u2 : (upd G6 m2 (HO.lst [V.str yo])) m2 = some (.lst [V.str yo]) := upd_same
      generalize upd G6 m2 (HO.lst [V.str yo]) = G2 at t2 u2
      refine ⟨m1, m2, _, _, rfl, rfl, t2 _ _ (t6 _ _ u1), u2, lenLine (by rw [List.length_map, List.length_take]; show _ + 1 ≤ _; (first | lia | omega)), fun m3 f3 => ?_⟩
      have t3 : Same G2 (upd G2 m3 (HO.lst ((ps.take v1.toNat).map V.str ++ [V.str yo]))) := same_new f3 _
      have u3 : (upd G2 m3 (HO.lst ((ps.take v1.toNat).map V.str ++ [V.str yo]))) m3 = some (.lst ((ps.take v1.toNat ++ [yo]).map V.str)) := by rw [upd_same, List.map_append]; rfl
      generalize upd G2 m3 (HO.lst ((ps.take v1.toNat).map V.str ++ [V.str yo])) = G3 at t3 u3
      have t03 := Same.trans t1 (Same.trans t6 (Same.trans t2 t3))
      refine ⟨_, rfl, _, rfl, v1, rfl, l, _, rfl, SqL.of (t03 _ _ x4), fun m4 f4 => ?_⟩
      rw [← n1, cf (by (first | lia | omega))]
      have t4 : Same G3 (upd G3 m4 (HO.lst ((ps.drop v1.toNat).map V.str))) := same_new f4 _
      have u4 : (upd G3 m4 (HO.lst ((ps.drop v1.toNat).map V.str))) m4 = some (.lst ((ps.drop v1.toNat).map V.str)) := upd_same
      generalize upd G3 m4 (HO.lst ((ps.drop v1.toNat).map V.str)) = G4 at t4 u4
      refine ⟨m3, m4, _, _, rfl, rfl, t4 _ _ u3, u4, lenLine (by rw [List.length_map, List.length_map, List.length_append, List.length_take, List.length_drop]; show _ + 1 + _ ≤ _; (first | lia | omega)), fun m5 f5 => ?_⟩
      rw [← List.map_append]
      refine fin (Same.trans t03 (Same.trans t4 (same_new f5 _))) upd_same ?_
      rw [wt_app, wt_app, wt_cons, show Wt [] = 0 from rfl]
      (first | lia | omega)
    refine iteFd (by simpa using z2) ?_
    refine ⟨_, rfl, l, _, rfl, .inl (SqL.of x4), fun m1 f1 => ?_⟩
    have t1 : Same H4 (upd H4 m1 (HO.lst (ps.map V.str))) := same_new f1 _
    have u1 : (upd H4 m1 (HO.lst (ps.map V.str))) m1 = some (.lst (ps.map V.str)) := upd_same
    generalize upd H4 m1 (HO.lst (ps.map V.str)) = G1 at t1 u1
    refine ⟨_, rfl, _, rfl, l, _, _, _, rfl, rfl, SqL.of (t1 _ _ x4), at2, _, rfl, _, rfl, m1, _, v1, v1.toNat, rfl, rfl, u1, ixN_of v10 (by rw [List.length_map]; (first | lia | omega)), ?_⟩
    have nml : l ≠ m1 := fun z => by rw [z, f1] at x4; cases x4
    refine ⟨_, rfl, _, rfl, l, _, _, _, rfl, rfl, SqL.of ((upd_ne nml).trans (t1 _ _ x4)), at1, _, rfl, _, rfl, m1, _, v2, v2.toNat, rfl, rfl, upd_same, ixN_of v20 (by rw [List.length_set, List.length_map]; (first | lia | omega)), ?_⟩
    rw [upd_upd]
    refine ⟨rfl, _, rfl, ?_⟩
    have em : ((ps.map V.str).set v1.toNat (V.str y2)).set v2.toNat (V.str y1) = ((ps.set v1.toNat y2).set v2.toNat y1).map V.str := by rw [List.map_set, List.map_set]
    rw [em]
    refine fin (Same.put f1 t1) upd_same ?_
    have w1 := wt_set (y := y2) ps v1.toNat y1 hy1
    by_cases cz : v1.toNat = v2.toNat
    · have e2 : (ps.set v1.toNat y2)[v2.toNat]? = some y2 := by
        rw [← cz, List.getElem?_set_self (by (first | lia | omega))]
      have w2 := wt_set (y := y1) (ps.set v1.toNat y2) v2.toNat y2 e2
      (first | lia | omega)
    · have e2 : (ps.set v1.toNat y2)[v2.toNat]? = some y2 := by
        rw [List.getElem?_set_ne cz]; exact hy2
      have w2 := wt_set (y := y1) (ps.set v1.toNat y2) v2.toNat y2 e2
      (first | lia | omega)
end
section
variable {P : Program} {w : World} {K : PySem.W.Frag} {mg : Str → Option Value} {base : Heap} {f : Addr} {fd : FuncData}
theorem sc_heard : FnScope ["_law_thing", "_law_found", "_law_caught", "e", "_law_others"] ["_law_thing"] (defScope s_heard) := ⟨rfl, rfl, rfl, by decide +kernel, rfl, by decide +kernel, by decide +kernel⟩
theorem ok_heard {a : ErrA} (T : Bn mg) (F : Here K mg "_law_heard" s_heard f fd) (ER : ErrX K mg a) (Cread_net : CalleeE P w K mg base "read_net" 7 ["text"] (spReadG a.notext)) : FnOk P w K mg base CX0 8 f fd ["_law_thing"] spHeard82 := by
  refine F.fn.ok sc_heard (fun vs H Q E h => ?_) (fun cdv A outer s H vs Q E hr h => ?_)
  · rcases h with ⟨x, rfl, _⟩ | ⟨v, rfl, _⟩ <;> rfl
  · obtain ⟨v, rfl, alt, q, qr⟩ : ∃ v, vs = [v] ∧ ((∃ x : Str, v = .str x ∧ x.length ≤ 1990) ∨ (Th H v ∧ ∀ x, v ≠ .str x)) ∧ (∀ (u : V) (wide : Int) (ws : List (Int × Int)) (H' : Hp), Same H H' → 1 ≤ wide → wide ≤ 8 → WOk wide ws → ws.length ≤ 40 → v = .str (netS wide ws) → Net H' u wide ws → Q u H') ∧ (∀ H', Same H H' → (∀ wide ws, 1 ≤ wide → wide ≤ 8 → WOk wide ws → ws.length ≤ 40 → v ≠ .str (netS wide ws)) → Q (.str "refused") H') := by
      rcases h with ⟨x, rfl, len, q, qr⟩ | ⟨v, rfl, th, ns, qr⟩
      · exact ⟨_, rfl, .inl ⟨x, rfl, len⟩, fun u wide ws H' s' a1 a8 ok ln e n => q u wide ws H' s' a1 a8 ok ln (V.str.inj e) n, fun H' s' hn => qr H' s' fun wide ws a1 a8 ok ln e => hn wide ws a1 a8 ok ln (congrArg V.str e)⟩
      · exact ⟨v, rfl, .inr ⟨th, ns⟩, fun u wide ws H' s' a1 a8 ok ln e n => absurd e (ns _), fun H' s' _ => qr H' s'⟩
    refine ⟨_, (pss_cons (ps_set (i := 1) sc_heard.nd rfl (by first | exact Or.inl rfl | exact Or.inr rfl) pe_non)
    (pss_cons (ps_set (i := 2) sc_heard.nd rfl (by first | exact Or.inl rfl | exact Or.inr rfl) pe_non)
    (pss_cons (ps_tryAs (j := 3) rfl rfl sc_heard.nd rfl rfl (psx_set (i := 1) sc_heard.nd rfl (by first | exact Or.inl rfl | exact Or.inr rfl) (px_call Cread_net (hr.mono (by first | decide | (first | lia | omega))) rfl (pa_cons (pv 0) pa_nil))) rfl ER.at_NetError (fun _ => (pss_one (ps_set (i := 2) sc_heard.nd rfl (by first | exact Or.inl rfl | exact Or.inr rfl) (pv 3)))))
    (pss_cons (ps_if (pt_cmpR op_isN (pv 2) pe_non (nomark _))
    (pss_one (ps_ret (pv 1)))
    pss_nil)
    (pss_cons (ps_set (i := 4) sc_heard.nd rfl (by first | exact Or.inl rfl | exact Or.inr rfl) (pe_callB call_isXT rfl T.n_isinstance boot_isinstance (pa_cons (pv 2) (pa_cons (pe_tup (pa_cons (pe_glob (v := V.ref _) rfl ER.at_NoLane rfl) (pa_cons (pe_glob (v := V.ref _) rfl ER.at_NoName rfl) (pa_cons (pe_glob (v := V.ref _) rfl ER.at_NoNet rfl) (pa_cons (pe_glob (v := V.ref _) rfl ER.at_NoRow rfl) (pa_cons (pe_glob (v := V.ref _) rfl ER.at_NoWalker rfl) (pa_cons (pe_glob (v := V.ref _) rfl ER.at_TooMany rfl) pa_nil))))))) pa_nil))))
    (pss_one (ps_ret (pe_ix ix_list (pe_lst (pa_cons pe_str (pa_cons pe_str pa_nil))) (pe_callTy call_int1 rfl T.n_int boot_intT (pa_cons (pe_or (pv 4) (pe_or (pe_not (pe_callB call_isX rfl T.n_isinstance boot_isinstance (pa_cons (pv 2) (pa_cons (pe_glob (v := V.ref _) rfl ER.at_NoText rfl) pa_nil)))) (pe_one (pe_not (pe_callB call_isX rfl T.n_isinstance boot_isinstance (pa_cons (pv 2) (pa_cons (pe_bltn (v := V.ty "ValueError") (u := .type "ValueError") rfl T.n_ValueError (by decide +kernel) rfl) pa_nil))))))) pa_nil)) (fun _ _ => rfl))))))))), ?_⟩
    have step : spReadG a.notext [v] H (fun u H1 => (∃ wide ws, 1 ≤ wide ∧ wide ≤ 8 ∧ WOk wide ws ∧ ws.length ≤ 40 ∧ v = .str (netS wide ws) ∧ Net H1 u wide ws) ∧ Same H H1) (fun c _ H1 => c = .ref a.notext ∧ Same H H1 ∧ ∀ wide ws, 1 ≤ wide → wide ≤ 8 → WOk wide ws → ws.length ≤ 40 → v ≠ .str (netS wide ws)) := by
      rcases alt with ⟨x, rfl, len⟩ | ⟨th, ns⟩
      · exact .mk x rfl len (fun u wide ws H' s' a1 a8 ok ln e n => ⟨⟨wide, ws, a1, a8, ok, ln, congrArg V.str e, n⟩, s'⟩) (fun H' s' hn => ⟨rfl, s', fun wide ws a1 a8 ok ln z => hn wide ws a1 a8 ok ln (V.str.inj z)⟩)
      · exact .odd v rfl th ns fun H' s' => ⟨rfl, s', fun wide ws _ _ _ _ => ns _⟩
    refine ⟨_, rfl, read_mono step (fun u H1 ⟨⟨wide, ws, a1, a8, ok, ln, e, n⟩, s1⟩ => ?_) (fun H1 ⟨s1, hn⟩ => ?_)⟩
    · refine ⟨_, rfl, rfl, _, rfl, iteTd (by decide) ?_⟩
      exact ⟨_, rfl, q u wide ws H1 s1 a1 a8 ok ln e n⟩
    · refine ⟨ER.m_NoText, fun ea fea => ?_⟩
      have s2 : Same H1 (upd H1 ea (excO ea (.ref a.notext))) := same_new fea _
      have x2 : (upd H1 ea (excO ea (.ref a.notext))) ea = some (excO ea (.ref a.notext)) := upd_same
      generalize upd H1 ea (excO ea (.ref a.notext)) = H2 at s2 x2
      refine ⟨_, rfl, ?_⟩
      refine ⟨_, rfl, rfl, _, rfl, iteFd (by simp) ?_⟩
      refine ⟨_, rfl, lenLine (by show 6 ≤ 100000; decide), fun tp ftp => ?_⟩
      have s3 : Same H2 (upd H2 tp (HO.tup [V.ref a.nolane, V.ref a.noname, V.ref a.nonet, V.ref a.norow, V.ref a.nowalker, V.ref a.many])) := same_new ftp _
      have x3 : (upd H2 tp (HO.tup [V.ref a.nolane, V.ref a.noname, V.ref a.nonet, V.ref a.norow, V.ref a.nowalker, V.ref a.many])) tp = some (.tup [V.ref a.nolane, V.ref a.noname, V.ref a.nonet, V.ref a.norow, V.ref a.nowalker, V.ref a.many]) := upd_same
      generalize upd H2 tp (HO.tup [V.ref a.nolane, V.ref a.noname, V.ref a.nonet, V.ref a.norow, V.ref a.nowalker, V.ref a.many]) = H3 at s3 x3
      refine ⟨ea, a.notext, tp, _, _, _, rfl, s3 _ _ x2, ER.l_NoText, x3, rfl, ER.i_NoText, ?_⟩
      try dsimp only [gName]
      refine ⟨lenLine (by show 2 ≤ 100000; decide), fun l4 f4 => ?_⟩
      have s4 : Same H3 (upd H3 l4 (HO.lst [V.str "refused", V.str "other"])) := same_new f4 _
      have x4 : (upd H3 l4 (HO.lst [V.str "refused", V.str "other"])) l4 = some (.lst [V.str "refused", V.str "other"]) := upd_same
      generalize upd H3 l4 (HO.lst [V.str "refused", V.str "other"]) = H4 at s4 x4
      have x24 := s4 _ _ (s3 _ _ x2)
      refine ⟨_, rfl, _, rfl, iteFd (by decide) ?_⟩
      refine ⟨_, rfl, ea, a.notext, _, _, _, rfl, x24, ER.l_NoText, rfl, ER.t_NoText, _, rfl, _, rfl, iteFd (by decide) ?_⟩
      refine ⟨_, rfl, ea, a.notext, _, _, _, rfl, x24, ER.l_NoText, rfl, ER.v_NoText, _, rfl, ?_⟩
      refine .inr ⟨_, rfl, ?_⟩
      refine ⟨l4, _, _, _, rfl, rfl, SqL.of x4, rfl, ?_⟩
      exact qr H4 (Same.trans s1 (Same.trans s2 (Same.trans s3 s4))) hn
end
section
variable {P : Program} {w : World} {K : PySem.W.Frag} {mg : Str → Option Value} {base : Heap} {f : Addr} {fd : FuncData}
theorem sc_law : FnScope ["_law_script", "_law_k", "_law_pen_here", "_law_wide", "_law_wickets_here", "_law_text_here", "_law_turn", "_law_due", "_law_thing"] ["_law_script"] (defScope s_law) := ⟨rfl, rfl, rfl, by decide +kernel, rfl, by decide +kernel, by decide +kernel⟩
def bd82 : Nat → Nat
  | 0 => 166
  | j + 1 => 2 * bd82 j + 10
theorem ok_law (T : Bn mg) (F : Here K mg "law" s_law f fd) (C_law_take : Callee P w K mg base "_law_take" 1 ["_law_pen_here", "_law_size"] spTake) (C_law_pen : Callee P w K mg base "_law_pen" 1 ["_law_script", "_law_k"] (spPen K)) (C_law_wickets : Callee P w K mg base "_law_wickets" 2 ["_law_pen_here", "_law_wide", "_law_many"] spWickets) (C_law_text : Callee P w K mg base "_law_text" 1 ["_law_net"] spText82) (C_law_signs : Callee P w K mg base "_law_signs" 2 ["_law_pen_here", "_law_text_here"] spBend82) (C_law_words : Callee P w K mg base "_law_words" 2 ["_law_pen_here", "_law_text_here"] spBend82) (C_law_read : Callee P w K mg base "_law_read" 2 ["_law_text_here"] spRead82) (C_law_heard : Callee P w K mg base "_law_heard" 8 ["_law_thing"] spHeard82) : FnOk P w K mg base CX0 10 f fd ["_law_script"] (spLaw K) := by
  refine F.fn.ok sc_law (fun vs H Q E h => ?_) (fun cdv A outer s H vs Q E hr h => ?_)
  · obtain ⟨a, ns, rfl, _⟩ := h
    rfl
  · obtain ⟨a, ns, rfl, hS, h63, q⟩ := h
    refine ⟨_, (@pss_cons _ _ _ _ _ (@ps_for _ _ _ _ _ _ _ _ (by exact PassesOwn.never) (by rfl) (by exact (pi_range1 rfl T.n_range (pa_cons pe_int pa_nil))) (by exact (pg_name (i := 1) sc_law.nd rfl (by first | exact Or.inl rfl | exact Or.inr rfl))) (by exact (@pss_cons _ _ _ _ _ (@ps_set _ _ 2 _ _ _ _ (by exact sc_law.nd) (by exact rfl) (by first | exact Or.inl rfl | exact Or.inr rfl) (by exact (pe_callC C_law_pen (hr.mono (by first | decide | (first | lia | omega))) rfl (pa_cons (pv 0) (pa_cons (pv 1) pa_nil)))) (by rfl) (by first | exact .inl rfl | exact .inr rfl))
    (by exact (@pss_cons _ _ _ _ _ (@ps_set _ _ 3 _ _ _ _ (by exact sc_law.nd) (by exact rfl) (by first | exact Or.inl rfl | exact Or.inr rfl) (by exact (pe_op op_add pe_int (pe_callC C_law_take (hr.mono (by first | decide | (first | lia | omega))) rfl (pa_cons (pv 2) (pa_cons pe_int pa_nil))))) (by rfl) (by first | exact .inl rfl | exact .inr rfl))
    (by exact (@pss_cons _ _ _ _ _ (@ps_set _ _ 4 _ _ _ _ (by exact sc_law.nd) (by exact rfl) (by first | exact Or.inl rfl | exact Or.inr rfl) (by exact (pe_callC C_law_wickets (hr.mono (by first | decide | (first | lia | omega))) rfl (pa_cons (pv 2) (pa_cons (pv 3) (pa_cons (pe_callC C_law_take (hr.mono (by first | decide | (first | lia | omega))) rfl (pa_cons (pv 2) (pa_cons (pe_ix ix_list (pe_lst (pa_cons pe_int (pa_cons pe_int pa_nil))) (pe_callC C_law_take (hr.mono (by first | decide | (first | lia | omega))) rfl (pa_cons (pv 2) (pa_cons pe_int pa_nil))) (fun _ _ => rfl)) pa_nil))) pa_nil))))) (by rfl) (by first | exact .inl rfl | exact .inr rfl))
    (by exact (@pss_cons _ _ _ _ _ (@ps_set _ _ 5 _ _ _ _ (by exact sc_law.nd) (by exact rfl) (by first | exact Or.inl rfl | exact Or.inr rfl) (by exact (pe_callC C_law_text (hr.mono (by first | decide | (first | lia | omega))) rfl (pa_cons (pe_tup (pa_cons (pv 3) (pa_cons (pv 4) pa_nil))) pa_nil))) (by rfl) (by first | exact .inl rfl | exact .inr rfl))
    (by exact (@pss_cons _ _ _ _ _ (@ps_for _ _ _ _ _ _ _ _ (by exact PassesOwn.never) (by rfl) (by exact (pi_range1 rfl T.n_range (pa_cons (pe_op op_add pe_int (pe_callC C_law_take (hr.mono (by first | decide | (first | lia | omega))) rfl (pa_cons (pv 2) (pa_cons pe_int pa_nil)))) pa_nil))) (by exact (pg_name (i := 6) sc_law.nd rfl (by first | exact Or.inl rfl | exact Or.inr rfl))) (by exact (@pss_one _ _ _ (by exact (ps_if (pt_cmpR op_eq (pe_callC C_law_take (hr.mono (by first | decide | (first | lia | omega))) rfl (pa_cons (pv 2) (pa_cons pe_int pa_nil))) pe_int (nomark _))
    (pss_one (ps_set (i := 5) sc_law.nd rfl (by first | exact Or.inl rfl | exact Or.inr rfl) (pe_callC C_law_signs (hr.mono (by first | decide | (first | lia | omega))) rfl (pa_cons (pv 2) (pa_cons (pv 5) pa_nil)))))
    (pss_one (ps_set (i := 5) sc_law.nd rfl (by first | exact Or.inl rfl | exact Or.inr rfl) (pe_callC C_law_words (hr.mono (by first | decide | (first | lia | omega))) rfl (pa_cons (pv 2) (pa_cons (pv 5) pa_nil))))))))) (by intro x; rfl))
    (by exact (@pss_cons _ _ _ _ _ (@ps_set _ _ 7 _ _ _ _ (by exact sc_law.nd) (by exact rfl) (by first | exact Or.inl rfl | exact Or.inr rfl) (by exact (pe_callC C_law_read (hr.mono (by first | decide | (first | lia | omega))) rfl (pa_cons (pv 5) pa_nil))) (by rfl) (by first | exact .inl rfl | exact .inr rfl))
    (by exact (@pss_one _ _ _ (by exact (ps_if (pt_cmpR (op_neD hr.units) (pe_callC C_law_heard (hr.mono (by first | decide | (first | lia | omega))) rfl (pa_cons (pv 5) pa_nil)) (pe_ix ix_list (pe_lst (pa_cons (pv 7) (pa_cons pe_str pa_nil))) (pe_callTy call_int1 rfl T.n_int boot_intT (pa_cons (pe_cmpR op_isN (pv 7) pe_non (nomark _)) pa_nil)) (fun _ _ => rfl)) (nomark _))
    (pss_one (ps_ret pe_bl))
    pss_nil)))))))))))))))) (by intro x; rfl))
    (by exact (@pss_cons _ _ _ _ _ (@ps_for _ _ _ _ _ _ _ _ (by exact PassesOwn.never) (by rfl) (@pi_list _ _ _ _ (@PEs.h _ _ _ (q_lst (pas_consD (PEs.mk pe_non) (pas_consD (PEs.mk pe_int) (pas_consD (PEs.mk pe_bl) (pas_consD (q_lst (pas_consD (PEs.mk pe_str) (pas_consD (PEs.mk pe_str) pas_nil))) (pas_consD (q_tup (pas_consD (PEs.mk pe_str) pas_nil)) (pas_consD (q_tup (pas_consD (PEs.mk pe_int) (pas_consD (q_tup pas_nil) pas_nil))) (pas_consD pe_dict0S (pas_consD (PEs.mk pe_str) (pas_consD (PEs.mk pe_str) (pas_consD (PEs.mk pe_str) (pas_consD (PEs.mk pe_str) (pas_consD (PEs.mk pe_str) (pas_consD (PEs.mk pe_str) (pas_consD (PEs.mk pe_str) pas_nil))))))))))))))))) (by exact (pg_name (i := 8) sc_law.nd rfl (by first | exact Or.inl rfl | exact Or.inr rfl))) (by exact (@pss_one _ _ _ (by exact (ps_if (pt_cmpR (op_neD hr.units) (pe_callC C_law_heard (hr.mono (by first | decide | (first | lia | omega))) rfl (pa_cons (pv 8) pa_nil)) pe_str (nomark _))
    (pss_one (ps_ret pe_bl))
    pss_nil)))) (by intro x; rfl))
    (by exact (@pss_one _ _ _ (by exact (ps_ret (pe_and (pe_cmpR (op_eqD hr.units) (pe_callC C_law_heard (hr.mono (by first | decide | (first | lia | omega))) rfl (pa_cons (pe_op op_add_str pe_str (pe_op op_repS pe_str pe_int)) pa_nil)) pe_str (nomark _)) (pe_one (pe_cmpR (op_eqD hr.units) (pe_callC C_law_heard (hr.mono (by first | decide | (first | lia | omega))) rfl (pa_cons (pe_op op_add_str pe_str (pe_op op_repS pe_str pe_int)) pa_nil)) (pe_tup (pa_cons pe_int (pa_cons (pe_op op_repT (pe_tup (pa_cons (pe_tup (pa_cons pe_int (pa_cons pe_int pa_nil))) pa_nil)) pe_int) pa_nil))) (nomark _))))))))))), ?_⟩
    refine ⟨4, rfl, by decide, by decide, ?_⟩
    refine for_range (n := (4 : Int).toNat) (fun i σ Hc => ∃ v1 v2 v3 v4 v5 v6 v7 v8, σ = [some (.ref a), v1, v2, v3, v4, v5, v6, v7, v8] ∧ Same H Hc) ⟨none, none, none, none, none, none, none, none, rfl, Same.refl H⟩ ?_ ?_
    · rintro i σ Hc hi ⟨v1, v2, v3, v4, v5, v6, v7, v8, rfl, sc⟩
      have hi4 : i < 4 := hi
      refine ⟨_, rfl, _, rfl, a, ns, 0 + (i : Int), rfl, sc.seq hS, h63, by (first | lia | omega), by (first | lia | omega), fun p pa pb pc fp => ?_⟩
      have k1 : Kp p Hc (upd Hc p (HO.lst [V.int pa, V.int pb, V.int pc])) := Kp.same (same_new fp _)
      have hp1 : (upd Hc p (HO.lst [V.int pa, V.int pb, V.int pc])) p = some (.lst [V.int pa, V.int pb, V.int pc]) := upd_same
      generalize upd Hc p (HO.lst [V.int pa, V.int pb, V.int pc]) = H1 at k1 hp1
      refine ⟨_, rfl, p, _, _, _, 8, rfl, hp1, by decide, by decide, fun vw a2 b2 c2 vw0 vw1 => ?_⟩
      have k2 : Kp p Hc (upd H1 p (HO.lst [V.int a2, V.int b2, V.int c2])) := Kp.trans k1 Kp.upd
      have hp2 : (upd H1 p (HO.lst [V.int a2, V.int b2, V.int c2])) p = some (.lst [V.int a2, V.int b2, V.int c2]) := upd_same
      generalize upd H1 p (HO.lst [V.int a2, V.int b2, V.int c2]) = H2 at k2 hp2
      refine ⟨_, _, rfl, rfl, ?_⟩
      obtain ⟨wide, ew⟩ : ∃ wide : Int, wide = 1 + vw := ⟨_, rfl⟩
      dsimp only
      rw [← ew]
      refine ⟨_, rfl, _, rfl, _, rfl, lenLine (by show 2 ≤ 100000; decide), fun l0 f0 => ?_⟩
      obtain ⟨k3, hp3, x3, n3⟩ := fresh_step hp2 f0 (.lst [V.int 5, V.int 41])
      generalize upd H2 l0 (HO.lst [V.int 5, V.int 41]) = H3 at k3 hp3 x3
      refine ⟨_, rfl, p, _, _, _, 2, rfl, hp3, by decide, by decide, fun vi a4 b4 c4 vi0 vi1 => ?_⟩
      have k4 : Kp p Hc (upd H3 p (HO.lst [V.int a4, V.int b4, V.int c4])) := Kp.trans k2 (Kp.trans k3 Kp.upd)
      have hp4 : (upd H3 p (HO.lst [V.int a4, V.int b4, V.int c4])) p = some (.lst [V.int a4, V.int b4, V.int c4]) := upd_same
      have x4 : (upd H3 p (HO.lst [V.int a4, V.int b4, V.int c4])) l0 = some (.lst [V.int 5, V.int 41]) := (upd_ne n3).trans x3
      generalize upd H3 p (HO.lst [V.int a4, V.int b4, V.int c4]) = H4 at k4 hp4 x4
      obtain ⟨m, em, m1, m41⟩ : ∃ m : Int, atI [V.int 5, V.int 41] vi = some (.int m) ∧ 1 ≤ m ∧ m ≤ 41 := by
        have vc : vi = 0 ∨ vi = 1 := by (first | lia | omega)
        rcases vc with y | y <;> subst y
        · exact ⟨5, rfl, by decide, by decide⟩
        · exact ⟨41, rfl, by decide, by decide⟩
      refine ⟨l0, _, _, _, rfl, rfl, SqL.of x4, em, ?_⟩
      refine ⟨p, _, _, _, m, rfl, hp4, by (first | lia | omega), by (first | lia | omega), fun vm a5 b5 c5 vm0 vm1 => ?_⟩
      have k5 : Kp p Hc (upd H4 p (HO.lst [V.int a5, V.int b5, V.int c5])) := Kp.trans k4 Kp.upd
      have hp5 : (upd H4 p (HO.lst [V.int a5, V.int b5, V.int c5])) p = some (.lst [V.int a5, V.int b5, V.int c5]) := upd_same
      generalize upd H4 p (HO.lst [V.int a5, V.int b5, V.int c5]) = H5 at k5 hp5
      have w1 : 1 ≤ wide := by (first | lia | omega)
      have w8 : wide ≤ 8 := by (first | lia | omega)
      refine ⟨p, wide, vm, rfl, ⟨_, _, _, hp5⟩, w1, w8, vm0, by (first | lia | omega), fun lw ws H6 fw k6 pn6 wl ok ln => ?_⟩
      have lw40 : ws.length ≤ 40 := by (first | lia | omega)
      obtain ⟨a6, b6, c6, hp6⟩ := pn6
      refine ⟨_, rfl, _, rfl, lenLine (by show 2 ≤ 100000; decide), fun n7 f7 => ?_⟩
      have s7 : Same H6 (upd H6 n7 (HO.tup [V.int wide, V.ref lw])) := same_new f7 _
      have x7 : (upd H6 n7 (HO.tup [V.int wide, V.ref lw])) n7 = some (.tup [V.int wide, V.ref lw]) := upd_same
      generalize upd H6 n7 (HO.tup [V.int wide, V.ref lw]) = H7 at s7 x7
      refine ⟨n7, lw, wide, ws, rfl, x7, wl.same s7, w1, w8, ok, by (first | lia | omega), fun H8 s8 => ?_⟩
      have s68 := Same.trans s7 s8
      have hp8 := s68 _ _ hp6
      have k8 : Kp p Hc H8 := Kp.trans k5 (Kp.trans k6 (Kp.same s68))
      clear k1 k2 k3 k4 k5 k6 hp1 hp2 hp3 hp4 hp5 hp6 x3 x4 s7 s8 x7 s68
      refine ⟨_, rfl, p, _, _, _, 3, rfl, hp8, by decide, by decide, fun vt a9 b9 c9 vt0 vt1 => ?_⟩
      have k9 : Kp p Hc (upd H8 p (HO.lst [V.int a9, V.int b9, V.int c9])) := Kp.trans k8 Kp.upd
      have hp9 : (upd H8 p (HO.lst [V.int a9, V.int b9, V.int c9])) p = some (.lst [V.int a9, V.int b9, V.int c9]) := upd_same
      generalize upd H8 p (HO.lst [V.int a9, V.int b9, V.int c9]) = H9 at k9 hp9
      refine ⟨_, _, rfl, rfl, 1 + vt, rfl, by (first | lia | omega), by (first | lia | omega), ?_⟩
      have nl := netS_len wide ws
      refine for_range (n := (1 + vt).toNat) (fun j σ Hd => ∃ y v6, σ = [some (.ref a), some (.int (0 + (i : Int))), some (.ref p), some (.int wide), some (.ref lw), some (.str y), v6, v7, v8] ∧ Kp p Hc Hd ∧ Pen Hd p ∧ y.length ≤ bd82 j) ⟨netS wide ws, v6, rfl, k9, ⟨_, _, _, hp9⟩, by rw [nl]; show _ ≤ 166; (first | lia | omega)⟩ ?_ ?_
      · rintro j σ Hd hj ⟨y, v6, rfl, kd, ⟨aa, ba, ca, hpa⟩, ly⟩
        have jc : j = 0 ∨ j = 1 ∨ j = 2 := by (first | lia | omega)
        have b1000 : bd82 j ≤ 1000 := by rcases jc with z | z | z <;> subst z <;> decide
        refine ⟨_, rfl, p, _, _, _, 2, rfl, hpa, by decide, by decide, fun vb ab bb cb vb0 vb1 => ?_⟩
        have kb : Kp p Hc (upd Hd p (HO.lst [V.int ab, V.int bb, V.int cb])) := Kp.trans kd Kp.upd
        have hpb : (upd Hd p (HO.lst [V.int ab, V.int bb, V.int cb])) p = some (.lst [V.int ab, V.int bb, V.int cb]) := upd_same
        generalize upd Hd p (HO.lst [V.int ab, V.int bb, V.int cb]) = Hb at kb hpb
        refine ⟨rfl, _, rfl, ?_⟩
        by_cases cz : vb = 0
        · refine iteTd (by simp [cz]) ?_
          refine ⟨_, rfl, _, rfl, p, y, rfl, ⟨_, _, _, hpb⟩, by (first | lia | omega), fun y' H' k' pn' l' => ?_⟩
          exact ⟨y', _, rfl, Kp.trans kb k', pn', by show _ ≤ 2 * bd82 j + 10; (first | lia | omega)⟩
        · refine iteFd (by simpa using cz) ?_
          refine ⟨_, rfl, _, rfl, p, y, rfl, ⟨_, _, _, hpb⟩, by (first | lia | omega), fun y' H' k' pn' l' => ?_⟩
          exact ⟨y', _, rfl, Kp.trans kb k', pn', by show _ ≤ 2 * bd82 j + 10; (first | lia | omega)⟩
      · rintro σ Hd ⟨y, v6, rfl, kd, pnd, ly⟩
        have l1990 : y.length ≤ 1990 := by
          have vc : vt = 0 ∨ vt = 1 ∨ vt = 2 := by (first | lia | omega)
          rcases vc with z | z | z <;> subst z <;> exact Nat.le_trans ly (by decide)
        have back : ∀ {H'}, Same Hd H' → Same H H' := fun {H'} s' b o e => s' _ _ (kd _ _ (sc _ _ e) (ne_of_none (sc _ _ e) fp))
        refine ⟨_, rfl, y, rfl, l1990, fun v wd us Ha sa d1 d8 oku lu ey net => ?_, fun Ha sa hn => ?_⟩
        · refine ⟨_, rfl, .mk y rfl l1990 (fun v' wd' us' Hb sb e1 e8 ok' lu' ey' net' => ?_) (fun Hb sb hn => absurd ey (hn wd us d1 d8 oku lu))⟩
          obtain ⟨rfl, rfl⟩ := net_inj (by (first | lia | omega)) (by (first | lia | omega)) (fig_ok d8 oku) (fig_ok e8 ok') (ey.symm.trans ey')
          refine ⟨_, rfl, lenLine (by show 2 ≤ 100000; decide), fun lc fc => ?_⟩
          have sC : Same Hb (upd Hb lc (HO.lst [v, V.str "refused"])) := same_new fc _
          have xC : (upd Hb lc (HO.lst [v, V.str "refused"])) lc = some (.lst [v, V.str "refused"]) := upd_same
          generalize upd Hb lc (HO.lst [v, V.str "refused"]) = HC at sC xC
          have nv : v ≠ .non := fun z => by obtain ⟨n0, _, _, e, _⟩ := net; rw [z] at e; cases e
          refine ⟨_, rfl, rfl, .inr ⟨_, rfl, ?_⟩⟩
          refine ⟨lc, _, 0, v, rfl, by rw [decide_eq_false nv]; rfl, SqL.of xC, rfl, ?_⟩
          have sbC := Same.trans sb sC
          refine ⟨_, _, (net'.kt (KT.same sC (KT.refl _))).dat, (net.kt (KT.same sbC (KT.refl _))).dat, shaped_net _ _, shaped_net _ _, mix_net2 _ _ _ _, ?_⟩
          have es : PySem.Spec.same (netD wd us) (netD wd us) = true := PyProof.Rows.same_refl _
          refine ⟨_, rfl, iteFd (by rw [show (if true = true then !PySem.Spec.same (netD wd us) (netD wd us) else PySem.Spec.same (netD wd us) (netD wd us)) = false from by rw [if_pos rfl, es]; rfl]; decide) ?_⟩
          exact ⟨_, _, _, _, _, _, _, _, rfl, back (Same.trans sa sbC)⟩
        · refine ⟨_, rfl, .mk y rfl l1990 (fun v' wd' us' Hb sb e1 e8 ok' lu' ey' net' => absurd ey' (hn wd' us' e1 e8 ok' lu')) (fun Hb sb _ => ?_)⟩
          refine ⟨_, rfl, lenLine (by show 2 ≤ 100000; decide), fun lc fc => ?_⟩
          have sC : Same Hb (upd Hb lc (HO.lst [V.non, V.str "refused"])) := same_new fc _
          have xC : (upd Hb lc (HO.lst [V.non, V.str "refused"])) lc = some (.lst [V.non, V.str "refused"]) := upd_same
          generalize upd Hb lc (HO.lst [V.non, V.str "refused"]) = HC at sC xC
          refine ⟨_, rfl, rfl, .inr ⟨_, rfl, ?_⟩⟩
          refine ⟨lc, _, 1, _, rfl, rfl, SqL.of xC, rfl, ?_⟩
          refine ⟨_, _, .str _, .str _, sh_ref, sh_ref, by simp [noMix], ?_⟩
          have es : PySem.Spec.same (.str "refused") (.str "refused") = true := PyProof.Rows.same_refl _
          refine ⟨_, rfl, iteFd (by rw [show (if true = true then !PySem.Spec.same (.str "refused") (.str "refused") else PySem.Spec.same (.str "refused") (.str "refused")) = false from by rw [if_pos rfl, es]; rfl]; decide) ?_⟩
          exact ⟨_, _, _, _, _, _, _, _, rfl, back (Same.trans sa (Same.trans sb sC))⟩
    · rintro σ Hc ⟨v1, v2, v3, v4, v5, v6, v7, v8, rfl, sc⟩
      try dsimp only [gName]
      refine ⟨lenLine (by show 2 ≤ 100000; decide), fun t1 f1 => ?_⟩
      have s1 : Same Hc (upd Hc t1 (HO.lst [V.str (Str.ofString "2:"), V.str (Str.ofString "0-1")])) := same_new f1 _
      have x1 : (upd Hc t1 (HO.lst [V.str (Str.ofString "2:"), V.str (Str.ofString "0-1")])) t1 = some (HO.lst [V.str (Str.ofString "2:"), V.str (Str.ofString "0-1")]) := upd_same
      generalize upd Hc t1 (HO.lst [V.str (Str.ofString "2:"), V.str (Str.ofString "0-1")]) = H1 at s1 x1
      refine ⟨lenLine (by show 1 ≤ 100000; decide), fun t2 f2 => ?_⟩
      have s2 : Same H1 (upd H1 t2 (HO.tup [V.str (Str.ofString "2:")])) := same_new f2 _
      have x2 : (upd H1 t2 (HO.tup [V.str (Str.ofString "2:")])) t2 = some (HO.tup [V.str (Str.ofString "2:")]) := upd_same
      generalize upd H1 t2 (HO.tup [V.str (Str.ofString "2:")]) = H2 at s2 x2
      refine ⟨lenLine (by show 0 ≤ 100000; decide), fun t3 f3 => ?_⟩
      have s3 : Same H2 (upd H2 t3 (HO.tup [])) := same_new f3 _
      have x3 : (upd H2 t3 (HO.tup [])) t3 = some (HO.tup []) := upd_same
      generalize upd H2 t3 (HO.tup []) = H3 at s3 x3
      refine ⟨lenLine (by show 2 ≤ 100000; decide), fun t4 f4 => ?_⟩
      have s4 : Same H3 (upd H3 t4 (HO.tup [V.int 1, V.ref t3])) := same_new f4 _
      have x4 : (upd H3 t4 (HO.tup [V.int 1, V.ref t3])) t4 = some (HO.tup [V.int 1, V.ref t3]) := upd_same
      generalize upd H3 t4 (HO.tup [V.int 1, V.ref t3]) = H4 at s4 x4
      refine fun t5 f5 => ?_
      have s5 : Same H4 (upd H4 t5 (HO.dK [])) := same_new f5 _
      have x5 : (upd H4 t5 (HO.dK [])) t5 = some (HO.dK []) := upd_same
      generalize upd H4 t5 (HO.dK []) = H5 at s5 x5
      refine ⟨lenLine (by show 14 ≤ 100000; decide), fun t6 f6 => ?_⟩
      have s45 := s5
      have s35 := Same.trans s4 s45
      have s25 := Same.trans s3 s35
      have s15 := Same.trans s2 s25
      have s05 := Same.trans sc (Same.trans s1 s15)
      obtain ⟨xs, exs⟩ : ∃ xs : List V, xs = [V.non, V.int 4, V.bl true, V.ref t1, V.ref t2, V.ref t4, V.ref t5, V.str (Str.ofString ""), V.str (Str.ofString " "), V.str (Str.ofString ":"), V.str (Str.ofString "2: "), V.str (Str.ofString " 2:"), V.str (Str.ofString "2 :"), V.str (Str.ofString "02:")] := ⟨_, rfl⟩
      have each : ∀ x ∈ xs, (∃ z : Str, x = .str z ∧ z.length % 4 ≠ 2 ∧ z.length ≤ 10) ∨ (Th H5 x ∧ ∀ z, x ≠ .str z) := by
        rw [exs]
        intro x hx
        simp only [List.mem_cons, List.not_mem_nil, or_false] at hx
        rcases hx with rfl | rfl | rfl | rfl | rfl | rfl | rfl | rfl | rfl | rfl | rfl | rfl | rfl | rfl
        · exact .inr ⟨.inr .non, fun z h => nomatch h⟩
        · exact .inr ⟨.inl ⟨4, rfl⟩, fun z h => nomatch h⟩
        · exact .inr ⟨.inr (.bl true), fun z h => nomatch h⟩
        · exact .inr ⟨.inr (.lst (s15 _ _ x1)), fun z h => nomatch h⟩
        · exact .inr ⟨.inr (.tup (s25 _ _ x2)), fun z h => nomatch h⟩
        · exact .inr ⟨.inr (.tup (s45 _ _ x4)), fun z h => nomatch h⟩
        · exact .inr ⟨.inr (.dct x5), fun z h => nomatch h⟩
        all_goals exact .inl ⟨_, rfl, by decide +kernel, by decide +kernel⟩
      have lx : xs.length = 14 := by rw [exs]; rfl
      rw [← exs]
      have s6 : Same H5 (upd H5 t6 (HO.lst xs)) := same_new f6 _
      have x6 : (upd H5 t6 (HO.lst xs)) t6 = some (HO.lst xs) := upd_same
      generalize upd H5 t6 (HO.lst xs) = H6 at s6 x6
      refine ⟨t6, rfl, ⟨_, SqL.of x6⟩, ?_⟩
      refine for_list (K := K) (a := t6) (xs := xs) (fun i σ He => ∃ u8, σ = [some (.ref a), v1, v2, v3, v4, v5, v6, v7, u8] ∧ Same H6 He) ⟨v8, rfl, Same.refl _⟩ (fun i σ He _ ⟨_, _, se⟩ => SqL.of (se _ _ x6)) ?_ ?_
      · rintro i x σ He hx ⟨u8, rfl, se⟩
        have s5e := Same.trans s6 se
        have fin : ∀ H', Same He H' → True := fun _ _ => trivial
        clear fin
        have es : PySem.Spec.same (.str "refused") (.str "refused") = true := PyProof.Rows.same_refl _
        have sp : spHeard82 [x] He (fun u H' => u = .str "refused" ∧ Same He H') (fun _ _ _ => True) := by
          rcases each x (List.mem_of_getElem? hx) with ⟨z, rfl, z4, z10⟩ | ⟨th, ns'⟩
          · exact .mk z rfl (by (first | lia | omega)) (fun v wd us H' s' _ _ _ _ e _ => absurd e (not_net z4 wd us)) (fun H' s' _ => ⟨rfl, s'⟩)
          · exact .odd x rfl (th.same s5e) ns' fun H' s' => ⟨rfl, s'⟩
        refine ⟨_, rfl, heard_mono (E := E0) sp fun H' s' => ?_⟩
        refine ⟨_, _, .str _, .str _, sh_ref, sh_ref, by simp [noMix], ?_⟩
        refine ⟨_, rfl, iteFd (by rw [show (if true = true then !PySem.Spec.same (.str "refused") (.str "refused") else PySem.Spec.same (.str "refused") (.str "refused")) = false from by rw [if_pos rfl, es]; rfl]; decide) ?_⟩
        exact ⟨_, rfl, Same.trans se s'⟩
      · rintro σ He ⟨u8, rfl, se⟩
        have l4 : (Str.ofString " 1-0").length = 4 := by decide +kernel
        have l2 : (Str.ofString "2:").length = 2 := by decide +kernel
        refine ⟨_, 41, rfl, rfl, by decide, by decide, by rw [l4]; decide, ?_⟩
        refine ⟨_, _, rfl, rfl, lenLine (by rw [l2, repS_len, l4]; decide), ?_⟩
        have es : PySem.Spec.same (.str "refused") (.str "refused") = true := PyProof.Rows.same_refl _
        have x166 : (Str.ofString "2:" ++ repS (Str.ofString " 1-0") (41 : Int).toNat).length = 166 := by rw [len_app, l2, repS_len, l4]; rfl
        have x162 : (Str.ofString "2:" ++ repS (Str.ofString " 1-0") (40 : Int).toNat).length = 162 := by rw [len_app, l2, repS_len, l4]; rfl
        have sp : spHeard82 [V.str (Str.ofString "2:" ++ repS (Str.ofString " 1-0") (41 : Int).toNat)] He (fun u H' => u = .str "refused" ∧ Same He H') (fun _ _ _ => True) := .mk _ rfl (by (first | lia | omega)) (fun v wd us H' s' _ _ _ ln e _ => absurd e (many_net x166 wd us ln)) (fun H' s' _ => ⟨rfl, s'⟩)
        refine heard_mono (E := E0) sp fun H7 s7 => ?_
        refine ⟨_, _, .str _, .str _, sh_ref, sh_ref, by simp [noMix], ?_⟩
        refine ⟨_, rfl, iteTd (by rw [show (if false = true then !PySem.Spec.same (.str "refused") (.str "refused") else PySem.Spec.same (.str "refused") (.str "refused")) = true from by rw [if_neg (by decide), es]]) ?_⟩
        refine ⟨_, 40, rfl, rfl, by decide, by decide, by rw [l4]; decide, ?_⟩
        refine ⟨_, _, rfl, rfl, lenLine (by rw [l2, repS_len, l4]; decide), ?_⟩
        refine .mk _ rfl (by (first | lia | omega)) (fun v wd us H8 s8 e1 e8 ok' lu' ey net => ?_) (fun H' s' hn => absurd forty_net (hn 2 _ (by decide) (by decide) forty_ok (by decide)))
        obtain ⟨rfl, rfl⟩ := net_inj (by decide) (by (first | lia | omega)) (fig_ok (by decide) forty_ok) (fig_ok e8 ok') (forty_net.symm.trans ey)
        refine ⟨lenLine (by show 2 ≤ 100000; decide), fun ta fa => ?_⟩
        have sa : Same H8 (upd H8 ta (HO.tup [V.int 1, V.int 0])) := same_new fa _
        have xa : (upd H8 ta (HO.tup [V.int 1, V.int 0])) ta = some (.tup [V.int 1, V.int 0]) := upd_same
        generalize upd H8 ta (HO.tup [V.int 1, V.int 0]) = Ha at sa xa
        refine ⟨lenLine (by show 1 ≤ 100000; decide), fun tb fb => ?_⟩
        have sb : Same Ha (upd Ha tb (HO.tup [V.ref ta])) := same_new fb _
        have xb : (upd Ha tb (HO.tup [V.ref ta])) tb = some (.tup [V.ref ta]) := upd_same
        generalize upd Ha tb (HO.tup [V.ref ta]) = Hb at sb xb
        refine ⟨tb, 40, _, rfl, rfl, xb, (by show 1 ≤ 1; decide), (by decide), (by show 1 * 40 ≤ 1000; decide), fun tc fc => ?_⟩
        obtain ⟨rr, err⟩ : ∃ rr, rr = (List.replicate (40 : Int).toNat [V.ref ta]).flatten := ⟨_, rfl⟩
        rw [← err]
        have sC : Same Hb (upd Hb tc (HO.tup rr)) := same_new fc _
        have xC : (upd Hb tc (HO.tup rr)) tc = some (.tup rr) := upd_same
        generalize upd Hb tc (HO.tup rr) = HC at sC xC
        refine ⟨lenLine (by show 2 ≤ 100000; decide), fun td fd' => ?_⟩
        have sd : Same HC (upd HC td (HO.tup [V.int 2, V.ref tc])) := same_new fd' _
        have xd : (upd HC td (HO.tup [V.int 2, V.ref tc])) td = some (.tup [V.int 2, V.ref tc]) := upd_same
        generalize upd HC td (HO.tup [V.int 2, V.ref tc]) = Hd at sd xd
        have sad := Same.trans sb (Same.trans sC sd)
        have net2 : Net Hd (.ref td) 2 (List.replicate 40 (1, 0)) := ⟨td, tc, rr, rfl, xd, sd _ _ xC, by rw [err]; exact refs_rep (sad _ _ xa) 40⟩
        refine ⟨_, _, (net.kt (KT.same (Same.trans sa sad) (KT.refl _))).dat, net2.dat, shaped_net _ _, shaped_net _ _, mix_net2 _ _ _ _, ?_⟩
        have en : PySem.Spec.same (netD 2 (List.replicate 40 (1, 0))) (netD 2 (List.replicate 40 (1, 0))) = true := PyProof.Rows.same_refl _
        have z : Q (.bl (if false = true then !PySem.Spec.same (netD 2 (List.replicate 40 (1, 0))) (netD 2 (List.replicate 40 (1, 0))) else PySem.Spec.same (netD 2 (List.replicate 40 (1, 0))) (netD 2 (List.replicate 40 (1, 0))))) Hd := by
          rw [if_neg (by decide), en]
          exact q Hd
        exact z
end
end Ep
namespace Ep
open PySem L2 PySem.SeqAt
theorem us1 {us : List Value} (h : us.length = 1) : ∃ a, us = [a] := by
  cases us with
  | nil => cases h
  | cons a r => cases r with
    | nil => exact ⟨a, rfl⟩
    | cons b r => simp at h
theorem us2 {us : List Value} (h : us.length = 2) : ∃ a b, us = [a, b] := by
  cases us with
  | nil => cases h
  | cons x r =>
    obtain ⟨a, rfl⟩ := us1 (us := r) (by simpa using h)
    exact ⟨x, a, rfl⟩
theorem us3 {us : List Value} (h : us.length = 3) : ∃ a b c, us = [a, b, c] := by
  cases us with
  | nil => cases h
  | cons x r =>
    obtain ⟨a, b, rfl⟩ := us2 (us := r) (by simpa using h)
    exact ⟨x, a, b, rfl⟩
theorem us4 {us : List Value} (h : us.length = 4) : ∃ a b c d, us = [a, b, c, d] := by
  cases us with
  | nil => cases h
  | cons x r =>
    obtain ⟨a, b, c, rfl⟩ := us3 (us := r) (by simpa using h)
    exact ⟨x, a, b, c, rfl⟩
theorem us5 {us : List Value} (h : us.length = 5) : ∃ a b c d e, us = [a, b, c, d, e] := by
  cases us with
  | nil => cases h
  | cons x r =>
    obtain ⟨a, b, c, d, rfl⟩ := us4 (us := r) (by simpa using h)
    exact ⟨x, a, b, c, d, rfl⟩
theorem us6 {us : List Value} (h : us.length = 6) : ∃ a b c d e f, us = [a, b, c, d, e, f] := by
  cases us with
  | nil => cases h
  | cons x r =>
    obtain ⟨a, b, c, d, e, rfl⟩ := us5 (us := r) (by simpa using h)
    exact ⟨x, a, b, c, d, e, rfl⟩
theorem us7 {us : List Value} (h : us.length = 7) : ∃ a b c d e f g, us = [a, b, c, d, e, f, g] := by
  cases us with
  | nil => cases h
  | cons x r =>
    obtain ⟨a, b, c, d, e, f, rfl⟩ := us6 (us := r) (by simpa using h)
    exact ⟨x, a, b, c, d, e, f, rfl⟩
theorem all_mk {l : PySem.W.OpenLaw} {w : World} {K : PySem.W.Frag} {h : Heap} {mg : Str → Option Value} {fa : Addr} (X : K.In h) (G : h.Ns mainGlobals mg) (hfa : mg "law" = some (.ref fa))
    {e_nonet : Addr} (ae_nonet : PySem.W.nsIn K mainGlobals "NoNet" = some (some (.ref e_nonet))) (qe_nonet : PySem.W.excIn K e_nonet veB "ValueError.__new__" = true)
    {e_net : Addr} (ae_net : PySem.W.nsIn K mainGlobals "NetError" = some (some (.ref e_net))) {e_nolane : Addr} (ae_nolane : PySem.W.nsIn K mainGlobals "NoLane" = some (some (.ref e_nolane))) {e_nowalker : Addr} (ae_nowalker : PySem.W.nsIn K mainGlobals "NoWalker" = some (some (.ref e_nowalker))) {e_many : Addr} (ae_many : PySem.W.nsIn K mainGlobals "TooMany" = some (some (.ref e_many))) {e_notext : Addr} (ae_notext : PySem.W.nsIn K mainGlobals "NoText" = some (some (.ref e_notext))) {e_norow : Addr} (ae_norow : PySem.W.nsIn K mainGlobals "NoRow" = some (some (.ref e_norow))) {e_noname : Addr} (ae_noname : PySem.W.nsIn K mainGlobals "NoName" = some (some (.ref e_noname)))
    (ex : ErrXK K ⟨e_net, e_nonet, e_nolane, e_nowalker, e_many, e_notext, e_norow, e_noname⟩)
    {k_MOST_LANES : Tok} (g_MOST_LANES : PySem.W.nsIn K mainGlobals "MOST_LANES" = some (some (.int 8 k_MOST_LANES)))
    {k_MOST_WICKETS : Tok} (g_MOST_WICKETS : PySem.W.nsIn K mainGlobals "MOST_WICKETS" = some (some (.int 40 k_MOST_WICKETS)))
    {k_MOST_FIGURES : Tok} (g_MOST_FIGURES : PySem.W.nsIn K mainGlobals "MOST_FIGURES" = some (some (.int 60 k_MOST_FIGURES)))
    {k_FIG : Tok} (g_FIG : PySem.W.nsIn K mainGlobals "FIGURES" = some (some (.str "0123456789" k_FIG)))
    {f1 : Addr} {od1 an1 : Option Addr} {sl1 : Array (Option Value)} {oc1 kV1 dc1 pm1 cd1 ct1 : Value}
    (a1 : PySem.W.nsIn K mainGlobals "_law_take" = some (some (.ref f1))) (l1 : K.lookup f1 = some ⟨oc1, od1, .func (PySem.W.fnOf "_law_take" "_law_take" (defArgs s_take) (defBody s_take) (defScope s_take) .none kV1 dc1 pm1 an1 cd1 ct1), sl1⟩) (c1 : PySem.W.codeIn K cd1 "_law_take" = true) (k1 : PySem.W.keepIn K (.ref f1) = true)
    {f2 : Addr} {od2 an2 : Option Addr} {sl2 : Array (Option Value)} {oc2 kV2 dc2 pm2 cd2 ct2 : Value}
    (a2 : PySem.W.nsIn K mainGlobals "_law_pen" = some (some (.ref f2))) (l2 : K.lookup f2 = some ⟨oc2, od2, .func (PySem.W.fnOf "_law_pen" "_law_pen" (defArgs s_pen) (defBody s_pen) (defScope s_pen) .none kV2 dc2 pm2 an2 cd2 ct2), sl2⟩) (c2 : PySem.W.codeIn K cd2 "_law_pen" = true) (k2 : PySem.W.keepIn K (.ref f2) = true)
    {f3 : Addr} {od3 an3 : Option Addr} {sl3 : Array (Option Value)} {oc3 kV3 dc3 pm3 cd3 ct3 : Value}
    (a3 : PySem.W.nsIn K mainGlobals "_law_wickets" = some (some (.ref f3))) (l3 : K.lookup f3 = some ⟨oc3, od3, .func (PySem.W.fnOf "_law_wickets" "_law_wickets" (defArgs s_wickets) (defBody s_wickets) (defScope s_wickets) .none kV3 dc3 pm3 an3 cd3 ct3), sl3⟩) (c3 : PySem.W.codeIn K cd3 "_law_wickets" = true) (k3 : PySem.W.keepIn K (.ref f3) = true)
    {f4 : Addr} {od4 an4 : Option Addr} {sl4 : Array (Option Value)} {oc4 kV4 dc4 pm4 cd4 ct4 : Value}
    (a4 : PySem.W.nsIn K mainGlobals "is_whole" = some (some (.ref f4))) (l4 : K.lookup f4 = some ⟨oc4, od4, .func (PySem.W.fnOf "is_whole" "is_whole" (defArgs s_is_whole) (defBody s_is_whole) (defScope s_is_whole) .none kV4 dc4 pm4 an4 cd4 ct4), sl4⟩) (c4 : PySem.W.codeIn K cd4 "is_whole" = true) (k4 : PySem.W.keepIn K (.ref f4) = true)
    {f5 : Addr} {od5 an5 : Option Addr} {sl5 : Array (Option Value)} {oc5 kV5 dc5 pm5 cd5 ct5 : Value}
    (a5 : PySem.W.nsIn K mainGlobals "is_lane" = some (some (.ref f5))) (l5 : K.lookup f5 = some ⟨oc5, od5, .func (PySem.W.fnOf "is_lane" "is_lane" (defArgs s_is_lane) (defBody s_is_lane) (defScope s_is_lane) .none kV5 dc5 pm5 an5 cd5 ct5), sl5⟩) (c5 : PySem.W.codeIn K cd5 "is_lane" = true) (k5 : PySem.W.keepIn K (.ref f5) = true)
    {f6 : Addr} {od6 an6 : Option Addr} {sl6 : Array (Option Value)} {oc6 kV6 dc6 pm6 cd6 ct6 : Value}
    (a6 : PySem.W.nsIn K mainGlobals "is_wicket" = some (some (.ref f6))) (l6 : K.lookup f6 = some ⟨oc6, od6, .func (PySem.W.fnOf "is_wicket" "is_wicket" (defArgs s_is_wicket) (defBody s_is_wicket) (defScope s_is_wicket) .none kV6 dc6 pm6 an6 cd6 ct6), sl6⟩) (c6 : PySem.W.codeIn K cd6 "is_wicket" = true) (k6 : PySem.W.keepIn K (.ref f6) = true)
    {f7 : Addr} {od7 an7 : Option Addr} {sl7 : Array (Option Value)} {oc7 kV7 dc7 pm7 cd7 ct7 : Value}
    (a7 : PySem.W.nsIn K mainGlobals "are_wickets" = some (some (.ref f7))) (l7 : K.lookup f7 = some ⟨oc7, od7, .func (PySem.W.fnOf "are_wickets" "are_wickets" (defArgs s_are_wickets) (defBody s_are_wickets) (defScope s_are_wickets) .none kV7 dc7 pm7 an7 cd7 ct7), sl7⟩) (c7 : PySem.W.codeIn K cd7 "are_wickets" = true) (k7 : PySem.W.keepIn K (.ref f7) = true)
    {f8 : Addr} {od8 an8 : Option Addr} {sl8 : Array (Option Value)} {oc8 kV8 dc8 pm8 cd8 ct8 : Value}
    (a8 : PySem.W.nsIn K mainGlobals "makes_net" = some (some (.ref f8))) (l8 : K.lookup f8 = some ⟨oc8, od8, .func (PySem.W.fnOf "makes_net" "makes_net" (defArgs s_makes_net) (defBody s_makes_net) (defScope s_makes_net) .none kV8 dc8 pm8 an8 cd8 ct8), sl8⟩) (c8 : PySem.W.codeIn K cd8 "makes_net" = true) (k8 : PySem.W.keepIn K (.ref f8) = true)
    {f9 : Addr} {od9 an9 : Option Addr} {sl9 : Array (Option Value)} {oc9 kV9 dc9 pm9 cd9 ct9 : Value}
    (a9 : PySem.W.nsIn K mainGlobals "net_of" = some (some (.ref f9))) (l9 : K.lookup f9 = some ⟨oc9, od9, .func (PySem.W.fnOf "net_of" "net_of" (defArgs s_net_of) (defBody s_net_of) (defScope s_net_of) .none kV9 dc9 pm9 an9 cd9 ct9), sl9⟩) (c9 : PySem.W.codeIn K cd9 "net_of" = true) (k9 : PySem.W.keepIn K (.ref f9) = true)
    {f10 : Addr} {od10 an10 : Option Addr} {sl10 : Array (Option Value)} {oc10 kV10 dc10 pm10 cd10 ct10 : Value}
    (a10 : PySem.W.nsIn K mainGlobals "is_number" = some (some (.ref f10))) (l10 : K.lookup f10 = some ⟨oc10, od10, .func (PySem.W.fnOf "is_number" "is_number" (defArgs s_is_number) (defBody s_is_number) (defScope s_is_number) .none kV10 dc10 pm10 an10 cd10 ct10), sl10⟩) (c10 : PySem.W.codeIn K cd10 "is_number" = true) (k10 : PySem.W.keepIn K (.ref f10) = true)
    {f11 : Addr} {od11 an11 : Option Addr} {sl11 : Array (Option Value)} {oc11 kV11 dc11 pm11 cd11 ct11 : Value}
    (a11 : PySem.W.nsIn K mainGlobals "number_of" = some (some (.ref f11))) (l11 : K.lookup f11 = some ⟨oc11, od11, .func (PySem.W.fnOf "number_of" "number_of" (defArgs s_number_of) (defBody s_number_of) (defScope s_number_of) .none kV11 dc11 pm11 an11 cd11 ct11), sl11⟩) (c11 : PySem.W.codeIn K cd11 "number_of" = true) (k11 : PySem.W.keepIn K (.ref f11) = true)
    {f12 : Addr} {od12 an12 : Option Addr} {sl12 : Array (Option Value)} {oc12 kV12 dc12 pm12 cd12 ct12 : Value}
    (a12 : PySem.W.nsIn K mainGlobals "wicket_of" = some (some (.ref f12))) (l12 : K.lookup f12 = some ⟨oc12, od12, .func (PySem.W.fnOf "wicket_of" "wicket_of" (defArgs s_wicket_of) (defBody s_wicket_of) (defScope s_wicket_of) .none kV12 dc12 pm12 an12 cd12 ct12), sl12⟩) (c12 : PySem.W.codeIn K cd12 "wicket_of" = true) (k12 : PySem.W.keepIn K (.ref f12) = true)
    {f13 : Addr} {od13 an13 : Option Addr} {sl13 : Array (Option Value)} {oc13 kV13 dc13 pm13 cd13 ct13 : Value}
    (a13 : PySem.W.nsIn K mainGlobals "wickets_of" = some (some (.ref f13))) (l13 : K.lookup f13 = some ⟨oc13, od13, .func (PySem.W.fnOf "wickets_of" "wickets_of" (defArgs s_wickets_of) (defBody s_wickets_of) (defScope s_wickets_of) .none kV13 dc13 pm13 an13 cd13 ct13), sl13⟩) (c13 : PySem.W.codeIn K cd13 "wickets_of" = true) (k13 : PySem.W.keepIn K (.ref f13) = true)
    {f14 : Addr} {od14 an14 : Option Addr} {sl14 : Array (Option Value)} {oc14 kV14 dc14 pm14 cd14 ct14 : Value}
    (a14 : PySem.W.nsIn K mainGlobals "read_net" = some (some (.ref f14))) (l14 : K.lookup f14 = some ⟨oc14, od14, .func (PySem.W.fnOf "read_net" "read_net" (defArgs s_read_net) (defBody s_read_net) (defScope s_read_net) .none kV14 dc14 pm14 an14 cd14 ct14), sl14⟩) (c14 : PySem.W.codeIn K cd14 "read_net" = true) (k14 : PySem.W.keepIn K (.ref f14) = true)
    {f15 : Addr} {od15 an15 : Option Addr} {sl15 : Array (Option Value)} {oc15 kV15 dc15 pm15 cd15 ct15 : Value}
    (a15 : PySem.W.nsIn K mainGlobals "_law_text" = some (some (.ref f15))) (l15 : K.lookup f15 = some ⟨oc15, od15, .func (PySem.W.fnOf "_law_text" "_law_text" (defArgs s_text) (defBody s_text) (defScope s_text) .none kV15 dc15 pm15 an15 cd15 ct15), sl15⟩) (c15 : PySem.W.codeIn K cd15 "_law_text" = true) (k15 : PySem.W.keepIn K (.ref f15) = true)
    {f16 : Addr} {od16 an16 : Option Addr} {sl16 : Array (Option Value)} {oc16 kV16 dc16 pm16 cd16 ct16 : Value}
    (a16 : PySem.W.nsIn K mainGlobals "_law_lane" = some (some (.ref f16))) (l16 : K.lookup f16 = some ⟨oc16, od16, .func (PySem.W.fnOf "_law_lane" "_law_lane" (defArgs s_lane) (defBody s_lane) (defScope s_lane) .none kV16 dc16 pm16 an16 cd16 ct16), sl16⟩) (c16 : PySem.W.codeIn K cd16 "_law_lane" = true) (k16 : PySem.W.keepIn K (.ref f16) = true)
    {f17 : Addr} {od17 an17 : Option Addr} {sl17 : Array (Option Value)} {oc17 kV17 dc17 pm17 cd17 ct17 : Value}
    (a17 : PySem.W.nsIn K mainGlobals "_law_read" = some (some (.ref f17))) (l17 : K.lookup f17 = some ⟨oc17, od17, .func (PySem.W.fnOf "_law_read" "_law_read" (defArgs s_read) (defBody s_read) (defScope s_read) .none kV17 dc17 pm17 an17 cd17 ct17), sl17⟩) (c17 : PySem.W.codeIn K cd17 "_law_read" = true) (k17 : PySem.W.keepIn K (.ref f17) = true)
    {f18 : Addr} {od18 an18 : Option Addr} {sl18 : Array (Option Value)} {oc18 kV18 dc18 pm18 cd18 ct18 : Value}
    (a18 : PySem.W.nsIn K mainGlobals "_law_signs" = some (some (.ref f18))) (l18 : K.lookup f18 = some ⟨oc18, od18, .func (PySem.W.fnOf "_law_signs" "_law_signs" (defArgs s_signs) (defBody s_signs) (defScope s_signs) .none kV18 dc18 pm18 an18 cd18 ct18), sl18⟩) (c18 : PySem.W.codeIn K cd18 "_law_signs" = true) (k18 : PySem.W.keepIn K (.ref f18) = true)
    {f19 : Addr} {od19 an19 : Option Addr} {sl19 : Array (Option Value)} {oc19 kV19 dc19 pm19 cd19 ct19 : Value}
    (a19 : PySem.W.nsIn K mainGlobals "_law_words" = some (some (.ref f19))) (l19 : K.lookup f19 = some ⟨oc19, od19, .func (PySem.W.fnOf "_law_words" "_law_words" (defArgs s_words) (defBody s_words) (defScope s_words) .none kV19 dc19 pm19 an19 cd19 ct19), sl19⟩) (c19 : PySem.W.codeIn K cd19 "_law_words" = true) (k19 : PySem.W.keepIn K (.ref f19) = true)
    {f20 : Addr} {od20 an20 : Option Addr} {sl20 : Array (Option Value)} {oc20 kV20 dc20 pm20 cd20 ct20 : Value}
    (a20 : PySem.W.nsIn K mainGlobals "_law_heard" = some (some (.ref f20))) (l20 : K.lookup f20 = some ⟨oc20, od20, .func (PySem.W.fnOf "_law_heard" "_law_heard" (defArgs s_heard) (defBody s_heard) (defScope s_heard) .none kV20 dc20 pm20 an20 cd20 ct20), sl20⟩) (c20 : PySem.W.codeIn K cd20 "_law_heard" = true) (k20 : PySem.W.keepIn K (.ref f20) = true)
    {f21 : Addr} {od21 an21 : Option Addr} {sl21 : Array (Option Value)} {oc21 kV21 dc21 pm21 cd21 ct21 : Value}
    (a21 : PySem.W.nsIn K mainGlobals "law" = some (some (.ref f21))) (l21 : K.lookup f21 = some ⟨oc21, od21, .func (PySem.W.fnOf "law" "law" (defArgs s_law) (defBody s_law) (defScope s_law) .none kV21 dc21 pm21 an21 cd21 ct21), sl21⟩) (c21 : PySem.W.codeIn K cd21 "law" = true) (k21 : PySem.W.keepIn K (.ref f21) = true)
    (z1 : PySem.W.nsIn K mainGlobals "len" = some none) (z2 : PySem.W.nsIn K mainGlobals "max" = some none) (z3 : PySem.W.nsIn K mainGlobals "min" = some none) (z4 : PySem.W.nsIn K mainGlobals "int" = some none) (z5 : PySem.W.nsIn K mainGlobals "bool" = some none) (z6 : PySem.W.nsIn K mainGlobals "list" = some none) (z7 : PySem.W.nsIn K mainGlobals "tuple" = some none) (z8 : PySem.W.nsIn K mainGlobals "str" = some none) (z9 : PySem.W.nsIn K mainGlobals "dict" = some none) (z10 : PySem.W.nsIn K mainGlobals "range" = some none) (z11 : PySem.W.nsIn K mainGlobals "isinstance" = some none) (z12 : PySem.W.nsIn K mainGlobals "all" = some none) (z13 : PySem.W.nsIn K mainGlobals "any" = some none) (z14 : PySem.W.nsIn K mainGlobals "enumerate" = some none) (z15 : PySem.W.nsIn K mainGlobals "sum" = some none) (z16 : PySem.W.nsIn K mainGlobals "abs" = some none) (z17 : PySem.W.nsIn K mainGlobals "sorted" = some none) (z18 : PySem.W.nsIn K mainGlobals "reversed" = some none) (z19 : PySem.W.nsIn K mainGlobals "zip" = some none) (z20 : PySem.W.nsIn K mainGlobals "ord" = some none) (z21 : PySem.W.nsIn K mainGlobals "repr" = some none) (z22 : PySem.W.nsIn K mainGlobals "set" = some none) (z23 : PySem.W.nsIn K mainGlobals "divmod" = some none) (z24 : PySem.W.nsIn K mainGlobals "ValueError" = some none) (z25 : PySem.W.nsIn K mainGlobals "KeyError" = some none) :
    ∃ fd : FuncData, (∀ (s : Shared) (v : Value), BindsTo s fd ⟨[v], []⟩ [("_law_script", v)]) ∧ ∀ base : Heap, K.In base → base.Ns mainGlobals mg → FnOk l.prog w K mg base CX0 10 fa fd ["_law_script"] (spLaw K) := by
  have e := hfa.symm.trans (PySem.W.mg_of X G a21)
  cases e
  have ERN : NoNetT K mg e_nonet := ⟨qe_nonet, PySem.W.mg_of X G ae_nonet⟩
  have ERX : ErrX K mg ⟨e_net, e_nonet, e_nolane, e_nowalker, e_many, e_notext, e_norow, e_noname⟩ := ⟨ex, PySem.W.mg_of X G ae_net, PySem.W.mg_of X G ae_nonet, PySem.W.mg_of X G ae_nolane, PySem.W.mg_of X G ae_nowalker, PySem.W.mg_of X G ae_many, PySem.W.mg_of X G ae_notext, PySem.W.mg_of X G ae_norow, PySem.W.mg_of X G ae_noname⟩
  have ERT : NoTextT K mg e_notext := ⟨ex.q_NoText, PySem.W.mg_of X G ae_notext⟩
  have GMOST_LANES : ∃ t, mg "MOST_LANES" = some (.int 8 t) := ⟨_, PySem.W.mg_of X G g_MOST_LANES⟩
  have GMOST_WICKETS : ∃ t, mg "MOST_WICKETS" = some (.int 40 t) := ⟨_, PySem.W.mg_of X G g_MOST_WICKETS⟩
  have GMOST_FIGURES : ∃ t, mg "MOST_FIGURES" = some (.int 60 t) := ⟨_, PySem.W.mg_of X G g_MOST_FIGURES⟩
  have GFIGURES : ∃ t, mg "FIGURES" = some (.str "0123456789" t) := ⟨_, PySem.W.mg_of X G g_FIG⟩
  have H_take : Here K mg "_law_take" s_take _ _ := ⟨fun_mk l1 c1 k1, PySem.W.mg_of X G a1⟩
  have H_pen : Here K mg "_law_pen" s_pen _ _ := ⟨fun_mk l2 c2 k2, PySem.W.mg_of X G a2⟩
  have H_wickets : Here K mg "_law_wickets" s_wickets _ _ := ⟨fun_mk l3 c3 k3, PySem.W.mg_of X G a3⟩
  have H_is_whole : Here K mg "is_whole" s_is_whole _ _ := ⟨fun_mk l4 c4 k4, PySem.W.mg_of X G a4⟩
  have H_is_lane : Here K mg "is_lane" s_is_lane _ _ := ⟨fun_mk l5 c5 k5, PySem.W.mg_of X G a5⟩
  have H_is_wicket : Here K mg "is_wicket" s_is_wicket _ _ := ⟨fun_mk l6 c6 k6, PySem.W.mg_of X G a6⟩
  have H_are_wickets : Here K mg "are_wickets" s_are_wickets _ _ := ⟨fun_mk l7 c7 k7, PySem.W.mg_of X G a7⟩
  have H_makes_net : Here K mg "makes_net" s_makes_net _ _ := ⟨fun_mk l8 c8 k8, PySem.W.mg_of X G a8⟩
  have H_net_of : Here K mg "net_of" s_net_of _ _ := ⟨fun_mk l9 c9 k9, PySem.W.mg_of X G a9⟩
  have H_is_number : Here K mg "is_number" s_is_number _ _ := ⟨fun_mk l10 c10 k10, PySem.W.mg_of X G a10⟩
  have H_number_of : Here K mg "number_of" s_number_of _ _ := ⟨fun_mk l11 c11 k11, PySem.W.mg_of X G a11⟩
  have H_wicket_of : Here K mg "wicket_of" s_wicket_of _ _ := ⟨fun_mk l12 c12 k12, PySem.W.mg_of X G a12⟩
  have H_wickets_of : Here K mg "wickets_of" s_wickets_of _ _ := ⟨fun_mk l13 c13 k13, PySem.W.mg_of X G a13⟩
  have H_read_net : Here K mg "read_net" s_read_net _ _ := ⟨fun_mk l14 c14 k14, PySem.W.mg_of X G a14⟩
  have H_text : Here K mg "_law_text" s_text _ _ := ⟨fun_mk l15 c15 k15, PySem.W.mg_of X G a15⟩
  have H_lane : Here K mg "_law_lane" s_lane _ _ := ⟨fun_mk l16 c16 k16, PySem.W.mg_of X G a16⟩
  have H_read : Here K mg "_law_read" s_read _ _ := ⟨fun_mk l17 c17 k17, PySem.W.mg_of X G a17⟩
  have H_signs : Here K mg "_law_signs" s_signs _ _ := ⟨fun_mk l18 c18 k18, PySem.W.mg_of X G a18⟩
  have H_words : Here K mg "_law_words" s_words _ _ := ⟨fun_mk l19 c19 k19, PySem.W.mg_of X G a19⟩
  have H_heard : Here K mg "_law_heard" s_heard _ _ := ⟨fun_mk l20 c20 k20, PySem.W.mg_of X G a20⟩
  have H_law : Here K mg "law" s_law _ _ := ⟨fun_mk l21 c21 k21, PySem.W.mg_of X G a21⟩
  have T : Bn mg := ⟨PySem.W.mg_none_of X G z1, PySem.W.mg_none_of X G z2, PySem.W.mg_none_of X G z3, PySem.W.mg_none_of X G z4, PySem.W.mg_none_of X G z5, PySem.W.mg_none_of X G z6, PySem.W.mg_none_of X G z7, PySem.W.mg_none_of X G z8, PySem.W.mg_none_of X G z9, PySem.W.mg_none_of X G z10, PySem.W.mg_none_of X G z11, PySem.W.mg_none_of X G z12, PySem.W.mg_none_of X G z13, PySem.W.mg_none_of X G z14, PySem.W.mg_none_of X G z15, PySem.W.mg_none_of X G z16, PySem.W.mg_none_of X G z17, PySem.W.mg_none_of X G z18, PySem.W.mg_none_of X G z19, PySem.W.mg_none_of X G z20, PySem.W.mg_none_of X G z21, PySem.W.mg_none_of X G z22, PySem.W.mg_none_of X G z23, PySem.W.mg_none_of X G z24, PySem.W.mg_none_of X G z25⟩
  refine ⟨PySem.W.fnOf "law" "law" (defArgs s_law) (defBody s_law) (defScope s_law) .none kV21 dc21 pm21 an21 cd21 ct21, fun s v => .of_eq rfl, fun base _ _ => ?_⟩
  have C_law_take : Callee l.prog w K mg base "_law_take" 1 ["_law_pen_here", "_law_size"] spTake := H_take.callee (ok_take H_take) (fun _ _ _ _ _ _ u h=>by obtain⟨x0,x1,rfl⟩:=us2 h;rfl)
  have C_law_pen : Callee l.prog w K mg base "_law_pen" 1 ["_law_script", "_law_k"] (spPen K) := H_pen.callee (ok_pen T H_pen) (fun _ _ _ _ _ _ u h=>by obtain⟨x0,x1,rfl⟩:=us2 h;rfl)
  have C_law_wickets : Callee l.prog w K mg base "_law_wickets" 2 ["_law_pen_here", "_law_wide", "_law_many"] spWickets := H_wickets.callee (ok_wickets T H_wickets C_law_take) (fun _ _ _ _ _ _ u h=>by obtain⟨x0,x1,x2,rfl⟩:=us3 h;rfl)
  have Cis_whole : Callee l.prog w K mg base "is_whole" 1 ["thing"] spWholeT := H_is_whole.callee (ok_is_whole T H_is_whole) (fun _ _ _ _ _ _ u h=>by obtain⟨x0,rfl⟩:=us1 h;rfl)
  have Cis_lane : Callee l.prog w K mg base "is_lane" 2 ["wide", "thing"] spLaneT := H_is_lane.callee (ok_is_lane T H_is_lane Cis_whole) (fun _ _ _ _ _ _ u h=>by obtain⟨x0,x1,rfl⟩:=us2 h;rfl)
  have Cis_wicket : Callee l.prog w K mg base "is_wicket" 3 ["wide", "thing"] spWickT := H_is_wicket.callee (ok_is_wicket T H_is_wicket Cis_lane) (fun _ _ _ _ _ _ u h=>by obtain⟨x0,x1,rfl⟩:=us2 h;rfl)
  have Care_wickets : Callee l.prog w K mg base "are_wickets" 4 ["wide", "things"] spAreT := H_are_wickets.callee (ok_are_wickets T H_are_wickets GMOST_WICKETS Cis_wicket) (fun _ _ _ _ _ _ u h=>by obtain⟨x0,x1,rfl⟩:=us2 h;rfl)
  have Cmakes_net : Callee l.prog w K mg base "makes_net" 5 ["wide", "wickets"] spMakesT := H_makes_net.callee (ok_makes_net T H_makes_net GMOST_LANES Cis_whole Care_wickets) (fun _ _ _ _ _ _ u h=>by obtain⟨x0,x1,rfl⟩:=us2 h;rfl)
  have Cnet_of : CalleeE l.prog w K mg base "net_of" 6 ["wide", "wickets"] (spNetT e_nonet) := H_net_of.calleeE (ok_net_of T H_net_of ERN Cmakes_net) (fun _ _ _ _ _ _ u h=>by obtain⟨x0,x1,rfl⟩:=us2 h;rfl)
  have Cnet_of1 : Callee l.prog w K mg base "net_of" 6 ["wide", "wickets"] spNetN := H_net_of.callee (((ok_net_of T H_net_of ERN Cmakes_net : FnOk l.prog w K mg base (CX1 l.prog w) 6 _ _ ["wide", "wickets"] (spNetT e_nonet)).imp net_n).down fun _ _ _ _ h => h) (fun _ _ _ _ _ _ u h=>by obtain⟨x0,x1,rfl⟩:=us2 h;rfl)
  have Cis_number : Callee l.prog w K mg base "is_number" 1 ["word"] spIsNumG := H_is_number.callee (ok_is_number T H_is_number GMOST_FIGURES GFIGURES) (fun _ _ _ _ _ _ u h=>by obtain⟨x0,rfl⟩:=us1 h;rfl)
  have Cnumber_of : CalleeE l.prog w K mg base "number_of" 2 ["word"] (spNumG e_notext) := H_number_of.calleeE (ok_number_of T H_number_of ERT Cis_number) (fun _ _ _ _ _ _ u h=>by obtain⟨x0,rfl⟩:=us1 h;rfl)
  have Cwicket_of : CalleeE l.prog w K mg base "wicket_of" 3 ["word"] (spWkG e_notext) := H_wicket_of.calleeE (ok_wicket_of T H_wicket_of Cnumber_of) (fun _ _ _ _ _ _ u h=>by obtain⟨x0,rfl⟩:=us1 h;rfl)
  have Cwickets_of : CalleeE l.prog w K mg base "wickets_of" 4 ["text"] (spWksG e_notext) := H_wickets_of.calleeE (ok_wickets_of T H_wickets_of ERT Cwicket_of) (fun _ _ _ _ _ _ u h=>by obtain⟨x0,rfl⟩:=us1 h;rfl)
  have Cread_net : CalleeE l.prog w K mg base "read_net" 7 ["text"] (spReadG e_notext) := H_read_net.calleeE (ok_read_net T H_read_net ERT Cnumber_of Cwickets_of Cmakes_net Cnet_of) (fun _ _ _ _ _ _ u h=>by obtain⟨x0,rfl⟩:=us1 h;rfl)
  have C_law_text : Callee l.prog w K mg base "_law_text" 1 ["_law_net"] spText82 := H_text.callee (ok_text T H_text) (fun _ _ _ _ _ _ u h=>by obtain⟨x0,rfl⟩:=us1 h;rfl)
  have C_law_lane : Callee l.prog w K mg base "_law_lane" 1 ["_law_word", "_law_wide"] spLane82 := H_lane.callee (ok_lane T H_lane) (fun _ _ _ _ _ _ u h=>by obtain⟨x0,x1,rfl⟩:=us2 h;rfl)
  have C_law_read : Callee l.prog w K mg base "_law_read" 2 ["_law_text_here"] spRead82 := H_read.callee (ok_read T H_read C_law_lane) (fun _ _ _ _ _ _ u h=>by obtain⟨x0,rfl⟩:=us1 h;rfl)
  have C_law_signs : Callee l.prog w K mg base "_law_signs" 2 ["_law_pen_here", "_law_text_here"] spBend82 := H_signs.callee (ok_signs T H_signs C_law_take) (fun _ _ _ _ _ _ u h=>by obtain⟨x0,x1,rfl⟩:=us2 h;rfl)
  have C_law_words : Callee l.prog w K mg base "_law_words" 2 ["_law_pen_here", "_law_text_here"] spBend82 := H_words.callee (ok_words T H_words C_law_take) (fun _ _ _ _ _ _ u h=>by obtain⟨x0,x1,rfl⟩:=us2 h;rfl)
  have C_law_heard : Callee l.prog w K mg base "_law_heard" 8 ["_law_thing"] spHeard82 := H_heard.callee (ok_heard T H_heard ERX Cread_net) (fun _ _ _ _ _ _ u h=>by obtain⟨x0,rfl⟩:=us1 h;rfl)
  exact ok_law T H_law C_law_take C_law_pen C_law_wickets C_law_text C_law_signs C_law_words C_law_read C_law_heard
theorem walk {l : PySem.W.OpenLaw} {q : Program} {loose : List Str} {XP : (Str → Option Value) → Heap → Prop} {YP : World → Heap → Prop} {d : DefRec} {K : Params → PySem.W.Frag} (hn : l.most = some 63) (hdf : d.params.defaults = [])
    (hY : ∀ (w : World) (h : Heap), YP w h → (K w.params).In h)
    (F : ∀ (w : World) (mg : Str → Option Value) (fa : Addr) (h : Heap), (K w.params).In h → h.Ns mainGlobals mg → mg d.name = some (.ref fa) →
      ∃ fd : FuncData, (∀ (s : Shared) (u : Value), BindsTo s fd ⟨[u], []⟩ [("_law_script", u)]) ∧ ∀ base : Heap, (K w.params).In base → base.Ns mainGlobals mg → FnOk l.prog w (K w.params) mg base CX0 10 fa fd ["_law_script"] (spLaw (K w.params))) :
    PySem.W.WalkO q loose XP YP l.row.toRowW d [] (fun f vs => PySem.call f vs) :=
  L2.walk_of (n := 63) (k := 10) (x := "_law_script") (CX := fun _ => CX0) (sp := fun w => spLaw (K w.params)) hn (by decide) hdf ⟨rfl, by decide, by decide, rfl⟩ hY F (fun _ _ a ns hl _ hS => ⟨a, ns, rfl, hS, hl, fun _ => rfl⟩) fun _ _ _ _ _ z => z
end Ep
open PySem PySem.W PyProof.Rows
set_option maxRecDepth 100000 in
set_option maxHeartbeats 0 in
theorem PySem.Challenge.cw_evenpass_k82_texts_of_no_nets_holds : PySem.Challenge.rw_evenpass_k82_texts_of_no_nets.Holds := by
  w_on; o_law; k_head; (case hw => w_witness2)
  k_fill
  refine Ep.walk (l := PySem.Challenge.rw_evenpass_k82_texts_of_no_nets) rfl rfl (fun w h Y => PySem.W.kIn_of Y) ?F
  case F =>
    intro w mg fa h KX G hmg
    refine' Ep.all_mk KX G hmg ?ae_nonet ?qe_nonet ?ae_net ?ae_nolane ?ae_nowalker ?ae_many ?ae_notext ?ae_norow ?ae_noname ?ex ?g_MOST_LANES ?g_MOST_WICKETS ?g_MOST_FIGURES ?g_FIG ?a1 ?l1 ?c1 ?k1 ?a2 ?l2 ?c2 ?k2 ?a3 ?l3 ?c3 ?k3 ?a4 ?l4 ?c4 ?k4 ?a5 ?l5 ?c5 ?k5 ?a6 ?l6 ?c6 ?k6 ?a7 ?l7 ?c7 ?k7 ?a8 ?l8 ?c8 ?k8 ?a9 ?l9 ?c9 ?k9 ?a10 ?l10 ?c10 ?k10 ?a11 ?l11 ?c11 ?k11 ?a12 ?l12 ?c12 ?k12 ?a13 ?l13 ?c13 ?k13 ?a14 ?l14 ?c14 ?k14 ?a15 ?l15 ?c15 ?k15 ?a16 ?l16 ?c16 ?k16 ?a17 ?l17 ?c17 ?k17 ?a18 ?l18 ?c18 ?k18 ?a19 ?l19 ?c19 ?k19 ?a20 ?l20 ?c20 ?k20 ?a21 ?l21 ?c21 ?k21 ?z1 ?z2 ?z3 ?z4 ?z5 ?z6 ?z7 ?z8 ?z9 ?z10 ?z11 ?z12 ?z13 ?z14 ?z15 ?z16 ?z17 ?z18 ?z19 ?z20 ?z21 ?z22 ?z23 ?z24 ?z25
    (case ae_nonet => k_is); (case qe_nonet => k_exc)
    (case ae_net => k_is); (case ae_nolane => k_is); (case ae_nowalker => k_is); (case ae_many => k_is); (case ae_notext => k_is); (case ae_norow => k_is); (case ae_noname => k_is)
    (case ex => exact ⟨by k_exc, by kernel_rfl, ⟨by k_is, by k_is, by k_is, by k_is, by k_is, by k_is, by k_is, by kernel_rfl⟩, by kernel_rfl, by kernel_rfl, by kernel_rfl⟩)
    (case g_MOST_LANES => k_is)
    (case g_MOST_WICKETS => k_is)
    (case g_MOST_FIGURES => k_is)
    (case g_FIG => k_is)
    (case a1 => k_is); (case l1 => k_is); (case c1 => k_is); (case k1 => k_is)
    (case a2 => k_is); (case l2 => k_is); (case c2 => k_is); (case k2 => k_is)
    (case a3 => k_is); (case l3 => k_is); (case c3 => k_is); (case k3 => k_is)
    (case a4 => k_is); (case l4 => k_is); (case c4 => k_is); (case k4 => k_is)
    (case a5 => k_is); (case l5 => k_is); (case c5 => k_is); (case k5 => k_is)
    (case a6 => k_is); (case l6 => k_is); (case c6 => k_is); (case k6 => k_is)
    (case a7 => k_is); (case l7 => k_is); (case c7 => k_is); (case k7 => k_is)
    (case a8 => k_is); (case l8 => k_is); (case c8 => k_is); (case k8 => k_is)
    (case a9 => k_is); (case l9 => k_is); (case c9 => k_is); (case k9 => k_is)
    (case a10 => k_is); (case l10 => k_is); (case c10 => k_is); (case k10 => k_is)
    (case a11 => k_is); (case l11 => k_is); (case c11 => k_is); (case k11 => k_is)
    (case a12 => k_is); (case l12 => k_is); (case c12 => k_is); (case k12 => k_is)
    (case a13 => k_is); (case l13 => k_is); (case c13 => k_is); (case k13 => k_is)
    (case a14 => k_is); (case l14 => k_is); (case c14 => k_is); (case k14 => k_is)
    (case a15 => k_is); (case l15 => k_is); (case c15 => k_is); (case k15 => k_is)
    (case a16 => k_is); (case l16 => k_is); (case c16 => k_is); (case k16 => k_is)
    (case a17 => k_is); (case l17 => k_is); (case c17 => k_is); (case k17 => k_is)
    (case a18 => k_is); (case l18 => k_is); (case c18 => k_is); (case k18 => k_is)
    (case a19 => k_is); (case l19 => k_is); (case c19 => k_is); (case k19 => k_is)
    (case a20 => k_is); (case l20 => k_is); (case c20 => k_is); (case k20 => k_is)
    (case a21 => k_is); (case l21 => k_is); (case c21 => k_is); (case k21 => k_is)
    (case z1 => k_is)
    (case z2 => k_is)
    (case z3 => k_is)
    (case z4 => k_is)
    (case z5 => k_is)
    (case z6 => k_is)
    (case z7 => k_is)
    (case z8 => k_is)
    (case z9 => k_is)
    (case z10 => k_is)
    (case z11 => k_is)
    (case z12 => k_is)
    (case z13 => k_is)
    (case z14 => k_is)
    (case z15 => k_is)
    (case z16 => k_is)
    (case z17 => k_is)
    (case z18 => k_is)
    (case z19 => k_is)
    (case z20 => k_is)
    (case z21 => k_is)
    (case z22 => k_is)
    (case z23 => k_is)
    (case z24 => k_is)
    (case z25 => k_is)
