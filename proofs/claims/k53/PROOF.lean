import PyProof.Rows.All
import Wide.All
import OpenK.AllK
import Wide.FinOn
import Lean
import PyProof.EqAt
import PyProof.EqKinds
import PyProof.TupleCall
import KE.KRevSl
import KE.KTryMore
import PySem.Challenge.RW_evenpass_k53_whole_each_row_by_its_thres
set_option Elab.async false
set_option linter.all false
set_option maxRecDepth 100000
set_option maxHeartbeats 4000000
namespace PySem.W.Fast
def tw5169179163401116759:=0
def tw13677803216093655745:=0
def tw9167636289429301912:=0
def tw6023077888767031455:=0
def tw344213647857556738:=0
def tw14266387651129755878:=0
def tw1477970448510478858:=0
def tw8502195732790950886:=0
def tw18382854197299574940:=0
def tw9458038541299263990:=0
def tw13807002395438839248:=0
def tw17946835043955815645:=0
def tw12559564149064850196:=0
def tw2722794319537572539:=0
def tw15066869981758086736:=0
def tw10908996319842467724:=0
def tw777322892771138767:=0
def tw15789014189130803204:=0
def tw2956450315851658241:=0
def tw9274286910738084412:=0
def tw2789025774051427345:=0
def tw17573067496768957416:=0
def tw15316290353524313240:=0
def tw2605204656416122995:=0
def tw51475439857036604:=0
def tw8879248300768640095:=0
def tw17545340972484897555:=0
def tw9609361052920775263:=0
def tw1063068947743501124:=0
def tw8199844741931186440:=0
def tw5555087774992393664:=0
def tw13598398597050725721:=0
def tw2981136999275638197:=0
def tw8703149770602082985:=0
def tw2475672354356567967:=0
def tw17228745474140182934:=0
def tw13228576030101083854:=0
def tw8430687739072199198:=0
def tw7048578521637397034:=0
def tw15982000757849329888:=0
def tw14998564340233357357:=0
def tw12703774259287933689:=0
def tw634433989251453179:=0
def tw8400584916836005410:=0
def tw11103632348699567123:=0
def tw4794183443515629374:=0
def tw18430654984754773940:=0
def tw15444276741156402049:=0
def tw11647022123614782621:=0
def tw2876056855868410680:=0
def tw6794182049476257459:=0
def tw5932034352789269177:=0
def tw17176402745276780277:=0
def tw2336748197387617133:=0
def tw9265585351764160287:=0
def tw13338628177571692751:=0
def tw14115808204253350385:=0
def tw15332867008598239175:=0
def tw523988425505840088:=0
def tw3511659224103854596:=0
def tw17236980093558180831:=0
def tw6670427760320095717:=0
def tw13827097961031927504:=0
def tw8126900831977394564:=0
def tw4119822459274217265:=0
def tw12958967885992747449:=0
def tw3786023319461864859:=0
def tw3546705964589649096:=0
def tw10147616101655682775:=0
def tw13621821485143858577:=0
def tw11065385971911562170:=0
def tw8810238304654964236:=0
def tw7969901433299086764:=0
def tw15097054461011816580:=0
def tw4997300188227524257:=0
def tw6839375843834976648:=0
def tw5402654818305785748:=0
def tw685813606443431691:=0
def tw15305622840728957424:=0
def tw2626703857291326962:=0
def tw761148455545811549:=0
def tw16070454812342718356:=0
def tw5897576696418322401:=0
def tw4021145133370147775:=0
def tw18006523782844796455:=0
def tw3102198772849825019:=0
def tw17635841054575198822:=0
def tw7136345942649920492:=0
def tw10053486776667075061:=0
def tw4169648524626774684:=0
def tw16056569194885111185:=0
def tw8943394638010495322:=0
def tw116974668351231082:=0
def tw1834027912923876482:=0
def tw13610689956308851760:=0
def tw10442407280726887722:=0
def tw11125499222257522087:=0
def tw15265342539882849839:=0
def tw13677242925136959258:=0
def tw10705356759744679380:=0
def tw13477389067229521516:=0
def tw8520061295338968604:=0
def tw17516795535621010353:=0
def tw9656965449854892539:=0
def tw14592224450492314720:=0
def tw9561516299480282693:=0
def tw13636890438175386826:=0
def tw5287558438943639348:=0
def tw8331241508145333531:=0
def tw260817575174828767:=0
def tw5915236538277489291:=0
def tw7044833050727677677:=0
def tw5144939254693311641:=0
def tw10364177962802711418:=0
def tw15911409933829662338:=0
def tw6146886044262178710:=0
def tw801676139539940831:=0
def tw9815521557511538658:=0
def tw3013478520041429004:=0
def tw8379430999425852871:=0
def tw14757360188864948726:=0
end PySem.W.Fast


namespace L2
open PySem PySem.Spec PyProof.Rows

abbrev Key := Sum Int Str
def keyIs : Key → Value → Bool
  | .inl k, v => Value.isInt k v
  | .inr x, v => Value.isStrOf x v
def keyH (w : World) : Key → Int
  | .inl k => hashInt k
  | .inr x => hashStr w x
theorem keyIs_shape : ∀ {k : Key} {v : Value}, keyIs k v = true → (∃ i t, k = Sum.inl i ∧ v = Value.int i t) ∨ (∃ x t, k = Sum.inr x ∧ v = Value.str x t)
  | .inl i, v, h => by
    obtain ⟨t, e⟩ := Value.isInt_shape (k := i) (v := v) h
    exact .inl ⟨i, t, rfl, e⟩
  | .inr x, v, h => by
    obtain ⟨t, e⟩ := Value.isStrOf_shape (x := x) (v := v) h
    exact .inr ⟨x, t, rfl, e⟩
theorem key_ll (a b : Int) : decide ((Sum.inl a : Key) = Sum.inl b) = (a == b) := by
  by_cases e : a = b
  · subst e; simp
  · have h : ¬ (Sum.inl a : Key) = Sum.inl b := fun q => e (Sum.inl.inj q)
    rw [decide_eq_false h]
    exact (beq_eq_false_iff_ne.mpr e).symm
theorem key_rr (a b : Str) : decide ((Sum.inr a : Key) = Sum.inr b) = decide (a = b) := by
  by_cases e : a = b
  · subst e; simp
  · have h : ¬ (Sum.inr a : Key) = Sum.inr b := fun q => e (Sum.inr.inj q)
    rw [decide_eq_false h, decide_eq_false e]
theorem key_lr (a : Int) (b : Str) : decide ((Sum.inl a : Key) = Sum.inr b) = false := decide_eq_false (fun q => nomatch q)
theorem key_rl (a : Str) (b : Int) : decide ((Sum.inr a : Key) = Sum.inl b) = false := decide_eq_false (fun q => nomatch q)

def mixKind (prog : Program) (w : World) : PySem.KeyKind prog w Key where
  is := keyIs
  hash := keyH w
  inj := fun v a b ha hb => by
    rcases keyIs_shape ha with ⟨i, t, rfl, rfl⟩ | ⟨x, t, rfl, rfl⟩
    · rcases keyIs_shape hb with ⟨j, u, rfl, e⟩ | ⟨y, u, rfl, e⟩
      · injection e with e1 _; rw [e1]
      · exact nomatch e
    · rcases keyIs_shape hb with ⟨j, u, rfl, e⟩ | ⟨y, u, rfl, e⟩
      · exact nomatch e
      · injection e with e1 _; rw [e1]
  byValue := fun k v h => by
    rcases keyIs_shape h with ⟨i, t, rfl, rfl⟩ | ⟨x, t, rfl, rfl⟩ <;> rfl
  pyHash := fun hv h => by
    rcases keyIs_shape hv with ⟨i, t, rfl, rfl⟩ | ⟨x, t, rfl, rfl⟩
    · exact wpAny_pyHash_int h
    · exact wpAny_pyHash_str h
  eqBool := fun hu hv h => by
    rcases keyIs_shape hu with ⟨i, t, rfl, rfl⟩ | ⟨x, t, rfl, rfl⟩
    · rcases keyIs_shape hv with ⟨j, u, rfl, rfl⟩ | ⟨y, u, rfl, rfl⟩
      · rw [key_ll] at h; exact wpAny_eqBool_int h
      · rw [key_lr] at h; exact SeqAt.EqAt.int_str i t y u _ _ _ _ h
    · rcases keyIs_shape hv with ⟨j, u, rfl, rfl⟩ | ⟨y, u, rfl, rfl⟩
      · rw [key_rl] at h; exact SeqAt.EqAt.str_int x t j u _ _ _ _ h
      · rw [key_rr] at h; exact wpAny_eqBool_str h
  «strs» := fun k x t v h => by
    rcases keyIs_shape h with ⟨i, u, rfl, e⟩ | ⟨y, u, rfl, e⟩
    · exact nomatch e
    · injection e with e1 _
      subst e1
      cases v <;> rfl

end L2

namespace L2
open PySem PySem.Spec PyProof.Rows

inductive V where
  | non | bl (b : Bool) | int (i : Int) | str (x : Str) | byt (b : Array UInt8) | flt (b : UInt64) | ref (a : Addr) | ty (n : String)
  deriving DecidableEq

def RelV : V → Value → Prop
  | .non, u => u = Value.none
  | .bl b, u => u = Value.bool b
  | .int i, u => ∃ t, u = Value.int i t
  | .str x, u => ∃ t, u = Value.str x t
  | .byt b, u => ∃ t, u = Value.bytes b t
  | .flt b, u => ∃ t, u = Value.float b t
  | .ref a, u => u = Value.ref a
  | .ty n, u => u = Value.type n

abbrev Vals : List V → List Value → Prop := Paired RelV
theorem Vals.length {xs : List V} {us : List Value} (r : Vals xs us) : xs.length = us.length := Paired.length r
theorem Vals.get : ∀ {xs : List V} {us : List Value} {i : Nat} {x : V}, Vals xs us → xs[i]? = some x → ∃ u, us[i]? = some u ∧ RelV x u
  | _, _, _, _, .nil, e => by simp at e
  | _, _, 0, _, .cons r _, e => by simp at e; subst e; exact ⟨_, rfl, r⟩
  | _, _, i + 1, x, .cons _ t, e => by
    obtain ⟨u, h1, h2⟩ := Vals.get (i := i) (x := x) t (by simpa using e)
    exact ⟨u, by simpa using h1, h2⟩
theorem Vals.set {x : V} {u : Value} (r : RelV x u) : ∀ {xs : List V} {us : List Value} (i : Nat), Vals xs us → Vals (xs.set i x) (us.set i u)
  | _, _, _, .nil => .nil
  | _, _, 0, .cons _ t => .cons r t
  | _, _, i + 1, .cons q t => .cons q (Vals.set r i t)
theorem Vals.append : ∀ {xs ys : List V} {us ws : List Value}, Vals xs us → Vals ys ws → Vals (xs ++ ys) (us ++ ws)
  | _, _, _, _, .nil, s => s
  | _, _, _, _, .cons r t, s => .cons r (Vals.append t s)
theorem Vals.take : ∀ {xs : List V} {us : List Value} (n : Nat), Vals xs us → Vals (xs.take n) (us.take n)
  | _, _, 0, _ => .nil
  | _, _, _ + 1, .nil => .nil
  | _, _, n + 1, .cons r t => .cons r (Vals.take n t)
theorem Vals.drop : ∀ {xs : List V} {us : List Value} (n : Nat), Vals xs us → Vals (xs.drop n) (us.drop n)
  | _, _, 0, r => r
  | _, _, _ + 1, .nil => .nil
  | _, _, n + 1, .cons _ t => Vals.drop n t
def RelO : Option V → Option Value → Prop
  | some v, some u => RelV v u
  | none, none => True
  | _, _ => False
def KV {κ : Type} : List (κ × V) → List (κ × Value) → Prop := Paired fun (p : κ × V) (q : κ × Value) => p.1 = q.1 ∧ RelV p.2 q.2

def kV : Key → V
  | .inl i => .int i
  | .inr x => .str x

inductive HO where
    | lst (xs : List V)
    | tup (xs : List V)
    | dK (kvs : List (Key × V)) | dT (kvs : List (List Key × V))
    | set (S : Int → Bool) (n : Nat)
    | ins (C dx : Addr) (fs : List (Str × V))
    | own (x : Addr)
    | xd (fs : List (Str × V))
    | met (f x : Addr)
    | rng (lo hi : Int)
    | frz (o : Obj) (u : HO)
    | tbl (q : Str × Int × Int)
    | ext (φ : Heap → Prop)

abbrev Hp := Addr → Option HO
def upd (H : Hp) (a : Addr) (o : HO) : Hp := fun b => if b = a then some o else H b
theorem upd_same {H : Hp} {a : Addr} {o : HO} : upd H a o a = some o := by unfold upd; rw [if_pos rfl]
theorem upd_ne {H : Hp} {a b : Addr} {o : HO} (h : b ≠ a) : upd H a o b = H b := by unfold upd; rw [if_neg h]
theorem upd_upd {H : Hp} {a : Addr} {o u : HO} : upd (upd H a o) a u = upd H a u := by
  funext b; unfold upd; split <;> rfl
theorem ne_of {H : Hp} {a b : Addr} {o u : HO} (h : H a = some o) (h' : H b = some u) (d : o ≠ u) : a ≠ b := by
  intro e; subst e; rw [h] at h'; exact d (Option.some.inj h')
theorem ne_of_none {H : Hp} {a b : Addr} {o : HO} (h : H a = some o) (h' : H b = none) : a ≠ b := by
  intro e; subst e; rw [h] at h'; cases h'

def IsTupD (h : Heap) (a : Addr) (items : Array Value) : Prop := ∃ o, h.get? a = some o ∧ o.cls = .type "tuple" ∧ ∃ n, o.data = .seq items n ∧ o.dict = none
theorem IsTupD.tup {h : Heap} {a : Addr} {items : Array Value} (x : IsTupD h a items) : IsTup h a items := let ⟨o, e, c, n, d, _⟩ := x; ⟨o, e, c, n, d⟩
theorem IsTupD.lt {h : Heap} {a : Addr} {items : Array Value} (x : IsTupD h a items) : a < h.objs.size := let ⟨_, e, _⟩ := x; Heap.lt_size e
theorem IsTupD.new (h : Heap) (items : Array Value) : IsTupD (h.push { cls := .type "tuple", data := .seq items }) h.objs.size items := ⟨_, Heap.get?_push_size _ rfl, rfl, _, rfl, rfl⟩
section
variable (P : Program) (w : World)
def ObjOk (H : Hp) (h : Heap) (a : Addr) : HO → Prop
  | .lst xs => xs.length ≤ sizeLine ∧ ∃ (its : List Value) (n : Nat), Vals xs its ∧ h.get? a = some { cls := .type "list", data := .seq its.toArray n }
  | .tup xs => xs.length ≤ sizeLine ∧ ∃ its : List Value, Vals xs its ∧ IsTupD h a its.toArray
  | .dK kvs => kvs.length ≤ sizeLine ∧ (a == sysModules) = false ∧ ∃ vs, KV kvs vs ∧ h.DictOf (mixKind P w) a vs
  | .dT kvs => kvs.length ≤ sizeLine ∧ (a == sysModules) = false ∧ ∃ xs : List (List Key × Addr × Value),
      Paired (fun (p : List Key × V) (q : List Key × Addr × Value) => p.1 = q.1 ∧ H q.2.1 = some (.tup (p.1.map kV)) ∧ RelV p.2 q.2.2) kvs xs ∧
      ∃ o es ep, h.get? a = some o ∧ o.ExactDict ∧ o.data = .dict es ep ∧ es.toList = xs.map (entryOfKey (tupleKind (mixKind P w))) ∧ (xs.map (·.1)).Nodup
  | .set S n => h.SetOf (intKind P w) a S n
  | .ins C dx fs => H dx = some (.own a) ∧ fs.length ≤ 1000 ∧ dx ≠ a ∧ h.get? a = some (PySem.W.instObj C dx) ∧
      ∃ mA, h.Ns1 dx mA ∧ (∀ f, RelO (fs.lookup f) (mA f)) ∧ PySem.Within mA (fs.map (·.1))
  | .own _ => ∃ o, h.get? a = some o
  | .xd fs => ∃ mA, h.Ns1 a mA ∧ ∀ f, RelO (fs.lookup f) (mA f)
  | .rng lo hi => ∃ t u v, h.get? a = some { cls := .type "range", data := .fields #[.int lo t, .int hi u, .int 1 v] }
  | .frz o u => h.get? a = some o ∧ ObjOk H h a u
  | .tbl q => h.get? a = some { cls := .none, data := .fields #[] } ∨ ∃ c, h.get? a = some { cls := .none, data := .fields #[rawInt q.2.1, rawInt q.2.2, .ref c] } ∧ H c = some (.own a) ∧ h.CodeRec (.ref c) q.1
  | .met f x => h.get? a = some (PySem.W.methodObj (.ref f) (.ref x))
  | .ext φ => φ h ∧ (∃ o, h.get? a = some o) ∧ ∀ h1 h2 : Heap, φ h1 → (∀ o, h1.get? a = some o → h2.get? a = some o) → φ h2
def HOk (H : Hp) (h : Heap) : Prop := ∀ a o, H a = some o → ObjOk P w H h a o
end

section
variable {P : Program} {w : World} {H H' : Hp} {h h' : Heap} {a : Addr} {o : HO}
theorem ObjOk.lt (x : ObjOk P w H h a o) : a < h.objs.size := by
  cases o with
  | lst xs => obtain ⟨_, _, _, _, e⟩ := x; exact Heap.lt_size e
  | tup xs => obtain ⟨_, _, _, p⟩ := x; exact p.lt
  | dK kvs => obtain ⟨_, _, _, _, o, _, _, e, _⟩ := x; exact Heap.lt_size e
  | dT kvs => obtain ⟨_, _, _, _, o, _, _, e, _⟩ := x; exact Heap.lt_size e
  | set S n => obtain ⟨o, _, _, _, e, _⟩ := x; exact Heap.lt_size e
  | ins C dx fs => obtain ⟨_, _, _, e, _⟩ := x; exact Heap.lt_size e
  | own y => obtain ⟨_, e⟩ := x; exact Heap.lt_size e
  | xd fs => obtain ⟨_, ⟨_, _, _, e, _⟩, _⟩ := x; exact Heap.lt_size e
  | rng lo hi => obtain ⟨_, _, _, e⟩ := x; exact Heap.lt_size e
  | frz ob u => obtain ⟨e, _⟩ := x; exact Heap.lt_size e
  | tbl q =>
    rcases (show h.get? a = some { cls := .none, data := .fields #[] } ∨ ∃ c, h.get? a = some { cls := .none, data := .fields #[rawInt q.2.1, rawInt q.2.2, .ref c] } ∧ H c = some (.own a) ∧ h.CodeRec (.ref c) q.1 from x) with e | ⟨_, e, _⟩
    · exact Heap.lt_size e
    · exact Heap.lt_size e
  | met f y => exact Heap.lt_size (show h.get? a = some _ from x)
  | ext φ => obtain ⟨_, ⟨_, e⟩, _⟩ := x; exact Heap.lt_size e
theorem Paired.mapP {α β : Type} {F G : α → β → Prop} : ∀ {l₁ : List α} {l₂ : List β}, Paired F l₁ l₂ → (∀ a b, F a b → G a b) → Paired G l₁ l₂
  | _, _, .nil, _ => .nil
  | _, _, .cons r t, f => .cons (f _ _ r) (Paired.mapP t f)
theorem ObjOk.stay (x : ObjOk P w H h a o) (k : ∀ b u, (b = a ∨ H b = some (.own a)) → h.get? b = some u → h'.get? b = some u)
    (ho : ∀ b, H b = some (.own a) → H' b = some (.own a)) (ht : ∀ b xs, H b = some (.tup xs) → H' b = some (.tup xs)) : ObjOk P w H' h' a o := by
  induction o with
  | lst xs => obtain ⟨z, its, n, r, e⟩ := x; exact ⟨z, its, n, r, k _ _ (.inl rfl) e⟩
  | tup xs => obtain ⟨z, its, r, ob, e, c⟩ := x; exact ⟨z, its, r, ob, k _ _ (.inl rfl) e, c⟩
  | dK kvs => obtain ⟨z, y, vs, r, ob, es, ep, e, c⟩ := x; exact ⟨z, y, vs, r, ob, es, ep, k _ _ (.inl rfl) e, c⟩
  | dT kvs =>
    obtain ⟨z, y, xs, r, ob, es, ep, e, c⟩ := x
    exact ⟨z, y, xs, Paired.mapP r fun p q z => ⟨z.1, ht _ _ z.2.1, z.2.2⟩, ob, es, ep, k _ _ (.inl rfl) e, c⟩
  | set S n => obtain ⟨ob, es, ep, t, e, c⟩ := x; exact ⟨ob, es, ep, t, k _ _ (.inl rfl) e, c⟩
  | ins C dx fs =>
    obtain ⟨d, z, ne, e, mA, ⟨od, es, ep, e2, c⟩, r⟩ := x
    exact ⟨ho _ d, z, ne, k _ _ (.inl rfl) e, mA, ⟨od, es, ep, k _ _ (.inr d) e2, c⟩, r⟩
  | own y => obtain ⟨ob, e⟩ := x; exact ⟨ob, k _ _ (.inl rfl) e⟩
  | xd fs => obtain ⟨mA, ⟨od, es, ep, e, c⟩, r⟩ := x; exact ⟨mA, ⟨od, es, ep, k _ _ (.inl rfl) e, c⟩, r⟩
  | rng lo hi => obtain ⟨t, u, v, e⟩ := x; exact ⟨t, u, v, k _ _ (.inl rfl) e⟩
  | frz ob u ih => obtain ⟨e, q⟩ := x; exact ⟨k _ _ (.inl rfl) e, ih q⟩
  | tbl q =>
    rcases (show h.get? a = some { cls := .none, data := .fields #[] } ∨ ∃ c, h.get? a = some { cls := .none, data := .fields #[rawInt q.2.1, rawInt q.2.2, .ref c] } ∧ H c = some (.own a) ∧ h.CodeRec (.ref c) q.1 from x) with e | ⟨c, e, hc, c0, oc, vs, t, ec, hoc, rest⟩
    · exact .inl (k a _ (.inl rfl) e)
    · cases ec
      exact .inr ⟨c, k a _ (.inl rfl) e, ho c hc, c, oc, vs, t, rfl, k c _ (.inr hc) hoc, rest⟩
  | met f y =>
    have e : h.get? a = some (PySem.W.methodObj (.ref f) (.ref y)) := x
    show h'.get? a = some (PySem.W.methodObj (.ref f) (.ref y))
    exact k a _ (.inl rfl) e
  | ext φ => obtain ⟨p, ⟨o, e⟩, st⟩ := x; exact ⟨st _ _ p fun o q => k _ _ (.inl rfl) q, ⟨o, k _ _ (.inl rfl) e⟩, st⟩
theorem HOk.lt (x : HOk P w H h) (e : H a = some o) : a < h.objs.size := (x a o e).lt
theorem HOk.fresh (x : HOk P w H h) (e : h.objs.size ≤ a) : H a = none := by
  cases q : H a with
  | none => rfl
  | some u => exact absurd (Nat.lt_of_lt_of_le (x.lt q) e) (Nat.lt_irrefl _)
theorem HOk.kept (x : HOk P w H h) (k : ∀ b u, h.get? b = some u → h'.get? b = some u) : HOk P w H h' := fun a o e =>
  (x a o e).stay (fun b u _ q => k b u q) (fun _ q => q) fun _ _ q => q
theorem HOk.laid (x : HOk P w H h) (k : ∀ b u, h.get? b = some u → h'.get? b = some u) (hp : h.objs.size ≤ a) (new : ObjOk P w (upd H a o) h' a o) : HOk P w (upd H a o) h' := fun b u e => by
  have hn := x.fresh hp
  by_cases hb : b = a
  · subst hb; rw [upd_same] at e; cases e; exact new
  · rw [upd_ne hb] at e
    exact (x b u e).stay (fun c v _ q => k c v q) (fun c q => by rw [upd_ne (ne_of_none q hn)]; exact q) fun c xs q => by rw [upd_ne (ne_of_none q hn)]; exact q
end

def Rd (H : Hp) (a : Addr) (u : HO) : Prop := H a = some u ∨ ∃ o, H a = some (.frz o u)
theorem Rd.ok {P : Program} {w : World} {H : Hp} {h : Heap} {a : Addr} {u : HO} (r : Rd H a u) (x : HOk P w H h) : ObjOk P w H h a u := by
  rcases r with r | ⟨o, r⟩
  · exact x a u r
  · obtain ⟨_, q⟩ := x a _ r
    exact q
def Mut : Option HO → Prop
  | some (.lst _) => True
  | some (.dK _) => True
  | some (.dT _) => True
  | some (.set _ _) => True
  | some (.ins _ _ _) => True
  | some (.ext _) => True
  | _ => False
section
variable {P : Program} {w : World} {H : Hp} {h h' : Heap} {x e : Addr} {o' : HO}
theorem HOk.write (ok : HOk P w H h) (mu : Mut (H x)) (he : e = x ∨ H e = some (.own x)) (k : ∀ b u, b ≠ e → h.get? b = some u → h'.get? b = some u) (heo : ∃ u, h'.get? e = some u)
    (new : ObjOk P w (upd H x o') h' x o') : HOk P w (upd H x o') h' := fun b u q => by
  have nown : ∀ c y, H c = some (.own y) → c ≠ x := fun c y r z => by subst z; rw [r] at mu; exact mu
  have ntup : ∀ c xs, H c = some (.tup xs) → c ≠ x := fun c xs r z => by subst z; rw [r] at mu; exact mu
  by_cases hb : b = x
  · subst hb; rw [upd_same] at q; cases q; exact new
  · rw [upd_ne hb] at q
    by_cases hbe : b = e
    · have q' : H b = some (.own x) := by
        rcases he with z | z
        · exact absurd (hbe.trans z) hb
        · rw [hbe]; exact z
      rw [q] at q'; cases q'
      obtain ⟨v, hv⟩ := heo
      exact ⟨v, by rw [hbe]; exact hv⟩
    · refine (ok b u q).stay (fun c v hc r => k c v ?_ r) (fun c r => by rw [upd_ne (nown c b r)]; exact r) fun c xs r => by rw [upd_ne (ntup c xs r)]; exact r
      rcases hc with rfl | hc
      · exact hbe
      · rintro rfl
        rcases he with z | z
        · exact nown c b hc z
        · rw [hc] at z; cases z; exact hb rfl
end

structure Un (fs ex : List Addr) (H H' : Hp) (h h' : Heap) : Prop where
  keep : ∀ b o, h.get? b = some o → H b = none → b ∉ fs → b ∉ ex → h'.get? b = some o
  slot : ∀ b o, h.get? b = some o → H b = none → b ∈ fs → b ∉ ex → ∃ sl, h'.get? b = some { o with slots := sl }
  free : ∀ b o, h.get? b = some o → H b = none → b ∉ ex → H' b = none
  there : ∀ b o, h.get? b = some o → b ∉ ex → ∃ o', h'.get? b = some o'
  tups : ∀ b xs, H b = some (.tup xs) → H' b = some (.tup xs)
  frzs : ∀ b o u, H b = some (.frz o u) → H' b = some (.frz o u)
  tbls : ∀ b ps, H b = some (.tbl ps) → H' b = some (.tbl ps) ∧ ∀ c o, H c = some (.own b) → h.get? c = some o → H' c = some (.own b) ∧ h'.get? c = some o
section
variable {fs fs' ex ex' : List Addr} {H H1 H2 : Hp} {h h1 h2 h' : Heap} {a x e : Addr} {o : HO}
theorem Un.any (u : Un fs ex H H1 h h1) {b : Addr} {ob : Obj} (q : h.get? b = some ob) (n : H b = none) (hx : b ∉ ex) : ∃ sl, h1.get? b = some { ob with slots := sl } := by
  by_cases hb : b ∈ fs
  · exact u.slot b ob q n hb hx
  · exact ⟨ob.slots, u.keep b ob q n hb hx⟩
theorem Un.kept (k : ∀ b u, h.get? b = some u → h'.get? b = some u) : Un fs ex H H h h' :=
  ⟨fun b ob q _ _ _ => k b ob q, fun b ob q _ _ _ => ⟨ob.slots, k b ob q⟩, fun _ _ _ n _ => n, fun b ob q _ => ⟨ob, k b ob q⟩, fun _ _ q => q, fun _ _ _ q => q, fun _ _ q => ⟨q, fun c o e x => ⟨e, k c o x⟩⟩⟩
theorem Un.refl : Un fs ex H H h h := Un.kept fun _ _ q => q
theorem Un.laid (k : ∀ b u, h.get? b = some u → h'.get? b = some u) (hp : h.objs.size ≤ a) (hn : H a = none) : Un fs ex H (upd H a o) h h' where
  keep := fun b u q _ _ _ => k b u q
  slot := fun b u q _ _ _ => ⟨u.slots, k b u q⟩
  free := fun b u q n _ => by rw [upd_ne (Nat.ne_of_lt (Nat.lt_of_lt_of_le (Heap.lt_size q) hp))]; exact n
  there := fun b u q _ => ⟨u, k b u q⟩
  tups := fun b xs q => by rw [upd_ne (ne_of_none q hn)]; exact q
  frzs := fun b u xs q => by rw [upd_ne (ne_of_none q hn)]; exact q
  tbls := fun b ps q => ⟨by rw [upd_ne (ne_of_none q hn)]; exact q, fun c u e x => ⟨by rw [upd_ne (ne_of_none e hn)]; exact e, k c u x⟩⟩
theorem Un.write (mu : Mut (H x)) (he : e = x ∨ H e = some (.own x)) (k : ∀ b u, b ≠ e → h.get? b = some u → h'.get? b = some u) (heo : ∃ u, h'.get? e = some u) : Un fs ex H (upd H x o) h h' := by
  have hx : ∀ b, H b = none → b ≠ x := fun b n z => by subst z; rw [n] at mu; exact mu
  have hb : ∀ b, H b = none → b ≠ e := fun b n z => by
    subst z
    rcases he with r | r
    · exact hx b n r
    · rw [n] at r; cases r
  have hm : ∀ b u, H b = some u → ¬ Mut (some u) → b ≠ x := fun b u q nm z => by subst z; rw [q] at mu; exact nm mu
  refine ⟨fun b u q n _ _ => k b u (hb b n) q, fun b u q n _ _ => ⟨u.slots, k b u (hb b n) q⟩, fun b u q n _ => by rw [upd_ne (hx b n)]; exact n, fun b u q _ => ?_,
    fun b xs q => by rw [upd_ne (hm b _ q fun z => z)]; exact q, fun b u xs q => by rw [upd_ne (hm b _ q fun z => z)]; exact q, fun b ps q => ⟨by rw [upd_ne (hm b _ q fun z => z)]; exact q, fun c u hc x => ⟨by rw [upd_ne (hm c _ hc fun z => z)]; exact hc, k c u (fun z => he.elim (fun r => hm c _ hc (fun z => z) (z.trans r)) fun r => by rw [← z, hc] at r; cases r; rw [q] at mu; exact mu) x⟩⟩⟩
  by_cases hbe : b = e
  · subst hbe; exact heo
  · exact ⟨u, k b u hbe q⟩
end

def trk (h : Heap) (H : Hp) : List Addr := (List.range h.objs.size).filter fun a => (H a).isSome
def hidT (h : Heap) (H : Hp) : Heap := PySem.W.hideAll h (trk h H)
theorem hidT_size (h : Heap) (H : Hp) : (hidT h H).objs.size = h.objs.size := PySem.W.hideAll_size _ _
theorem hidT_get {h : Heap} {H : Hp} {b : Addr} {o : Obj} (e : h.get? b = some o) (n : H b = none) : (hidT h H).get? b = some o :=
  PySem.W.hideAll_get _ e fun hm => by
    have q : (H b).isSome = true := (List.mem_filter.mp hm).2
    rw [n] at q; simp at q
theorem of_hidT {h : Heap} {H : Hp} {b : Addr} {o : Obj} (e : (hidT h H).get? b = some o) : h.get? b = some o ∧ H b = none := by
  have e' : h.get? b = some o := PySem.W.of_hideAll (trk h H) e
  refine ⟨e', ?_⟩
  cases q : H b with
  | none => rfl
  | some x =>
    have hm : b ∈ trk h H := List.mem_filter.mpr ⟨List.mem_range.mpr (Heap.lt_size e'), by simp [q]⟩
    have z : (hidT h H).get? b = none := PySem.W.hideAll_none (trk h H) hm
    rw [z] at e; cases e

def allNews (g h : Heap) (L : Addr) : List (Addr × Obj) := (List.range h.objs.size).filterMap fun a => if a = L ∨ (g.get? a).isSome = true then none else (h.get? a).map fun o => (a, o)
def rest (g h : Heap) (L d : Addr) : List (Addr × Obj) := (allNews g h L).filter fun p => decide (p.1 ≠ d)
end L2

namespace L2
open PySem PySem.Spec PyProof.Rows

structure Mod (K : PySem.W.Frag) (mg : Str → Option Value) (base : Heap) : Prop where
  kin : K.In base
  glob : base.Ns mainGlobals mg
  blt : ∃ mb, base.Ns builtinsNs mb ∧ ∀ x : Str, x ≠ "__name__" → mb x = bootBuiltins x
  nolimit : base.NoLimit

structure Cx where
  prog : Program
  w : World
  K : PySem.W.Frag
  mg : Str → Option Value
  base : Heap
  A : Around
  N : List Str
  s₀ : Shared
  H₀ : Hp
  env : Env
  outer : List Env
  stack : List Env
  ex : List Addr
  fn : Str → Bool
  calm : Bool
  pn : List (Addr × Obj)
  xe : Value → Shared → Prop
def frs (l : List Env) : List Addr := l.filterMap (·.frame)
abbrev Cx.fs (X : Cx) : List Addr := frs X.outer

def Vis (sc : Scope) (x : Str) : Prop := sc.names.lookup x = some .local ∨ sc.names.lookup x = some .cell ∨ sc.names.lookup x = some .free
def Loc (sc : Scope) (x : Str) : Prop := sc.names.lookup x = some .local ∨ sc.names.lookup x = some .cell
def Look (env : Env) (h : Heap) (m : Str → Option Value) (x : Str) (u : Value) : Prop :=
  (env.kindOf x = some .local ∧ m x = some u) ∨ ((env.kindOf x = some .cell ∨ env.kindOf x = some .free) ∧ ∃ c, env.cells.lookup x = some c ∧ h.IsCell c (some u))

structure Cx.Ok (X : Cx) : Prop where
  mod : Mod X.K X.mg X.base
  kind : X.env.scope.kind = .function
  glob : X.env.globals = mainGlobals
  blt : X.env.builtins = builtinsNs
  above : X.s₀.heap.objs.size ≤ X.env.locals
  inj : ∀ x y c, X.env.cells.lookup x = some c → X.env.cells.lookup y = some c → x = y
  has : ∀ x, (X.env.kindOf x = some .cell ∨ X.env.kindOf x = some .free) → ∃ c, X.env.cells.lookup x = some c
  cab : ∀ x c, X.fn x = true → X.env.cells.lookup x = some c → X.s₀.heap.objs.size ≤ c
  hd : X.calm = true → X.A.handled = none
  frames : X.A.frames = some X.stack
  stk : X.stack = X.outer ∨ (X.stack = X.env :: X.outer ∧ X.env.frame = some X.env.locals)
  exf : ∀ b ∈ X.ex, b ≠ X.env.locals ∧ ∀ x c, X.env.cells.lookup x = some c → c ≠ b
  bs : ∀ b o, X.base.get? b = some o → X.s₀.heap.get? b = some o ∧ X.H₀ b = none
  bsz : X.base.objs.size ≤ X.s₀.heap.objs.size
  noex : ∀ b o, X.base.get? b = some o → b ∉ X.ex
  exfs : ∀ b ∈ X.ex, b ∉ X.fs
  funs : X.s₀.heap.FunFrames X.base X.outer
  frf : ∀ b ∈ X.fs, X.H₀ b = none

structure Inv (X : Cx) (pins : List (Addr × Obj)) (σ : List (Option V)) (H : Hp) (s : Shared) : Prop where
  ok : X.Ok
  os : s.os = X.s₀.os
  bare : AllBare s.gens
  base : Un X.fs X.ex X.H₀ H X.s₀.heap s.heap
  loc : ∃ m, s.heap.Ns X.env.locals m ∧ ∀ (i : Nat) (x : Str) (v : V), X.N[i]? = some x → σ[i]? = some (some v) → Vis X.env.scope x → ∃ u, RelV v u ∧ Look X.env s.heap m x u
  cell : ∀ x c, X.env.cells.lookup x = some c → ∃ v, s.heap.IsCell c v
  free : H X.env.locals = none
  freeC : ∀ x c, X.env.cells.lookup x = some c → H c = none
  pin : ∀ p ∈ X.pn ++ pins, s.heap.get? p.1 = some p.2 ∧ H p.1 = none ∧ p.1 ≠ X.env.locals ∧ p.1 ∉ X.fs ∧ ∀ v, p.2.data ≠ .cell v
  hok : HOk X.prog X.w H s.heap
  len : σ.length = X.N.length

section
variable {X : Cx} {pins : List (Addr × Obj)} {σ : List (Option V)} {H H' : Hp} {s : Shared} {h' : Heap}

theorem Cx.Ok.nofr (ok : X.Ok) {b : Addr} {o : Obj} (e : X.base.get? b = some o) : b ∉ X.fs := fun hb => by
  have := (ok.funs.mem hb).1
  rw [e] at this; cases this
theorem Inv.bs (I : Inv X pins σ H s) : ∀ b o, X.base.get? b = some o → s.heap.get? b = some o ∧ H b = none := fun b o e =>
  ⟨I.base.keep b o (I.ok.bs b o e).1 (I.ok.bs b o e).2 (I.ok.nofr e) (I.ok.noex b o e), I.base.free b o (I.ok.bs b o e).1 (I.ok.bs b o e).2 (I.ok.noex b o e)⟩
theorem Inv.bk (I : Inv X pins σ H s) : ∀ b o, X.base.get? b = some o → s.heap.get? b = some o := fun b o e => (I.bs b o e).1
theorem Inv.mod (I : Inv X pins σ H s) : Mod X.K X.mg X.base := I.ok.mod
theorem Inv.kIn (I : Inv X pins σ H s) : X.K.In s.heap := I.ok.mod.kin.keeps I.bk
theorem Inv.fr (I : Inv X pins σ H s) : ∃ m, Fr X.base X.env.locals s.heap m :=
  let ⟨m, hn, _⟩ := I.loc
  ⟨m, hn, I.bk, Nat.le_trans I.ok.bsz I.ok.above⟩
theorem Inv.lt (I : Inv X pins σ H s) : X.env.locals < s.heap.objs.size := let ⟨_, hn, _⟩ := I.loc; hn.lt
theorem Inv.sz (I : Inv X pins σ H s) : X.s₀.heap.objs.size ≤ s.heap.objs.size := Nat.le_trans I.ok.above (Nat.le_of_lt I.lt)
theorem Inv.nofs (I : Inv X pins σ H s) {a : Addr} (h : s.heap.objs.size ≤ a) : a ∉ X.fs := fun hb => by
  obtain ⟨_, o, ho, _⟩ := I.ok.funs.mem hb
  exact absurd (Nat.lt_of_lt_of_le (Heap.lt_size ho) (Nat.le_trans I.sz h)) (Nat.lt_irrefl _)
theorem Inv.cne (I : Inv X pins σ H s) : ∀ x c, X.env.cells.lookup x = some c → c ≠ X.env.locals := fun x c e z => by
  obtain ⟨v, o, ho, hd⟩ := I.cell x c e
  obtain ⟨m, ⟨o', es, ep, ho', hd', _⟩, _⟩ := I.loc
  rw [z, ho'] at ho; cases ho; rw [hd'] at hd; cases hd
theorem Inv.funs (I : Inv X pins σ H s) : s.heap.FunFrames X.base X.outer := by
  have all : ∀ (l : List Env), (∀ b ∈ frs l, b ∈ X.fs) → X.s₀.heap.FunFrames X.base l → s.heap.FunFrames X.base l := by
    intro l
    induction l with
    | nil => intro _ _; trivial
    | cons env r ih =>
      intro hs hl
      obtain ⟨hk, ⟨L, o, hf, hn, ho, hd⟩, hr⟩ := hl
      have hL : L ∈ X.fs := hs L (by unfold frs; rw [List.filterMap_cons, hf]; exact List.mem_cons_self)
      obtain ⟨sl, e⟩ := I.base.slot L o ho (I.ok.frf L hL) hL fun z => I.ok.exfs L z hL
      exact ⟨hk, ⟨L, _, hf, hn, e, hd⟩, ih (fun b hb => hs b (by unfold frs; rw [List.filterMap_cons, hf]; exact List.mem_cons_of_mem _ hb)) hr⟩
  exact all X.outer (fun _ hb => hb) I.ok.funs

theorem Inv.stack (I : Inv X pins σ H s) : s.heap.FunFrames X.base X.stack := by
  rcases I.ok.stk with e | ⟨e, hf⟩
  · rw [e]; exact I.funs
  · rw [e]
    obtain ⟨m, hn, _⟩ := I.loc
    refine .cons (by rw [I.ok.kind]; decide) hf hn ?_ I.funs
    exact Heap.get?_none_of_le (Nat.le_trans I.ok.bsz I.ok.above)
theorem Inv.stkSub (I : Inv X pins σ H s) : ∀ b ∈ frs X.stack, b ∈ X.env.locals :: X.fs := fun b hb => by
  rcases I.ok.stk with e | ⟨e, hf⟩
  · rw [e] at hb; exact List.mem_cons_of_mem _ hb
  · rw [e] at hb
    unfold frs at hb
    rw [List.filterMap_cons, hf] at hb
    exact hb
theorem Inv.stkFree (I : Inv X pins σ H s) : ∀ b ∈ frs X.stack, H b = none := fun b hb => by
  rcases List.mem_cons.mp (I.stkSub b hb) with e | hb
  · rw [e]; exact I.free
  · obtain ⟨_, o, ho, _⟩ := I.ok.funs.mem hb
    exact I.base.free b o ho (I.ok.frf b hb) fun z => I.ok.exfs b z hb

theorem Inv.step {g' : Array GenState} {t' : Nat} {d' : Drawn} {ch : List Addr} (I : Inv X pins σ H s)
    (hch : ∀ b ∈ ch, (b ∈ X.ex ∨ X.s₀.heap.objs.size ≤ b) ∧ b ≠ X.env.locals ∧ (∀ x c, X.env.cells.lookup x = some c → c ≠ b) ∧ ∀ p ∈ X.pn ++ pins, p.1 ≠ b)
    (keep : ∀ b o, b ≠ X.env.locals → b ∉ X.fs → b ∉ ch → s.heap.get? b = some o → H b = none → h'.get? b = some o)
    (slot : ∀ b o, b ≠ X.env.locals → b ∈ X.fs → b ∉ ch → s.heap.get? b = some o → H b = none → ∃ sl, h'.get? b = some { o with slots := sl }) (free : ∀ b o, b ∉ ch → s.heap.get? b = some o → H b = none → H' b = none)
    (there : ∀ b o, b ∉ ch → s.heap.get? b = some o → ∃ o', h'.get? b = some o')
    (tups : ∀ b xs, H b = some (.tup xs) → H' b = some (.tup xs)) (frzs : ∀ b o u, H b = some (.frz o u) → H' b = some (.frz o u)) (tbls : ∀ b ps, H b = some (.tbl ps) → H' b = some (.tbl ps) ∧ ∀ c o, H c = some (.own b) → s.heap.get? c = some o → H' c = some (.own b) ∧ h'.get? c = some o)
    (ns : ∀ m, s.heap.Ns X.env.locals m → h'.Ns X.env.locals m) (hok : HOk X.prog X.w H' h') (hg : AllBare g') :
    Inv X pins σ H' { s with heap := h', gens := g', drawn := d', toks := t' } := by
  have neL : ∀ b o, X.s₀.heap.get? b = some o → b ≠ X.env.locals := fun b o e => Nat.ne_of_lt (Nat.lt_of_lt_of_le (Heap.lt_size e) I.ok.above)
  have neC : ∀ b o, X.s₀.heap.get? b = some o → b ∉ X.ex → b ∉ ch := fun b o e hx hb => by
    rcases (hch b hb).1 with z | z
    · exact hx z
    · exact absurd (Nat.lt_of_lt_of_le (Heap.lt_size e) z) (Nat.lt_irrefl _)
  have cellK : ∀ x c, X.env.cells.lookup x = some c → ∀ v, s.heap.IsCell c v → h'.IsCell c v := fun x c e v ⟨o, ho, hd⟩ => by
    have nch : c ∉ ch := fun z => (hch c z).2.2.1 x c e rfl
    by_cases hc : c ∈ X.fs
    · obtain ⟨sl, q⟩ := slot c o (I.cne x c e) hc nch ho (I.freeC x c e)
      exact ⟨_, q, hd⟩
    · exact ⟨o, keep c o (I.cne x c e) hc nch ho (I.freeC x c e), hd⟩
  refine ⟨I.ok, I.os, hg, ⟨fun b o e n hb hx => ?_, fun b o e n hb hx => ?_, fun b o e n hx => ?_, fun b o e hx => ?_, fun b xs e => tups b xs (I.base.tups b xs e), fun b o xs e => frzs b o xs (I.base.frzs b o xs e), fun b ps e => ?_⟩, ?_, fun x c e => ?_, ?_, fun x c e => ?_, fun p hp => ?_, hok, I.len⟩
  · exact keep b o (neL b o e) hb (neC b o e hx) (I.base.keep b o e n hb hx) (I.base.free b o e n hx)
  · obtain ⟨sl, e1⟩ := I.base.slot b o e n hb hx
    obtain ⟨sl', e2⟩ := slot b _ (neL b o e) hb (neC b o e hx) e1 (I.base.free b o e n hx)
    exact ⟨sl', e2⟩
  · obtain ⟨o', e1⟩ := I.base.there b o e hx
    exact free b o' (neC b o e hx) e1 (I.base.free b o e n hx)
  · obtain ⟨o', e1⟩ := I.base.there b o e hx
    exact there b o' (neC b o e hx) e1
  · exact ⟨(tbls b ps (I.base.tbls b ps e).1).1, fun c o e1 x => let z := (I.base.tbls b ps e).2 c o e1 x; (tbls b ps (I.base.tbls b ps e).1).2 c o z.1 z.2⟩
  · obtain ⟨m, hn, hl⟩ := I.loc
    refine ⟨m, ns m hn, fun i x v e1 e2 e3 => ?_⟩
    obtain ⟨u, r, l⟩ := hl i x v e1 e2 e3
    refine ⟨u, r, ?_⟩
    rcases l with l | ⟨k, c, e, z⟩
    · exact .inl l
    · exact .inr ⟨k, c, e, cellK x c e _ z⟩
  · obtain ⟨v, z⟩ := I.cell x c e
    exact ⟨v, cellK x c e v z⟩
  · obtain ⟨m, ⟨o, _, _, ho, _⟩, _⟩ := I.loc
    exact free _ o (fun z => (hch _ z).2.1 rfl) ho I.free
  · obtain ⟨v, o, ho, hd⟩ := I.cell x c e
    exact free c o (fun z => (hch c z).2.2.1 x c e rfl) ho (I.freeC x c e)
  · obtain ⟨e, n, ne, nf, d⟩ := I.pin p hp
    have nch : p.1 ∉ ch := fun z => (hch p.1 z).2.2.2 p hp rfl
    exact ⟨keep p.1 p.2 ne nf nch e n, free p.1 p.2 nch e n, ne, nf, d⟩
theorem Inv.un {t' : Nat} (I : Inv X pins σ H s) (u : Un X.fs [] H H' s.heap h') (hok : HOk X.prog X.w H' h') : Inv X pins σ H' { s with heap := h', toks := t' } := by
  obtain ⟨m, ⟨o, es, ep, ho, r⟩, _⟩ := id I.loc
  obtain ⟨sl, hL⟩ := u.any ho I.free (by simp)
  exact I.step (g' := s.gens) (d' := s.drawn) (ch := []) (fun _ z => nomatch z) (fun b o _ hb _ e n => u.keep b o e n hb (by simp)) (fun b o _ hb _ e n => u.slot b o e n hb (by simp)) (fun b o _ e n => u.free b o e n (by simp)) (fun b o _ e => u.there b o e (by simp)) u.tups u.frzs u.tbls (fun m' hm => by
    obtain ⟨o', es', ep', ho', r'⟩ := hm
    rw [ho] at ho'; cases ho'
    exact ⟨_, es', ep', hL, r'⟩) hok I.bare
theorem Inv.call {g' : Array GenState} {t' : Nat} {d' : Drawn} {ch : List Addr} (I : Inv X pins σ H s) (u : Un (frs X.stack) ch H H' s.heap h') (hok : HOk X.prog X.w H' h') (hg : AllBare g')
    (hch : ∀ b ∈ ch, (b ∈ X.ex ∨ X.s₀.heap.objs.size ≤ b) ∧ b ≠ X.env.locals ∧ (∀ x c, X.env.cells.lookup x = some c → c ≠ b) ∧ ∀ p ∈ X.pn ++ pins, p.1 ≠ b) :
    Inv X pins σ H' { s with heap := h', gens := g', drawn := d', toks := t' } := by
  obtain ⟨m, ⟨o, es, ep, ho, r⟩, _⟩ := id I.loc
  obtain ⟨sl, hL⟩ := u.any ho I.free fun z => (hch _ z).2.1 rfl
  exact I.step (ch := ch) hch (fun b o hL hb hc e n => u.keep b o e n (fun z => (List.mem_cons.mp (I.stkSub b z)).elim hL hb) hc) (fun b o _ _ hc e n => u.any e n hc) (fun b o hc e n => u.free b o e n hc) (fun b o hc e => u.there b o e hc) u.tups u.frzs u.tbls (fun m' hm => by
    obtain ⟨o', es', ep', ho', r'⟩ := hm
    rw [ho] at ho'; cases ho'
    exact ⟨_, es', ep', hL, r'⟩) hok hg
theorem Inv.turned {t' : Nat} {it : Addr} (I : Inv X pins σ H s) (k : ∀ b o, b ≠ it → s.heap.get? b = some o → h'.get? b = some o) (hn : H it = none) (hL : it ≠ X.env.locals)
    (h1 : it ∈ X.ex ∨ X.s₀.heap.objs.size ≤ it) (h2 : ∀ x c, X.env.cells.lookup x = some c → c ≠ it) (h3 : ∀ p ∈ X.pn ++ pins, p.1 ≠ it) : Inv X pins σ H { s with heap := h', toks := t' } := by
  have nit : ∀ b u, H b = some u → b ≠ it := fun b u e z => by rw [z, hn] at e; cases e
  refine I.step (g' := s.gens) (d' := s.drawn) (ch := [it]) (fun b hb => ?_) (fun b o _ _ hc e _ => k b o (fun z => hc (by simp [z])) e) (fun b o _ _ hc e _ => ⟨o.slots, k b o (fun z => hc (by simp [z])) e⟩) (fun _ _ _ _ n => n)
    (fun b o hc e => ⟨o, k b o (fun z => hc (by simp [z])) e⟩) (fun _ _ e => e) (fun _ _ _ e => e) (fun b ps e => ⟨e, fun c o ec x => ⟨ec, k c o (nit c _ ec) x⟩⟩) (fun m hm => ?_) (fun b u e => ?_) I.bare
  · have e : b = it := by simpa using hb
    subst e
    exact ⟨h1, hL, h2, h3⟩
  · obtain ⟨o, es, ep, ho, r⟩ := hm
    exact ⟨o, es, ep, k _ o (Ne.symm hL) ho, r⟩
  · refine (I.hok b u e).stay (fun c v hc q => k c v ?_ q) (fun _ q => q) fun _ _ q => q
    rcases hc with z | z
    · rw [z]; exact nit b u e
    · exact nit c _ z
theorem Inv.tok (I : Inv X pins σ H s) (t : Nat) : Inv X pins σ H { s with toks := t } := I.un (h' := s.heap) (t' := t) Un.refl I.hok
theorem Inv.kept {t' : Nat} (I : Inv X pins σ H s) (k : ∀ b u, s.heap.get? b = some u → h'.get? b = some u) : Inv X pins σ H { s with heap := h', toks := t' } := I.un (Un.kept k) (I.hok.kept k)
theorem Inv.laid {a : Addr} {o : HO} {t' : Nat} (I : Inv X pins σ H s) (k : ∀ b u, s.heap.get? b = some u → h'.get? b = some u) (hp : s.heap.objs.size ≤ a) (new : ObjOk X.prog X.w (upd H a o) h' a o) :
    Inv X pins σ (upd H a o) { s with heap := h', toks := t' } := I.un (Un.laid k hp (I.hok.fresh hp)) (I.hok.laid k hp new)
theorem Inv.write {x e : Addr} {o : HO} {t' : Nat} (I : Inv X pins σ H s) (mu : Mut (H x)) (he : e = x ∨ H e = some (.own x)) (k : ∀ b u, b ≠ e → s.heap.get? b = some u → h'.get? b = some u) (heo : ∃ u, h'.get? e = some u)
    (new : ObjOk X.prog X.w (upd H x o) h' x o) : Inv X pins σ (upd H x o) { s with heap := h', toks := t' } := I.un (Un.write mu he k heo) (I.hok.write mu he k heo new)
theorem Inv.weak {σ' : List (Option V)} (I : Inv X pins σ H s) (hl : σ'.length = σ.length) (w : ∀ (i : Nat) v, σ'[i]? = some (some v) → σ[i]? = some (some v)) : Inv X pins σ' H s :=
  ⟨I.ok, I.os, I.bare, I.base, let ⟨m, hn, hl'⟩ := I.loc; ⟨m, hn, fun i x v e1 e2 e3 => hl' i x v e1 (w i v e2) e3⟩, I.cell, I.free, I.freeC, I.pin, I.hok, hl.trans I.len⟩
theorem Inv.pins_of {pins' : List (Addr × Obj)} (I : Inv X pins σ H s) (h : ∀ p ∈ pins', s.heap.get? p.1 = some p.2 ∧ H p.1 = none ∧ p.1 ≠ X.env.locals ∧ p.1 ∉ X.fs ∧ ∀ v, p.2.data ≠ .cell v) : Inv X pins' σ H s :=
  ⟨I.ok, I.os, I.bare, I.base, I.loc, I.cell, I.free, I.freeC, fun p hp => (List.mem_append.mp hp).elim (fun z => I.pin p (List.mem_append_left _ z)) (h p), I.hok, I.len⟩

theorem nodup_ix {N : List Str} (hN : N.Nodup) {i j : Nat} {x : Str} (a : N[i]? = some x) (b : N[j]? = some x) : i = j := by
  obtain ⟨h1, e1⟩ := List.getElem?_eq_some_iff.mp a
  obtain ⟨h2, e2⟩ := List.getElem?_eq_some_iff.mp b
  exact (List.getElem_inj hN).mp (e1.trans e2.symm)

theorem store_ok2 {M : Model} {A : Around} {E : Value → Shared → Prop} {i : Nat} {x : Str} {v : V} {u : Value} {Q : Unit → Shared → Prop} (I : Inv X pins σ H s) (hN : X.N.Nodup) (hi : X.N[i]? = some x) (hx : Loc X.env.scope x) (r : RelV v u)
    (h : ∀ s', Inv X pins (σ.set i (some v)) H s' → (∃ a, Heap.SameBut a s.heap s'.heap ∧ (a = X.env.locals ∨ X.env.cells.lookup x = some a)) → Q () s') (hf : X.fn x = true ∨ X.env.scope.names.lookup x = some .local := by first | exact .inl rfl | exact .inr rfl | assumption) : wpAny M A (storeName X.env x u) Q E s := by
  obtain ⟨m, hn, hl⟩ := id I.loc
  have hcls : (X.env.scope.kind == .class || (X.env.scope.kind == .module && X.env.locals != X.env.globals)) = false := by rw [I.ok.kind]; rfl
  have hiσ : i < σ.length := by rw [I.len]; exact (List.getElem?_eq_some_iff.mp hi).1
  have cne := I.cne
  have tracked : ∀ {a : Addr} {h' : Heap}, (∃ o, s.heap.get? a = some o ∧ H a = none) → Heap.SameBut a s.heap h' → HOk X.prog X.w H h' := fun {a h'} ha hs b ob e => by
    obtain ⟨_, _, hfree⟩ := ha
    refine (I.hok b ob e).stay (fun c w' hc q => (hs.2 c ?_).trans q) (fun _ q => q) fun _ _ q => q
    rintro rfl
    rcases hc with rfl | hc
    · rw [hfree] at e; cases e
    · rw [hfree] at hc; cases hc
  rcases hx with hk | hk
  · refine wpAny_storeName_local hk hn (fun h' hn' hs => ?_) hcls
    obtain ⟨oL, _, _, hoL, _⟩ := id hn
    refine h _ ⟨I.ok, I.os, I.bare, ⟨fun b o e n hb hx => ?_, fun b o e n hb hx => ?_, I.base.free, fun b o e hx => ?_, I.base.tups, I.base.frzs, fun b ps e => ⟨(I.base.tbls b ps e).1, fun d o e1 x1 => let z := (I.base.tbls b ps e).2 d o e1 x1; ⟨z.1, (hs.2 d (ne_of_none z.1 I.free)).trans z.2⟩⟩⟩, ⟨_, hn', fun j y v' e1 e2 e3 => ?_⟩, fun y c e => ?_, I.free, I.freeC, fun p hp => ?_, tracked ⟨oL, hoL, I.free⟩ hs, by simpa using I.len⟩ ⟨_, hs, .inl rfl⟩
    · exact (hs.2 b (Nat.ne_of_lt (Nat.lt_of_lt_of_le (Heap.lt_size e) I.ok.above))).trans (I.base.keep b o e n hb hx)
    · obtain ⟨sl, e1⟩ := I.base.slot b o e n hb hx
      exact ⟨sl, (hs.2 b (Nat.ne_of_lt (Nat.lt_of_lt_of_le (Heap.lt_size e) I.ok.above))).trans e1⟩
    · obtain ⟨o', e1⟩ := I.base.there b o e hx
      exact ⟨o', (hs.2 b (Nat.ne_of_lt (Nat.lt_of_lt_of_le (Heap.lt_size e) I.ok.above))).trans e1⟩
    · by_cases hj : j = i
      · subst hj
        rw [hi] at e1; cases e1
        rw [List.getElem?_set_self hiσ] at e2
        cases e2
        exact ⟨u, r, .inl ⟨hk, by simp⟩⟩
      · rw [List.getElem?_set_ne (Ne.symm hj)] at e2
        obtain ⟨u', r', q⟩ := hl j y v' e1 e2 e3
        refine ⟨u', r', ?_⟩
        rcases q with ⟨k, e⟩ | ⟨k, c, e, z⟩
        · refine .inl ⟨k, ?_⟩
          have : y ≠ x := fun e => hj (nodup_ix hN e1 (e ▸ hi))
          simp [this, e]
        · exact .inr ⟨k, c, e, z.sameBut hs (cne y c e)⟩
    · obtain ⟨w', z⟩ := I.cell y c e
      exact ⟨w', z.sameBut hs (cne y c e)⟩
    · obtain ⟨e, n, ne, nf, d⟩ := I.pin p hp
      exact ⟨(hs.2 p.1 ne).trans e, n, ne, nf, d⟩
  · have hfn : X.fn x = true := by
      rcases hf with z | z
      · exact z
      · rw [z] at hk; cases hk
    obtain ⟨c, hc⟩ := I.ok.has x (.inl hk)
    obtain ⟨w', z⟩ := I.cell x c hc
    refine wpAny_storeName_cell I.ok.kind hk hc z (fun h' hc' hs => ?_)
    obtain ⟨oc, hoc, hocd⟩ := id z
    refine h { s with heap := h' } ⟨I.ok, I.os, I.bare, ⟨fun b o e n hb hx => ?_, fun b o e n hb hx => ?_, I.base.free, fun b o e hx => ?_, I.base.tups, I.base.frzs, fun b ps e => ⟨(I.base.tbls b ps e).1, fun d o e1 x1 => let z := (I.base.tbls b ps e).2 d o e1 x1; ⟨z.1, (hs.2 d (ne_of_none z.1 (I.freeC x c hc))).trans z.2⟩⟩⟩, ⟨m, hn.sameBut hs (Ne.symm (cne x c hc)), fun j y v' e1 e2 e3 => ?_⟩, fun y c' e => ?_, I.free, I.freeC, fun p hp => ?_, tracked ⟨oc, hoc, I.freeC x c hc⟩ hs, by simpa using I.len⟩ ⟨c, hs, .inr hc⟩
    · exact (hs.2 b (Nat.ne_of_lt (Nat.lt_of_lt_of_le (Heap.lt_size e) (I.ok.cab x c hfn hc)))).trans (I.base.keep b o e n hb hx)
    · obtain ⟨sl, e1⟩ := I.base.slot b o e n hb hx
      exact ⟨sl, (hs.2 b (Nat.ne_of_lt (Nat.lt_of_lt_of_le (Heap.lt_size e) (I.ok.cab x c hfn hc)))).trans e1⟩
    · obtain ⟨o', e1⟩ := I.base.there b o e hx
      exact ⟨o', (hs.2 b (Nat.ne_of_lt (Nat.lt_of_lt_of_le (Heap.lt_size e) (I.ok.cab x c hfn hc)))).trans e1⟩
    · by_cases hj : j = i
      · subst hj
        rw [hi] at e1; cases e1
        rw [List.getElem?_set_self hiσ] at e2
        cases e2
        exact ⟨u, r, .inr ⟨.inl hk, c, hc, hc'⟩⟩
      · rw [List.getElem?_set_ne (Ne.symm hj)] at e2
        obtain ⟨u', r', q⟩ := hl j y v' e1 e2 e3
        refine ⟨u', r', ?_⟩
        rcases q with q | ⟨k, c', e, z'⟩
        · exact .inl q
        · refine .inr ⟨k, c', e, z'.sameBut hs ?_⟩
          rintro rfl
          exact hj (nodup_ix hN e1 (I.ok.inj _ _ _ e hc ▸ hi))
    · by_cases hcc : c' = c
      · subst hcc; exact ⟨_, hc'⟩
      · obtain ⟨w2, z2⟩ := I.cell y c' e
        exact ⟨w2, z2.sameBut hs hcc⟩
    · obtain ⟨e, n, ne, nf, d⟩ := I.pin p hp
      refine ⟨(hs.2 p.1 ?_).trans e, n, ne, nf, d⟩
      intro q
      rw [q, hoc] at e
      have q' : oc = p.2 := Option.some.inj e
      exact d w' (by rw [← q']; exact hocd)
theorem store_ok {M : Model} {A : Around} {E : Value → Shared → Prop} {i : Nat} {x : Str} {v : V} {u : Value} {Q : Unit → Shared → Prop} (I : Inv X pins σ H s) (hN : X.N.Nodup) (hi : X.N[i]? = some x) (hx : Loc X.env.scope x) (r : RelV v u)
    (h : ∀ s', Inv X pins (σ.set i (some v)) H s' → Q () s') (hf : X.fn x = true ∨ X.env.scope.names.lookup x = some .local := by first | exact .inl rfl | exact .inr rfl | assumption) : wpAny M A (storeName X.env x u) Q E s :=
  store_ok2 I hN hi hx r (fun s' I' _ => h s' I') hf
theorem Inv.call' {s' : Shared} {ch : List Addr} (I : Inv X pins σ H s) (ho : s'.os = s.os) (u : Un (frs X.stack) ch H H' s.heap s'.heap) (hok : HOk X.prog X.w H' s'.heap) (hg : AllBare s'.gens)
    (hch : ∀ b ∈ ch, (b ∈ X.ex ∨ X.s₀.heap.objs.size ≤ b) ∧ b ≠ X.env.locals ∧ (∀ x c, X.env.cells.lookup x = some c → c ≠ b) ∧ ∀ p ∈ X.pn ++ pins, p.1 ≠ b) : Inv X pins σ H' s' := by
  obtain ⟨h', g', d', t', o'⟩ := s'
  have e : o' = s.os := ho
  subst e
  exact I.call (g' := g') (t' := t') (d' := d') u hok hg hch
end

abbrev XK := Value → Option Addr → Hp → Prop
abbrev St := List (Option V)
abbrev VK := V → Hp → Prop
abbrev TE := St → Hp → VK → Prop
abbrev TT := St → Hp → (Bool → Hp → Prop) → Prop
abbrev TA := St → Hp → (List V → Hp → Prop) → Prop
structure Ends where
  nx : St → Hp → Prop
  rt : VK
  bk : St → Hp → Prop := fun _ _ => False
  ct : St → Hp → Prop := fun _ _ => False
abbrev TS := Ends → St → Hp → Prop

def EP (X : Cx) (pins : List (Addr × Obj)) (σ : St) (Q : VK) (u : Value) (s' : Shared) : Prop := ∃ v H', Inv X pins σ H' s' ∧ RelV v u ∧ Q v H'
def TP (X : Cx) (pins : List (Addr × Obj)) (σ : St) (Q : Bool → Hp → Prop) (b : Bool) (s' : Shared) : Prop := ∃ H', Inv X pins σ H' s' ∧ Q b H'
def AP (X : Cx) (pins : List (Addr × Obj)) (σ : St) (Q : List V → Hp → Prop) (us : List Value) (s' : Shared) : Prop := ∃ vs H', Inv X pins σ H' s' ∧ Vals vs us ∧ Q vs H'
def SP (X : Cx) (pins : List (Addr × Obj)) (D : Ends) (f : Flow) (s' : Shared) : Prop :=
  match f with
  | .next => ∃ σ' H', Inv X pins σ' H' s' ∧ D.nx σ' H'
  | .brk => ∃ σ' H', Inv X pins σ' H' s' ∧ D.bk σ' H'
  | .cont => ∃ σ' H', Inv X pins σ' H' s' ∧ D.ct σ' H'
  | .ret u => ∃ v σ' H', Inv X pins σ' H' s' ∧ RelV v u ∧ D.rt v H'

def PE (X : Cx) (e : Expr) (t : TE) : Prop :=
  ∀ (pins : List (Addr × Obj)) (s : Shared) (σ : St) (H : Hp) (Q : VK), Inv X pins σ H s → t σ H Q → wpAny (model X.prog X.w) X.A (eval e X.env) (EP X pins σ Q) X.xe s
def PT (X : Cx) (e : Expr) (t : TT) : Prop :=
  ∀ (pins : List (Addr × Obj)) (s : Shared) (σ : St) (H : Hp) (Q : Bool → Hp → Prop), Inv X pins σ H s → t σ H Q → wpAny (model X.prog X.w) X.A (isTrue e X.env (eval e X.env)) (TP X pins σ Q) X.xe s
def PW (X : Cx) (e : Expr) (t : TT) : Prop :=
  ∀ (whole : Sem Value) (pins : List (Addr × Obj)) (s : Shared) (σ : St) (H : Hp) (Q : Bool → Hp → Prop), Inv X pins σ H s → t σ H Q → wpAny (model X.prog X.w) X.A (isTrue e X.env whole) (TP X pins σ Q) X.xe s
theorem PW.pt {X : Cx} {e : Expr} {t : TT} (h : PW X e t) : PT X e t := h _
def PA (X : Cx) (es : List Expr) (t : TA) : Prop :=
  ∀ (pos : Pos) (pins : List (Addr × Obj)) (s : Shared) (σ : St) (H : Hp) (Q : List V → Hp → Prop), Inv X pins σ H s → t σ H Q → wpAny (model X.prog X.w) X.A (spliced (backTo pos (starEach es X.env))) (AP X pins σ Q) X.xe s
def PS (X : Cx) (st : Stmt) (t : TS) : Prop :=
  ∀ (pins : List (Addr × Obj)) (s : Shared) (σ : St) (H : Hp) (D : Ends), Inv X pins σ H s → t D σ H → wpAny (model X.prog X.w) X.A (exec st X.env) (SP X pins D) X.xe s
def PSs (X : Cx) (st : List Stmt) (t : TS) : Prop :=
  ∀ (pins : List (Addr × Obj)) (s : Shared) (σ : St) (H : Hp) (D : Ends), Inv X pins σ H s → t D σ H → wpAny (model X.prog X.w) X.A (execs st X.env) (SP X pins D) X.xe s
theorem thn {α : Type} {t : Sem α} {Q Q' : α → Shared → Prop} {M : Model} {A : Around} {E : Value → Shared → Prop} {s : Shared} (h : wpAny M A t Q E s) (hQ : ∀ a s, Q a s → Q' a s) : wpAny M A t Q' E s := wpAny_mono h hQ fun _ _ x => x
end L2

namespace L2
open PySem PySem.Spec PyProof.Rows
section
variable {X : Cx}

inductive TVar (i : Nat) (σ : St) (H : Hp) (Q : VK) : Prop
  | mk (v : V) (e : σ[i]? = some (some v)) (q : Q v H) : TVar i σ H Q
def tVar (i : Nat) : TE := TVar i
def tC (v : V) : TE := fun _ H Q => Q v H
theorem pe_var {i : Nat} {x : Str} {pos : Pos} (hN : X.N[i]? = some x) (hv : Vis X.env.scope x) (hd : (x == ("__debug__" : Str)) = false := by decide) (hcd : (x == ("__classdict__" : Str)) = false := by decide) : PE X (.Name x pos) (tVar i) := by
  intro pins s σ H Q I h
  obtain ⟨v, e, h⟩ := h
  obtain ⟨m, hn, hl⟩ := I.loc
  obtain ⟨u, r, l⟩ := hl i x v hN e hv
  have fin : EP X pins σ Q u s := ⟨v, H, I, r, h⟩
  rcases l with ⟨hk, hm⟩ | ⟨hk, c, hc, hcell⟩
  · exact wpAny_Name (wpAny_loadName_local I.ok.kind hk hn hm fin) hd
  · rcases hk with hk | hk
    · exact wpAny_Name (wpAny_loadName_cell I.ok.kind hk hc hcell fin) hd
    · exact wpAny_Name (wpAny_loadName_free I.ok.kind hk hc hcell fin hcd) hd
theorem pe_int {i j pos} : PE X (.Constant (.int i) j pos) (tC (.int i)) := fun _ _ _ H _ I h => wpAny_Constant_int ⟨.int i, H, I.tok _, ⟨_, rfl⟩, h⟩
theorem pe_bl {b j pos} : PE X (.Constant (.bool b) j pos) (tC (.bl b)) := fun _ _ _ H _ I h => Constant_bool ⟨.bl b, H, I, rfl, h⟩
theorem pe_str {x j pos} : PE X (.Constant (.str x) j pos) (tC (.str x)) := fun _ _ _ H _ I h => Calls.Constant_str ⟨.str x, H, I.tok _, ⟨_, rfl⟩, h⟩

def Gl (X : Cx) (x : Str) : Prop := X.env.kindOf x = some .globalImplicit
theorem ld_glob {E : Value → Shared → Prop} {pins : List (Addr × Obj)} {s : Shared} {σ : St} {H : Hp} {x : Str} {u : Value} {pos : Pos} {Q : Value → Shared → Prop} (I : Inv X pins σ H s) (hg : Gl X x) (hm : X.mg x = some u) (h : Q u s)
    (hd : (x == ("__debug__" : Str)) = false := by decide) : wpAny (model X.prog X.w) X.A (eval (.Name x pos) X.env) Q E s :=
  Calls.Name_function_global I.ok.kind hg (Calls.loadGlobal_global (by rw [I.ok.glob]; exact I.mod.glob.keeps I.bk) hm h) hd
theorem ld_blt {E : Value → Shared → Prop} {pins : List (Addr × Obj)} {s : Shared} {σ : St} {H : Hp} {x : Str} {u : Value} {pos : Pos} {Q : Value → Shared → Prop} (I : Inv X pins σ H s) (hg : Gl X x) (hm : X.mg x = none) (hv : bootBuiltins x = some u) (h : Q u s)
    (hn : x ≠ "__name__" := by decide) (hd : (x == ("__debug__" : Str)) = false := by decide) : wpAny (model X.prog X.w) X.A (eval (.Name x pos) X.env) Q E s := by
  obtain ⟨mb, h1, h2⟩ := I.mod.blt
  exact Calls.Name_function_global I.ok.kind hg (Calls.loadGlobal_builtin (by rw [I.ok.glob]; exact I.mod.glob.keeps I.bk) hm (by rw [I.ok.blt]; exact h1.keeps I.bk) ((h2 x hn).trans hv) h) hd
inductive OfBl (x : V) (H : Hp) (Q : Bool → Hp → Prop) : Prop
  | mk (c : Bool) (e : x = .bl c) (q : Q c H) : OfBl x H Q
inductive OfI (x : V) (H : Hp) (Q : Int → Hp → Prop) : Prop
  | mk (i : Int) (e : x = .int i) (q : Q i H) : OfI x H Q
inductive NewOb (n : Nat) (o : HO) (H : Hp) (Q : VK) : Prop
  | mk (l : n ≤ sizeLine) (q : ∀ p, H p = none → Q (.ref p) (upd H p o)) : NewOb n o H Q
variable {a b : Expr} {ta tb : TE} {pos : Pos}
def tB (t : TE) : TT := fun σ H Q => t σ H fun x H1 => OfBl x H1 Q
theorem pt_val {e : Expr} {t : TE} (h : PE X e t) (he : ∀ whole, isTrue e X.env whole = (do let v ← whole; standAt e.pos; holding [v] (truthy v)) := by intro _; rfl) : PT X e (tB t) := by
  intro pins s σ H Q I hw
  refine isTrue_plain (thn (h pins s σ H _ I hw) fun v s1 ⟨x, H1, I1, r1, q1⟩ => ?_) (he _)
  obtain ⟨d, rfl, q⟩ := q1
  cases r1
  exact wpAny_truthy_bool ⟨H1, I1, q⟩

variable {tA tB' : TT} {rest : List Expr}
def tAnd (t u : TT) : TT := fun σ H Q => t σ H fun c H1 => if c = true then u σ H1 Q else Q false H1
def tNot (t : TT) : TT := fun σ H Q => t σ H fun c H1 => Q (!c) H1
theorem pw_and1 (ha : PT X a tA) : PW X (.BoolOp .And [a] pos) tA := by
  intro wh pins s σ H Q I h
  refine isTrue_and (thn (ha pins s σ H Q I h) fun c s1 e => ?_)
  cases c with
  | true => exact isTrue_and_nil e
  | false => exact e
theorem pw_and (ha : PT X a tA) (hb : PW X (.BoolOp .And (b :: rest) pos) tB') : PW X (.BoolOp .And (a :: b :: rest) pos) (tAnd tA tB') := by
  intro wh pins s σ H Q I h
  refine isTrue_and (thn (ha pins s σ H _ I h) fun c s1 ⟨H1, I1, q1⟩ => ?_)
  cases c with
  | true => exact hb wh pins s1 σ H1 Q I1 q1
  | false => exact ⟨H1, I1, q1⟩
theorem pt_not (ha : PT X a tA) : PT X (.UnaryOp .Not a pos) (tNot tA) := by
  intro pins s σ H Q I h
  exact isTrue_not (ha pins s σ H (fun c H1 => Q (!c) H1) I h)
end
end L2

namespace L2
open PySem PySem.Spec PyProof.Rows

def SqL (K : PySem.W.Frag) (H : Hp) (a : Addr) (xs : List V) : Prop :=
  Rd H a (.lst xs) ∨
    ∃ (o : Obj) (its : Array Value) (n : Nat), K.lookup a = some o ∧ o.cls = .type "list" ∧ o.dict = none ∧ o.data = .seq its n ∧ its.size ≤ sizeLine ∧ Vals xs its.toList
def SqT (K : PySem.W.Frag) (H : Hp) (a : Addr) (xs : List V) : Prop :=
  Rd H a (.tup xs) ∨
    ∃ (o : Obj) (its : Array Value) (n : Nat), K.lookup a = some o ∧ o.cls = .type "tuple" ∧ o.data = .seq its n ∧ its.size ≤ sizeLine ∧ Vals xs its.toList
def absV : Value → Option V
  | .none => some .non
  | .bool b => some (.bl b)
  | .int i _ => some (.int i)
  | .str x _ => some (.str x)
  | .bytes b _ => some (.byt b)
  | .float b _ => some (.flt b)
  | .ref a => some (.ref a)
  | .type n => some (.ty n)
  | _ => none
theorem RelV.abs {x : V} {u : Value} (r : RelV x u) : absV u = some x := by
  cases x with
  | non => cases r; rfl
  | bl _ => cases r; rfl
  | int _ => obtain ⟨t, rfl⟩ := r; rfl
  | str _ => obtain ⟨t, rfl⟩ := r; rfl
  | byt _ => obtain ⟨t, rfl⟩ := r; rfl
  | flt _ => obtain ⟨t, rfl⟩ := r; rfl
  | ref _ => cases r; rfl
  | ty _ => cases r; rfl
theorem RelV.inj {x y : V} {u : Value} (r : RelV x u) (q : RelV y u) : x = y := Option.some.inj (r.abs.symm.trans q.abs)
theorem Vals.inj : ∀ {xs ys : List V} {us : List Value}, Vals xs us → Vals ys us → xs = ys
  | _, _, _, .nil, .nil => rfl
  | _, _, _, .cons r t, .cons r' t' => by rw [r.inj r', Vals.inj t t']
section
variable {X : Cx} {pins : List (Addr × Obj)} {σ : St} {H : Hp} {s : Shared} {a : Addr} {xs ys : List V}
theorem SqL.of {K : PySem.W.Frag} (h : H a = some (.lst xs)) : SqL K H a xs := .inl (.inl h)
theorem SqT.of {K : PySem.W.Frag} (h : H a = some (.tup xs)) : SqT K H a xs := .inl (.inl h)
theorem Inv.list (I : Inv X pins σ H s) (h : SqL X.K H a xs) : ∃ its : List Value, Vals xs its ∧ PlainL s.heap a its.toArray ∧ xs.length ≤ sizeLine := by
  rcases h with h | ⟨o, its, n, hk, hc, hd, hs, hz, r⟩
  · obtain ⟨z, its, n, r, e⟩ := h.ok I.hok
    exact ⟨its, r, ⟨_, n, e, rfl, rfl, rfl⟩, z⟩
  · refine ⟨its.toList, r, ⟨o, n, I.kIn a o hk, hc, hd, by simpa using hs⟩, ?_⟩
    have e := r.length
    simp only [Array.length_toList] at e
    (first | lia | omega)
theorem Inv.tuple (I : Inv X pins σ H s) (h : SqT X.K H a xs) : ∃ its : List Value, Vals xs its ∧ IsTup s.heap a its.toArray ∧ xs.length ≤ sizeLine := by
  rcases h with h | ⟨o, its, n, hk, hc, hs, hz, r⟩
  · obtain ⟨z, its, r, p⟩ := h.ok I.hok
    exact ⟨its, r, p.tup, z⟩
  · refine ⟨its.toList, r, ⟨o, I.kIn a o hk, hc, n, by simpa using hs⟩, ?_⟩
    have e := r.length
    simp only [Array.length_toList] at e
    (first | lia | omega)
theorem Inv.list_inj (I : Inv X pins σ H s) (h : SqL X.K H a xs) (h' : SqL X.K H a ys) : xs = ys := by
  obtain ⟨its, r, ⟨o, n, e, _, _, d⟩, _⟩ := I.list h
  obtain ⟨its', r', ⟨o', n', e', _, _, d'⟩, _⟩ := I.list h'
  rw [e] at e'; cases e'
  rw [d] at d'
  injection d' with d1 _
  have : its = its' := by simpa using congrArg Array.toList d1
  subst this
  exact r.inj r'
theorem Inv.tuple_inj (I : Inv X pins σ H s) (h : SqT X.K H a xs) (h' : SqT X.K H a ys) : xs = ys := by
  obtain ⟨its, r, ⟨o, e, _, n, d⟩, _⟩ := I.tuple h
  obtain ⟨its', r', ⟨o', e', _, n', d'⟩, _⟩ := I.tuple h'
  rw [e] at e'; cases e'
  rw [d] at d'
  injection d' with d1 _
  have : its = its' := by simpa using congrArg Array.toList d1
  subst this
  exact r.inj r'
end

abbrev Cx.wish (X : Cx) (E : Value → Shared → Prop) : Cx := { X with xe := E }
abbrev Cx.nox (X : Cx) : Cx := X.wish fun _ _ => False
theorem Cx.Ok.wish {X : Cx} (ok : X.Ok) (E : Value → Shared → Prop) : (X.wish E).Ok :=
  ⟨ok.mod, ok.kind, ok.glob, ok.blt, ok.above, ok.inj, ok.has, ok.cab, ok.hd, ok.frames, ok.stk, ok.exf, ok.bs, ok.bsz, ok.noex, ok.exfs, ok.funs, ok.frf⟩
theorem Cx.Ok.unwish {X : Cx} {E : Value → Shared → Prop} (ok : (X.wish E).Ok) : X.Ok :=
  ⟨ok.mod, ok.kind, ok.glob, ok.blt, ok.above, ok.inj, ok.has, ok.cab, ok.hd, ok.frames, ok.stk, ok.exf, ok.bs, ok.bsz, ok.noex, ok.exfs, ok.funs, ok.frf⟩
section
variable {X : Cx} {pins : List (Addr × Obj)} {σ : St} {H : Hp} {s : Shared} {E : Value → Shared → Prop}
theorem Inv.wish (I : Inv X pins σ H s) (E : Value → Shared → Prop) : Inv (X.wish E) pins σ H s := ⟨I.ok.wish E, I.os, I.bare, I.base, I.loc, I.cell, I.free, I.freeC, I.pin, I.hok, I.len⟩
theorem Inv.unwish (I : Inv (X.wish E) pins σ H s) : Inv X pins σ H s := ⟨I.ok.unwish, I.os, I.bare, I.base, I.loc, I.cell, I.free, I.freeC, I.pin, I.hok, I.len⟩
theorem SP.unwish {D : Ends} {f : Flow} {s' : Shared} (h : SP (X.wish E) pins D f s') : SP X pins D f s' := by
  cases f with
  | next => obtain ⟨σ', H', I, q⟩ := h; exact ⟨σ', H', I.unwish, q⟩
  | brk => obtain ⟨σ', H', I, q⟩ := h; exact ⟨σ', H', I.unwish, q⟩
  | cont => obtain ⟨σ', H', I, q⟩ := h; exact ⟨σ', H', I.unwish, q⟩
  | ret u => obtain ⟨v, σ', H', I, r, q⟩ := h; exact ⟨v, σ', H', I.unwish, r, q⟩
theorem PSs.nox {st : List Stmt} {t : TS} (h : PSs X.nox st t) : PSs X st t := fun pins s σ H D I hw =>
  wpAny_mono (h pins s σ H D (I.wish _) hw) (fun _ _ q => q.unwish) fun _ _ z => False.elim z
end

section
variable {X : Cx} {st : Stmt} {rest : List Stmt} {t u : TS} {e : Expr} {te : TE} {pos : Pos}
def tNext : TS := fun D σ H => D.nx σ H
def tSeq (t u : TS) : TS := fun D σ H => t { D with nx := u D } σ H
theorem pss_nil : PSs X [] tNext := fun _ _ σ H _ I h => wpAny_execs_nil ⟨σ, H, I, h⟩
theorem pss_cons (h1 : PS X st t) (h2 : PSs X rest u) : PSs X (st :: rest) (tSeq t u) := by
  intro pins s σ H D I h
  refine wpAny_execs_cons (thn (h1 pins s σ H { D with nx := u D } I h) fun f s1 q => ?_)
  cases f with
  | next =>
    obtain ⟨σ', H', I', q⟩ := q
    exact h2 pins s1 σ' H' D I' q
  | ret v => exact q
  | brk => exact q
  | cont => exact q
theorem pss_one (h1 : PS X st t) : PSs X [st] t := by
  intro pins s σ H D I h
  refine wpAny_execs_cons (thn (h1 pins s σ H D I h) fun f s1 q => ?_)
  cases f with
  | next => exact wpAny_execs_nil q
  | ret v => exact q
  | brk => exact q
  | cont => exact q
theorem Inv.quiet {pins : List (Addr × Obj)} {σ : St} {H : Hp} {s : Shared} (I : Inv X pins σ H s) : interactive X.env = false := by simp [interactive, I.ok.kind]
def tDrop (te : TE) : TS := fun D σ H => te σ H fun _ H1 => D.nx σ H1
theorem ps_expr (he : PE X e te) (hs : swapsWith e none pos.line X.env = pure false := by rfl) : PS X (.Expr e pos) (tDrop te) := by
  intro pins s σ H D I h
  exact wpAny_Expr_any (thn (he pins s σ H _ I h) fun v s1 ⟨x, H1, I1, r1, q1⟩ => ⟨σ, H1, I1, q1⟩) I.quiet hs
def tRet (te : TE) : TS := fun D σ H => te σ H D.rt
theorem ps_ret (he : PE X e te) : PS X (.Return (some e) pos) (tRet te) := by
  intro pins s σ H D I h
  exact wpAny_Return_some (thn (he pins s σ H _ I h) fun v s1 ⟨x, H1, I1, r1, q1⟩ => ⟨x, σ, H1, I1, r1, q1⟩)
def tIfS (c : TT) (t u : TS) : TS := fun D σ H => c σ H fun b H1 => if b = true then t D σ H1 else u D σ H1
theorem ps_if {c : Expr} {a b : List Stmt} {tc : TT} (hc : PT X c tc) (ha : PSs X a t) (hb : PSs X b u) : PS X (.If c a b pos) (tIfS tc t u) := by
  intro pins s σ H D I h
  refine wpAny_If (thn (hc pins s σ H _ I h) fun d s1 ⟨H1, I1, q1⟩ => ?_)
  cases d with
  | true => exact ha pins s1 σ H1 D I1 q1
  | false => exact hb pins s1 σ H1 D I1 q1
end

abbrev TG := V → St → Hp → (St → Hp → Prop) → Prop
abbrev TGs := List V → St → Hp → (St → Hp → Prop) → Prop
def PG (X : Cx) (target : Expr) (t : TG) : Prop :=
  ∀ (pins : List (Addr × Obj)) (s : Shared) (σ : St) (H : Hp) (v : V) (u : Value) (Q : St → Hp → Prop), Inv X pins σ H s → RelV v u → t v σ H Q →
    wpAny (model X.prog X.w) X.A (assign target X.env u) (fun _ s' => ∃ σ' H', Inv X pins σ' H' s' ∧ Q σ' H') X.xe s
def PGs (X : Cx) (ts : List Expr) (t : TGs) : Prop :=
  ∀ (pins : List (Addr × Obj)) (s : Shared) (σ : St) (H : Hp) (vs : List V) (us : List Value) (Q : St → Hp → Prop), Inv X pins σ H s → Vals vs us → t vs σ H Q →
    wpAny (model X.prog X.w) X.A (assignInOrder ((assignEach ts X.env).map (·.2)) us) (fun _ s' => ∃ σ' H', Inv X pins σ' H' s' ∧ Q σ' H') X.xe s
abbrev TSet := V → V → V → Hp → (Hp → Prop) → Prop
def PSet (X : Cx) (t : TSet) : Prop :=
  ∀ (pins : List (Addr × Obj)) (s : Shared) (σ : St) (H : Hp) (o i v : V) (ov iv u : Value) (Q : Hp → Prop), Inv X pins σ H s → RelV o ov → RelV i iv → RelV v u → t o i v H Q →
    wpAny (model X.prog X.w) X.A (setItem ov iv u) (fun _ s' => ∃ H', Inv X pins σ H' s' ∧ Q H') X.xe s
section
variable {X : Cx} {pos : Pos}
def gName (i : Nat) : TG := fun v σ H Q => Q (σ.set i (some v)) H
theorem pg_name {i : Nat} {x : Str} (hN : X.N.Nodup) (hi : X.N[i]? = some x) (hx : Loc X.env.scope x) (hf : X.fn x = true ∨ X.env.scope.names.lookup x = some .local := by first | exact .inl rfl | exact .inr rfl | assumption) : PG X (.Name x pos) (gName i) := by
  intro pins s σ H v u Q I r h
  exact wpAny_assign_Name (store_ok I hN hi hx r (fun s' I' => ⟨_, H, I', h⟩) hf)
def gNil : TGs := fun vs σ H Q => vs = [] ∧ Q σ H
def gCons (t : TG) (u : TGs) : TGs := fun vs σ H Q => ∃ v r, vs = v :: r ∧ t v σ H fun σ' H' => u r σ' H' Q
theorem pgs_nil : PGs X [] gNil := by
  intro pins s σ H vs us Q I r h
  obtain ⟨e, h⟩ := h
  subst e
  cases r
  exact assignInOrder_nil ⟨σ, H, I, h⟩
theorem pgs_cons {e : Expr} {es : List Expr} {t : TG} {u : TGs} (h1 : PG X e t) (h2 : PGs X es u)
    (hs : (assignEach (e :: es) X.env).map (·.2) = assign e X.env :: (assignEach es X.env).map (·.2) := by rfl) : PGs X (e :: es) (gCons t u) := by
  intro pins s σ H vs us Q I r h
  obtain ⟨v, vr, e1, h⟩ := h
  subst e1
  cases r with
  | cons r rr =>
    rw [hs]
    refine assignInOrder_cons (thn (h1 pins s σ H _ _ _ I r h) fun _ s1 ⟨σ1, H1, I1, q1⟩ => ?_)
    exact h2 pins s1 σ1 H1 _ _ Q I1 rr q1
def gTup (K : PySem.W.Frag) (n : Nat) (t : TGs) : TG := fun v σ H Q => ∃ a xs, v = .ref a ∧ SqT K H a xs ∧ xs.length = n ∧ t xs σ H Q
theorem pg_tup {es : List Expr} {k : Nat} {t : TGs} {n : Nat} (hc : X.calm = true) (h : PGs X es t)
    (hn : (assignEach es X.env).length = n := by rfl) (hst : (assignEach es X.env).findIdx? (·.1) = none := by rfl) : PG X (.Tuple es k pos) (gTup X.K n t) := by
  intro pins s σ H v u Q I r hw
  obtain ⟨a, xs, e1, hq, hl, hw⟩ := hw
  subst e1
  cases r
  obtain ⟨its, rv, ht, hz⟩ := I.tuple hq
  refine assign_Tuple_tuple (I.ok.hd hc) ht (by simp [hn, ← hl, rv.length]) hst fun h' hx => ?_
  have I1 : Inv X pins σ H { s with heap := h' } := I.kept (t' := s.toks) fun b o e => hx b o (Nat.ne_of_lt (Heap.lt_size e)) e
  exact h pins _ σ H xs _ Q I1 (by simpa using rv) hw
def gSub (to ti : TE) (t : TSet) : TG := fun v σ H Q => to σ H fun o H1 => ti σ H1 fun i H2 => t o i v H2 fun H3 => Q σ H3
theorem pg_sub {o i : Expr} {to ti : TE} {t : TSet} (ho : PE X o to) (hi : PE X i ti) (hs : PSet X t)
    (ha : ∀ v, assign (.Subscript o i pos) X.env v = (do
      let ov ← holding [v] (eval o X.env)
      let iv ← holding [v, ov] (eval i X.env)
      standAt pos
      holding [v, ov, iv] (setItem ov iv v)
      release [v, ov, iv] []) := by intro _; rfl) : PG X (.Subscript o i pos) (gSub to ti t) := by
  intro pins s σ H v u Q I r h
  rw [ha]
  refine wpAny_bind (wpAny_holding (thn (ho pins s σ H _ I h) fun ov s1 ⟨x, H1, I1, r1, q1⟩ => ?_))
  refine wpAny_bind (wpAny_holding (thn (hi pins s1 σ H1 _ I1 q1) fun iv s2 ⟨y, H2, I2, r2, q2⟩ => ?_))
  refine wpAny_bind (wpAny_standAt (wpAny_bind (wpAny_holding (thn (hs pins s2 σ H2 x y v ov iv u _ I2 r1 r2 r q2) fun _ s3 ⟨H3, I3, q3⟩ => ?_))))
  exact wpAny_release ⟨σ, H3, I3, q3⟩
def tAsg (te : TE) (g : TG) : TS := fun D σ H => te σ H fun x H1 => g x σ H1 D.nx
theorem ps_asg {tg e : Expr} {te : TE} {g : TG} (he : PE X e te) (hg : PG X tg g) (hs : swapsWithSole [tg] e pos.line X.env = pure false := by rfl) (hw : swappedStores [tg] e X.env = pure none := by rfl)
    (h1 : (assignEach [tg] X.env).map (·.2) = [assign tg X.env] := by rfl) : PS X (.Assign [tg] e pos) (tAsg te g) := by
  intro pins s σ H D I h
  refine wpAny_Assign_stores (thn (he pins s σ H _ I h) fun v s1 ⟨x, H1, I1, r1, q1⟩ => ?_) hs hw
  rw [h1]
  exact thn (hg pins s1 σ H1 x v _ I1 r1 q1) fun _ s2 q => q
theorem ps_set {i : Nat} {x : Str} {e : Expr} {te : TE} {pos' : Pos} (hN : X.N.Nodup) (hi : X.N[i]? = some x) (hx : Loc X.env.scope x) (he : PE X e te) (hs : swapsWith e (some (.Name x pos')) pos.line X.env = pure false := by rfl) (hf : X.fn x = true ∨ X.env.scope.names.lookup x = some .local := by first | exact .inl rfl | exact .inr rfl | assumption) :
    PS X (.Assign [.Name x pos'] e pos) (tAsg te (gName i)) := by
  intro pins s σ H D I h
  refine wpAny_Assign_Name (thn (he pins s σ H _ I h) fun v s1 ⟨y, H1, I1, r1, q1⟩ => ?_) hs
  exact store_ok I1 hN hi hx r1 (fun s2 I2 => ⟨_, H1, I2, q1⟩) hf
end

section
variable {X : Cx} {pos : Pos}
def tWhile (c : TT) (tb : TS) : TS := fun D σ H => ∃ W : Nat → St → Hp → Prop, (∃ m, W m σ H) ∧ ∀ m σ H, W m σ H →
  c σ H fun b H1 => if b = true then ∃ N : St → Hp → Prop, (∀ σ' H', N σ' H' → ∃ m', m' < m ∧ W m' σ' H') ∧ tb { D with nx := N, ct := N, bk := D.nx } σ H1 else D.nx σ H1
theorem ps_while {c : Expr} {body : List Stmt} {tc : TT} {tb : TS} (hp : PassesOwn (model X.prog X.w) X.A X.env X.xe) (hc : PT X c tc) (hb : PSs X body tb) : PS X (.While c body [] pos) (tWhile tc tb) := by
  intro pins s σ H D I h
  obtain ⟨W, ⟨m0, w0⟩, turn⟩ := h
  refine wpAny_While (codeAny_whileLoop (fun n s' => ∃ σ' H', Inv X pins σ' H' s' ∧ W n σ' H') ?_ m0 ⟨σ, H, I, w0⟩)
  rintro n s1 ⟨σ1, H1, I1, w1⟩
  refine wpAny_passesOwn hp (thn (hc pins s1 σ1 H1 _ I1 (turn n σ1 H1 w1)) fun b s2 ⟨H2, I2, q2⟩ => ?_)
  cases b with
  | true =>
    obtain ⟨N, hN, q2⟩ := q2
    rw [if_pos rfl]
    refine wpAny_passesOwn hp (thn (hb pins s2 σ1 H2 _ I2 q2) fun f s3 q3 => ?_)
    cases f with
    | next =>
      obtain ⟨σ3, H3, I3, n3⟩ := q3
      obtain ⟨m', hm, w3⟩ := hN σ3 H3 n3
      exact ⟨m', hm, σ3, H3, I3, w3⟩
    | cont =>
      obtain ⟨σ3, H3, I3, n3⟩ := q3
      obtain ⟨m', hm, w3⟩ := hN σ3 H3 n3
      exact ⟨m', hm, σ3, H3, I3, w3⟩
    | brk => exact q3
    | ret v => exact q3
  | false =>
    rw [if_neg Bool.false_ne_true]
    exact wpAny_execs_nil ⟨σ1, H2, I2, q2⟩
end

structure It where
  go : Nat → Hp → Prop
  yld : Nat → Hp → V → Hp → Prop
  stop : Nat → Hp → Prop
def FpOk (X : Cx) (pins : List (Addr × Obj)) (H : Hp) (b : Addr) : Prop :=
  H b = none ∧ b ≠ X.env.locals ∧ b ∉ X.fs ∧ (b ∈ X.ex ∨ X.s₀.heap.objs.size ≤ b) ∧ (∀ x c, X.env.cells.lookup x = some c → c ≠ b) ∧ ∀ p ∈ X.pn ++ pins, p.1 ≠ b
theorem Inv.fpOk {X : Cx} {pins : List (Addr × Obj)} {σ : St} {H H' : Hp} {s : Shared} {b : Addr} (I : Inv X pins σ H s) (hb : s.heap.objs.size ≤ b) (hn : H' b = none) : FpOk X pins H' b := by
  refine ⟨hn, Nat.ne_of_gt (Nat.lt_of_lt_of_le I.lt hb), I.nofs hb, .inr (Nat.le_trans I.sz hb), fun x c e z => ?_, fun p hp z => ?_⟩
  · obtain ⟨v, q⟩ := I.cell x c e
    exact absurd (Nat.lt_of_lt_of_le q.lt (by rw [z]; exact hb)) (Nat.lt_irrefl _)
  · exact absurd (Nat.lt_of_lt_of_le (Heap.lt_size (I.pin p hp).1) (by rw [z]; exact hb)) (Nat.lt_irrefl _)
structure Turn (P : Program) (w : World) (K : PySem.W.Frag) (tg : Expr) (J : It) (fp : List Addr) (it : Addr) (tn : Nat → Heap → Prop) : Prop where
  mem : it ∈ fp
  obj : ∀ i h, tn i h → ∀ b ∈ fp, ∃ o, h.get? b = some o ∧ ∀ v, o.data ≠ .cell v
  keep : ∀ i h h', tn i h → (∀ b ∈ fp, ∀ o, h.get? b = some o → h'.get? b = some o) → tn i h'
  item : ∀ (X : Cx), X.prog = P → X.w = w → X.K = K → X.calm = true → ∀ (i : Nat) (pins : List (Addr × Obj)) (s : Shared) (σ : St) (H : Hp) (E : Value → Shared → Prop), Inv X pins σ H s → (∀ b ∈ fp, FpOk X pins H b) → tn i s.heap → J.go i H →
    wpAny (model P w) X.A (pyNext (.ref it)) (fun r s1 => ∃ u, r = some u ∧
      wpAny (model P w) X.A (letOwnedTupleGo tg (.ref it) u) (fun _ s2 => ∃ x H', Inv X pins σ H' s2 ∧ RelV x u ∧ J.yld i H x H' ∧ tn (i + 1) s2.heap ∧ ∀ b ∈ fp, H' b = none) E s1) E s
  done : ∀ (X : Cx), X.prog = P → X.w = w → X.K = K → X.calm = true → ∀ (i : Nat) (pins : List (Addr × Obj)) (s : Shared) (σ : St) (H : Hp) (E : Value → Shared → Prop), Inv X pins σ H s → (∀ b ∈ fp, FpOk X pins H b) → tn i s.heap → J.stop i H →
    wpAny (model P w) X.A (pyNext (.ref it)) (fun r s1 => r = none ∧ Inv X pins σ H s1) E s
  self : ∀ (A : Around) (i : Nat) (s : Shared) (Q : Value → Shared → Prop) (E : Value → Shared → Prop), tn i s.heap → Q (.ref it) s → wpAny (model P w) A (pyIter (.ref it)) Q E s
abbrev TI := St → Hp → (It → Hp → Prop) → Prop
def PIE (X : Cx) (pins : List (Addr × Obj)) (σ : St) (tg : Expr) (R : It → Hp → Prop) (itv : Value) (s2 : Shared) : Prop :=
  ∃ (it : Addr) (fp : List Addr) (tn : Nat → Heap → Prop) (J : It) (H' : Hp), itv = .ref it ∧ Inv X pins σ H' s2 ∧ Turn X.prog X.w X.K tg J fp it tn ∧ tn 0 s2.heap ∧ (∀ b ∈ fp, FpOk X pins H' b) ∧ R J H'
def PI (X : Cx) (tg iter : Expr) (wi : TI) : Prop :=
  ∀ (pins : List (Addr × Obj)) (s : Shared) (σ : St) (H : Hp) (R : It → Hp → Prop), Inv X pins σ H s → wi σ H R →
    wpAny (model X.prog X.w) X.A (eval iter X.env) (fun v s1 => wpAny (model X.prog X.w) X.A (pyIter v) (PIE X pins σ tg R) X.xe s1) X.xe s

theorem go_of {M : Model} {A : Around} {E : Value → Shared → Prop} {s : Shared} {tg : Expr} {it : Addr} {u : Value} {o : Obj} {n : String} {vs : Array Value} {Q : Unit → Shared → Prop} (ho : s.heap.get? it = some o) (hc : o.cls = .type n) (hd : o.data = .fields vs)
    (hn : ["enumerate", "zip", "dict_itemiterator", "dict_reverseitemiterator", "odict_iterator", "itertools.zip_longest", "itertools.pairwise"].contains n = false) (hQ : Q () s) : wpAny M A (letOwnedTupleGo tg (.ref it) u) Q E s := by
  unfold letOwnedTupleGo
  cases tg <;> first
    | exact wpAny_pure hQ
    | (cases u <;> first
        | exact wpAny_pure hQ
        | (refine wpAny_bind (wpAny_load ho ?_)
           rw [hc, hd]
           show wpAny M A (if (["enumerate", "zip", "dict_itemiterator", "dict_reverseitemiterator", "odict_iterator", "itertools.zip_longest", "itertools.pairwise"].contains n && vs[0]? == some (rawInt _)) = true then _ else _) Q E s
           rw [if_neg (by intro h; rw [hn, Bool.false_and] at h; cases h)]
           exact wpAny_pure hQ))

def Itl (K : PySem.W.Frag) (a : Addr) : It :=
  ⟨fun i H => ∃ xs x, SqL K H a xs ∧ xs[i]? = some x, fun i H x H' => H' = H ∧ ∀ xs, SqL K H a xs → xs[i]? = some x, fun i H => ∃ xs, SqL K H a xs ∧ xs.length ≤ i⟩
def Itt (K : PySem.W.Frag) (a : Addr) : It :=
  ⟨fun i H => ∃ xs x, SqT K H a xs ∧ xs[i]? = some x, fun i H x H' => H' = H ∧ ∀ xs, SqT K H a xs → xs[i]? = some x, fun i H => ∃ xs, SqT K H a xs ∧ xs.length ≤ i⟩
def Itr (lo : Int) (n : Nat) : It := ⟨fun i _ => i < n, fun i H x H' => H' = H ∧ x = .int (lo + i), fun i _ => n ≤ i⟩
theorem turn_list {P : Program} {w : World} {K : PySem.W.Frag} {tg : Expr} (a it : Addr) : Turn P w K tg (Itl K a) [it] it (fun i h => h.IsListIter it a i) where
  mem := by simp
  obj := fun i h st b hb => by
    have e : b = it := by simpa using hb
    subst e
    obtain ⟨o, e, c, d⟩ := st
    exact ⟨o, e, fun v z => by rw [d] at z; cases z⟩
  keep := fun i h h' st k => st.at fun o e => k it (by simp) o e
  item := by
    intro X hP hw hK hc i pins s σ H E I hf st hg
    subst hP hw hK
    obtain ⟨xs, x, hq, hx⟩ := hg
    obtain ⟨its, rv, p, hz⟩ := I.list hq
    obtain ⟨u, hu, ru⟩ := rv.get hx
    obtain ⟨f0, f1, f2, f3, f4, f5⟩ := hf it (by simp)
    refine wpAny_pyNext_list_item st p.isList (x := u) (by simpa using hu) fun h' st' sb => ?_
    have I1 : Inv X pins σ H { s with heap := h' } := I.turned (t' := s.toks) (fun b o hb e => (sb.2 b hb).trans e) f0 f1 f3 f4 f5
    obtain ⟨o, e, c, d⟩ := id st'
    exact ⟨u, rfl, go_of (s := { s with heap := h' }) e c d (by decide) ⟨x, H, I1, ru, ⟨rfl, fun ys hy => by rw [I.list_inj hy hq]; exact hx⟩, st', fun b hb => (hf b hb).1⟩⟩
  done := by
    intro X hP hw hK hc i pins s σ H E I hf st hg
    subst hP hw hK
    obtain ⟨xs, hq, hx⟩ := hg
    obtain ⟨its, rv, p, hz⟩ := I.list hq
    obtain ⟨f0, f1, f2, f3, f4, f5⟩ := hf it (by simp)
    have hl := rv.length
    exact wpAny_pyNext_list_end (I.ok.hd hc) st p.isList (by simp; (first | lia | omega)) fun h' eb => ⟨rfl, I.turned (t' := s.toks) (fun b o hb e => eb b o hb e) f0 f1 f3 f4 f5⟩
  self := fun _ _ _ _ _ st h => wpAny_pyIter_listiter st h
theorem turn_tuple {P : Program} {w : World} {K : PySem.W.Frag} {tg : Expr} (a it : Addr) : Turn P w K tg (Itt K a) [it] it (fun i h => h.IsTupleIter it a i) where
  mem := by simp
  obj := fun i h st b hb => by
    have e : b = it := by simpa using hb
    subst e
    obtain ⟨o, e, c, d⟩ := st
    exact ⟨o, e, fun v z => by rw [d] at z; cases z⟩
  keep := fun i h h' st k => st.at fun o e => k it (by simp) o e
  item := by
    intro X hP hw hK hc i pins s σ H E I hf st hg
    subst hP hw hK
    obtain ⟨xs, x, hq, hx⟩ := hg
    obtain ⟨its, rv, p, hz⟩ := I.tuple hq
    obtain ⟨u, hu, ru⟩ := rv.get hx
    obtain ⟨f0, f1, f2, f3, f4, f5⟩ := hf it (by simp)
    refine wpAny_pyNext_tuple_item st (show s.heap.IsTuple a its.toArray from p) (x := u) (by simpa using hu) fun h' st' sb => ?_
    have I1 : Inv X pins σ H { s with heap := h' } := I.turned (t' := s.toks) (fun b o hb e => (sb.2 b hb).trans e) f0 f1 f3 f4 f5
    obtain ⟨o, e, c, d⟩ := id st'
    exact ⟨u, rfl, go_of (s := { s with heap := h' }) e c d (by decide) ⟨x, H, I1, ru, ⟨rfl, fun ys hy => by rw [I.tuple_inj hy hq]; exact hx⟩, st', fun b hb => (hf b hb).1⟩⟩
  done := by
    intro X hP hw hK hc i pins s σ H E I hf st hg
    subst hP hw hK
    obtain ⟨xs, hq, hx⟩ := hg
    obtain ⟨its, rv, p, hz⟩ := I.tuple hq
    obtain ⟨f0, f1, f2, f3, f4, f5⟩ := hf it (by simp)
    have hl := rv.length
    exact wpAny_pyNext_tuple_end (I.ok.hd hc) st (show s.heap.IsTuple a its.toArray from p) (by simp; (first | lia | omega)) fun h' eb => ⟨rfl, I.turned (t' := s.toks) (fun b o hb e => eb b o hb e) f0 f1 f3 f4 f5⟩
  self := fun _ _ _ _ _ st h => wpAny_pyIter_tupleiter st h
theorem turn_range {P : Program} {w : World} {K : PySem.W.Frag} {tg : Expr} (it : Addr) (lo : Int) (n : Nat) : Turn P w K tg (Itr lo n) [it] it (fun i h => IsRangeIter h it (lo + (i : Nat) * 1) ((n : Int) - (i : Nat)) 1) where
  mem := by simp
  obj := fun i h st b hb => by
    have e : b = it := by simpa using hb
    subst e
    exact ⟨_, st, fun v z => by
      have z' : Data.fields _ = Data.cell v := z
      cases z'⟩
  keep := fun i h h' st k => k it (by simp) _ st
  item := by
    intro X hP hw hK hc i pins s σ H E I hf st hg
    subst hP hw hK
    obtain ⟨f0, f1, f2, f3, f4, f5⟩ := hf it (by simp)
    have W := Walks.range (prog := X.prog) (w := X.w) (I.ok.hd hc) it lo 1 n
    refine W.item i s _ _ hg st fun v h' tk hv st' kk => ?_
    obtain ⟨t, rfl⟩ := hv
    have I1 : Inv X pins σ H { s with heap := h', toks := tk } := I.turned (fun b o hb e => kk b o (by simpa using hb) e) f0 f1 f3 f4 f5
    refine ⟨_, rfl, go_of (s := { s with heap := h', toks := tk }) (n := "range_iterator") st' rfl rfl (by decide) ⟨.int (lo + i), H, I1, ⟨t, ?_⟩, ⟨rfl, rfl⟩, st', fun b hb => (hf b hb).1⟩⟩
    rw [Int.mul_one]
  done := by
    intro X hP hw hK hc i pins s σ H E I hf st hg
    subst hP hw hK
    obtain ⟨f0, f1, f2, f3, f4, f5⟩ := hf it (by simp)
    exact wpAny_pyNext_range_end (I.ok.hd hc) st (by have : n ≤ i := hg; (first | lia | omega)) fun h' eb => ⟨rfl, I.turned (t' := s.toks) (fun b o hb e => eb b o hb e) f0 f1 f3 f4 f5⟩
  self := fun _ _ _ _ _ st h => wpAny_pyIter_rangeiter st h
end L2

namespace L2
open PySem PySem.Spec PyProof.Rows
section
variable {X : Cx} {tg : Expr}
def iList (K : PySem.W.Frag) (tl : TE) : TI := fun σ H R => tl σ H fun x H1 => ∃ a, x = .ref a ∧ (∃ xs, SqL K H1 a xs) ∧ R (Itl K a) H1
def iTup (K : PySem.W.Frag) (tl : TE) : TI := fun σ H R => tl σ H fun x H1 => ∃ a, x = .ref a ∧ (∃ xs, SqT K H1 a xs) ∧ R (Itt K a) H1
theorem pi_list {l : Expr} {tl : TE} (hl : PE X l tl) : PI X tg l (iList X.K tl) := by
  intro pins s σ H R I h
  refine thn (hl pins s σ H _ I h) fun v s1 ⟨x, H1, I1, r1, q1⟩ => ?_
  obtain ⟨a, e, ⟨xs, hq⟩, q⟩ := q1
  subst e
  cases r1
  obtain ⟨its, rv, p, hz⟩ := I1.list hq
  refine wpAny_pyIter_list p.isList ?_
  refine ⟨s1.heap.objs.size, [s1.heap.objs.size], _, _, H1, rfl, I1.kept (t' := s1.toks) fun b o e => Heap.get?_push_of_some _ e, turn_list a _, ⟨_, Heap.get?_push_size _ rfl, rfl, rfl⟩, fun b hb => ?_, q⟩
  have e : b = s1.heap.objs.size := by simpa using hb
  subst e
  exact I1.fpOk (Nat.le_refl _) (I1.hok.fresh (Nat.le_refl _))
theorem pi_tup {l : Expr} {tl : TE} (hl : PE X l tl) : PI X tg l (iTup X.K tl) := by
  intro pins s σ H R I h
  refine thn (hl pins s σ H _ I h) fun v s1 ⟨x, H1, I1, r1, q1⟩ => ?_
  obtain ⟨a, e, ⟨xs, hq⟩, q⟩ := q1
  subst e
  cases r1
  obtain ⟨its, rv, p, hz⟩ := I1.tuple hq
  refine wpAny_pyIter_tuple (show s1.heap.IsTuple a its.toArray from p) ?_
  refine ⟨s1.heap.objs.size, [s1.heap.objs.size], _, _, H1, rfl, I1.kept (t' := s1.toks) fun b o e => Heap.get?_push_of_some _ e, turn_tuple a _, ⟨_, Heap.get?_push_size _ rfl, rfl, rfl⟩, fun b hb => ?_, q⟩
  have e : b = s1.heap.objs.size := by simpa using hb
  subst e
  exact I1.fpOk (Nat.le_refl _) (I1.hok.fresh (Nat.le_refl _))
theorem range_it {pins : List (Addr × Obj)} {σ : St} {H : Hp} {s : Shared} {R : It → Hp → Prop} {E : Value → Shared → Prop} {lo hi : Int} {t u v : Tok} {tk : Nat} (I : Inv X pins σ H s) (h1 : -(2 ^ 62) ≤ lo) (h2 : lo < 2 ^ 62) (h3 : -(2 ^ 62) ≤ hi) (h4 : hi < 2 ^ 62)
    (q : R (Itr lo (hi - lo).toNat) H) : wpAny (model X.prog X.w) X.A (pyIter (.ref s.heap.objs.size)) (PIE X pins σ tg R) E { s with heap := s.heap.push { cls := .type "range", data := .fields #[.int lo t, .int hi u, .int 1 v] }, toks := tk } := by
  refine wpAny_pyIter_range (IsRange.new ..) (small_one h1 h2 h3 h4) ?_
  have I1 : Inv X pins σ H { s with heap := s.heap.push { cls := .type "range", data := .fields #[.int lo t, .int hi u, .int 1 v] }, toks := tk } := I.kept fun b o e => Heap.get?_push_of_some _ e
  refine ⟨(s.heap.push { cls := .type "range", data := .fields #[.int lo t, .int hi u, .int 1 v] }).objs.size, [(s.heap.push { cls := .type "range", data := .fields #[.int lo t, .int hi u, .int 1 v] }).objs.size], _, _, H, rfl,
    I1.kept (t' := tk) fun b o e => Heap.get?_push_of_some _ e, turn_range _ lo (hi - lo).toNat, ?_, fun b hb => ?_, q⟩
  · have e1 : lo + ((0 : Nat) : Int) * 1 = lo := by simp
    have e2 : (((hi - lo).toNat : Nat) : Int) - ((0 : Nat) : Int) = Builtin.Range.rangeSize lo hi 1 := by rw [rangeSize_one]; split <;> (first | lia | omega)
    show IsRangeIter _ _ (lo + ((0 : Nat) : Int) * 1) ((((hi - lo).toNat : Nat) : Int) - ((0 : Nat) : Int)) 1
    rw [e1, e2]
    exact Heap.get?_push_size _ rfl
  · have e : b = (s.heap.push { cls := .type "range", data := .fields #[.int lo t, .int hi u, .int 1 v] }).objs.size := by simpa using hb
    subst e
    exact I1.fpOk (Nat.le_refl _) (I1.hok.fresh (Nat.le_refl _))
def iRng1 (ta : TA) : TI := fun σ H R => ta σ H fun vs H1 => ∃ j : Int, vs = [.int j] ∧ -(2 ^ 62) ≤ j ∧ j < 2 ^ 62 ∧ R (Itr 0 j.toNat) H1
theorem pi_range1 {a : Expr} {ta : TA} {p pos : Pos} (hg : Gl X "range") (hm : X.mg "range" = none) (ha : PA X [a] ta) (hs : starEach [a] X.env = [(false, eval a X.env)] := by rfl) : PI X tg (.Call (.Name "range" p) [a] [] pos) (iRng1 ta) := by
  intro pins s σ H R I h
  refine Call_ (ld_blt I hg hm boot_range (PyProof.Rows.callWith_type1 (thn (ha pos pins s σ H _ I h) fun us s1 ⟨vs, H1, I1, r1, q1⟩ => ?_) hs rfl))
  obtain ⟨j, e, q1, q2, q⟩ := q1
  subst e
  cases r1 with
  | cons r rr =>
    cases rr
    obtain ⟨t, rfl⟩ := r
    exact call_range_1 (range_it I1 (by (first | lia | omega)) (by (first | lia | omega)) q1 q2 (by simpa using q))
def tFor (wi : TI) (g : TG) (tb : TS) : TS := fun D σ H => wi σ H fun J H1 => ∃ W : Nat → Nat → St → Hp → Prop, (∃ m, W 0 m σ H1) ∧ ∀ i m σ H, W i m σ H →
  (J.stop i H ∧ D.nx σ H) ∨ (J.go i H ∧ ∃ N : St → Hp → Prop, (∀ σ' H', N σ' H' → ∃ m', m' < m ∧ W (i + 1) m' σ' H') ∧ ∀ x H', J.yld i H x H' → g x σ H' fun σ2 H2 => tb { D with nx := N, ct := N, bk := D.nx } σ2 H2)
def pinsAt (fp : List Addr) (h : Heap) : List (Addr × Obj) := fp.filterMap fun b => (h.get? b).map fun o => (b, o)
theorem mem_pinsAt {fp : List Addr} {h : Heap} {b : Addr} {o : Obj} (hb : b ∈ fp) (e : h.get? b = some o) : (b, o) ∈ pinsAt fp h := List.mem_filterMap.mpr ⟨b, hb, by rw [e]; rfl⟩
theorem of_pinsAt {fp : List Addr} {h : Heap} {p : Addr × Obj} (hp : p ∈ pinsAt fp h) : p.1 ∈ fp ∧ h.get? p.1 = some p.2 := by
  obtain ⟨b, hb, e⟩ := List.mem_filterMap.mp hp
  cases q : h.get? b with
  | none => rw [q] at e; cases e
  | some o =>
    rw [q] at e
    have e' : (b, o) = p := Option.some.inj e
    subst e'
    exact ⟨hb, q⟩
theorem Inv.pinned {pins : List (Addr × Obj)} {σ : St} {H : Hp} {s : Shared} {fp : List Addr} (I : Inv X pins σ H s) (hf : ∀ b ∈ fp, FpOk X pins H b) (ho : ∀ b ∈ fp, ∃ o, s.heap.get? b = some o ∧ ∀ v, o.data ≠ .cell v) : Inv X (pins ++ pinsAt fp s.heap) σ H s :=
  I.pins_of fun p hp => (List.mem_append.mp hp).elim (fun z => I.pin p (List.mem_append_right _ z)) fun z => by
    obtain ⟨hb, e⟩ := of_pinsAt z
    obtain ⟨f0, f1, f2, _⟩ := hf p.1 hb
    obtain ⟨o, e', d⟩ := ho p.1 hb
    rw [e] at e'; cases e'
    exact ⟨e, f0, f1, f2, d⟩
theorem Inv.unpinned {pins pl : List (Addr × Obj)} {σ : St} {H : Hp} {s : Shared} (I : Inv X (pins ++ pl) σ H s) : Inv X pins σ H s := I.pins_of fun p hp => I.pin p (List.mem_append_right _ (List.mem_append_left _ hp))
theorem ps_for {iter : Expr} {body : List Stmt} {wi : TI} {g : TG} {tb : TS} {pos : Pos} (hp : PassesOwn (model X.prog X.w) X.A X.env X.xe) (hc : X.calm = true) (hi : PI X tg iter wi) (hg : PG X tg g) (hb : PSs X body tb)
    (hs : ∀ x, foldedSetIterable iter X.env x = pure x := by intro _; rfl) : PS X (.For tg iter body [] pos) (tFor wi g tb) := by
  intro pins s σ H D I h
  refine wpAny_For (thn (hi pins s σ H _ I h) fun v s1 h1 => thn h1 fun itv s2 h2 => ?_) hs
  obtain ⟨it, fp, tn, J, H2, e, I2, T, st2, f2, W, ⟨m0, w0⟩, turn⟩ := h2
  subst e
  -- what stays true of the iterator's objects through the loop
  have stat : ∀ {H' : Hp}, (∀ b ∈ fp, H' b = none) → ∀ b ∈ fp, FpOk X pins H' b := fun hn b hb => ⟨hn b hb, (f2 b hb).2⟩
  refine codeAny_forLoop_any (fun n s' => ∃ i σ' H', Inv X pins σ' H' s' ∧ tn i s'.heap ∧ (∀ b ∈ fp, H' b = none) ∧ W i n σ' H') ?_ m0 ⟨0, σ, H2, I2, st2, fun b hb => (f2 b hb).1, w0⟩
  rintro n s3 ⟨i, σ3, H3, I3, st3, fr3, w3⟩
  rcases turn i n σ3 H3 w3 with ⟨stop, qn⟩ | ⟨go, N, hN, step⟩
  · refine wpAny_passesOwn hp (thn (T.done X rfl rfl rfl hc i pins s3 σ3 H3 X.xe I3 (stat fr3) st3 stop) fun r s4 ⟨hr, I4⟩ => ?_)
    subst hr
    exact wpAny_execs_nil ⟨σ3, H3, I4, qn⟩
  · refine wpAny_passesOwn hp (thn (T.item X rfl rfl rfl hc i pins s3 σ3 H3 X.xe I3 (stat fr3) st3 go) fun r s4 ⟨u, hr, h4⟩ => ?_)
    subst hr
    refine wpAny_passesOwn hp (thn h4 fun _ s5 ⟨x, H5, I5, r5, y5, st5, fr5⟩ => ?_)
    have I5' := I5.pinned (stat fr5) (T.obj _ _ st5)
    refine wpAny_passesOwn hp (thn (hg _ s5 σ3 H5 x u _ I5' r5 (step x H5 y5)) fun _ s6 ⟨σ6, H6, I6, q6⟩ => ?_)
    refine wpAny_passesOwn hp (thn (hb _ s6 σ6 H6 _ I6 q6) fun f s7 q7 => ?_)
    have again : ∀ {σ7 : St} {H7 : Hp}, Inv X (pins ++ pinsAt fp s5.heap) σ7 H7 s7 → N σ7 H7 → ∃ m, m < n ∧ ∃ i σ' H', Inv X pins σ' H' s7 ∧ tn i s7.heap ∧ (∀ b ∈ fp, H' b = none) ∧ W i m σ' H' := fun {σ7 H7} I7 n7 => by
      obtain ⟨m', hm, w7⟩ := hN σ7 H7 n7
      refine ⟨m', hm, i + 1, σ7, H7, I7.unpinned, T.keep _ _ _ st5 fun b hb o e => (I7.pin (b, o) (List.mem_append_right _ (List.mem_append_right _ (mem_pinsAt hb e)))).1, fun b hb => ?_, w7⟩
      obtain ⟨o, e, d⟩ := T.obj _ _ st5 b hb
      exact (I7.pin (b, o) (List.mem_append_right _ (List.mem_append_right _ (mem_pinsAt hb e)))).2.1
    cases f with
    | next => obtain ⟨σ7, H7, I7, n7⟩ := q7; exact again I7 n7
    | cont => obtain ⟨σ7, H7, I7, n7⟩ := q7; exact again I7 n7
    | brk => obtain ⟨σ7, H7, I7, q7⟩ := q7; exact ⟨σ7, H7, I7.unpinned, q7⟩
    | ret v => obtain ⟨x7, σ7, H7, I7, r7, q7⟩ := q7; exact ⟨x7, σ7, H7, I7.unpinned, r7, q7⟩
end

theorem for_list {K : PySem.W.Frag} {a : Addr} {xs : List V} {g : TG} {tb : TS} {D : Ends} {σ : St} {H : Hp} (Pv : Nat → St → Hp → Prop) (h0 : Pv 0 σ H) (hl : ∀ i σ H, i ≤ xs.length → Pv i σ H → SqL K H a xs)
    (hs : ∀ i x σ H, xs[i]? = some x → Pv i σ H → g x σ H fun σ2 H2 => tb { D with nx := Pv (i + 1), ct := Pv (i + 1), bk := D.nx } σ2 H2) (hd : ∀ σ H, Pv xs.length σ H → D.nx σ H) :
    ∃ W : Nat → Nat → St → Hp → Prop, (∃ m, W 0 m σ H) ∧ ∀ i m σ H, W i m σ H →
      ((Itl K a).stop i H ∧ D.nx σ H) ∨ ((Itl K a).go i H ∧ ∃ N : St → Hp → Prop, (∀ σ' H', N σ' H' → ∃ m', m' < m ∧ W (i + 1) m' σ' H') ∧ ∀ x H', (Itl K a).yld i H x H' → g x σ H' fun σ2 H2 => tb { D with nx := N, ct := N, bk := D.nx } σ2 H2) := by
  refine ⟨fun i m σ H => m = xs.length - i ∧ i ≤ xs.length ∧ Pv i σ H, ⟨xs.length, by simp, Nat.zero_le _, h0⟩, ?_⟩
  rintro i m σ H ⟨rfl, hi, p⟩
  have q := hl i σ H hi p
  by_cases hlt : i < xs.length
  · refine .inr ⟨⟨xs, xs[i], q, by simp [hlt]⟩, Pv (i + 1), fun σ' H' p' => ⟨xs.length - (i + 1), by (first | lia | omega), rfl, hlt, p'⟩, fun x H' y => ?_⟩
    obtain ⟨e, y⟩ := y
    subst e
    exact hs i x σ _ (y xs q) p
  · have e : i = xs.length := by (first | lia | omega)
    subst e
    exact .inl ⟨⟨xs, q, Nat.le_refl _⟩, hd σ H p⟩
theorem for_tup {K : PySem.W.Frag} {a : Addr} {xs : List V} {g : TG} {tb : TS} {D : Ends} {σ : St} {H : Hp} (Pv : Nat → St → Hp → Prop) (h0 : Pv 0 σ H) (hl : ∀ i σ H, i ≤ xs.length → Pv i σ H → SqT K H a xs)
    (hs : ∀ i x σ H, xs[i]? = some x → Pv i σ H → g x σ H fun σ2 H2 => tb { D with nx := Pv (i + 1), ct := Pv (i + 1), bk := D.nx } σ2 H2) (hd : ∀ σ H, Pv xs.length σ H → D.nx σ H) :
    ∃ W : Nat → Nat → St → Hp → Prop, (∃ m, W 0 m σ H) ∧ ∀ i m σ H, W i m σ H →
      ((Itt K a).stop i H ∧ D.nx σ H) ∨ ((Itt K a).go i H ∧ ∃ N : St → Hp → Prop, (∀ σ' H', N σ' H' → ∃ m', m' < m ∧ W (i + 1) m' σ' H') ∧ ∀ x H', (Itt K a).yld i H x H' → g x σ H' fun σ2 H2 => tb { D with nx := N, ct := N, bk := D.nx } σ2 H2) := by
  refine ⟨fun i m σ H => m = xs.length - i ∧ i ≤ xs.length ∧ Pv i σ H, ⟨xs.length, by simp, Nat.zero_le _, h0⟩, ?_⟩
  rintro i m σ H ⟨rfl, hi, p⟩
  have q := hl i σ H hi p
  by_cases hlt : i < xs.length
  · refine .inr ⟨⟨xs, xs[i], q, by simp [hlt]⟩, Pv (i + 1), fun σ' H' p' => ⟨xs.length - (i + 1), by (first | lia | omega), rfl, hlt, p'⟩, fun x H' y => ?_⟩
    obtain ⟨e, y⟩ := y
    subst e
    exact hs i x σ _ (y xs q) p
  · have e : i = xs.length := by (first | lia | omega)
    subst e
    exact .inl ⟨⟨xs, q, Nat.le_refl _⟩, hd σ H p⟩
theorem for_range {lo : Int} {n : Nat} {g : TG} {tb : TS} {D : Ends} {σ : St} {H : Hp} (Pv : Nat → St → Hp → Prop) (h0 : Pv 0 σ H)
    (hs : ∀ i σ H, i < n → Pv i σ H → g (.int (lo + i)) σ H fun σ2 H2 => tb { D with nx := Pv (i + 1), ct := Pv (i + 1), bk := D.nx } σ2 H2) (hd : ∀ σ H, Pv n σ H → D.nx σ H) :
    ∃ W : Nat → Nat → St → Hp → Prop, (∃ m, W 0 m σ H) ∧ ∀ i m σ H, W i m σ H →
      ((Itr lo n).stop i H ∧ D.nx σ H) ∨ ((Itr lo n).go i H ∧ ∃ N : St → Hp → Prop, (∀ σ' H', N σ' H' → ∃ m', m' < m ∧ W (i + 1) m' σ' H') ∧ ∀ x H', (Itr lo n).yld i H x H' → g x σ H' fun σ2 H2 => tb { D with nx := N, ct := N, bk := D.nx } σ2 H2) := by
  refine ⟨fun i m σ H => m = n - i ∧ i ≤ n ∧ Pv i σ H, ⟨n, by simp, Nat.zero_le _, h0⟩, ?_⟩
  rintro i m σ H ⟨rfl, hi, p⟩
  by_cases hlt : i < n
  · refine .inr ⟨hlt, Pv (i + 1), fun σ' H' p' => ⟨n - (i + 1), by (first | lia | omega), rfl, hlt, p'⟩, fun x H' y => ?_⟩
    obtain ⟨e, y⟩ := y
    subst e y
    exact hs i σ _ hlt p
  · have e : i = n := by (first | lia | omega)
    subst e
    exact .inl ⟨Nat.le_refl _, hd σ H p⟩
theorem while_by {c : TT} {tb : TS} {D : Ends} {σ : St} {H : Hp} (Pv : St → Hp → Prop) (μ : St → Hp → Nat) (h0 : Pv σ H)
    (hs : ∀ σ H, Pv σ H → c σ H fun b H1 => if b = true then tb { D with nx := fun σ' H' => Pv σ' H' ∧ μ σ' H' < μ σ H, ct := fun σ' H' => Pv σ' H' ∧ μ σ' H' < μ σ H, bk := D.nx } σ H1 else D.nx σ H1)
    (mono : ∀ σ H Q Q', (∀ b H1, Q b H1 → Q' b H1) → c σ H Q → c σ H Q') : tWhile c tb D σ H := by
  refine ⟨fun m σ H => m = μ σ H ∧ Pv σ H, ⟨_, rfl, h0⟩, ?_⟩
  rintro m σ H ⟨rfl, p⟩
  refine mono σ H _ _ (fun b H1 q => ?_) (hs σ H p)
  cases b with
  | true => exact ⟨_, fun σ' H' ⟨p', l⟩ => ⟨_, l, rfl, p'⟩, q⟩
  | false => exact q
end L2

namespace L2
open PySem PySem.Spec PyProof.Rows

abbrev R2 := V → V → Hp → VK → Prop
def OpR (X : Cx) (f : Value → Value → Sem Value) (r : R2) : Prop :=
  ∀ (pins : List (Addr × Obj)) (s : Shared) (σ : St) (H : Hp) (x y : V) (v u : Value) (Q : VK), Inv X pins σ H s → RelV x v → RelV y u → r x y H Q →
    wpAny (model X.prog X.w) X.A (f v u) (EP X pins σ Q) X.xe s
def CallR (X : Cx) (f : Value) (r : List V → Hp → VK → Prop) : Prop :=
  ∀ (pins : List (Addr × Obj)) (s : Shared) (σ : St) (H : Hp) (xs : List V) (us : List Value) (Q : VK), Inv X pins σ H s → Vals xs us → r xs H Q →
    wpAny (model X.prog X.w) X.A (call f us) (EP X pins σ Q) X.xe s
def tOp (r : R2) (ta tb : TE) : TE := fun σ H Q => ta σ H fun x H1 => tb σ H1 fun y H2 => r x y H2 Q
inductive RIP (C : Int → Int → Prop) (g : Int → Int → V) (x : V) (y : V) (H : Hp) (Q : VK) : Prop
  | mk (i : _) (j : _) (h1 : x = .int i) (h2 : y = .int j) (h3 : C i j) (h4 : Q (g i j) H) : RIP C g x y H Q
def rI (C : Int → Int → Prop) (g : Int → Int → V) : R2 := fun x y H Q => RIP C g x y H Q
inductive RI0P (g : Int → Int → V) (x : V) (y : V) (H : Hp) (Q : VK) : Prop
  | mk (i : _) (j : _) (h1 : x = .int i) (h2 : y = .int j) (h3 : Q (g i j) H) : RI0P g x y H Q
def rI0 (g : Int → Int → V) : R2 := fun x y H Q => RI0P g x y H Q
section
variable {X : Cx} {a b c : Expr} {ta tb tc : TE} {pos : Pos}

theorem binT (ha : PE X a ta) (hb : PE X b tb) {pins : List (Addr × Obj)} {s : Shared} {σ : St} {H : Hp} {R : V → V → Hp → Prop} (I : Inv X pins σ H s)
    (h : ta σ H fun x H1 => tb σ H1 fun y H2 => R x y H2) {Q : Value → Shared → Prop} {f : Value → Value → Sem Value}
    (hf : ∀ v u s2 x y H2, Inv X pins σ H2 s2 → RelV x v → RelV y u → R x y H2 → wpAny (model X.prog X.w) X.A (f v u) Q X.xe s2) :
    wpAny (model X.prog X.w) X.A (eval a X.env) (fun v s₁ => wpAny (model X.prog X.w) X.A (eval b X.env) (fun u s₂ => wpAny (model X.prog X.w) X.A (f v u) Q X.xe s₂) X.xe s₁) X.xe s := by
  refine thn (ha pins s σ H _ I h) fun v s1 ⟨x, H1, I1, r1, q1⟩ => ?_
  refine thn (hb pins s1 σ H1 _ I1 q1) fun u s2 ⟨y, H2, I2, r2, q2⟩ => ?_
  exact hf v u s2 x y H2 I2 r1 r2 q2

theorem pe_op {op : Operator} {r : R2} (ho : OpR X (binaryOp op) r) (ha : PE X a ta) (hb : PE X b tb) : PE X (.BinOp a op b pos) (tOp r ta tb) := by
  intro pins s σ H Q I h
  exact wpAny_BinOp (binT ha hb I h fun v u s2 x y H2 I2 rx ry q => ho pins s2 σ H2 x y v u Q I2 rx ry q)
theorem opI {f : Value → Value → Sem Value} {C : Int → Int → Prop} {g : Int → Int → Int}
    (rule : ∀ (i j : Int) (t u : Tok) (s : Shared) (Q : Value → Shared → Prop) (E : Value → Shared → Prop), C i j → Q (.int (g i j) s.toks) { s with toks := s.toks + 1 } → wpAny (model X.prog X.w) X.A (f (.int i t) (.int j u)) Q E s) :
    OpR X f (rI C fun i j => .int (g i j)) := by
  intro pins s σ H x y v u Q I rx ry h
  obtain ⟨i, j, rfl, rfl, hc, q⟩ := h
  obtain ⟨t, rfl⟩ := rx
  obtain ⟨t', rfl⟩ := ry
  exact rule i j t t' s _ _ hc ⟨.int (g i j), H, I.tok _, ⟨_, rfl⟩, q⟩
theorem opI0 {f : Value → Value → Sem Value} {g : Int → Int → Int}
    (rule : ∀ (i j : Int) (t u : Tok) (s : Shared) (Q : Value → Shared → Prop) (E : Value → Shared → Prop), Q (.int (g i j) s.toks) { s with toks := s.toks + 1 } → wpAny (model X.prog X.w) X.A (f (.int i t) (.int j u)) Q E s) :
    OpR X f (rI0 fun i j => .int (g i j)) := by
  intro pins s σ H x y v u Q I rx ry h
  obtain ⟨i, j, rfl, rfl, q⟩ := h
  obtain ⟨t, rfl⟩ := rx
  obtain ⟨t', rfl⟩ := ry
  exact rule i j t t' s _ _ ⟨.int (g i j), H, I.tok _, ⟨_, rfl⟩, q⟩
theorem opB0 {f : Value → Value → Sem Value} {g : Int → Int → Bool}
    (rule : ∀ (i j : Int) (t u : Tok) (s : Shared) (Q : Value → Shared → Prop) (E : Value → Shared → Prop), Q (.bool (g i j)) s → wpAny (model X.prog X.w) X.A (f (.int i t) (.int j u)) Q E s) :
    OpR X f (rI0 fun i j => .bl (g i j)) := by
  intro pins s σ H x y v u Q I rx ry h
  obtain ⟨i, j, rfl, rfl, q⟩ := h
  obtain ⟨t, rfl⟩ := rx
  obtain ⟨t', rfl⟩ := ry
  exact rule i j t t' s _ _ ⟨.bl (g i j), H, I, rfl, q⟩

def CDiv (i j : Int) : Prop := 0 < j ∧ j < 1073741824
def CPow (i j : Int) : Prop := 0 ≤ j ∧ j ≤ 1000000 ∧ i.natAbs < 2 ^ 64
def CMul (i j : Int) : Prop := (-(2 ^ 64) < i ∧ i < 2 ^ 64) ∨ (-(2 ^ 64) < j ∧ j < 2 ^ 64)
theorem CMul.ok {i j : Int} (h : CMul i j) : IntMulOk i j := by
  rcases h with ⟨h1, h2⟩ | ⟨h1, h2⟩
  · exact .of_left (intBits_le_64 h1 h2)
  · exact .of_right (intBits_le_64 h1 h2)
theorem op_add : OpR X (binaryOp .Add) (rI0 fun i j => .int (i + j)) := opI0 fun _ _ _ _ _ _ _ q => add_int q
theorem op_sub : OpR X (binaryOp .Sub) (rI0 fun i j => .int (i - j)) := opI0 fun _ _ _ _ _ _ _ q => sub_int q
theorem op_mul : OpR X (binaryOp .Mult) (rI CMul fun i j => .int (i * j)) := opI fun _ _ _ _ _ _ _ hc q => mul_int q hc.ok
theorem op_fdiv : OpR X (binaryOp .FloorDiv) (rI CDiv fun i j => .int (i / j)) := opI fun i j _ _ _ _ _ hc q => by
  have h1 : (0 : Int) < j := hc.1
  have h2 : j < 1073741824 := hc.2
  exact floordiv_int (by (first | lia | omega)) (by rw [Int.fdiv_eq_ediv_of_nonneg i (by (first | lia | omega))]; exact q) (.inl (PyProof.noPylong_small (by (first | lia | omega))))
theorem op_mod : OpR X (binaryOp .Mod) (rI (fun _ j => 0 < j) fun i j => .int (i % j)) := opI fun i j _ _ _ _ _ hc q => by
  have h1 : (0 : Int) < j := hc
  exact mod_int' (by (first | lia | omega)) (by rw [Int.fmod_eq_emod_of_nonneg i (by (first | lia | omega))]; exact q)
theorem op_pow : OpR X (binaryOp .Pow) (rI CPow fun i j => .int (i ^ j.toNat)) := opI fun _ _ _ _ _ _ _ hc q => pow_int_small hc.1 hc.2.1 hc.2.2 q
end

def scal : V → V → Bool
  | .non, .non => true | .non, .int _ => true | .int _, .non => true | .non, .bl _ => true | .bl _, .non => true | .non, .str _ => true | .str _, .non => true
  | .int _, .int _ => true | .bl _, .bl _ => true | .str _, .str _ => true | .byt _, .byt _ => true
  | .int _, .str _ => true | .str _, .int _ => true | .bl _, .str _ => true | .str _, .bl _ => true
  | _, _ => false
inductive REqP (x : V) (y : V) (H : Hp) (Q : VK) : Prop
  | mk  (h1 : scal x y = true) (h2 : Q (.bl (decide (x = y))) H) : REqP x y H Q
def rEq : R2 := fun x y H Q => REqP  x y H Q
inductive RNeP (x : V) (y : V) (H : Hp) (Q : VK) : Prop
  | mk  (h1 : scal x y = true) (h2 : Q (.bl (!decide (x = y))) H) : RNeP x y H Q
theorem dec_int {i j : Int} : decide (V.int i = V.int j) = (i == j) := by
  rw [Bool.eq_iff_iff]
  simp
theorem dec_bl {i j : Bool} : decide (V.bl i = V.bl j) = (i == j) := by
  rw [Bool.eq_iff_iff]
  simp
theorem dec_str {i j : Str} : decide (V.str i = V.str j) = (i == j) := by
  rw [Bool.eq_iff_iff]
  simp
theorem dec_byt {i j : Array UInt8} : decide (V.byt i = V.byt j) = (i.toList == j.toList) := by
  rw [Bool.eq_iff_iff]
  cases i
  cases j
  simp

section
variable {X : Cx} {a b c : Expr} {ta tb tc : TE} {pos : Pos}
theorem fin_bl {pins : List (Addr × Obj)} {σ : St} {H : Hp} {s : Shared} {Q : VK} {k k' : Bool} (I : Inv X pins σ H s) (q : Q (.bl k) H) (e : k = k') : EP X pins σ Q (.bool k') s := by
  subst e
  exact ⟨.bl k, H, I, rfl, q⟩
theorem op_eq : OpR X (compareOp .Eq) rEq := by
  intro pins s σ H x y v u Q I rx ry h
  obtain ⟨hs, q⟩ := h
  cases x with
  | non =>
    cases rx
    cases y with
    | non => cases ry; exact PySem.EqNone.eq_none_none (fin_bl I q (by simp))
    | bl j => cases ry; exact PySem.EqNone.eq_none_bool (fin_bl I q (by simp))
    | int j => obtain ⟨t', rfl⟩ := ry; exact PySem.EqNone.eq_none_int (fin_bl I q (by simp))
    | str j => obtain ⟨t', rfl⟩ := ry; exact PySem.EqNone.eq_none_str (fin_bl I q (by simp))
    | _ => exact absurd (show false = true from hs) Bool.false_ne_true
  | bl i =>
    cases rx
    cases y with
    | non => cases ry; exact PySem.EqNone.eq_bool_none (fin_bl I q (by simp))
    | bl j => cases ry; exact eq_bool (fin_bl I q dec_bl)
    | str j => obtain ⟨t', rfl⟩ := ry; exact PySem.EqMixed.eq_bool_str (fin_bl I q (by simp))
    | _ => exact absurd (show false = true from hs) Bool.false_ne_true
  | int i =>
    obtain ⟨t, rfl⟩ := rx
    cases y with
    | non => cases ry; exact PySem.EqNone.eq_int_none (fin_bl I q (by simp))
    | int j => obtain ⟨t', rfl⟩ := ry; exact eq_int (fin_bl I q dec_int)
    | str j => obtain ⟨t', rfl⟩ := ry; exact PySem.EqMixed.eq_int_str (fin_bl I q (by simp))
    | _ => exact absurd (show false = true from hs) Bool.false_ne_true
  | str i =>
    obtain ⟨t, rfl⟩ := rx
    cases y with
    | non => cases ry; exact PySem.EqNone.eq_str_none (fin_bl I q (by simp))
    | bl j => cases ry; exact PySem.EqMixed.eq_str_bool (fin_bl I q (by simp))
    | int j => obtain ⟨t', rfl⟩ := ry; exact PySem.EqMixed.eq_str_int (fin_bl I q (by simp))
    | str j => obtain ⟨t', rfl⟩ := ry; exact eq_str (fin_bl I q dec_str)
    | _ => exact absurd (show false = true from hs) Bool.false_ne_true
  | byt i =>
    obtain ⟨t, rfl⟩ := rx
    cases y with
    | byt j => obtain ⟨t', rfl⟩ := ry; exact PySem.W.eq_bytes (fin_bl I q dec_byt)
    | _ => exact absurd (show false = true from hs) Bool.false_ne_true
  | _ => cases y <;> exact absurd (show false = true from hs) Bool.false_ne_true
theorem op_lt : OpR X (compareOp .Lt) (rI0 fun i j => .bl (decide (i < j))) := opB0 fun _ _ _ _ _ _ _ q => lt_int q
theorem op_gt : OpR X (compareOp .Gt) (rI0 fun i j => .bl (decide (j < i))) := opB0 fun _ _ _ _ _ _ _ q => gt_int q
theorem op_ge : OpR X (compareOp .GtE) (rI0 fun i j => .bl (decide (j ≤ i))) := opB0 fun _ _ _ _ _ _ _ q => ge_int q
theorem nomark (b : Expr) {op : CmpOp} (h : op ≠ .In := by decide) (h2 : op ≠ .NotIn := by decide) : behindInMarks op b = false := by
  have e1 : (op == CmpOp.In) = false := by cases op <;> first | rfl | exact absurd rfl h
  have e2 : (op == CmpOp.NotIn) = false := by cases op <;> first | rfl | exact absurd rfl h2
  cases b <;> simp [behindInMarks, e1, e2]
theorem pe_cmpR {op : CmpOp} {r : R2} (ho : OpR X (compareOp op) r) (ha : PE X a ta) (hb : PE X b tb) (hm : behindInMarks op b = false) : PE X (.Compare a [op] [b] pos) (tOp r ta tb) := by
  intro pins s σ H Q I h
  exact wpAny_Compare1 (binT ha hb I h fun v u s2 x y H2 I2 rx ry q => ho pins s2 σ H2 x y v u Q I2 rx ry q) hm
def tTest (t : TE) : TT := fun σ H Q => t σ H fun x H' => OfBl x H' Q
theorem pt_cmpR {op : CmpOp} {r : R2} (ho : OpR X (compareOp op) r) (ha : PE X a ta) (hb : PE X b tb) (hm : behindInMarks op b = false) : PT X (.Compare a [op] [b] pos) (tTest (tOp r ta tb)) := by
  intro pins s σ H Q I h
  refine wpAny_isTrue_Compare1 (thn (ha pins s σ H _ I h) fun v s1 ⟨x, H1, I1, r1, q1⟩ => thn (hb pins s1 σ H1 _ I1 q1) fun u s2 ⟨y, H2, I2, r2, q2⟩ =>
    thn (ho pins s2 σ H2 x y v u _ I2 r1 r2 q2) fun c s3 ⟨z, H3, I3, r3, k, e, q3⟩ => ?_) hm
  subst e
  cases r3
  exact wpAny_truthy_bool ⟨H3, I3, q3⟩
theorem line63 : (sizeLine : Nat) < 2 ^ 63 := by rw [sizeLine_eq]; decide
theorem vals1 {x : V} {us : List Value} (r : Vals [x] us) : ∃ u, us = [u] ∧ RelV x u := by
  cases r with
  | cons r1 r2 => cases r2; exact ⟨_, rfl, r1⟩
theorem vals2 {x y : V} {us : List Value} (r : Vals [x, y] us) : ∃ u w', us = [u, w'] ∧ RelV x u ∧ RelV y w' := by
  cases r with
  | cons r1 r2 =>
    cases r2 with
    | cons r3 r4 => cases r4; exact ⟨_, _, rfl, r1, r3⟩
inductive P_call_max2 (K : PySem.W.Frag) (xs : List V) (H : Hp) (Q : VK) : Prop
  | mk (i : _) (j : _) (h1 : xs = [.int i, .int j]) (h2 : Q (.int (if j > i then j else i)) H) : P_call_max2 K xs H Q
theorem call_max2 (hc : X.calm = true) : CallR X (.builtin "max") (P_call_max2 X.K) := by
  intro pins s σ H xs us Q I r h
  obtain ⟨i, j, rfl, q⟩ := h
  obtain ⟨u, w', rfl, ⟨t, rfl⟩, ⟨t', rfl⟩⟩ := vals2 r
  refine max_two_ints (I.ok.hd hc) fun h' tk k => ⟨_, H, I.kept k, ?_, q⟩
  by_cases hj : j > i
  · rw [if_pos hj, if_pos hj]; exact ⟨_, rfl⟩
  · rw [if_neg hj, if_neg hj]; exact ⟨_, rfl⟩
inductive P_call_min2 (K : PySem.W.Frag) (xs : List V) (H : Hp) (Q : VK) : Prop
  | mk (i : _) (j : _) (h1 : xs = [.int i, .int j]) (h2 : Q (.int (if j < i then j else i)) H) : P_call_min2 K xs H Q
theorem call_min2 (hc : X.calm = true) : CallR X (.builtin "min") (P_call_min2 X.K) := by
  intro pins s σ H xs us Q I r h
  obtain ⟨i, j, rfl, q⟩ := h
  obtain ⟨u, w', rfl, ⟨t, rfl⟩, ⟨t', rfl⟩⟩ := vals2 r
  refine min_two_ints (I.ok.hd hc) fun h' tk k => ⟨_, H, I.kept k, ?_, q⟩
  by_cases hj : j < i
  · rw [if_pos hj, if_pos hj]; exact ⟨_, rfl⟩
  · rw [if_neg hj, if_neg hj]; exact ⟨_, rfl⟩
theorem call_int1 : CallR X (.type "int") (fun xs H Q => (∃ i, xs = [.int i] ∧ Q (.int i) H) ∨ ∃ k, xs = [.bl k] ∧ Q (.int (if k then 1 else 0)) H) := by
  intro pins s σ H xs us Q I r h
  rcases h with ⟨i, rfl, q⟩ | ⟨k, rfl, q⟩
  · obtain ⟨u, rfl, t, rfl⟩ := vals1 r
    exact call_int_int ⟨.int i, H, I, ⟨_, rfl⟩, q⟩
  · obtain ⟨u, rfl, r1⟩ := vals1 r
    cases r1
    exact call_int_bool ⟨.int (if k then 1 else 0), H, I.tok _, ⟨_, rfl⟩, q⟩
end
end L2

namespace L2
open PySem PySem.Spec PyProof.Rows

structure ObjM (h : Heap) (x dx C : Addr) (mA : Str → Option Value) : Prop where
  obj : h.get? x = some (PySem.W.instObj C dx)
  ns : h.Ns1 dx mA
  ne : dx ≠ x

theorem lookIn_ns {h : Heap} {dx : Addr} {mA : Str → Option Value} (n : h.Ns1 dx mA) : ∃ od, h.get? dx = some od ∧ ∀ name, PySem.W.lookIn name od = some (mA name) := by
  obtain ⟨o, es, ep, ho, hd, hk, _, hm⟩ := n
  refine ⟨o, ho, fun name => ?_⟩
  have e := hm name
  unfold nsFind findBy at e
  rw [← Array.find?_toList] at e
  unfold PySem.W.lookIn
  rw [hd]
  dsimp only
  split
  · rename_i y q
    rw [q] at e
    exact congrArg some e
  · rename_i q
    rw [q] at e
    have a : es.toList.any (·.refKey) = false := by
      rw [List.any_eq_false]
      intro y hy
      obtain ⟨z, t, hkey⟩ := hk y (Array.mem_toList_iff.mp hy)
      simp [DictEntry.refKey, hkey]
    have a' : ¬ es.toList.any (·.refKey) = true := by rw [a]; exact Bool.false_ne_true
    rw [if_neg a']
    exact congrArg some e

theorem ObjM.look {h : Heap} {x dx C : Addr} {mA : Str → Option Value} (I : ObjM h x dx C mA) : ∃ od, PySem.W.InstAt h x (PySem.W.instObj C dx) C (some od) ∧ ∀ name, PySem.W.lookIn name od = some (mA name) :=
  let ⟨od, ho, hl⟩ := lookIn_ns I.ns
  ⟨od, ⟨I.obj, rfl, rfl, ho⟩, hl⟩

section
variable {prog : Program} {w : World} {A : Around} {E : Value → Shared → Prop} {s : Shared} {K : PySem.W.Frag} {x dx C f : Addr} {mA : Str → Option Value} {name : Str} {v : Value}

theorem set_map {ns : List Str} {Q : Unit → Shared → Prop} (X : K.In s.heap) (I : ObjM s.heap x dx C mA)
    (hs : PySem.W.findIn K (.ref C) "__setattr__" = some (some (.builtin "object.__setattr__"))) (hp : PySem.W.plainOver K C = true) (ht : PySem.W.takerIn K C name = some none) (hh : PySem.W.hasDictIn K C = true)
    (hw : PySem.Within mA ns) (hsz : ns.length ≤ sizeLine)
    (h : ∀ h', ObjM h' x dx C (fun y => if y = name then some v else mA y) → Heap.SameBut dx s.heap h' → Q () { s with heap := h', toks := s.toks + 2 }) :
    wpAny (model prog w) A (setAttr (.ref x) name v) Q E s := by
  obtain ⟨od, J, hl⟩ := I.look
  refine PySem.W.set_plain X J hs (PySem.W.osa_open (s := { s with toks := s.toks + 1 }) (r := none) X J hp ht fun b => ?_)
  obtain ⟨cd, hc, hd'⟩ := PySem.W.any_some hh
  have hx : s.heap.get? x = some ⟨.ref C, some dx, .plain, #[]⟩ := I.obj
  refine wpAny_bind (wpAny_pure (wpAny_bind (wpAny_bind (wpAny_loadPart hx (wpAny_bind (PySem.W.Looks.here (s := { s with toks := s.toks + 1 }) (PySem.W.looks_clsIn X hc) ?_))))))
  rw [hd']
  refine wpAny_pure (a := some dx) (wpAny_bind (wpAny_pure (wpAny_bind ?_)))
  refine wpAny_nsSet1 (s := { s with toks := s.toks + 1 }) I.ns fun h' hn2 hs2 => ?_
  obtain ⟨oD, esD, epD, hoD, hdD, hcD⟩ := hn2.count (PySem.Within.cons name v hw)
  refine wpAny_bind (wpAny_lookBehind hoD (by rw [hdD]; exact pastItsLine_dict (Nat.le_trans hcD (by rw [List.length_cons]; (first | lia | omega)))) ?_)
  exact wpAny_pure (h _ ⟨(hs2.2 _ (Ne.symm I.ne)).trans I.obj, hn2, I.ne⟩ hs2)

end

section
variable {P : Program} {w : World} {H H' : Hp} {h h' : Heap} {a C dx : Addr} {fs fs' : List (Str × V)}
end

section
variable {X : Cx} {pins : List (Addr × Obj)} {σ : St} {H : Hp} {s : Shared} {a C dx : Addr} {fs : List (Str × V)} {f : Str} {v : V} {A : Around} {E : Value → Shared → Prop}

end

section
variable {X : Cx} {o e value : Expr} {f : Str} {pos pos' tpos : Pos} {ta tv : TE}
end

section
variable {X : Cx} {pins : List (Addr × Obj)} {σ : St} {H : Hp} {s : Shared} {A : Around} {E : Value → Shared → Prop} {Q : Value → Shared → Prop} {c : Value} {b : Bool}
end
end L2

namespace L2
open PySem PySem.Spec PyProof.Rows

structure Room (k : Nat) (A : Around) : Prop where
  hd : A.handled = none
  dp : A.depth + 3 * k + 5 < recursionLimit
  un : A.units + 16 * k + 200 < cLine
  gd : A.guards = some []
theorem Room.mono {j k : Nat} {A : Around} (r : Room k A) (h : j ≤ k) : Room j A := ⟨r.hd, by have := r.dp; (first | lia | omega), by have := r.un; (first | lia | omega), r.gd⟩
theorem Room.deeper {k : Nat} {A : Around} (r : Room (k + 1) A) (env : Env) : Room k (A.deeper env) :=
  ⟨r.hd, by have := r.dp; show A.depth + 1 + 3 * k + 5 < _; (first | lia | omega), by have := r.un; show A.units + 3 + 16 * k + 200 < _; (first | lia | omega), r.gd⟩
theorem Room.depth {k : Nat} {A : Around} (r : Room k A) : A.depth < recursionLimit := by have := r.dp; (first | lia | omega)
theorem Room.units {k : Nat} {A : Around} (r : Room k A) : A.units + 64 < cLine := by have := r.un; (first | lia | omega)
theorem Room.units0 {k : Nat} {A : Around} (r : Room k A) : A.units < cLine := by have := r.un; (first | lia | omega)

def tNil : TA := fun _ H Q => Q [] H
def tCons (ta : TE) (tr : TA) : TA := fun σ H Q => ta σ H fun x H1 => tr σ H1 fun xs H2 => Q (x :: xs) H2
section
variable {X : Cx} {e : Expr} {es : List Expr} {te : TE} {t : TA} {pos : Pos}
theorem pa_nil : PA X [] tNil := fun _ _ _ _ H Q I h => Calls.spliced_nil ⟨[], H, I, .nil, h⟩
theorem pa_cons (ha : PE X e te) (hr : PA X es t) (hs : starEach (e :: es) X.env = (false, eval e X.env) :: starEach es X.env := by rfl) : PA X (e :: es) (tCons te t) := by
  intro pos pins s σ H Q I h
  rw [hs]
  show wpAny _ _ (spliced ((false, eval e X.env) :: backTo pos (starEach es X.env))) _ _ s
  refine Calls.spliced_cons (thn (ha pins s σ H _ I h) fun u s1 ⟨x, H1, I1, r1, q1⟩ => ?_)
  exact thn (hr pos pins s1 σ H1 _ I1 q1) fun us s2 ⟨xs, H2, I2, r2, q2⟩ => ⟨x :: xs, H2, I2, .cons r1 r2, q2⟩

def tTup (t : TA) : TE := fun σ H Q => t σ H fun xs H1 => NewOb xs.length (.tup xs) H1 Q
def tLst (t : TA) : TE := fun σ H Q => t σ H fun xs H1 => NewOb xs.length (.lst xs) H1 Q
theorem pe_tup {x1} (h : PA X es t) : PE X (.Tuple es x1 pos) (tTup t) := by
  intro pins s σ H Q I hq
  refine wpAny_Tuple_spliced (thn (h pos pins s σ H _ I hq) fun us s1 ⟨xs, H1, I1, r, z, q⟩ => ⟨by rw [← r.length]; exact z, ?_⟩)
  have hf : H1 s1.heap.objs.size = none := I1.hok.fresh (Nat.le_refl _)
  refine ⟨.ref s1.heap.objs.size, upd H1 s1.heap.objs.size (.tup xs), I1.laid (t' := s1.toks) (fun b u e => Heap.get?_push_of_some _ e) (Nat.le_refl _) ?_, rfl, q _ hf⟩
  exact ⟨z, us, r, ⟨_, Heap.get?_push_size _ rfl, rfl, _, rfl, rfl⟩⟩
theorem pe_lst (h : PA X es t) : PE X (.List es pos) (tLst t) := by
  intro pins s σ H Q I hq
  refine wpAny_List_spliced (thn (h pos pins s σ H _ I hq) fun us s1 ⟨xs, H1, I1, r, z, q⟩ => ⟨by rw [← r.length]; exact z, ?_⟩)
  have hf : H1 s1.heap.objs.size = none := I1.hok.fresh (Nat.le_refl _)
  refine ⟨.ref s1.heap.objs.size, upd H1 s1.heap.objs.size (.lst xs), I1.laid (t' := s1.toks) (fun b u e => Heap.get?_push_of_some _ e) (Nat.le_refl _) ?_, rfl, q _ hf⟩
  exact ⟨z, us, 0, r, Heap.get?_push_size _ rfl⟩
end

abbrev Sp := List V → Hp → VK → XK → Prop
abbrev CXT := List Env → Hp → Shared → XK → Value → Shared → Prop

structure Env0 (P : Program) (w : World) (K : PySem.W.Frag) (mg : Str → Option Value) (base : Heap) (A : Around) (outer : List Env) (s : Shared) (H : Hp) : Prop where
  frames : A.frames = some outer
  mod : Mod K mg base
  bs : ∀ b o, base.get? b = some o → s.heap.get? b = some o ∧ H b = none
  bsz : base.objs.size ≤ s.heap.objs.size
  funs : s.heap.FunFrames base outer
  frf : ∀ b ∈ frs outer, H b = none
  hok : HOk P w H s.heap
  bare : AllBare s.gens
def CE (outer : List Env) (P : Program) (w : World) (H : Hp) (s : Shared) (Q : VK) (u : Value) (s' : Shared) : Prop :=
  ∃ v H', s'.os = s.os ∧ AllBare s'.gens ∧ Un (frs outer) [] H H' s.heap s'.heap ∧ HOk P w H' s'.heap ∧ RelV v u ∧ Q v H'
def CR (CX : CXT) (outer : List Env) (P : Program) (w : World) (H : Hp) (s : Shared) (Q : VK) (E : XK) (r : Result) (s' : Shared) : Prop :=
  match r with
  | .ok (.ret u) => CE outer P w H s Q u s'
  | .ok _ => False
  | .error e => CX outer H s E e s'
structure FnOk (P : Program) (w : World) (K : PySem.W.Frag) (mg : Str → Option Value) (base : Heap) (CX : CXT) (k : Nat) (f : Addr) (fd : FuncData) (ps : List Str) (sp : Sp) : Prop where
  len : ∀ vs H Q E, sp vs H Q E → vs.length = ps.length
  run : ∀ (A : Around) (outer : List Env) (s : Shared) (H : Hp) (args : Args) (us : List Value) (vs : List V) (Q : VK) (E : XK), Room k A → Env0 P w K mg base A outer s H → BindsTo s fd args (ps.zip us) → Vals vs us → sp vs H Q E →
    codeAny (model P w) A (.call (.ref f) args) (CR CX outer P w H s Q E) s
theorem FnOk.mono {P : Program} {w : World} {K : PySem.W.Frag} {mg : Str → Option Value} {base : Heap} {CX : CXT} {j k : Nat} {f : Addr} {fd : FuncData} {ps : List Str} {sp : Sp} (F : FnOk P w K mg base CX j f fd ps sp) (h : j ≤ k) :
    FnOk P w K mg base CX k f fd ps sp := ⟨F.len, fun A outer s H args us vs Q E hr => F.run A outer s H args us vs Q E (hr.mono h)⟩
theorem FnOk.imp {P : Program} {w : World} {K : PySem.W.Frag} {mg : Str → Option Value} {base : Heap} {CX : CXT} {k : Nat} {f : Addr} {fd : FuncData} {ps : List Str} {sp sp' : Sp} (F : FnOk P w K mg base CX k f fd ps sp)
    (h : ∀ vs H Q E, sp' vs H Q E → sp vs H Q E) : FnOk P w K mg base CX k f fd ps sp' :=
  ⟨fun vs H Q E q => F.len vs H Q E (h _ _ _ _ q), fun A outer s H args us vs Q E hr he hb hv hs => F.run A outer s H args us vs Q E hr he hb hv (h _ _ _ _ hs)⟩

section
variable {X : Cx} {pins : List (Addr × Obj)} {σ : St} {H : Hp} {s s' : Shared}
theorem Inv.env0 (I : Inv X pins σ H s) : Env0 X.prog X.w X.K X.mg X.base X.A X.stack s H :=
  ⟨I.ok.frames, I.ok.mod, I.bs, Nat.le_trans I.ok.bsz I.sz, I.stack, I.stkFree, I.hok, I.bare⟩
theorem Inv.after {Q : VK} {u : Value} (I : Inv X pins σ H s) (h : CE X.stack X.prog X.w H s Q u s') : EP X pins σ Q u s' := by
  obtain ⟨v, H', os, bare, un, hok, r, q⟩ := h
  obtain ⟨hh, g, d, t, os'⟩ := s'
  obtain rfl : os' = s.os := os
  exact ⟨v, H', I.call (h' := hh) (g' := g) (d' := d) (t' := t) (ch := []) un hok bare (fun b z => absurd z (by simp)), r, q⟩
end

def tCall (sp : Sp) (dvs : List V) (E : XK) (t : TA) : TE := fun σ H Q => t σ H fun vs H1 => sp (vs ++ dvs) H1 Q E
def Binds (K : PySem.W.Frag) (fd : FuncData) (ps : List Str) (ds : List Value) : Prop :=
  ∀ (s : Shared) (us : List Value), K.In s.heap → (us ++ ds).length = ps.length → BindsTo s fd ⟨us, []⟩ (ps.zip (us ++ ds))
theorem Binds.all {K : PySem.W.Frag} {fd : FuncData} {ps : List Str} (h : ∀ us : List Value, us.length = ps.length → bindArgs fd ⟨us, []⟩ = pure (ps.zip us)) : Binds K fd ps [] := fun s us _ hl => by
  rw [List.append_nil] at hl ⊢
  exact .of_eq (h us hl)

def Passes (CX : CXT) (X : Cx) (E : XK) : Prop := ∀ (pins : List (Addr × Obj)) (σ : St) (H : Hp) (s : Shared) (e : Value) (s' : Shared), Inv X pins σ H s → CX X.stack H s E e s' → X.xe e s'

section
variable {X : Cx} {CX : CXT} {k : Nat} {f C : Addr} {fd : FuncData} {ps : List Str} {sp : Sp} {dvs : List V} {ds : List Value} {E : XK} {x m : Str} {p pos apos : Pos} {e o : Expr} {es : List Expr} {ta : TE} {t : TA}

theorem run_fn {pins : List (Addr × Obj)} {σ : St} {H : Hp} {s : Shared} {Q : VK} {us : List Value} {vs : List V} (F : FnOk X.prog X.w X.K X.mg X.base CX k f fd ps sp) (hr : Room k X.A) (hb : Binds X.K fd ps ds) (hd : Vals dvs ds) (hx : Passes CX X E)
    (I : Inv X pins σ H s) (r : Vals vs us) (h : sp (vs ++ dvs) H Q E) : wpAny (model X.prog X.w) X.A (call (.ref f) us) (EP X pins σ Q) X.xe s := by
  have r2 : Vals (vs ++ dvs) (us ++ ds) := r.append hd
  have hl : (us ++ ds).length = ps.length := by rw [← r2.length]; exact F.len _ _ _ _ h
  refine wpAny_call (codeAny_mono (F.run X.A X.stack s H ⟨us, []⟩ (us ++ ds) (vs ++ dvs) Q E hr I.env0 (hb s us I.kIn hl) r2 h) fun r s' hq => ?_)
  cases r with
  | error e => exact hx pins σ H s e s' I hq
  | ok fl =>
    cases fl with
    | ret u => exact I.after hq
    | next => exact False.elim hq
    | brk => exact False.elim hq
    | cont => exact False.elim hq

theorem pe_call (F : FnOk X.prog X.w X.K X.mg X.base CX k f fd ps sp) (hr : Room k X.A) (hg : Gl X x) (hm : X.mg x = some (.ref f)) (hk : PySem.W.keepIn X.K (.ref f) = true) (hb : Binds X.K fd ps ds) (hd : Vals dvs ds) (hx : Passes CX X E)
    (ha : PA X (e :: es) t) (hdb : (x == ("__debug__" : Str)) = false := by decide) (he : starEach (e :: es) X.env = (false, eval e X.env) :: starEach es X.env := by rfl) (hpl : (backTo pos (starEach es X.env)).any (·.1) = false := by rfl) :
    PE X (.Call (.Name x p) (e :: es) [] pos) (tCall sp dvs E t) := by
  intro pins s σ H Q I h
  refine wpAny_Call_Name_kw (ld_glob I hg hm ?_ hdb)
  refine PySem.W.callWith_K (h₀ := X.base) I.ok.mod.kin hk (thn (ha pos pins s σ H _ I h) fun us s1 ⟨vs, H1, I1, r, q⟩ => ⟨I1.kIn, ?_⟩) he hpl
  exact run_fn F hr hb hd hx I1 r q
end

section
variable {X : Cx} {CX : CXT} {k : Nat} {f C : Addr} {fd : FuncData} {ps ks : List Str} {sp : Sp} {E : XK} {x m : Str} {p pos apos kpos : Pos} {e o : Expr} {es : List Expr} {kws : List Keyword} {te ta : TE} {t tk : TA} {nm : Option Str}
variable {g : List Value → List Value → List Value} {gV : List V → List V → List V}
end

structure FnScope (N P : List Str) (sc : Scope) : Prop where
  kind : sc.kind = .function
  co : sc.isCoroutine = false
  gen : sc.isGenerator = false
  nd : N.Nodup
  pre : N.take P.length = P
  par : ∀ x ∈ P, sc.names.lookup x = some .local ∨ sc.names.lookup x = some .cell
  nofree : ∀ y ∈ sc.names, y.2 ≠ .free

theorem bindL_out {kindOf : Str → Option NameKind} {x : Str} : ∀ {binds : List (Str × Value)} {m : Str → Option Value}, (∀ v, (x, v) ∉ binds) → bindL kindOf binds m x = m x
  | [], _, _ => rfl
  | (n, v) :: r, m, h => by
    unfold bindL
    rw [bindL_out fun w hw => h w (List.mem_cons_of_mem _ hw)]
    split
    · have : x ≠ n := by rintro rfl; exact h v List.mem_cons_self
      simp [this]
    · rfl
theorem bindC_out {kindOf : Str → Option NameKind} {x : Str} : ∀ {binds : List (Str × Value)} {m : Str → Option Value}, (∀ v, (x, v) ∉ binds) → bindC kindOf binds m x = m x
  | [], _, _ => rfl
  | (n, v) :: r, m, h => by
    unfold bindC
    rw [bindC_out fun w hw => h w (List.mem_cons_of_mem _ hw)]
    split
    · rfl
    · have : x ≠ n := by rintro rfl; exact h v List.mem_cons_self
      simp [this]
theorem bindL_get {kindOf : Str → Option NameKind} {x : Str} {v : Value} : ∀ {P : List Str} {vs : List Value} {i : Nat} {m : Str → Option Value}, P.Nodup → P[i]? = some x → vs[i]? = some v → kindOf x = some .local →
    bindL kindOf (P.zip vs) m x = some v
  | [], _, _, _, _, h, _, _ => by simp at h
  | _ :: _, [], _, _, _, _, h, _ => by simp at h
  | p :: P, w :: vs, 0, m, nd, h1, h2, hk => by
    simp at h1 h2; subst h1; subst h2
    show bindL kindOf ((p, w) :: P.zip vs) m p = _
    unfold bindL
    rw [bindL_out fun v hv => (List.nodup_cons.mp nd).1 (List.of_mem_zip hv).1, if_pos hk]
    simp
  | p :: P, w :: vs, i + 1, m, nd, h1, h2, hk => by
    show bindL kindOf ((p, w) :: P.zip vs) m x = _
    unfold bindL
    exact bindL_get (i := i) (List.nodup_cons.mp nd).2 (by simpa using h1) (by simpa using h2) hk
theorem bindC_get {kindOf : Str → Option NameKind} {x : Str} {v : Value} : ∀ {P : List Str} {vs : List Value} {i : Nat} {m : Str → Option Value}, P.Nodup → P[i]? = some x → vs[i]? = some v → kindOf x ≠ some .local →
    bindC kindOf (P.zip vs) m x = some v
  | [], _, _, _, _, h, _, _ => by simp at h
  | _ :: _, [], _, _, _, _, h, _ => by simp at h
  | p :: P, w :: vs, 0, m, nd, h1, h2, hk => by
    simp at h1 h2; subst h1; subst h2
    show bindC kindOf ((p, w) :: P.zip vs) m p = _
    unfold bindC
    rw [bindC_out fun v hv => (List.nodup_cons.mp nd).1 (List.of_mem_zip hv).1, if_neg hk]
    simp
  | p :: P, w :: vs, i + 1, m, nd, h1, h2, hk => by
    show bindC kindOf ((p, w) :: P.zip vs) m x = _
    unfold bindC
    exact bindC_get (i := i) (List.nodup_cons.mp nd).2 (by simpa using h1) (by simpa using h2) hk

def start (N : List Str) (vs : List V) : St := vs.map some ++ List.replicate (N.length - vs.length) none

def cxOf (CX : CXT) (P : Program) (w : World) (K : PySem.W.Frag) (mg : Str → Option Value) (base : Heap) (N : List Str) (qual : Str) (scope : Scope) (f : Addr) (cd : Value) (A : Around) (outer : List Env) (s : Shared) (H : Hp) (E : XK) : Cx where
  prog := P
  w := w
  K := K
  mg := mg
  base := base
  A := A.deeper (envOfC qual scope s.heap.objs.size f cd)
  N := N
  s₀ := s
  H₀ := H
  env := envOfC qual scope s.heap.objs.size f cd
  outer := outer
  stack := envOfC qual scope s.heap.objs.size f cd :: outer
  ex := []
  calm := true
  fn := fun _ => true
  pn := []
  xe := fun e s' => wpAny (model P w) (A.deeper (envOfC qual scope s.heap.objs.size f cd)) (leaving (envOfC qual scope s.heap.objs.size f cd) e) (fun _ s'' => CX outer H s E e s'') (fun e' s'' => CX outer H s E e' s'') s'

theorem cell_has {sc : Scope} {n : Nat} {x : Str} (h : sc.names.lookup x = some .cell) : ∃ c, (cellsFrom n sc.names []).lookup x = some c := by
  have q := PySem.W.cellsFrom_some sc.names n [] (.inl h)
  exact Option.isSome_iff_exists.mp q

theorem inv_start {CX : CXT} {P : Program} {w : World} {K : PySem.W.Frag} {mg : Str → Option Value} {base : Heap} {N ps : List Str} {qual : Str} {scope : Scope} {f : Addr} {cd : Value} {A : Around} {outer : List Env} {s s1 : Shared} {H : Hp} {E : XK} {us : List Value} {vs : List V}
    (S : FnScope N ps scope) (hd : A.handled = none) (e0 : Env0 P w K mg base A outer s H) (hl : vs.length = ps.length) (r : Vals vs us)
    (x : InCallC s s.heap.objs.size (bindL (envOfC qual scope s.heap.objs.size f cd).kindOf (ps.zip us) fun _ => none) (cellsFrom (s.heap.objs.size + 1) scope.names []) (bindC (envOfC qual scope s.heap.objs.size f cd).kindOf (ps.zip us) fun _ => none) s1) :
    Inv (cxOf CX P w K mg base N qual scope f cd A outer s H E) [] (start N vs) H s1 := by
  have hpl : ps.length ≤ N.length := by have := congrArg List.length S.pre; rw [List.length_take] at this; (first | lia | omega)
  obtain ⟨h1, tk, rfl, hk⟩ := x.done
  have noA : ∀ b : Addr, b ∉ (cxOf CX P w K mg base N qual scope f cd A outer s H E).ex := fun b z => absurd (show b ∈ ([] : List Addr) from z) (by simp)
  refine ⟨⟨e0.mod, S.kind, rfl, rfl, Nat.le_refl _, fun y z c h1 h2 => ?_, fun y hy => ?_, fun y c _ h => ?_, fun _ => hd, Around.frames_deeper e0.frames, .inr ⟨rfl, rfl⟩, fun b z => absurd z (noA b), e0.bs, e0.bsz, fun b _ _ => noA b, fun b z => absurd z (noA b), e0.funs, e0.frf⟩,
    rfl, e0.bare, Un.kept hk, ⟨_, x.toInCall.ns, fun i y v h1 h2 h3 => ?_⟩, fun y c h => ⟨_, x.cell y c h⟩, e0.hok.fresh (Nat.le_refl _), fun y c h => ?_, fun p hp => absurd (show p ∈ ([] : List (Addr × Obj)) from hp) (by simp), e0.hok.kept hk, ?_⟩
  · exact name_of_addr x.apart (PySem.mem_of_lookup h1) (PySem.mem_of_lookup h2)
  · have hy : scope.names.lookup y = some .cell ∨ scope.names.lookup y = some .free := hy
    rcases hy with hy | hy
    · exact cell_has hy
    · exact absurd rfl (S.nofree _ (PySem.mem_of_lookup hy))
  · exact Nat.le_of_lt (x.above y c (PySem.mem_of_lookup h))
  · have hi : i < vs.length := by
      unfold start at h2
      by_cases hi : i < vs.length
      · exact hi
      · rw [List.getElem?_append_right (by simpa using hi)] at h2
        rw [List.getElem?_replicate] at h2
        split at h2 <;> cases h2
    have ha : vs[i]? = some v := by
      unfold start at h2
      rw [List.getElem?_append_left (by simpa using hi), List.getElem?_map] at h2
      cases e : vs[i]? with
      | none => rw [e] at h2; cases h2
      | some a => rw [e] at h2; cases h2; rfl
    obtain ⟨u, hu, rv⟩ := r.get ha
    have hp : ps[i]? = some y := by
      rw [← S.pre, List.getElem?_take_of_lt (by (first | lia | omega))]; exact h1
    have ndP : ps.Nodup := by rw [← S.pre]; exact S.nd.sublist (List.take_sublist _ _)
    refine ⟨u, rv, ?_⟩
    rcases S.par y (List.mem_of_getElem? hp) with k | k
    · exact .inl ⟨k, bindL_get ndP hp hu k⟩
    · obtain ⟨c, e⟩ := cell_has (n := s.heap.objs.size + 1) k
      refine .inr ⟨.inl k, c, e, ?_⟩
      have q := x.cell y c e
      rw [bindC_get ndP hp hu (by show scope.names.lookup y ≠ _; rw [k]; decide)] at q
      exact q
  · exact e0.hok.fresh (Nat.le_of_lt (x.above y c (PySem.mem_of_lookup h)))
  · unfold start
    show _ = N.length
    rw [List.length_append, List.length_map, List.length_replicate]
    (first | lia | omega)

theorem fn_of {CX : CXT} {P : Program} {w : World} {K : PySem.W.Frag} {mg : Str → Option Value} {base : Heap} {k : Nat} {f : Addr} {name qual : Str} {params : Arguments} {body : List Stmt} {scope : Scope} {dV kV doc pm cdv ct oc : Value} {an od : Option Addr}
    {osl : Array (Option Value)} {N ps : List Str} {sp : Sp} (lk : K.lookup f = some ⟨oc, od, .func (PySem.W.fnOf name qual params body scope dV kV doc pm an cdv ct), osl⟩) (hcd : PySem.W.codeIn K cdv qual = true) (S : FnScope N ps scope)
    (len : ∀ vs H Q E, sp vs H Q E → vs.length = ps.length)
    (hbody : ∀ (A : Around) (outer : List Env) (s : Shared) (H : Hp) (vs : List V) (Q : VK) (E : XK), Room k (A.deeper (envOfC qual scope s.heap.objs.size f cdv)) → sp vs H Q E →
      ∃ t, PSs (cxOf CX P w K mg base N qual scope f cdv A outer s H E) body t ∧ t { nx := fun _ H' => Q .non H', rt := Q } (start N vs) H) :
    FnOk P w K mg base CX (k + 1) f (PySem.W.fnOf name qual params body scope dV kV doc pm an cdv ct) ps sp := by
  refine ⟨len, fun A outer s H args us vs Q E hr e0 hb r hsp => ?_⟩
  have hl := len _ _ _ _ hsp
  have KX : K.In s.heap := e0.mod.kin.keeps fun b o e => (e0.bs b o e).1
  have lim : s.heap.NoLimit := e0.mod.nolimit.keeps fun b o e => (e0.bs b o e).1
  have hkind : ∀ y ∈ ps.zip us, scope.names.lookup y.1 = some .local ∨ (scope.names.lookup y.1 = some .cell ∧ ((cellsFrom (s.heap.objs.size + 1) scope.names []).lookup y.1).isSome = true) := fun ⟨n, v⟩ hy => by
    rcases S.par n (List.of_mem_zip hy).1 with q | q
    · exact .inl q
    · exact .inr ⟨q, PySem.W.cellsFrom_some _ _ _ (.inl q)⟩
  refine codeAny_call_function hr.depth (KX _ _ lk) rfl S.co S.gen rfl (PySem.W.codeRec_of KX hcd) (hb _ _ _ _ ?_)
  refine wpAny_newFunctionEnv_cells S.kind hkind fun env he s1 x => ?_
  subst he
  refine ⟨lim.keeps x.toInCall.keep, codeAny_func ?_⟩
  obtain ⟨t, ht, hq⟩ := hbody A outer s H vs Q E (hr.deeper _) hsp
  have I : Inv (cxOf CX P w K mg base N qual scope f cdv A outer s H E) [] (start N vs) H s1 := inv_start S hr.hd e0 hl r x
  refine wpAny_mono (ht [] s1 (start N vs) H _ I hq) (fun fl s' hs => ?_) fun e s' hs => hs
  have fin : ∀ {σ' : St} {H' : Hp} {v : V} {u : Value}, Inv (cxOf CX P w K mg base N qual scope f cdv A outer s H E) [] σ' H' s' → RelV v u → Q v H' → CE outer P w H s Q u s' :=
    fun {σ' H' v u} J rv q => ⟨v, H', J.os, J.bare, J.base, J.hok, rv, q⟩
  cases fl with
  | ret u =>
    obtain ⟨v, σ', H', J, rv, q⟩ := hs
    exact fin J rv q
  | next =>
    obtain ⟨σ', H', J, q⟩ := hs
    exact fin (v := V.non) (u := Value.none) J rfl q
  | brk =>
    obtain ⟨_, _, _, q⟩ := hs
    exact False.elim q
  | cont =>
    obtain ⟨_, _, _, q⟩ := hs
    exact False.elim q
end L2

namespace L2
open PySem PySem.Spec PyProof.Rows
section
variable {X : Cx} {x : Str} {p pos : Pos} {e : Expr} {es : List Expr} {t : TA} {id T : String} {r : List V → Hp → VK → Prop}

def tCB (r : List V → Hp → VK → Prop) (t : TA) : TE := fun σ H Q => t σ H fun vs H1 => r vs H1 Q
theorem pe_callB (hc : CallR X (.builtin id) r) (hg : Gl X x) (hm : X.mg x = none) (hv : bootBuiltins x = some (.builtin id)) (ha : PA X (e :: es) t) (hn : x ≠ "__name__" := by decide) (hdb : (x == ("__debug__" : Str)) = false := by decide)
    (he : starEach (e :: es) X.env = (false, eval e X.env) :: starEach es X.env := by rfl) (hpl : (backTo pos (starEach es X.env)).any (·.1) = false := by rfl) : PE X (.Call (.Name x p) (e :: es) [] pos) (tCB r t) := by
  intro pins s σ H Q I h
  refine wpAny_Call_Name_kw (ld_blt I hg hm hv ?_ hn hdb)
  exact PyProof.Rows.callWith_builtin1 (thn (ha pos pins s σ H _ I h) fun us s1 ⟨vs, H1, I1, r1, q1⟩ => hc pins s1 σ H1 vs us Q I1 r1 q1) he hpl
theorem pe_callTy (hc : CallR X (.type T) r) (hg : Gl X x) (hm : X.mg x = none) (hv : bootBuiltins x = some (.type T)) (ha : PA X (e :: es) t) (hn : x ≠ "__name__" := by decide) (hdb : (x == ("__debug__" : Str)) = false := by decide)
    (he : starEach (e :: es) X.env = (false, eval e X.env) :: starEach es X.env := by rfl) (hpl : (backTo pos (starEach es X.env)).any (·.1) = false := by rfl) : PE X (.Call (.Name x p) (e :: es) [] pos) (tCB r t) := by
  intro pins s σ H Q I h
  refine wpAny_Call_Name_kw (ld_blt I hg hm hv ?_ hn hdb)
  exact PyProof.Rows.callWith_type1 (thn (ha pos pins s σ H _ I h) fun us s1 ⟨vs, H1, I1, r1, q1⟩ => hc pins s1 σ H1 vs us Q I1 r1 q1) he hpl
end
end L2

namespace HT
open PySem PyProof.Rows

section
open PySem.SeqAt
open PySem.AutoSeq1 (wpAny_loadPart')
open PySem.MeetsSeq PySem.MeetsSeq2 PySem.MeetsSeq3

end

section
variable {prog : Program} {w : World} {A : Around} {E : Value → Shared → Prop} {s : Shared}

def sIx (n d : Nat) : Option Int → Nat
  | none => d
  | some v => if v < 0 then (v + (n : Int)).toNat else min v.toNat n
theorem sIx_none (n d : Nat) : sIx n d none = d := rfl
theorem sIx_nat (n d k : Nat) : sIx n d (some (k : Int)) = min k n := by
  show (if (k : Int) < 0 then ((k : Int) + (n : Int)).toNat else min (k : Int).toNat n) = min k n
  rw [if_neg (by (first | lia | omega)), Int.toNat_natCast]
end
end HT

namespace L2
open PySem PySem.Spec PyProof.Rows

abbrev TO := St → Hp → (Option Int → Hp → Prop) → Prop
def PO (X : Cx) (e : Option Expr) (t : TO) : Prop :=
  ∀ (pins : List (Addr × Obj)) (s : Shared) (σ : St) (H : Hp) (Q : Option Int → Hp → Prop), Inv X pins σ H s → t σ H Q →
    wpAny (model X.prog X.w) X.A (evalPart e X.env) (fun u s' => ∃ o H', Inv X pins σ H' s' ∧ IsPart u o ∧ Q o H') X.xe s
def tNoPart : TO := fun _ H Q => Q none H
def tPart (t : TE) : TO := fun σ H Q => t σ H fun x H1 => OfI x H1 fun i H1 => Q (some i) H1

theorem intsAre_of {ns : List Int} : ∀ {us : List Value}, Vals (ns.map V.int) us → IntsAre us ns := by
  induction ns with
  | nil => intro us r; rw [List.map_nil] at r; cases r; exact .nil
  | cons n ns ih =>
    intro us r
    rw [List.map_cons] at r
    cases r with
    | cons r1 r2 =>
      obtain ⟨t, e⟩ := r1
      subst e
      exact .cons n t (ih r2)

section
variable {X : Cx} {e : Expr} {te : TE} {lo hi : Option Expr} {tl th : TO} {pos p2 : Pos}

theorem po_none : PO X none tNoPart := by
  intro pins s σ H Q I h
  rw [evalPart_none]
  exact wpAny_pure ⟨none, H, I, .none, h⟩
theorem po_some (h : PE X e te) : PO X (some e) (tPart te) := by
  intro pins s σ H Q I hw
  rw [evalPart_some]
  refine thn (h pins s σ H _ I hw) fun u s1 ⟨x, H1, I1, r1, q1⟩ => ?_
  obtain ⟨i, rfl, q⟩ := q1
  obtain ⟨t, rfl⟩ := r1
  exact ⟨some i, H1, I1, .int i t, q⟩

def SlR (X : Cx) (r : V → Option Int → Option Int → Hp → VK → Prop) : Prop :=
  ∀ (pins : List (Addr × Obj)) (s : Shared) (σ : St) (H : Hp) (x : V) (v vl vu : Value) (lo hi : Option Int) (sl : Addr) (Q : VK), Inv X pins σ H s → RelV x v → s.heap.IsSliceOf sl vl vu .none → IsPart vl lo → IsPart vu hi → r x lo hi H Q →
    ∃ T id, typeLookup (.type T) "__getitem__" = pure (some (.builtin id)) ∧ s.TypeIs v T ∧ wpAny (model X.prog X.w) X.A (getItem v (.ref sl)) (EP X pins σ Q) X.xe s
def tSl (r : V → Option Int → Option Int → Hp → VK → Prop) (te : TE) (tl th : TO) : TE := fun σ H Q => te σ H fun x H1 => tl σ H1 fun l H2 => th σ H2 fun u H3 => r x l u H3 Q
theorem pe_slice {r : V → Option Int → Option Int → Hp → VK → Prop} (hr : SlR X r) (he : PE X e te) (hl : PO X lo tl) (hu : PO X hi th) : PE X (.Subscript e (.Slice lo hi none p2) pos) (tSl r te tl th) := by
  intro pins s σ H Q I h
  refine Subscript_ (thn (he pins s σ H _ I h) fun v s1 ⟨x, H1, I1, r1, q1⟩ => ?_)
  refine wpAny_Slice (thn (hl pins s1 σ H1 _ I1 q1) fun vl s2 ⟨l, H2, I2, pl, q2⟩ => thn (hu pins s2 σ H2 _ I2 q2) fun vu s3 ⟨u, H3, I3, pu, q3⟩ => ?_)
  rw [evalPart_none]
  refine wpAny_pure ?_
  have I4 : Inv X pins σ H3 { s3 with heap := s3.heap.push { cls := .type "slice", data := .fields #[vl, vu, .none] } } := I3.kept (t' := s3.toks) fun b ob q => Heap.get?_push_of_some _ q
  obtain ⟨T, id, hT, ht, hg⟩ := hr pins { s3 with heap := s3.heap.push { cls := .type "slice", data := .fields #[vl, vu, .none] } } σ H3 x v vl vu l u s3.heap.objs.size Q I4 r1 (Heap.IsSliceOf.new ..) pl pu q3
  show wpAny (model X.prog X.w) X.A (subscriptTail e (.Slice lo hi none p2) v (.ref s3.heap.objs.size)) (EP X pins σ Q) X.xe { s3 with heap := s3.heap.push { cls := .type "slice", data := .fields #[vl, vu, .none] } }
  exact tail_any (ops := [.ref s3.heap.objs.size, v]) ht hT hg (by with_unfolding_all rfl)

def cutV (xs : List V) (lo hi : Option Int) : List V := (xs.drop (HT.sIx xs.length 0 lo)).take (HT.sIx xs.length xs.length hi - HT.sIx xs.length 0 lo)
theorem cutV_length (xs : List V) (lo hi : Option Int) : (cutV xs lo hi).length ≤ xs.length := by
  unfold cutV
  rw [List.length_take, List.length_drop]
  (first | lia | omega)
end
end L2

namespace L2
open PySem PySem.Spec PyProof.Rows

def ixN (n : Nat) (i : Int) : Option Nat := if 0 ≤ i then (if i < n then some i.toNat else none) else if -(n : Int) ≤ i then some (i + n).toNat else none
def atI {α : Type} (xs : List α) (i : Int) : Option α := (ixN xs.length i).bind fun j => xs[j]?
theorem ixN_seq {n : Nat} {i : Int} {j : Nat} (h : ixN n i = some j) : seqIndex? i n = some j ∧ j < n ∧ -(n : Int) ≤ i ∧ i < n := by
  unfold ixN at h
  by_cases h0 : 0 ≤ i
  · rw [if_pos h0] at h
    by_cases h1 : i < n
    · rw [if_pos h1] at h
      have e : i.toNat = j := Option.some.inj h
      exact ⟨by rw [seqIndex_of h0 h1, e], by (first | lia | omega), by (first | lia | omega), h1⟩
    · rw [if_neg h1] at h; cases h
  · rw [if_neg h0] at h
    by_cases h1 : -(n : Int) ≤ i
    · rw [if_pos h1] at h
      have e : (i + n).toNat = j := Option.some.inj h
      exact ⟨by rw [seqIndex_neg (by (first | lia | omega)) h1, e], by (first | lia | omega), h1, by (first | lia | omega)⟩
    · rw [if_neg h1] at h; cases h
theorem atI_get {α : Type} {xs : List α} {i : Int} {v : α} (h : atI xs i = some v) : ∃ j, seqIndex? i xs.length = some j ∧ xs[j]? = some v ∧ j < xs.length ∧ -(xs.length : Int) ≤ i ∧ i < xs.length := by
  unfold atI at h
  cases e : ixN xs.length i with
  | none => rw [e] at h; cases h
  | some j =>
    rw [e] at h
    obtain ⟨h1, h2, h3, h4⟩ := ixN_seq e
    exact ⟨j, h1, h, h2, h3, h4⟩
theorem atI_nat {α : Type} {xs : List α} {j : Nat} {v : α} (h : xs[j]? = some v) : atI xs (j : Int) = some v := by
  have hj : j < xs.length := (List.getElem?_eq_some_iff.mp h).1
  have e : ixN xs.length (j : Int) = some j := by
    unfold ixN
    rw [if_pos (by (first | lia | omega)), if_pos (by (first | lia | omega))]; simp
  unfold atI; rw [e]; exact h
def PlainIx (b : Expr) : Prop := ∀ o i, subscripted b false o i = operate [o, i] (getItem o i)
def IxR (X : Cx) (r : R2) : Prop :=
  ∀ (value slice : Expr) (pins : List (Addr × Obj)) (s : Shared) (σ : St) (H : Hp) (x y : V) (v u : Value) (Q : VK), Inv X pins σ H s → RelV x v → RelV y u → r x y H Q →
    subscripted slice false v u = operate [v, u] (getItem v u) → wpAny (model X.prog X.w) X.A (subscriptTail value slice v u) (EP X pins σ Q) X.xe s
def MtR (X : Cx) (id : String) (r : V → List V → Hp → VK → Prop) : Prop :=
  ∀ (pins : List (Addr × Obj)) (s : Shared) (σ : St) (H : Hp) (x : V) (xs : List V) (v : Value) (us : List Value) (Q : VK), Inv X pins σ H s → RelV x v → Vals xs us → r x xs H Q →
    wpAny (model X.prog X.w) X.A (call (.builtin id) (v :: us)) (EP X pins σ Q) X.xe s
section
variable {X : Cx} {a b : Expr} {ta tb : TE} {pos : Pos}
theorem pe_ix {r : R2} (hr : IxR X r) (ha : PE X a ta) (hb : PE X b tb) (hs : PlainIx b) : PE X (.Subscript a b pos) (tOp r ta tb) := by
  intro pins s σ H Q I h
  exact Subscript_ (binT ha hb I h fun v u s2 x y H2 I2 rx ry q => hr a b pins s2 σ H2 x y v u Q I2 rx ry q (hs _ _))

inductive RIxLP (K : PySem.W.Frag) (x : V) (y : V) (H : Hp) (Q : VK) : Prop
  | mk (p : _) (xs : _) (i : _) (v : _) (h1 : x = .ref p) (h2 : y = .int i) (h3 : SqL K H p xs) (h4 : atI xs i = some v) (h5 : Q v H) : RIxLP K x y H Q
def rIxL (K : PySem.W.Frag) : R2 := fun x y H Q => RIxLP K x y H Q
inductive RIxTP (K : PySem.W.Frag) (x : V) (y : V) (H : Hp) (Q : VK) : Prop
  | mk (p : _) (xs : _) (i : _) (v : _) (h1 : x = .ref p) (h2 : y = .int i) (h3 : SqT K H p xs) (h4 : atI xs i = some v) (h5 : Q v H) : RIxTP K x y H Q
def rIxT (K : PySem.W.Frag) : R2 := fun x y H Q => RIxTP K x y H Q
theorem ix_list : IxR X (rIxL X.K) := by
  intro value slice pins s σ H x y v u Q I rx ry h hs
  obtain ⟨p, xs, i, z, rfl, rfl, hq, he, q⟩ := h
  cases rx
  obtain ⟨t, rfl⟩ := ry
  obtain ⟨its, r, pl, hz⟩ := I.list hq
  obtain ⟨j, h1, h2, h3, h4, h5⟩ := atI_get he
  obtain ⟨w, ew, rw'⟩ := r.get h2
  have hl := r.length
  have hn := line63
  have fin : EP X pins σ Q w s := ⟨z, H, I, rw', q⟩
  by_cases h0 : 0 ≤ i
  · have hj : i.toNat = j := by
      rw [seqIndex_of h0 h5] at h1
      exact Option.some.inj h1
    exact item_listR pl.isList h0 (by (first | lia | omega)) (by rw [hj]; simpa using ew) fin hs
  · have hj : (i + (its.toArray.size : Int)).toNat = j := by
      rw [seqIndex_neg (by (first | lia | omega)) h4] at h1
      rw [List.size_toArray, ← hl]
      exact Option.some.inj h1
    exact subscriptTail_builtinR (x := w) pl.isList.typeIs slot_list_getitem.lookup
      (wpAny_getItem_list_neg (Q := fun r s' => r = w ∧ EP X pins σ Q r s') pl.isList (by (first | lia | omega)) (by rw [List.size_toArray] <;> (first | lia | omega)) (by (first | lia | omega)) (by rw [hj]; simpa using ew) ⟨rfl, fin⟩) hs
theorem ix_tup : IxR X (rIxT X.K) := by
  intro value slice pins s σ H x y v u Q I rx ry h hs
  obtain ⟨p, xs, i, z, rfl, rfl, hq, he, q⟩ := h
  cases rx
  obtain ⟨t, rfl⟩ := ry
  obtain ⟨its, r, pl, hz⟩ := I.tuple hq
  obtain ⟨j, h1, h2, h3, h4, h5⟩ := atI_get he
  obtain ⟨w, ew, rw'⟩ := r.get h2
  have hl := r.length
  have hn := line63
  have fin : EP X pins σ Q w s := ⟨z, H, I, rw', q⟩
  exact subscriptTail_builtinR (x := w) pl.typeIs slot_tuple_getitem.lookup
    (getItem_tuple (j := j) (Q := fun r s' => r = w ∧ EP X pins σ Q r s') pl (by (first | lia | omega)) (by (first | lia | omega)) (by rw [List.size_toArray, ← hl]; exact h1) (by simpa using ew) ⟨rfl, fin⟩) hs
theorem mapSeq_set (its : List Value) (n j : Nat) (u : Value) : Obj.mapSeq (·.setIfInBounds j u) { cls := .type "list", data := .seq its.toArray n } = { cls := .type "list", data := .seq (its.set j u).toArray n } := by
  simp [Obj.mapSeq]
theorem Inv.lst {pins : List (Addr × Obj)} {σ : St} {H : Hp} {s : Shared} {p : Addr} {xs : List V} (I : Inv X pins σ H s) (h : H p = some (.lst xs)) :
    ∃ (its : List Value) (n : Nat), Vals xs its ∧ s.heap.get? p = some { cls := .type "list", data := .seq its.toArray n } ∧ xs.length ≤ sizeLine := by
  obtain ⟨z, its, n, r, e⟩ := I.hok p _ h
  exact ⟨its, n, r, e, z⟩
theorem Inv.lstUpd {pins : List (Addr × Obj)} {σ : St} {H : Hp} {s : Shared} {p : Addr} {xs ys : List V} {its its' : List Value} {n n' : Nat} {f : Obj → Obj} (I : Inv X pins σ H s) (h : H p = some (.lst xs))
    (ho : s.heap.get? p = some { cls := .type "list", data := .seq its.toArray n }) (hf : f { cls := .type "list", data := .seq its.toArray n } = { cls := .type "list", data := .seq its'.toArray n' }) (r : Vals ys its') (hz : ys.length ≤ sizeLine) (t : Nat) :
    Inv X pins σ (upd H p (.lst ys)) { s with heap := s.heap.update p f, toks := t } := by
  have e : (s.heap.update p f).get? p = some { cls := .type "list", data := .seq its'.toArray n' } := by
    rw [Heap.get?_update_self f ho (by rw [hf] <;> rfl), hf]
  refine I.write (x := p) (e := p) (by rw [h]; trivial) (.inl rfl) (fun b u hb q => (Heap.get?_update_other _ _ (Ne.symm hb)).trans q) ⟨_, e⟩ ?_
  exact ⟨hz, its', n', r, e⟩
inductive RSetLP (o : V) (i : V) (v : V) (H : Hp) (Q : Hp → Prop) : Prop
  | mk (p : _) (xs : _) (k : _) (j : _) (h1 : o = .ref p) (h2 : i = .int k) (h3 : H p = some (.lst xs)) (h4 : ixN xs.length k = some j) (h5 : Q (upd H p (.lst (xs.set j v)))) : RSetLP o i v H Q
def rSetL : V → V → V → Hp → (Hp → Prop) → Prop := fun o i v H Q => RSetLP  o i v H Q
theorem set_list : PSet X rSetL := by
  intro pins s σ H o i v ov iv u Q I ro ri rv h
  obtain ⟨p, xs, k, j, rfl, rfl, hp, hj, q⟩ := h
  cases ro
  obtain ⟨t, rfl⟩ := ri
  obtain ⟨its, n, r, ho, hz⟩ := I.lst hp
  obtain ⟨h1, h2, h3, h4⟩ := ixN_seq hj
  have hl := r.length
  have hn := line63
  have I' : Inv X pins σ (upd H p (.lst (xs.set j v))) { s with heap := s.heap.update p (Obj.mapSeq (·.setIfInBounds j u)) } :=
    I.lstUpd hp ho (mapSeq_set its n j u) (r.set rv j) (by rw [List.length_set]; exact hz) s.toks
  by_cases h0 : 0 ≤ k
  · have hk : k.toNat = j := by
      rw [seqIndex_of h0 h4] at h1
      exact Option.some.inj h1
    exact PySem.W.ki_setAt ho h0 (by (first | lia | omega)) (by rw [List.size_toArray, ← hl]; exact h4) (by rw [hk]; exact ⟨_, I', q⟩)
  · have hk : (k + (its.toArray.size : Int)).toNat = j := by
      rw [seqIndex_neg (by (first | lia | omega)) h3] at h1
      rw [List.size_toArray, ← hl]
      exact Option.some.inj h1
    exact PySem.W.ki_setBack ho (by (first | lia | omega)) (by rw [List.size_toArray, ← hl]; exact h3) (by (first | lia | omega)) (by rw [hk]; exact ⟨_, I', q⟩)

theorem slice_bounds (lo hi : Option Int) (n : Nat) : (sliceBounds lo hi none n).1 = ((HT.sIx n 0 lo : Nat) : Int) ∧ (sliceBounds lo hi none n).2.1 = ((HT.sIx n n hi : Nat) : Int) ∧ (sliceBounds lo hi none n).2.2 = 1 := by
  refine ⟨?_, ?_, rfl⟩
  · cases lo with
    | none => simp [sliceBounds, HT.sIx]
    | some i =>
      simp only [sliceBounds, HT.sIx, Option.getD_none, show (1 : Int) > 0 by decide, if_true]
      by_cases h : i < 0
      · simp only [h, if_true] <;> (first | lia | omega)
      · simp only [h, if_false] <;> (first | lia | omega)
  · cases hi with
    | none => simp [sliceBounds, HT.sIx]
    | some i =>
      simp only [sliceBounds, HT.sIx, Option.getD_none, show (1 : Int) > 0 by decide, if_true]
      by_cases h : i < 0
      · simp only [h, if_true] <;> (first | lia | omega)
      · simp only [h, if_false] <;> (first | lia | omega)
theorem slicePick_cut (its : List Value) (lo hi : Option Int) : slicePick its.toArray lo hi none = ((its.drop (HT.sIx its.length 0 lo)).take (HT.sIx its.length its.length hi - HT.sIx its.length 0 lo)).toArray := by
  obtain ⟨h1, h2, h3⟩ := slice_bounds lo hi its.toArray.size
  unfold slicePick
  rw [h1, h2, h3]
  simp only [sliceRange_one, pick_run, List.size_toArray] <;> rfl
inductive RSlLP (K : PySem.W.Frag) (x : V) (lo : Option Int) (hi : Option Int) (H : Hp) (Q : VK) : Prop
  | mk (a : _) (xs : _) (h1 : x = .ref a) (h2 : SqL K H a xs) (h3 : ∀ p, H p = none → Q (.ref p) (upd H p (.lst (cutV xs lo hi)))) : RSlLP K x lo hi H Q
def rSlL (K : PySem.W.Frag) : V → Option Int → Option Int → Hp → VK → Prop := fun x lo hi H Q => RSlLP K x lo hi H Q
theorem sl_list : SlR X (rSlL X.K) := by
  intro pins s σ H x v vl vu lo hi sl Q I rx hs pl pu h
  obtain ⟨a, xs, rfl, hx, q⟩ := h
  cases rx
  obtain ⟨its, r, ht, hz⟩ := I.list hx
  have hlen := r.length
  refine ⟨"list", _, slot_list_getitem.lookup, ht.isList.typeIs, ?_⟩
  refine wpAny_getItem_list_slice ht.isList hs pl pu .none (by simp) ?_ (by rw [List.size_toArray] <;> (first | lia | omega))
  rw [slicePick_cut, ← hlen]
  refine ⟨.ref s.heap.objs.size, _, I.laid (t' := s.toks) (o := .lst (cutV xs lo hi)) (fun b ob q => Heap.get?_push_of_some _ q) (Nat.le_refl _) ?_, rfl, q _ (I.hok.fresh (Nat.le_refl _))⟩
  exact ⟨Nat.le_trans (cutV_length xs lo hi) hz, _, 0, (r.drop (HT.sIx xs.length 0 lo)).take (HT.sIx xs.length xs.length hi - HT.sIx xs.length 0 lo), Heap.get?_push_size _ rfl⟩

inductive P_call_len_seq (K : PySem.W.Frag) (xs : List V) (H : Hp) (Q : VK) : Prop
  | mk (p : _) (ys : _) (h1 : xs = [.ref p]) (h2 : (SqL K H p ys ∨ SqT K H p ys)) (h3 : Q (.int ys.length) H) : P_call_len_seq K xs H Q
theorem call_len_seq : CallR X (.builtin "len") (P_call_len_seq X.K) := by
  intro pins s σ H xs us Q I r h
  obtain ⟨p, ys, rfl, hq, q⟩ := h
  obtain ⟨u, rfl, rx⟩ := vals1 r
  cases rx
  have hn := line63
  rcases hq with hq | hq
  · obtain ⟨its, r', pl, hz⟩ := I.list hq
    have hlen := r'.length
    exact Calls.call_len_list pl.isList (by simp only [List.size_toArray] <;> (first | lia | omega)) ⟨.int ys.length, H, I.tok _, ⟨s.toks + 1, by rw [List.size_toArray, hlen]⟩, q⟩
  · obtain ⟨its, r', pl, hz⟩ := I.tuple hq
    have hlen := r'.length
    exact len_tuple pl (by simp only [List.size_toArray] <;> (first | lia | omega)) ⟨.int ys.length, H, I.tok _, ⟨s.toks + 1, by rw [List.size_toArray, hlen]⟩, q⟩
inductive P_call_list_of (K : PySem.W.Frag) (xs : List V) (H : Hp) (Q : VK) : Prop
  | mk (p : _) (ys : _) (h1 : xs = [.ref p]) (h2 : (SqL K H p ys ∨ SqT K H p ys)) (h3 : ∀ l, H l = none → Q (.ref l) (upd H l (.lst ys))) : P_call_list_of K xs H Q
theorem call_list_of : CallR X (.type "list") (P_call_list_of X.K) := by
  intro pins s σ H xs us Q I r h
  obtain ⟨p, ys, rfl, hq, q⟩ := h
  obtain ⟨u, rfl, rx⟩ := vals1 r
  cases rx
  have fin : ∀ (its : List Value), Vals ys its → ys.length ≤ sizeLine → ∀ (h' : Heap) (c' : Nat), (∀ b o', s.heap.get? b = some o' → h'.get? b = some o') →
      h'.get? s.heap.objs.size = some { cls := .type "list", dict := none, data := .seq its.toArray c', slots := #[] } → EP X pins σ Q (.ref s.heap.objs.size) { s with heap := h' } := fun its r' hz h' c' kp e =>
    ⟨.ref s.heap.objs.size, _, I.laid (t' := s.toks) kp (Nat.le_refl _) (show ObjOk X.prog X.w _ h' _ (.lst ys) from ⟨hz, its, c', r', e⟩), rfl, q _ (I.hok.fresh (Nat.le_refl _))⟩
  rcases hq with hq | hq
  · obtain ⟨its, r', pl, hz⟩ := I.list hq
    have hlen := r'.length
    obtain ⟨o, ho, hc, n, hd⟩ := pl.isList
    exact call_list_seq p (.inl rfl) ho hc hd (fun h' c' kp e => fin its r' hz h' c' kp e) (by simp only [List.size_toArray] <;> (first | lia | omega))
  · obtain ⟨its, r', pl, hz⟩ := I.tuple hq
    have hlen := r'.length
    obtain ⟨o, ho, hc, n, hd⟩ := pl
    exact call_list_seq p (.inr rfl) ho hc hd (fun h' c' kp e => fin its r' hz h' c' kp e) (by simp only [List.size_toArray] <;> (first | lia | omega))
inductive P_call_tuple_of (K : PySem.W.Frag) (xs : List V) (H : Hp) (Q : VK) : Prop
  | mk (p : _) (ys : _) (h1 : xs = [.ref p]) (h2 : ((SqL K H p ys ∧ ∀ l, H l = none → Q (.ref l) (upd H l (.tup ys))) ∨ (SqT K H p ys ∧ Q (.ref p) H))) : P_call_tuple_of K xs H Q
theorem call_tuple_of : CallR X (.type "tuple") (P_call_tuple_of X.K) := by
  intro pins s σ H xs us Q I r h
  obtain ⟨p, ys, rfl, h⟩ := h
  obtain ⟨u, rfl, rx⟩ := vals1 r
  cases rx
  rcases h with ⟨hq, q⟩ | ⟨hq, q⟩
  · obtain ⟨its, r', pl, hz⟩ := I.list hq
    have hlen := r'.length
    refine call_tuple_list pl.isList (fun h' kp => ?_) (by simp only [List.size_toArray] <;> (first | lia | omega))
    have I1 : Inv X pins σ H { s with heap := h' } := I.kept (t' := s.toks) kp
    have I2 : Inv X pins σ (upd H h'.objs.size (.tup ys)) { s with heap := h'.push { cls := .type "tuple", data := .seq its.toArray } } :=
      I1.laid (t' := s.toks) (fun b o e => Heap.get?_push_of_some _ e) (Nat.le_refl _) (show ObjOk X.prog X.w _ _ _ (.tup ys) from ⟨hz, its, r', IsTupD.new _ _⟩)
    exact ⟨.ref h'.objs.size, _, I2, rfl, q _ (I1.hok.fresh (Nat.le_refl _))⟩
  · obtain ⟨its, r', pl, hz⟩ := I.tuple hq
    exact call_tuple_same pl ⟨.ref p, H, I, rfl, q⟩

def tyV (K : PySem.W.Frag) (T : String) (x : V) (H : Hp) : Prop := match x with
  | .str _ => T = "str"
  | .int _ => T = "int"
  | .ref p => (T = "list" ∧ ∃ xs, SqL K H p xs) ∨ (T = "tuple" ∧ ((∃ o, K.lookup p = some o ∧ o.cls = .type "tuple" ∧ o.dict = none) ∨ ∃ xs, H p = some (.tup xs))) ∨
      (T = "dict" ∧ ((∃ kvs, H p = some (.dK kvs)) ∨ ∃ kvs, H p = some (.dT kvs))) ∨ (T = "set" ∧ ∃ S n, H p = some (.set S n))
  | _ => False
theorem tyV_is {pins : List (Addr × Obj)} {σ : St} {H : Hp} {s : Shared} {T : String} {x : V} {v : Value} (I : Inv X pins σ H s) (r : RelV x v) (ty : tyV X.K T x H) :
    s.TypeIs v T ∧ ∀ a, v = .ref a → ∃ ob, s.heap.get? a = some ob ∧ ob.dict = none := by
  cases x with
  | str z =>
    obtain ⟨t, rfl⟩ := r
    cases (show T = "str" from ty)
    exact ⟨typeIs_str s z t, fun _ e => nomatch e⟩
  | int i =>
    obtain ⟨t, rfl⟩ := r
    cases (show T = "int" from ty)
    exact ⟨typeIs_int s i t, fun _ e => nomatch e⟩
  | ref p =>
    cases r
    rcases ty with ⟨rfl, xs, hq⟩ | ⟨rfl, ⟨o, hk, hc, hd⟩ | ⟨xs, hk⟩⟩ | ⟨rfl, hk⟩ | ⟨rfl, S, n, hk⟩
    · obtain ⟨its, _, pl, _⟩ := I.list hq
      refine ⟨pl.isList.typeIs, fun a e => ?_⟩
      cases e
      obtain ⟨o, n, e, c, hd, _⟩ := pl
      exact ⟨o, e, hd⟩
    · refine ⟨⟨o, I.kIn p o hk, hc⟩, fun a e => ?_⟩
      cases e
      exact ⟨o, I.kIn _ o hk, hd⟩
    · obtain ⟨_, _, _, o, e1, c1, n, d1, dn⟩ := (show ObjOk X.prog X.w H s.heap p (.tup xs) from I.hok p _ hk)
      refine ⟨⟨o, e1, c1⟩, fun a e => ?_⟩
      cases e
      exact ⟨o, e1, dn⟩
    · have z : ∃ o, s.heap.get? p = some o ∧ o.ExactDict := by
        rcases hk with ⟨kvs, hk⟩ | ⟨kvs, hk⟩
        · obtain ⟨_, _, _, _, o, _, _, e, ex, _⟩ := I.hok p _ hk
          exact ⟨o, e, ex⟩
        · obtain ⟨_, _, _, _, o, _, _, e, ex, _⟩ := I.hok p _ hk
          exact ⟨o, e, ex⟩
      obtain ⟨o, e, ex⟩ := z
      refine ⟨⟨o, e, ex.1⟩, fun a e2 => ?_⟩
      cases e2
      exact ⟨o, e, ex.2.1⟩
    · obtain ⟨o, _, _, _, e, ex, _⟩ := I.hok p _ hk
      refine ⟨⟨o, e, ex.1⟩, fun a e2 => ?_⟩
      cases e2
      exact ⟨o, e, ex.2.1⟩
  | _ => exact False.elim ty
def tBM (K : PySem.W.Frag) (T : String) (r : V → List V → Hp → VK → Prop) (to : TE) (t : TA) : TE := fun σ H Q => to σ H fun x H1 => tyV K T x H1 ∧ t σ H1 fun xs H2 => r x xs H2 Q
variable {o e : Expr} {es : List Expr} {to : TE} {t : TA} {name : Str} {apos cpos : Pos} {T id : String} {r : V → List V → Hp → VK → Prop}
theorem pe_bm (pa : PlainAttrs T) (slot : Slot T name id) (hty : typeOf (.builtin id) = pure (.type "method_descriptor")) (hm : MtR X id r) (ho : PE X o to) (ha : PA X (e :: es) t)
    (hbase : attributeBase o name X.env (eval o X.env) = eval o X.env := by rfl)
    (hfew : ((backTo cpos (starEach (e :: es) X.env)).all (fun x => !x.1) && (backToKw cpos (keywordEach [] X.env)).all (fun x => x.1.isSome)
      && decide ((e :: es).length + ([] : List Keyword).length + (if ([] : List Keyword).isEmpty then 0 else 1) < 30)) = true := by rfl)
    (hline : (apos.endLine == cpos.line) = true := by rfl) (hs : starEach (e :: es) X.env = (false, eval e X.env) :: starEach es X.env := by rfl) (hplain : (backTo cpos (starEach es X.env)).any (·.1) = false := by rfl) :
    PE X (.Call (.Attribute o name apos) (e :: es) [] cpos) (tBM X.K T r to t) := by
  intro pins s σ H Q I h
  refine wpAny_Call_method_late hbase hfew hline rfl (thn (ho pins s σ H _ I h) fun v s1 ⟨x, H1, I1, r1, ty, q1⟩ => ?_)
  obtain ⟨h1, h2⟩ := tyV_is I1 r1 ty
  refine ⟨T, id, pa, slot, hty, h1, h2, ?_⟩
  have hA := ha cpos pins s1 σ H1 _ I1 q1
  rw [hs] at hA ⊢
  refine Calls.callWith_builtin (by show (false || (backTo cpos (starEach es X.env)).any (·.1)) = false; rw [hplain] <;> rfl) (Calls.evalArgs_plain ?_)
  exact thn hA fun us s2 ⟨vs, H2, I2, r2, q2⟩ => hm pins s2 σ H2 x vs v us Q I2 r1 r2 q2
/- xs.append(e), list.index on a module's tuple .. are MtR facts of 06m -/
end
end L2

namespace L2
open PySem PySem.Spec PyProof.Rows

def MtM (X : Cx) (id : String) (r : V → List V → Hp → VK → Prop) : Prop :=
  ∀ (pins : List (Addr × Obj)) (s : Shared) (σ : St) (H : Hp) (x : V) (xs : List V) (v : Value) (us : List Value) (Q : VK), Inv X pins σ H s → RelV x v → Vals xs us → r x xs H Q →
    wpAny (model X.prog X.w) X.A (call (.builtin id) (v :: us)) (EP X pins σ Q) X.xe s

theorem Vals.one : ∀ {x : V} {us : List Value}, Vals [x] us → ∃ u, us = [u] ∧ RelV x u
  | _, _, .cons r .nil => ⟨_, rfl, r⟩
theorem Vals.two : ∀ {x y : V} {us : List Value}, Vals [x, y] us → ∃ u v, us = [u, v] ∧ RelV x u ∧ RelV y v
  | _, _, _, .cons r (.cons q .nil) => ⟨_, _, rfl, r, q⟩
theorem Vals.rep {xs : List V} {us : List Value} (h : Vals xs us) : ∀ k : Nat, Vals (List.replicate k xs).flatten (List.replicate k us).flatten
  | 0 => .nil
  | k + 1 => by
    rw [List.replicate_succ, List.replicate_succ, List.flatten_cons, List.flatten_cons]
    exact Vals.append h (Vals.rep h k)
theorem foldl_rep (its : List Value) : ∀ (k : Nat) (acc : List Value),
    List.foldl (fun x1 x2 => x1 ++ x2) acc.toArray (List.replicate k its.toArray) = (acc ++ (List.replicate k its).flatten).toArray
  | 0, acc => by simp
  | k + 1, acc => by
    have e : acc.toArray ++ its.toArray = (acc ++ its).toArray := by simp
    have e2 : (acc ++ its) ++ (List.replicate k its).flatten = acc ++ (List.replicate (k + 1) its).flatten := by
      rw [List.replicate_succ, List.flatten_cons, List.append_assoc]
    rw [← e2, ← foldl_rep its k (acc ++ its), ← e, List.replicate_succ, List.foldl_cons]

section
variable {X : Cx} {pins : List (Addr × Obj)} {σ : St} {H : Hp} {s : Shared} {l b : Addr} {xs ys zs : List V}

theorem Inv.lset {its its' : List Value} {n : Nat} {f : Array Value → Array Value} {t' : Nat} (I : Inv X pins σ H s) (hH : H l = some (.lst xs))
    (e : s.heap.get? l = some { cls := .type "list", data := .seq its.toArray n }) (hf : f its.toArray = its'.toArray) (hv : Vals ys its') (hz : ys.length ≤ sizeLine) :
    Inv X pins σ (upd H l (.lst ys)) { s with heap := s.heap.update l (Obj.mapSeq f), toks := t' } := by
  have q := PySem.IsL.update e f
  rw [hf] at q
  refine I.write (x := l) (e := l) (by rw [hH]; exact trivial) (.inl rfl) (fun b' u hb hu => (Heap.get?_update_other s.heap (Obj.mapSeq f) (Ne.symm hb)).trans hu) ⟨_, q⟩ ?_
  exact ⟨hz, its', _, hv, q⟩
theorem Inv.lnew {its : List Value} {t' : Nat} (I : Inv X pins σ H s) (hv : Vals ys its) (hz : ys.length ≤ sizeLine) :
    Inv X pins σ (upd H s.heap.objs.size (.lst ys)) { s with heap := s.heap.push { cls := .type "list", data := .seq its.toArray }, toks := t' } :=
  I.laid (fun _ _ q => Heap.get?_push_of_some _ q) (Nat.le_refl _) ⟨hz, its, 0, hv, Heap.get?_push_size _ rfl⟩
theorem Inv.fresh (I : Inv X pins σ H s) : H s.heap.objs.size = none := I.hok.fresh (Nat.le_refl _)
theorem Inv.lstM (I : Inv X pins σ H s) (hH : H l = some (.lst xs)) : xs.length ≤ sizeLine ∧ ∃ (its : List Value) (n : Nat), Vals xs its ∧ xs.length = its.length ∧ s.heap.get? l = some { cls := .type "list", data := .seq its.toArray n } := by
  obtain ⟨z, its, n, r, e⟩ := I.hok l _ hH
  exact ⟨z, its, n, r, r.length, e⟩

theorem notLongL {n : Nat} (h : n ≤ sizeLine) : Builtin.List.listTooLong n = false := by
  unfold Builtin.List.listTooLong
  exact decide_eq_false (by (first | lia | omega))
end

section
variable {X : Cx}

inductive RAppendP (x : V) (vs : List V) (H : Hp) (Q : VK) : Prop
  | mk (l : _) (xs : _) (y : _) (h1 : x = .ref l) (h2 : vs = [y]) (h3 : H l = some (.lst xs)) (h4 : xs.length < sizeLine) (h5 : Q .non (upd H l (.lst (xs ++ [y])))) : RAppendP x vs H Q
def rAppend : V → List V → Hp → VK → Prop := fun x vs H Q => RAppendP  x vs H Q
theorem mt_append : MtM X "list.append" rAppend := by
  intro pins s σ H x vs v us Q I rx rv h
  obtain ⟨l, xs, y, rfl, rfl, hH, hz, q⟩ := h
  cases rx
  obtain ⟨u, rfl, ru⟩ := rv.one
  obtain ⟨z, its, n, r, hl, e⟩ := I.lstM hH
  refine call_meets F.slot_list_append ⟨_, e, rfl⟩ F.entry_list_append (F.args_list_append_2 _ _) (PySem.list_append l its.toArray n u (by rw [List.size_toArray]; (first | lia | omega))) ⟨e, ?_⟩
  refine ⟨.non, _, I.lset (its' := its ++ [u]) hH e (by simp) (r.append (.cons ru .nil)) ?_, rfl, q⟩
  rw [List.length_append, List.length_singleton]
  (first | lia | omega)

inductive RCatP (x : V) (y : V) (H : Hp) (Q : VK) : Prop
  | mk (l : _) (b : _) (xs : _) (zs : _) (h1 : x = .ref l) (h2 : y = .ref b) (h3 : H l = some (.lst xs)) (h4 : H b = some (.lst zs)) (h5 : xs.length + zs.length ≤ sizeLine) (h6 : ∀ p, H p = none → Q (.ref p) (upd H p (.lst (xs ++ zs)))) : RCatP x y H Q
def rCat : R2 := fun x y H Q => RCatP  x y H Q
theorem op_cat : OpR X (binaryOp .Add) rCat := by
  intro pins s σ H x y v u Q I rx ry h
  obtain ⟨l, b, xs, zs, rfl, rfl, hH, hB, hz, q⟩ := h
  cases rx
  cases ry
  obtain ⟨z, its, n, r, hl, e⟩ := I.lstM hH
  obtain ⟨z2, its2, n2, r2, hl2, e2⟩ := I.lstM hB
  refine PySem.P.add_list e e2 ?_ (by rw [List.size_toArray, List.size_toArray]; (first | lia | omega))
  have ea : its.toArray ++ its2.toArray = (its ++ its2).toArray := by simp
  rw [ea]
  exact ⟨.ref _, _, I.lnew (t' := s.toks) (r.append r2) (by rw [List.length_append]; (first | lia | omega)), rfl, q _ I.fresh⟩
inductive RRepP (x : V) (y : V) (H : Hp) (Q : VK) : Prop
  | mk (l : _) (k : _) (xs : _) (h1 : x = .ref l) (h2 : y = .int k) (h3 : H l = some (.lst xs)) (h4 : -(2 ^ 63) ≤ k) (h5 : k < 2 ^ 63) (h6 : xs.length * k.toNat ≤ sizeLine) (h7 : ∀ p, H p = none → Q (.ref p) (upd H p (.lst (List.replicate k.toNat xs).flatten))) : RRepP x y H Q
def rRep : R2 := fun x y H Q => RRepP  x y H Q
theorem len_rep {α : Type} (xs : List α) (k : Nat) : (List.replicate k xs).flatten.length = k * xs.length := by
  induction k with
  | zero => simp
  | succ k ih => rw [List.replicate_succ, List.flatten_cons, List.length_append, ih, Nat.succ_mul, Nat.add_comm]
theorem op_rep : OpR X (binaryOp .Mult) rRep := by
  intro pins s σ H x y v u Q I rx ry h
  obtain ⟨l, k, xs, rfl, rfl, hH, h1, h2, hz, q⟩ := h
  cases rx
  obtain ⟨t, rfl⟩ := ry
  obtain ⟨z, its, n, r, hl, e⟩ := I.lstM hH
  have hlen : its.toArray.size * k.toNat ≤ sizeLine := by rw [List.size_toArray, ← hl]; exact hz
  have hcap : ¬ its.toArray.size * k.toNat > (2 ^ 63 - 1) / 8 := by
    have : (sizeLine : Nat) ≤ (2 ^ 63 - 1) / 8 := by decide
    (first | lia | omega)
  have hfit : ¬ (!Builtin.List.listFitsIndex k) = true := by
    rw [fitsIndex_both h1 h2]
    exact Bool.false_ne_true
  have hlong : ¬ Builtin.List.listTooLong (its.toArray.size * k.toNat) = true := by
    rw [notLongL hlen]
    exact Bool.false_ne_true
  have hnew : List.foldl (fun x1 x2 => x1 ++ x2) #[] (List.replicate (if its.toArray.isEmpty = true then 0 else k.toNat) its.toArray) = (List.replicate k.toNat its).flatten.toArray := by
    have f0 : ∀ m : Nat, List.foldl (fun x1 x2 => x1 ++ x2) #[] (List.replicate m its.toArray) = (List.replicate m its).flatten.toArray := fun m => by
      have := foldl_rep its m []
      rw [List.nil_append] at this
      exact this
    rw [f0]
    cases its with
    | nil => simp
    | cons a r' => rw [if_neg (by simp)]
  refine wpAny_binaryOp_repeat_ref (T := "list") (U := "int") (by decide) ⟨_, e, rfl⟩ (fun s' => typeIs_int s' k t) noFill_list_mul F.fills_int_mul F.slot_int_rmul repeat_list F.slot_int_index.lookup
    (call_meets F.slot_int_rmul (typeIs_int s k t) F.entry_int_rmul (F.args_int_rmul_2 _ _) (int___rmul___int_list k t l its.toArray n)
      ⟨e, rfl, ⟨_, e, rfl⟩, call_meets F.slot_list_mul ⟨_, e, rfl⟩ F.entry_list_mul (F.args_list_mul_2 _ _) (AutoListH.list___mul___list_int_3 l its.toArray n k t hfit hcap hlong) ⟨e, ?_⟩⟩)
  rw [hnew]
  exact ⟨.ref _, _, I.lnew (t' := s.toks) (r.rep k.toNat) (by rw [len_rep, Nat.mul_comm]; exact hz), rfl, q _ I.fresh⟩

end

section
variable {prog : Program} {w : World} {A : Around} {E : Value → Shared → Prop} {s : Shared}
end

section
variable {X : Cx}
end
end L2

namespace Att
open PySem PySem.W PySem.Calls PyProof.Rows

theorem ints_of_wellAll {P : Params} {h : Heap} : ∀ (ns : List Int) (vs : List Value), WellAll P h vs (ns.map WData.int) → IntsAre vs ns := by
  intro ns
  induction ns with
  | nil =>
    intro vs w
    rw [List.map_nil] at w
    cases w
    exact .nil
  | cons n ns ih =>
    intro vs w
    rw [List.map_cons] at w
    cases w with
    | cons a b =>
      cases a
      exact .cons _ _ (ih _ b)

theorem script_of {l : OpenLaw} {n : Nat} (hn : l.most = some n) {P : Params} {h : Heap} {args : List WData} {vals : List Value}
    (hpre : l.row.toRowW.claim.pre args = true) (hwl : WellAll P h vals args) :
    ∃ a vs ns, vals = [Value.ref a] ∧ args = [WData.list (ns.map WData.int)] ∧ h.get? a = some { cls := .type "list", data := .seq vs.toArray } ∧ IntsAre vs ns ∧ ns.length ≤ n := by
  have hsh : WShape.hasAll [] args [.list .int] = true := (pre_splitW hpre).1
  have hc : l.pre.holds [] { args := args } = true := (pre_splitW hpre).2
  obtain ⟨d, r, rfl, h1, h2⟩ := hasAllW_cons hsh
  obtain rfl := hasAllW_nil h2
  obtain ⟨xs, rfl, h3⟩ := hasW_list h1
  obtain ⟨ns, rfl⟩ := items_int h3
  have hlen : ns.length ≤ n := by
    unfold OpenLaw.pre at hc
    have h4 : (WTm.not (.lt (.lit (.int (n : Int))) (.len (.arg 0)))).holds [] { args := [.list (ns.map .int)] } = true := by
      have h4 := (holds_andW hc).1
      rw [hn] at h4
      exact h4
    have h5 := condW_of h4 (w_not (w_lt w_lit (w_len_list (w_arg rfl))))
    rw [List.length_map] at h5
    refine Nat.le_of_not_lt fun q => ?_
    have q' : (n : Int) < ((ns.length : Nat) : Int) := by (first | lia | omega)
    first
      | (rw [decide_eq_true q'] at h5; exact absurd h5 (by decide))
      | (simp at h5; (first | lia | omega))
  cases hwl with
  | cons w1 w2 =>
    cases w2
    cases w1 with
    | list ho hall => exact ⟨_, _, ns, rfl, rfl, ho, ints_of_wellAll ns _ hall, hlen⟩

theorem post_true (l : OpenLaw) (args : List WData) : l.row.toRowW.claim.post args (.bool true) args = true :=
  postW_of (r := l.row.toRowW) (X := (true == true))
    (show WShape.has [] (.bool true) .bool = true by first | rfl | decide | simp [WShape.has, WShape.arms, WShape.armsAll])
    (show (WTm.eq .res (.lit (.bool true))).value [] { args := args, res := some (.bool true), after := args } = some (.bool (true == true)) from w_eq_bool (w_res rfl) w_lit) rfl

theorem attach_call {l : OpenLaw} {n : Nat} {q : Program} {loose : List Str} {XP : (Str → Option Value) → Heap → Prop} {YP : World → Heap → Prop} {d : DefRec}
    (hn : l.most = some n) (hdf : d.params.defaults = [])
    (call : ∀ (w : World) (s₀ s₁ : Shared) (mg mb : Str → Option Value) (fa : Addr) (o : Obj) (pm cd doc : Value) (a : Addr) (vs : List Value) (ns : List Int),
      Ground q loose [] XP w s₀ mg mb s₁.heap → YP w s₁.heap →
      s₁.heap.get? fa = some o → o.data = .func (docDef d.name d.params d.body d.scope pm cd doc) → s₁.heap.CodeRec cd d.name → mg d.name = some (.ref fa) →
      s₁.heap.get? a = some { cls := .type "list", data := .seq vs.toArray } → IntsAre vs ns → ns.length ≤ n → s₁.gens = #[] →
      codeAny (model l.prog w) callerA (.call (.ref fa) ⟨[.ref a], []⟩) (fun r s' => r = .ok (.ret (.bool true)) ∧ OldK s₁.heap s'.heap ∧ s'.os = s₁.os ∧ AllBare s'.gens) s₁) :
    WalkO q loose XP YP l.row.toRowW d [] (fun f vs => PySem.call f vs) := by
  intro w s₀ s₁ mg mb G Y fa o pm cd doc dV kV ho hd hcd hD hmg hg args vals as hpre hlay hrd hwl hlo
  obtain rfl : dV = .none := Dflts.none hD hdf
  obtain rfl : kV = .none := Dflts.noKw hD
  obtain ⟨a, vs, ns, rfl, rfl, hobj, hints, hlen⟩ := script_of hn hpre hwl
  refine enter_call (codeAny_mono (call w s₀ s₁ mg mb fa o pm cd doc a vs ns G Y ho (fd_plain hd) hcd hmg hobj hints hlen hg) fun r s' hq => ?_)
  obtain ⟨rfl, h2, h3, h4⟩ := hq
  exact ⟨.inl ⟨.bool true, .bool true, [], rfl, fun _ => rfl, .bool true, post_true l _, fun _ => ⟨List.Pairwise.nil, fun _ hm => (nomatch hm)⟩⟩, h2, h3, h4⟩

section
variable {prog : Program} {w : World} {A : Around} {E : Value → Shared → Prop} {s : Shared} {K : Frag}

def ledger (h : Heap) (L d : Addr) : List (Addr × Obj) := (List.range h.objs.size).filterMap fun a => if a = L ∨ a = d then none else (h.get? a).map fun o => (a, o)
end
end Att

namespace L2
open PySem PySem.Spec PyProof.Rows

theorem vals_ints : ∀ {vs : List Value} {ns : List Int}, IntsAre vs ns → Vals (ns.map V.int) vs
  | _, _, .nil => .nil
  | _, _, .cons n t h => .cons ⟨t, rfl⟩ (vals_ints h)

def Only (H : Hp) : Prop := ∀ b, H b = none ∨ ∃ o xs, H b = some (.frz o (.lst xs))

theorem law_call {P : Program} {w : World} {K : PySem.W.Frag} {mg mb : Str → Option Value} {CX : CXT} {k : Nat} {fa a : Addr} {fd : FuncData} {x : Str} {sp : Sp} {s₁ : Shared} {vs : List Value} {ns : List Int}
    (KX : K.In s₁.heap) (hns : s₁.heap.Ns mainGlobals mg) (hb : s₁.heap.Ns builtinsNs mb) (hbb : ∀ x : Str, x ≠ "__name__" → mb x = bootBuiltins x) (hlim : s₁.heap.NoLimit) (hg : s₁.gens = #[])
    (ha : s₁.heap.get? a = some { cls := .type "list", data := .seq vs.toArray }) (hi : IntsAre vs ns) (hl : ns.length ≤ sizeLine) (hr : Room k callerA)
    (F : ∀ base : Heap, K.In base → base.Ns mainGlobals mg → FnOk P w K mg base CX k fa fd [x] sp) (hbind : ∀ (s : Shared) (u : Value), BindsTo s fd ⟨[u], []⟩ [(x, u)])
    (hsp : ∀ H : Hp, Only H → SqL K H a (ns.map V.int) → sp [.ref a] H (fun v _ => v = .bl true) fun _ _ _ => False)
    (hCX : ∀ H e s', CX [] H s₁ (fun _ _ _ => False) e s' → False) :
    codeAny (model P w) callerA (.call (.ref fa) ⟨[.ref a], []⟩) (fun r s' => r = .ok (.ret (.bool true)) ∧ OldK s₁.heap s'.heap ∧ s'.os = s₁.os ∧ AllBare s'.gens) s₁ := by
  have rv := vals_ints hi
  have lenV := hi.length
  -- from an abstract heap in which nothing but the script may be tracked
  have core : ∀ H : Hp, Only H → SqL K H a (ns.map V.int) → HOk P w H s₁.heap → (∀ b, H b ≠ none → b = a) → (H a ≠ none → K.lookup a = none) →
      codeAny (model P w) callerA (.call (.ref fa) ⟨[.ref a], []⟩) (fun r s' => r = .ok (.ret (.bool true)) ∧ OldK s₁.heap s'.heap ∧ s'.os = s₁.os ∧ AllBare s'.gens) s₁ := by
    intro H hO hS hok hA hK
    have base_of : ∀ {b : Addr} {o : Obj}, s₁.heap.get? b = some o → H b = none → (hidT s₁.heap H).get? b = some o := fun e n => hidT_get e n
    have noA : ∀ {b : Addr} {o : Obj} {es : Array DictEntry} {ep : Nat}, s₁.heap.get? b = some o → o.data = .dict es ep → H b = none := fun {b o es ep} e d => by
      cases q : H b with
      | none => rfl
      | some u =>
        have e' : b = a := hA b (by rw [q]; simp)
        subst e'
        rw [ha] at e; cases e
        have d' : Data.seq vs.toArray _ = Data.dict es ep := d
        cases d'
    have nsK : ∀ {b : Addr} {m : Str → Option Value}, s₁.heap.Ns b m → (hidT s₁.heap H).Ns b m := fun {b m} ⟨o, es, ep, e, d, r⟩ => ⟨o, es, ep, base_of e (noA e d), d, r⟩
    have hKb : K.In (hidT s₁.heap H) := fun b o e => base_of (KX b o e) (by
      cases q : H b with
      | none => rfl
      | some u =>
        have e' : b = a := hA b (by rw [q]; simp)
        subst e'
        rw [hK (by rw [q]; simp)] at e; cases e)
    have hM : Mod K mg (hidT s₁.heap H) := ⟨hKb, nsK hns, ⟨mb, nsK hb, hbb⟩, let ⟨mc, h1, h2⟩ := hlim; ⟨mc, nsK h1, h2⟩⟩
    have e0 : Env0 P w K mg (hidT s₁.heap H) callerA [] s₁ H := ⟨rfl, hM, fun b o e => of_hidT e, Nat.le_of_eq (hidT_size _ _), trivial, fun b hb => absurd (show b ∈ ([] : List Addr) from hb) (by simp), hok, .of_eq hg⟩
    refine codeAny_mono ((F _ hKb (nsK hns)).run callerA [] s₁ H ⟨[.ref a], []⟩ [.ref a] [.ref a] _ _ hr e0 (hbind s₁ (.ref a)) (.cons rfl .nil) (hsp H hO hS)) fun r s' h => ?_
    cases r with
    | error e => exact (hCX H e s' h).elim
    | ok fl =>
      cases fl with
      | next => exact False.elim h
      | brk => exact False.elim h
      | cont => exact False.elim h
      | ret u =>
        obtain ⟨v, H', os, bare, un, hok', r', q⟩ := h
        have q' : v = .bl true := q
        subst q'
        obtain rfl : u = Value.bool true := r'
        refine ⟨rfl, OldK.of_keep fun b o e => ?_, os, bare⟩
        cases q : H b with
        | none => exact un.keep b o e q (by intro z; exact absurd (show b ∈ ([] : List Addr) from z) (by simp)) (by simp)
        | some u =>
          rcases hO b with z | ⟨ob, xs, z⟩
          · rw [q] at z; cases z
          · have z2 := un.frzs b ob _ z
            obtain ⟨e1, _⟩ := hok b _ z
            obtain ⟨e2, _⟩ := hok' b _ z2
            rw [e] at e1; cases e1
            exact e2
  cases hk : K.lookup a with
  | some o =>
    -- the script is one of the module's own objects
    have e := KX a o hk
    rw [ha] at e
    cases e
    refine core (fun _ => none) (fun _ => .inl rfl) (.inr ⟨_, vs.toArray, _, hk, rfl, rfl, rfl, by rw [List.size_toArray, lenV]; exact hl, by simpa using rv⟩) (fun b u z => by have z' : (none : Option HO) = some u := z; cases z') (fun b z => absurd rfl z) fun z => absurd rfl z
  | none =>
    refine core (fun b => if b = a then some (.frz { cls := .type "list", data := .seq vs.toArray } (.lst (ns.map V.int))) else none) (fun b => ?_) (.inl (.inr ⟨{ cls := .type "list", data := .seq vs.toArray }, if_pos rfl⟩)) (fun b u z => ?_) (fun b z => ?_) fun _ => hk
    · by_cases hb : b = a
      · exact .inr ⟨_, _, if_pos hb⟩
      · exact .inl (if_neg hb)
    · by_cases hb : b = a
      · have z' := (if_pos hb).symm.trans z
        cases z'
        subst hb
        exact ⟨ha, by rw [List.length_map]; exact hl, vs, _, rv, ha⟩
      · have z' := (if_neg hb).symm.trans z
        cases z'
    · by_cases hb : b = a
      · exact hb
      · exact absurd (if_neg hb) z
end L2

namespace L2
open PySem PySem.Spec PyProof.Rows

theorem walk_of {l : PySem.W.OpenLaw} {n k : Nat} {q : Program} {loose : List Str} {XP : (Str → Option Value) → Heap → Prop} {YP : World → Heap → Prop} {d : DefRec} {K : Params → PySem.W.Frag} {CX : World → CXT} {sp : World → Sp} {x : Str}
    (hn : l.most = some n) (hn2 : n ≤ sizeLine) (hdf : d.params.defaults = []) (hr : Room k callerA)
    (hY : ∀ (w : World) (h : Heap), YP w h → (K w.params).In h)
    (F : ∀ (w : World) (mg : Str → Option Value) (fa : Addr) (h : Heap), (K w.params).In h → h.Ns mainGlobals mg → mg d.name = some (.ref fa) →
      ∃ fd : FuncData, (∀ (s : Shared) (u : Value), BindsTo s fd ⟨[u], []⟩ [(x, u)]) ∧
        ∀ base : Heap, (K w.params).In base → base.Ns mainGlobals mg → FnOk l.prog w (K w.params) mg base (CX w) k fa fd [x] (sp w))
    (hsp : ∀ (w : World) (H : Hp) (a : Addr) (ns : List Int), ns.length ≤ n → Only H → SqL (K w.params) H a (ns.map V.int) → sp w [.ref a] H (fun v _ => v = .bl true) fun _ _ _ => False)
    (hCX : ∀ (w : World) (H : Hp) (s : Shared) (e : Value) (s' : Shared), CX w [] H s (fun _ _ _ => False) e s' → False) :
    PySem.W.WalkO q loose XP YP l.row.toRowW d [] (fun f vs => PySem.call f vs) := by
  refine Att.attach_call hn hdf fun w s₀ s₁ mg mb fa o pm cd doc a vs ns G Y ho hd hcd hmg hobj hints hlen hg => ?_
  have KX := hY w _ Y
  obtain ⟨fd, hb, hF⟩ := F w mg fa _ KX G.T.g hmg
  exact law_call KX G.T.g G.T.b G.T.builtins G.T.nolimit hg hobj hints (Nat.le_trans hlen hn2) hr hF hb (fun H hO hS => hsp w H a ns hlen hO hS) fun H e s' => hCX w H s₁ e s'
end L2

namespace L2
open PySem PySem.Spec PyProof.Rows

def defArgs (s : Stmt) : Arguments := match s with
  | .FunctionDef _ a _ _ _ _ _ _ _ _ => a
  | _ => { posonlyargs := [], args := [], vararg := none, kwonlyargs := [], kw_defaults := [], kwarg := none, defaults := [] }
def defBody (s : Stmt) : List Stmt := match s with
  | .FunctionDef _ _ b _ _ _ _ _ _ _ => b
  | _ => []
def defScope (s : Stmt) : Scope := match s with
  | .FunctionDef _ _ _ _ _ _ sc _ _ _ => sc
  | _ => { kind := .function, names := [], isGenerator := false, isCoroutine := false }

abbrev CX0 : CXT := fun _ _ _ _ _ _ => False
abbrev E0 : XK := fun _ _ _ => False
theorem pass0 {X : Cx} : Passes CX0 X E0 := fun _ _ _ _ _ _ _ h => h.elim

structure Fun (K : PySem.W.Frag) (x qual : Str) (st : Stmt) (f : Addr) (fd : FuncData) : Prop where
  ex : ∃ (oc : Value) (od : Option Addr) (kV doc pm : Value) (an : Option Addr) (cdv ct : Value) (osl : Array (Option Value)),
    fd = PySem.W.fnOf x qual (defArgs st) (defBody st) (defScope st) .none kV doc pm an cdv ct ∧ K.lookup f = some ⟨oc, od, .func fd, osl⟩ ∧ PySem.W.codeIn K cdv qual = true
  kp : PySem.W.keepIn K (.ref f) = true
section
variable {P : Program} {w : World} {K : PySem.W.Frag} {mg : Str → Option Value} {base : Heap}
theorem Fun.ok {x qual : Str} {st : Stmt} {f : Addr} {fd : FuncData} {N ps : List Str} {k : Nat} {sp : Sp} (F : Fun K x qual st f fd) (S : FnScope N ps (defScope st)) (len : ∀ vs H Q E, sp vs H Q E → vs.length = ps.length)
    (hbody : ∀ (cdv : Value) (A : Around) (outer : List Env) (s : Shared) (H : Hp) (vs : List V) (Q : VK) (E : XK), Room k (A.deeper (envOfC qual (defScope st) s.heap.objs.size f cdv)) → sp vs H Q E →
      ∃ t, PSs (cxOf CX0 P w K mg base N qual (defScope st) f cdv A outer s H E).nox (defBody st) t ∧ t { nx := fun _ H' => Q .non H', rt := Q } (start N vs) H) : FnOk P w K mg base CX0 (k + 1) f fd ps sp := by
  obtain ⟨oc, od, kV, doc, pm, an, cdv, ct, osl, rfl, lk, hcd⟩ := F.ex
  refine fn_of lk hcd S len fun A outer s H vs Q E hr hsp => ?_
  obtain ⟨t, h, q⟩ := hbody cdv A outer s H vs Q E hr hsp
  exact ⟨t, h.nox, q⟩
theorem Fun.binds {x qual : Str} {st : Stmt} {f : Addr} {fd : FuncData} {ps : List Str} (F : Fun K x qual st f fd)
    (h : ∀ (kV doc pm : Value) (an : Option Addr) (cdv ct : Value) (us : List Value), us.length = ps.length → bindArgs (PySem.W.fnOf x qual (defArgs st) (defBody st) (defScope st) .none kV doc pm an cdv ct) ⟨us, []⟩ = pure (ps.zip us)) : Binds K fd ps [] := by
  obtain ⟨oc, od, kV, doc, pm, an, cdv, ct, osl, rfl, lk, hcd⟩ := F.ex
  exact .all (h kV doc pm an cdv ct)
theorem fun_mk {x qual : Str} {st : Stmt} {f : Addr} {oc : Value} {od an : Option Addr} {osl : Array (Option Value)} {kV doc pm cdv ct : Value} (l : K.lookup f = some ⟨oc, od, .func (PySem.W.fnOf x qual (defArgs st) (defBody st) (defScope st) .none kV doc pm an cdv ct), osl⟩)
    (c : PySem.W.codeIn K cdv qual = true) (k : PySem.W.keepIn K (.ref f) = true) : Fun K x qual st f (PySem.W.fnOf x qual (defArgs st) (defBody st) (defScope st) .none kV doc pm an cdv ct) := ⟨⟨oc, od, kV, doc, pm, an, cdv, ct, osl, rfl, l, c⟩, k⟩
end
theorem small1000 {n : Nat} (h : n ≤ 1000) : n < sizeLine := Nat.lt_of_le_of_lt h (by decide)

section
variable {X : Cx}
theorem pv (i : Nat) {x : Str} {pos : Pos} (hN : X.N[i]? = some x := by rfl) (hv : Vis X.env.scope x := by first | exact Or.inl rfl | exact Or.inr (Or.inl rfl) | exact Or.inr (Or.inr rfl)) (hd : (x == ("__debug__" : Str)) = false := by decide)
    (hcd : (x == ("__classdict__" : Str)) = false := by decide) : PE X (.Name x pos) (tVar i) := pe_var hN hv hd hcd
end

theorem ite2 {c A B : Prop} [Decidable c] (h1 : c → A) (h2 : ¬ c → B) : if c then A else B := by
  by_cases h : c
  · rw [if_pos h]
    exact h1 h
  · rw [if_neg h]
    exact h2 h
def Same (H H' : Hp) : Prop := ∀ b o, H b = some o → H' b = some o
theorem Same.refl (H : Hp) : Same H H := fun _ _ h => h
theorem Same.trans {H H1 H2 : Hp} (a : Same H H1) (b : Same H1 H2) : Same H H2 := fun c o h => b c o (a c o h)
theorem Same.free {H H' : Hp} (e : Same H H') {l : Addr} (h : H' l = Option.none) : H l = Option.none := by
  cases q : H l with
  | none => rfl
  | some o =>
    rw [e l o q] at h
    cases h
theorem Same.seq {K : PySem.W.Frag} {H H' : Hp} {a : Addr} {xs : List V} (e : Same H H') (h : SqL K H a xs) : SqL K H' a xs := by
  rcases h with (h | ⟨o, h⟩) | h
  · exact .inl (.inl (e _ _ h))
  · exact .inl (.inr ⟨o, e _ _ h⟩)
  · exact .inr h

end L2

namespace L2
open PySem PySem.Spec PyProof.Rows

def clo (env : Env) : List (Str × NameKind) → List (Str × Addr) → List (Str × Addr)
  | [], acc => acc
  | (n, k) :: r, acc => if k == .free then clo env r ((n, (env.cells.lookup n).getD 0) :: acc) else clo env r acc
theorem clo_run {env : Env} {f : Str × NameKind → List (Str × Addr) → Sem (ForInStep (List (Str × Addr)))}
    (hf : ∀ n k acc, f (n, k) acc = if k == .free then (do let a ← cellOf env n; pure (ForInStep.yield ((n, a) :: acc))) else pure (ForInStep.yield acc)) :
    ∀ (names : List (Str × NameKind)) (acc : List (Str × Addr)), (∀ p ∈ names, p.2 = .free → ∃ a, env.cells.lookup p.1 = some a) →
    (forIn names acc f : Sem (List (Str × Addr))) = pure (clo env names acc)
  | [], acc, _ => rfl
  | (n, k) :: r, acc, h => by
    rw [List.forIn_cons, hf]
    unfold clo
    by_cases hk : (k == NameKind.free) = true
    · rw [if_pos hk, if_pos hk]
      obtain ⟨a, ha⟩ := h (n, k) List.mem_cons_self (by simpa using hk)
      have e : cellOf env n = pure a := by
        unfold cellOf
        rw [show env.cells.lookup n = some a from ha]
      rw [e, show env.cells.lookup n = some a from ha]
      simp only [pure_bind]
      exact clo_run hf r _ fun p hp => h p (List.mem_cons_of_mem _ hp)
    · rw [if_neg hk, if_neg hk, pure_bind]
      exact clo_run hf r _ fun p hp => h p (List.mem_cons_of_mem _ hp)
theorem closureFor_clo {env : Env} {scope : Scope} (h : ∀ p ∈ scope.names, p.2 = .free → ∃ a, env.cells.lookup p.1 = some a) : closureFor scope env = pure (clo env scope.names []) := by
  simp only [closureFor]
  rw [clo_run (env := env) (fun n k acc => ?_) scope.names [] h]
  · rfl
  · by_cases hk : (k == NameKind.free) = true
    · simp only [hk, if_true]
    · simp only [hk, if_false]
theorem clo_mem {env : Env} : ∀ {names : List (Str × NameKind)} {acc : List (Str × Addr)}, (∀ p ∈ names, p.2 = .free → ∃ a, env.cells.lookup p.1 = some a) → ∀ p ∈ clo env names acc, p ∈ acc ∨ (env.cells.lookup p.1 = some p.2)
  | [], acc, _, p, hp => .inl hp
  | (n, k) :: r, acc, h, p, hp => by
    unfold clo at hp
    have hr : ∀ p ∈ r, p.2 = .free → ∃ a, env.cells.lookup p.1 = some a := fun p hp => h p (List.mem_cons_of_mem _ hp)
    by_cases hk : (k == NameKind.free) = true
    · rw [if_pos hk] at hp
      obtain ⟨a, ha⟩ := h (n, k) List.mem_cons_self (by simpa using hk)
      rcases clo_mem hr p hp with q | q
      · rcases List.mem_cons.mp q with q | q
        · subst q
          right
          show env.cells.lookup n = some ((env.cells.lookup n).getD 0)
          rw [show env.cells.lookup n = some a from ha]; rfl
        · exact .inl q
      · exact .inr q
    · rw [if_neg hk] at hp
      exact clo_mem hr p hp
theorem clo_acc {env : Env} : ∀ {names : List (Str × NameKind)} {acc : List (Str × Addr)}, ∀ p ∈ acc, p ∈ clo env names acc
  | [], acc, p, hp => hp
  | (n, k) :: r, acc, p, hp => by
    unfold clo
    by_cases hk : (k == NameKind.free) = true
    · rw [if_pos hk]; exact clo_acc p (List.mem_cons_of_mem _ hp)
    · rw [if_neg hk]; exact clo_acc p hp
theorem clo_has {env : Env} : ∀ {names : List (Str × NameKind)} {acc : List (Str × Addr)} {x : Str}, (x, NameKind.free) ∈ names → ∃ a, (x, a) ∈ clo env names acc
  | [], _, _, h => by cases h
  | (n, k) :: r, acc, x, h => by
    unfold clo
    rcases List.mem_cons.mp h with q | q
    · cases q
      rw [if_pos (show (NameKind.free == NameKind.free) = true from rfl)]
      exact ⟨_, clo_acc _ List.mem_cons_self⟩
    · by_cases hk : (k == NameKind.free) = true
      · rw [if_pos hk]; exact clo_has q
      · rw [if_neg hk]; exact clo_has q
theorem look_of_mem {β : Type} : ∀ {l : List (Str × β)} {x : Str} {b : β}, (x, b) ∈ l → ∃ b', l.lookup x = some b'
  | [], _, _, h => by cases h
  | (n, k) :: r, x, b, h => by
    rw [List.lookup_cons]
    cases hx : x == n with
    | true => exact ⟨k, rfl⟩
    | false =>
      rcases List.mem_cons.mp h with q | q
      · cases q; simp at hx
      · exact look_of_mem q
theorem mem_of_look {β : Type} : ∀ {l : List (Str × β)} {x : Str} {b : β}, l.lookup x = some b → (x, b) ∈ l
  | [], _, _, h => by simp at h
  | (n, k) :: r, x, b, h => by
    rw [List.lookup_cons] at h
    cases hx : x == n with
    | true =>
      rw [hx] at h
      have : x = n := by simpa using hx
      subst this
      cases h
      exact List.mem_cons_self
    | false =>
      rw [hx] at h
      exact List.mem_cons_of_mem _ (mem_of_look h)

theorem relabel_lookup {env : Env} {x : Str} : ∀ (names : List (Str × NameKind)),
    (names.map fun (p : Str × NameKind) => match p with | (n, k) => if (k == .free && env.scope.kind == .function && env.kindOf n == some .cell) then (n, NameKind.cell) else (n, k)).lookup x =
      (names.lookup x).map fun k => if (k == .free && env.scope.kind == .function && env.kindOf x == some .cell) then NameKind.cell else k
  | [] => rfl
  | (n, k) :: r => by
    have ih := @relabel_lookup env x r
    rw [List.map_cons]
    show List.lookup x ((if (k == NameKind.free && env.scope.kind == .function && env.kindOf n == some .cell) = true then (n, NameKind.cell) else (n, k)) :: _) = _
    cases hx : x == n with
    | true =>
      have e : x = n := by simpa using hx
      subst e
      by_cases hc : (k == NameKind.free && env.scope.kind == .function && env.kindOf x == some .cell) = true
      · rw [if_pos hc]; simp only [List.lookup_cons, hx, Option.map_some, if_pos hc]
      · rw [if_neg hc]; simp only [List.lookup_cons, hx, Option.map_some, if_neg hc]
    | false =>
      by_cases hc : (k == NameKind.free && env.scope.kind == .function && env.kindOf n == some .cell) = true
      · rw [if_pos hc]; simp only [List.lookup_cons, hx]; exact ih
      · rw [if_neg hc]; simp only [List.lookup_cons, hx]; exact ih
theorem relabel_names {env : Env} {scope : Scope} {x : Str} : (relabel scope env).names.lookup x = (scope.names.lookup x).map fun k => if (k == .free && env.scope.kind == .function && env.kindOf x == some .cell) then NameKind.cell else k :=
  relabel_lookup scope.names

def cxComp (X : Cx) (N' : List Str) (scope : Scope) (cl : List (Str × Addr)) (C : Addr) (s : Shared) (H : Hp) (fp : List Addr) (pn : List (Addr × Obj)) : Cx :=
  { X with N := N', s₀ := s, H₀ := H, env := compEnvC scope cl C X.env, outer := X.stack, stack := X.stack, ex := fp, fn := fun _ => false, pn := pn, xe := fun _ _ => False }

def Wk : St → St → Prop
  | [], [] => True
  | a :: r, b :: q => (a = none ∨ a = b) ∧ Wk r q
  | _, _ => False
theorem Wk.len : ∀ {a b : St}, Wk a b → a.length = b.length
  | [], [], _ => rfl
  | _ :: _, _ :: _, h => by simp [Wk.len h.2]
  | [], _ :: _, h => False.elim h
  | _ :: _, [], h => False.elim h
theorem Wk.get : ∀ {a b : St}, Wk a b → ∀ (i : Nat) v, a[i]? = some (some v) → b[i]? = some (some v)
  | [], [], _, i, v, h => by simp at h
  | x :: r, y :: q, h, 0, v, e => by
    simp at e
    rcases h.1 with z | z
    · rw [z] at e; cases e
    · simp [← z, e]
  | x :: r, y :: q, h, i + 1, v, e => by
    simp at e ⊢
    exact Wk.get h.2 i v e
  | [], _ :: _, h, _, _, _ => False.elim h
  | _ :: _, [], h, _, _, _ => False.elim h

def stC (own : Nat) (caps : List Nat) (σ : St) : St := List.replicate own none ++ caps.map fun j => (σ[j]?).join

def PTs (X : Cx) (ifs : List Expr) (t : TT) : Prop :=
  ∀ (pins : List (Addr × Obj)) (s : Shared) (σ : St) (H : Hp) (Q : Bool → Hp → Prop), Inv X pins σ H s → t σ H Q →
    wpAny (model X.prog X.w) X.A (forIn ifs true fun c r => if r = true then do let ok ← isTrue c X.env (eval c X.env); pure (ForInStep.yield ok) else pure (ForInStep.yield r)) (TP X pins σ Q) X.xe s
def tTru : TT := fun _ H Q => Q true H
theorem tru_if {σ : St} {H : Hp} {A B : Hp → Prop} (h : A H) : tTru σ H (fun b H3 => if b = true then A H3 else B H3) := by
  show if true = true then A H else B H
  rw [if_pos rfl]
  exact h
theorem pts_nil {X : Cx} : PTs X [] tTru := fun _ _ _ H _ I h => wpAny_tests_nil ⟨H, I, h⟩
theorem pts_one {X : Cx} {c : Expr} {t : TT} (h : PT X c t) : PTs X [c] t := fun pins s σ H Q I q => wpAny_tests_one (h pins s σ H Q I q)

theorem compLoop_go {prog : Program} {w : World} {A : Around} {R : Result → Shared → Prop} {s : Shared} {elt target iter : Expr} {ifs : List Expr} {scope : Scope} {pos : Pos} {it acc : Value} {env : Env} (I : Nat → Shared → Prop)
    (turn : ∀ n s, I n s → wpAny (model prog w) A (pyNext it) (fun r s₁ => match r with
      | none => R (.ok .next) s₁
      | some v => wpAny (model prog w) A (letOwnedTupleGo target it v) (fun _ s₁' => wpAny (model prog w) A (assign target env v) (fun _ s₂ =>
          wpAny (model prog w) A (forIn ifs true fun c r => if r = true then do let ok ← isTrue c env (eval c env); pure (ForInStep.yield ok) else pure (ForInStep.yield r)) (fun ok s₃ =>
            if ok = true then wpAny (model prog w) A (eval elt env) (fun x s₄ =>
              wpAny (model prog w) A (call (.builtin "list.append") [acc, x]) (fun _ s₅ => ∃ m, m < n ∧ I m s₅) (fun _ _ => False) s₄) (fun _ _ => False) s₃
            else ∃ m, m < n ∧ I m s₃) (fun _ _ => False) s₂) (fun _ _ => False) s₁') (fun _ _ => False) s₁) (fun _ _ => False) s)
    (n : Nat) (h : I n s) :
    codeAny (model prog w) A (.compLoop (.ListComp elt [⟨target, iter, ifs, 0⟩] scope pos) 0 it acc env) R s := by
  refine codeAny_loop rfl I (fun n s hI => ?_) n h
  show wpAny _ A ((compTurn (.ListComp elt [⟨target, iter, ifs, 0⟩] scope pos) 0 it acc env).onRaise (fun x => do noteFrame x env; theTreesLotGoes x)) _ _ s
  refine wpAny_noted ?_
  rw [compTurn_list]
  refine wpAny_bind (wpAny_standAt (wpAny_bind (wpAny_mono (turn n s hI) (fun r s₁ h₁ => ?_) fun _ _ h' => False.elim h')))
  cases r with
  | none => exact wpAny_pure h₁
  | some v =>
    refine wpAny_bind (wpAny_mono h₁ (fun _ s₁' h₁' => ?_) fun _ _ h' => False.elim h')
    refine wpAny_bind (wpAny_mono h₁' (fun _ s₂ h₂ => wpAny_bind (wpAny_mono h₂ (fun ok s₃ h₃ => ?_) fun _ _ h' => False.elim h')) fun _ _ h' => False.elim h')
    cases ok with
    | false => exact wpAny_pure ⟨rfl, h₃⟩
    | true =>
      exact wpAny_bind (wpAny_bind (wpAny_mono h₃ (fun x s₄ h₄ => wpAny_bind (wpAny_mono h₄ (fun _ s₅ h₅ => wpAny_pure (wpAny_pure ⟨rfl, h₅⟩)) fun _ _ h' => False.elim h')) fun _ _ h' => False.elim h'))

def tComp (wi : TI) (own : Nat) (caps : List Nat) (g : TG) (tt : TT) (te : TE) : TE := fun σ H Q => wi σ H fun J H1 => ∀ l, H1 l = none → ∃ W : Nat → Nat → List V → Hp → Prop, (∃ m, W 0 m [] (upd H1 l (.lst []))) ∧
  ∀ i m ys H, W i m ys H → H l = some (.lst ys) ∧ ((J.stop i H ∧ Q (.ref l) H) ∨ (J.go i H ∧ ys.length < sizeLine ∧ ∃ N : List V → Hp → Prop, (∀ ys' H', N ys' H' → ∃ m', m' < m ∧ W (i + 1) m' ys' H') ∧
    ∀ x H', J.yld i H x H' → g x (stC own caps σ) H' fun σ2 H2 => Wk (stC own caps σ) σ2 ∧
    tt σ2 H2 fun b H3 => if b = true then te σ2 H3 fun y H4 => H4 l = some (.lst ys) ∧ N (ys ++ [y]) (upd H4 l (.lst (ys ++ [y]))) else N ys H3))

section
variable {X : Cx} {tg elt iter : Expr} {ifs : List Expr} {scope : Scope} {pos : Pos} {wi : TI} {g : TG} {tt : TT} {te : TE} {ownN : List Str} {caps : List (Str × Nat)}
theorem inv_comp {pins : List (Addr × Obj)} {σ : St} {H : Hp} {s : Shared} {fp : List Addr} {h₁ : Heap}
    (I : Inv X pins σ H s) (hf : ∀ b ∈ fp, FpOk X pins H b) (hfl : ∀ b ∈ fp, b < s.heap.objs.size)
    (hkind : scope.kind = .function) (hcell : ∀ y ∈ scope.names, y.2 ≠ .cell)
    (hfree : ∀ p ∈ scope.names, p.2 = .free → X.env.scope.names.lookup p.1 = some .cell)
    (hcaps : ∀ c ∈ caps, X.N[c.2]? = some c.1 ∧ X.env.scope.names.lookup c.1 = some .cell ∧ scope.names.lookup c.1 = some .free)
    (hn : h₁.Ns s.heap.objs.size (fun _ => none)) (hk : ∀ b o, s.heap.get? b = some o → h₁.get? b = some o) {tk : Nat} :
    Inv (cxComp X (ownN ++ caps.map (·.1)) scope (clo X.env scope.names []) s.heap.objs.size s H fp (X.pn ++ pins)) [] (stC ownN.length (caps.map (·.2)) σ) H { s with heap := h₁, toks := tk } := by
  have has : ∀ p ∈ scope.names, p.2 = .free → ∃ a, X.env.cells.lookup p.1 = some a := fun p hp hfr => I.ok.has p.1 (.inl (hfree p hp hfr))
  have cmem : ∀ {x : Str} {c : Addr}, (clo X.env scope.names []).lookup x = some c → X.env.cells.lookup x = some c := fun {x c} e => by
    rcases clo_mem has _ (mem_of_look e) with q | q
    · cases q
    · exact q
  have clt : ∀ {x : Str} {c : Addr}, X.env.cells.lookup x = some c → c < s.heap.objs.size := fun {x c} e => by
    obtain ⟨v, q⟩ := I.cell x c e
    exact q.lt
  refine ⟨⟨I.ok.mod, ?_, I.ok.glob, I.ok.blt, Nat.le_refl _, fun x y c h1 h2 => I.ok.inj x y c (cmem h1) (cmem h2), fun x hx => ?_, fun x c h => (by cases h), I.ok.hd, I.ok.frames, .inl rfl, fun b hb => ⟨Nat.ne_of_lt (hfl b hb), fun x c e => (hf b hb).2.2.2.2.1 x c (cmem e)⟩,
    fun b o e => I.bs b o e, Nat.le_trans I.ok.bsz I.sz, fun b o e z => ?_, fun b hb z => ?_, I.stack, I.stkFree⟩, rfl, I.bare, Un.kept hk, ⟨_, hn, fun i x v h1 h2 h3 => ?_⟩, fun x c e => ?_, I.hok.fresh (Nat.le_refl _), fun x c e => I.freeC x c (cmem e), fun p hp => ?_, I.hok.kept hk, ?_⟩
  · show (relabel scope X.env).kind = .function
    exact hkind
  · -- a cell for each free name
    have e0 : (relabel scope X.env).names.lookup x = some .cell ∨ (relabel scope X.env).names.lookup x = some .free := hx
    rw [relabel_names] at e0
    have e1 : scope.names.lookup x = some .free := by
      cases q : scope.names.lookup x with
      | none => rw [q] at e0; simp at e0
      | some k =>
        have hk' := hcell _ (mem_of_look q)
        rw [q] at e0
        cases k with
        | free => rfl
        | cell => exact absurd rfl hk'
        | _ => simp at e0
    obtain ⟨a, ha⟩ := clo_has (env := X.env) (acc := []) (mem_of_look e1)
    exact look_of_mem ha
  · -- the base has no iterator of ours
    rcases (hf b z).2.2.2.1 with q | q
    · exact I.ok.noex b o e q
    · exact absurd (Nat.lt_of_lt_of_le (Heap.lt_size e) (Nat.le_trans I.ok.bsz q)) (Nat.lt_irrefl _)
  · rcases List.mem_cons.mp (I.stkSub b z) with q | q
    · exact (hf b hb).2.1 q
    · exact (hf b hb).2.2.1 q
  · -- captured names
    have hi : ownN.length ≤ i := by
      unfold stC at h2
      by_cases hi : ownN.length ≤ i
      · exact hi
      · rw [List.getElem?_append_left (by simp; (first | lia | omega)), List.getElem?_replicate] at h2
        split at h2 <;> cases h2
    have h1' : (ownN ++ caps.map (·.1))[i]? = some x := h1
    unfold stC at h2
    rw [List.getElem?_append_right (by simp; (first | lia | omega)), List.length_replicate, List.getElem?_map, List.getElem?_map] at h2
    rw [List.getElem?_append_right hi, List.getElem?_map] at h1'
    cases hc : caps[i - ownN.length]? with
    | none => rw [hc] at h1'; cases h1'
    | some c =>
      rw [hc] at h1' h2
      have ex : c.1 = x := Option.some.inj h1'
      have ev : (σ[c.2]?).join = some v := Option.some.inj h2
      have ev' : σ[c.2]? = some (some v) := by
        cases q : σ[c.2]? with
        | none => rw [q] at ev; cases ev
        | some z => rw [q] at ev; simp at ev; rw [ev]
      obtain ⟨k1, k2, k3⟩ := hcaps c (List.mem_of_getElem? hc)
      rw [ex] at k1 k2 k3
      obtain ⟨m, hm, hl⟩ := I.loc
      obtain ⟨u, ru, lk⟩ := hl c.2 x v k1 ev' (.inr (.inl k2))
      refine ⟨u, ru, .inr ⟨.inl ?_, ?_⟩⟩
      · show (relabel scope X.env).names.lookup x = some .cell
        rw [relabel_names, k3]
        have e1 : X.env.scope.kind = .function := I.ok.kind
        have e2 : X.env.kindOf x = some .cell := k2
        simp [e1, e2]
      · rcases lk with ⟨z, _⟩ | ⟨_, cc, e1, e2⟩
        · have z' : X.env.scope.names.lookup x = some .local := z
          rw [k2] at z'; cases z'
        · obtain ⟨a, ha⟩ := clo_has (env := X.env) (acc := []) (mem_of_look k3)
          obtain ⟨a', ha'⟩ := look_of_mem ha
          have e3 : a' = cc := Option.some.inj ((cmem ha').symm.trans e1)
          rw [e3] at ha'
          obtain ⟨o, ho, hd⟩ := e2
          exact ⟨cc, ha', o, hk _ _ ho, hd⟩
  · obtain ⟨v, o, ho, hd⟩ := I.cell x c (cmem e)
    exact ⟨v, o, hk _ _ ho, hd⟩
  · have hp' : p ∈ X.pn ++ pins := by
      have : p ∈ (X.pn ++ pins) ++ [] := hp
      simpa using this
    obtain ⟨e, n, ne, nf, d⟩ := I.pin p hp'
    refine ⟨hk _ _ e, n, Nat.ne_of_lt (Heap.lt_size e), fun z => ?_, d⟩
    rcases List.mem_cons.mp (I.stkSub p.1 z) with q | q
    · exact ne q
    · exact nf q
  · show (stC ownN.length (caps.map (·.2)) σ).length = (ownN ++ caps.map (·.1)).length
    unfold stC
    simp

theorem pe_comp (ownN : List Str) (caps : List (Str × Nat)) (hc : X.calm = true) (hi : PI X tg iter wi)
    (hg : ∀ cl C s H fp pn, PG (cxComp X (ownN ++ caps.map (·.1)) scope cl C s H fp pn) tg g)
    (ht : ∀ cl C s H fp pn, PTs (cxComp X (ownN ++ caps.map (·.1)) scope cl C s H fp pn) ifs tt)
    (he : ∀ cl C s H fp pn, PE (cxComp X (ownN ++ caps.map (·.1)) scope cl C s H fp pn) elt te)
    (hkind : scope.kind = .function := by rfl) (hcell : ∀ y ∈ scope.names, y.2 ≠ .cell := by decide)
    (hfr : (scope.names.all fun p => p.2 != .free || X.env.scope.names.lookup p.1 == some .cell) = true := by rfl)
    (hcp : (caps.all fun c => X.N[c.2]? == some c.1 && (X.env.scope.names.lookup c.1 == some .cell && scope.names.lookup c.1 == some .free)) = true := by rfl)
    (hnames : ∀ x ∈ scope.names, x.2 = .local → scope.names.lookup x.1 = some .local := by decide)
    (hs : ∀ x, foldedSetIterable iter X.env x = pure x := by intro _; rfl) :
    PE X (.ListComp elt [⟨tg, iter, ifs, 0⟩] scope pos) (tComp wi ownN.length (caps.map (·.2)) g tt te) := by
  intro pins s σ H Q I h
  have hfree : ∀ p ∈ scope.names, p.2 = .free → X.env.scope.names.lookup p.1 = some .cell := fun p hp e => by
    have z := List.all_eq_true.mp hfr p hp
    rw [e] at z
    simpa using z
  have hcaps : ∀ c ∈ caps, X.N[c.2]? = some c.1 ∧ X.env.scope.names.lookup c.1 = some .cell ∧ scope.names.lookup c.1 = some .free := fun c hc => by
    have z := List.all_eq_true.mp hcp c hc
    simpa using z
  have has : ∀ p ∈ scope.names, p.2 = .free → ∃ a, X.env.cells.lookup p.1 = some a := fun p hp hfr => I.ok.has p.1 (.inl (hfree p hp hfr))
  rw [eval_ListComp]
  refine wpAny_comprehension_free (use := none) rfl hs (closureFor_clo has) hkind hnames (thn (hi pins s σ H _ I h) fun v s1 h1 => thn h1 fun itv s2 h2 => ?_)
  obtain ⟨it, fp, tn, J, H2, rfl, I2, T, st2, f2, red⟩ := h2
  have hf2 : H2 s2.heap.objs.size = none := I2.hok.fresh (Nat.le_refl _)
  obtain ⟨W, ⟨m0, w0⟩, turn⟩ := red s2.heap.objs.size hf2
  refine wpAny_newObj_type ?_
  generalize hac : s2.heap.objs.size = ac at hf2 turn w0 ⊢
  have I3 : Inv X pins σ (upd H2 ac (.lst [])) { s2 with heap := s2.heap.push { cls := .type "list", dict := none, data := .seq ([] : List Value).toArray } } := by
    subst hac
    exact I2.laid (t' := s2.toks) (o := .lst []) (fun b u e => Heap.get?_push_of_some _ e) (Nat.le_refl _) ⟨Nat.zero_le _, [], 0, .nil, Heap.get?_push_size _ rfl⟩
  generalize hs3 : ({ s2 with heap := s2.heap.push { cls := .type "list", dict := none, data := .seq ([] : List Value).toArray } } : Shared) = s3 at I3 ⊢
  have obj2 := T.obj 0 s2.heap st2
  have fne : ∀ b ∈ fp, b ≠ ac := fun b hb z => by
    obtain ⟨o, e, _⟩ := obj2 b hb
    exact absurd (Heap.lt_size e) (by rw [z, hac]; exact Nat.lt_irrefl _)
  have f3 : ∀ b ∈ fp, FpOk X pins (upd H2 ac (.lst [])) b := fun b hb => ⟨by rw [upd_ne (fne b hb)]; exact (f2 b hb).1, (f2 b hb).2⟩
  have st3 : tn 0 s3.heap := T.keep 0 _ _ st2 fun b hb o e => by subst hs3; exact Heap.get?_push_of_some _ e
  have fl3 : ∀ b ∈ fp, b < s3.heap.objs.size := fun b hb => by
    obtain ⟨o, e, _⟩ := T.obj 0 s3.heap st3 b hb
    exact Heap.lt_size e
  have acl : ac < s3.heap.objs.size := by subst hs3; subst hac; simp [Heap.size_push]
  refine wpAny_newFunctionEnv hcell (by intro y hy; simp at hy) (fun h₁ hns₁ hsb₁ => ?_) hkind
  have old : ∀ b o, s3.heap.get? b = some o → h₁.get? b = some o := fun b o e => hsb₁.extBut b o (Nat.ne_of_lt (Heap.lt_size e)) (Heap.get?_push_of_some _ e)
  have I4 := inv_comp (ownN := ownN) (caps := caps) (tk := s3.toks + ([] : List (Str × Value)).length) I3 f3 fl3 hkind hcell hfree hcaps hns₁ old
  have st4 : tn 0 h₁ := T.keep 0 _ _ st3 fun b hb o e => old b o e
  -- behind the block
  have after : ∀ (s5 : Shared) (σ5 : St) (H5 : Hp), Inv (cxComp X (ownN ++ caps.map (·.1)) scope (clo X.env scope.names []) s3.heap.objs.size s3 (upd H2 ac (.lst [])) fp (X.pn ++ pins)) [] σ5 H5 s5 → Q (.ref ac) H5 →
      compPost (model X.prog X.w) X.A X.xe none (EP X pins σ Q) (.ref ac) s3.heap.objs.size (.ok .next) s5 := by
    intro s5 σ5 H5 J5 q
    obtain ⟨m, hm, _⟩ := J5.loc
    refine ⟨m, hm, fun h' hs' => ?_⟩
    have nC : H5 s3.heap.objs.size = none := J5.free
    refine ⟨.ref ac, H5, ?_, rfl, q⟩
    have ub := J5.base
    have u : Un (frs X.stack) fp (upd H2 ac (.lst [])) H5 s3.heap h' :=
      ⟨fun b o e n hb hx => hs'.extBut b o (Nat.ne_of_lt (Heap.lt_size e)) (ub.keep b o e n hb hx), fun b o e n hb hx => by
        obtain ⟨sl, z⟩ := ub.slot b o e n hb hx
        exact ⟨sl, hs'.extBut b _ (Nat.ne_of_lt (Heap.lt_size e)) z⟩, ub.free, fun b o e hx => by
        obtain ⟨o', z⟩ := ub.there b o e hx
        exact ⟨o', hs'.extBut b _ (Nat.ne_of_lt (Heap.lt_size e)) z⟩, ub.tups, ub.frzs, fun b ps q => ⟨(ub.tbls b ps q).1, fun c o ec x => let z := (ub.tbls b ps q).2 c o ec x; ⟨z.1, hs'.extBut c o (ne_of_none z.1 nC) z.2⟩⟩⟩
    refine I3.call' (s' := { s5 with heap := h' }) (ch := fp) J5.os u (fun b u e => ?_) J5.bare (fun b hb => ⟨(f3 b hb).2.2.2.1, (f3 b hb).2.1, (f3 b hb).2.2.2.2.1, (f3 b hb).2.2.2.2.2⟩)
    refine (J5.hok b u e).stay (fun c v hc z => hs'.extBut c v ?_ z) (fun _ z => z) fun _ _ z => z
    rintro rfl
    rcases hc with z' | z'
    · rw [z', e] at nC; cases nC
    · rw [nC] at z'; cases z'
  have loop : ∀ s4 : Shared, s4 = { s3 with heap := h₁, toks := s3.toks + ([] : List (Str × Value)).length } → codeAny (model X.prog X.w) X.A (.compLoop (.ListComp elt [⟨tg, iter, ifs, 0⟩] scope pos) 0 (.ref it) (.ref ac) (compEnvC scope (clo X.env scope.names []) s3.heap.objs.size X.env))
      (compPost (model X.prog X.w) X.A X.xe none (EP X pins σ Q) (.ref ac) s3.heap.objs.size) s4 := by
    rintro s4 rfl
    refine compLoop_go (fun n s' => ∃ i ys H', Inv (cxComp X (ownN ++ caps.map (·.1)) scope (clo X.env scope.names []) s3.heap.objs.size s3 (upd H2 ac (.lst [])) fp (X.pn ++ pins)) [] (stC ownN.length (caps.map (·.2)) σ) H' s' ∧ tn i s'.heap ∧ (∀ b ∈ fp, H' b = none) ∧ W i n ys H') ?_ m0
      ⟨0, [], _, I4, st4, fun b hb => (f3 b hb).1, w0⟩
    rintro n s6 ⟨i, ys, H6, I6, st6, fr6, w6⟩
    obtain ⟨hl6, alt⟩ := turn i n ys H6 w6
    have fpok : ∀ {H' : Hp}, (∀ b ∈ fp, H' b = none) → ∀ b ∈ fp, FpOk (cxComp X (ownN ++ caps.map (·.1)) scope (clo X.env scope.names []) s3.heap.objs.size s3 (upd H2 ac (.lst [])) fp (X.pn ++ pins)) [] H' b := fun {H'} hn b hb =>
      ⟨hn b hb, Nat.ne_of_lt (fl3 b hb), I6.ok.exfs b hb, .inl hb, (I6.ok.exf b hb).2, fun p hp z => (f3 b hb).2.2.2.2.2 p (by
        have hp' : p ∈ (X.pn ++ pins) ++ [] := hp
        simpa using hp') z⟩
    rcases alt with ⟨stop, qn⟩ | ⟨go, hsz, N, hN, step⟩
    · refine thn (T.done (cxComp X (ownN ++ caps.map (·.1)) scope (clo X.env scope.names []) s3.heap.objs.size s3 (upd H2 ac (.lst [])) fp (X.pn ++ pins)) rfl rfl rfl hc i [] s6 _ H6 _ I6 (fpok fr6) st6 stop) fun r s7 ⟨hr, I7⟩ => ?_
      subst hr
      exact after s7 _ H6 I7 qn
    · refine thn (T.item (cxComp X (ownN ++ caps.map (·.1)) scope (clo X.env scope.names []) s3.heap.objs.size s3 (upd H2 ac (.lst [])) fp (X.pn ++ pins)) rfl rfl rfl hc i [] s6 _ H6 _ I6 (fpok fr6) st6 go) fun r s7 ⟨u, hr, h7⟩ => ?_
      subst hr
      refine thn h7 fun _ s8 ⟨x, H8, I8, r8, y8, st8, fr8⟩ => ?_
      have I8' := I8.pinned (fpok fr8) (T.obj _ _ st8)
      have fin : ∀ {σ' : St} {H' : Hp} {s' : Shared}, Inv (cxComp X (ownN ++ caps.map (·.1)) scope (clo X.env scope.names []) s3.heap.objs.size s3 (upd H2 ac (.lst [])) fp (X.pn ++ pins)) ([] ++ pinsAt fp s8.heap) σ' H' s' → tn (i + 1) s'.heap ∧ ∀ b ∈ fp, H' b = none := fun {σ' H' s'} J =>
        ⟨T.keep _ _ _ st8 fun b hb o e => (J.pin (b, o) (List.mem_append_right _ (List.mem_append_right _ (mem_pinsAt hb e)))).1, fun b hb => by
          obtain ⟨o, e, _⟩ := T.obj _ _ st8 b hb
          exact (J.pin (b, o) (List.mem_append_right _ (List.mem_append_right _ (mem_pinsAt hb e)))).2.1⟩
      refine thn (hg _ _ _ _ _ _ _ s8 _ H8 x u _ I8' r8 (step x H8 y8)) fun _ s9 ⟨σ9, H9, I9, wk, q9⟩ => ?_
      refine thn (ht _ _ _ _ _ _ _ s9 σ9 H9 _ I9 q9) fun b s10 ⟨H10, I10, q10⟩ => ?_
      cases b with
      | false =>
        rw [if_neg Bool.false_ne_true] at q10 ⊢
        obtain ⟨m', hm', w'⟩ := hN _ _ q10
        obtain ⟨e1, e2⟩ := fin I10
        exact ⟨m', hm', i + 1, ys, H10, (I10.weak wk.len wk.get).unpinned, e1, e2, w'⟩
      | true =>
        rw [if_pos rfl] at q10 ⊢
        refine thn (he _ _ _ _ _ _ _ s10 σ9 H10 _ I10 q10) fun y s11 ⟨yv, H11, I11, r11, hl11, q11⟩ => ?_
        obtain ⟨m', hm', w'⟩ := hN _ _ q11
        refine thn (mt_append (X := cxComp X (ownN ++ caps.map (·.1)) scope (clo X.env scope.names []) s3.heap.objs.size s3 (upd H2 ac (.lst [])) fp (X.pn ++ pins)) (pinsAt fp s8.heap) s11 σ9 H11 (.ref ac) [yv] (.ref ac) [y] (fun v H' => H' = upd H11 ac (.lst (ys ++ [yv]))) I11 rfl (.cons r11 .nil) ⟨ac, ys, yv, rfl, rfl, hl11, hsz, rfl⟩) fun _ s12 ⟨v12, H12, I12, _, e12⟩ => ?_
        subst e12
        obtain ⟨e1, e2⟩ := fin I12
        exact ⟨m', hm', i + 1, _, _, (I12.weak wk.len wk.get).unpinned, e1, e2, w'⟩
  exact codeAny_compStart_list (loop _ rfl) (T.self _ 0 _ _ _ st4 (loop _ rfl))

theorem ps_setComp {i : Nat} {x : Str} {pos' spos : Pos} (hN : X.N.Nodup) (hix : X.N[i]? = some x) (hxl : Loc X.env.scope x) (ownN : List Str) (caps : List (Str × Nat)) (hc : X.calm = true) (hi : PI X tg iter wi)
    (hg : ∀ cl C s H fp pn, PG (cxComp X (ownN ++ caps.map (·.1)) scope cl C s H fp pn) tg g)
    (ht : ∀ cl C s H fp pn, PTs (cxComp X (ownN ++ caps.map (·.1)) scope cl C s H fp pn) ifs tt)
    (he : ∀ cl C s H fp pn, PE (cxComp X (ownN ++ caps.map (·.1)) scope cl C s H fp pn) elt te)
    (hkind : scope.kind = .function := by rfl) (hcell : ∀ y ∈ scope.names, y.2 ≠ .cell := by decide)
    (hfr : (scope.names.all fun p => p.2 != .free || X.env.scope.names.lookup p.1 == some .cell) = true := by rfl)
    (hcp : (caps.all fun c => X.N[c.2]? == some c.1 && (X.env.scope.names.lookup c.1 == some .cell && scope.names.lookup c.1 == some .free)) = true := by rfl)
    (hnames : ∀ x ∈ scope.names, x.2 = .local → scope.names.lookup x.1 = some .local := by decide)
    (hs : ∀ x, foldedSetIterable iter X.env x = pure x := by intro _; rfl)
    (hsw : swapsWith (.ListComp elt [⟨tg, iter, ifs, 0⟩] scope pos) (some (.Name x pos')) spos.line X.env = pure true := by rfl)
    (hf : X.fn x = true ∨ X.env.scope.names.lookup x = some .local := by first | exact .inl rfl | exact .inr rfl | assumption) :
    PS X (.Assign [.Name x pos'] (.ListComp elt [⟨tg, iter, ifs, 0⟩] scope pos) spos) (tAsg (tComp wi ownN.length (caps.map (·.2)) g tt te) (gName i)) := by
  intro pins s σ H D I h
  let Q : VK := fun v H' => D.nx (σ.set i (some v)) H'
  have hfree : ∀ p ∈ scope.names, p.2 = .free → X.env.scope.names.lookup p.1 = some .cell := fun p hp e => by
    have z := List.all_eq_true.mp hfr p hp
    rw [e] at z
    simpa using z
  have hcaps : ∀ c ∈ caps, X.N[c.2]? = some c.1 ∧ X.env.scope.names.lookup c.1 = some .cell ∧ scope.names.lookup c.1 = some .free := fun c hc => by
    have z := List.all_eq_true.mp hcp c hc
    simpa using z
  have has : ∀ p ∈ scope.names, p.2 = .free → ∃ a, X.env.cells.lookup p.1 = some a := fun p hp hfr => I.ok.has p.1 (.inl (hfree p hp hfr))
  rw [exec_Assign_Name_used _ _ _ _ hsw]
  refine wpAny_bind (wpAny_standAt (wpAny_bind ?_))
  show wpAny _ X.A (do let _ ← comprehension (.ListComp elt [⟨tg, iter, ifs, 0⟩] scope pos) scope X.env _ (newList []) false (eval iter X.env) (some (assign (.Name x pos') X.env))) _ _ s
  refine wpAny_bind (thn (Q := fun _ s' => ∃ σ' H', Inv X pins σ' H' s' ∧ D.nx σ' H') (wpAny_comprehension_free (use := some (assign (.Name x pos') X.env)) rfl hs (closureFor_clo has) hkind hnames (thn (hi pins s σ H _ I h) fun v s1 h1 => thn h1 fun itv s2 h2 => ?_)) fun _ s' hq => wpAny_pure (wpAny_pure hq))
  obtain ⟨it, fp, tn, J, H2, rfl, I2, T, st2, f2, red⟩ := h2
  have hf2 : H2 s2.heap.objs.size = none := I2.hok.fresh (Nat.le_refl _)
  obtain ⟨W, ⟨m0, w0⟩, turn⟩ := red s2.heap.objs.size hf2
  refine wpAny_newObj_type ?_
  generalize hac : s2.heap.objs.size = ac at hf2 turn w0 ⊢
  have I3 : Inv X pins σ (upd H2 ac (.lst [])) { s2 with heap := s2.heap.push { cls := .type "list", dict := none, data := .seq ([] : List Value).toArray } } := by
    subst hac
    exact I2.laid (t' := s2.toks) (o := .lst []) (fun b u e => Heap.get?_push_of_some _ e) (Nat.le_refl _) ⟨Nat.zero_le _, [], 0, .nil, Heap.get?_push_size _ rfl⟩
  generalize hs3 : ({ s2 with heap := s2.heap.push { cls := .type "list", dict := none, data := .seq ([] : List Value).toArray } } : Shared) = s3 at I3 ⊢
  have obj2 := T.obj 0 s2.heap st2
  have fne : ∀ b ∈ fp, b ≠ ac := fun b hb z => by
    obtain ⟨o, e, _⟩ := obj2 b hb
    exact absurd (Heap.lt_size e) (by rw [z, hac]; exact Nat.lt_irrefl _)
  have f3 : ∀ b ∈ fp, FpOk X pins (upd H2 ac (.lst [])) b := fun b hb => ⟨by rw [upd_ne (fne b hb)]; exact (f2 b hb).1, (f2 b hb).2⟩
  have st3 : tn 0 s3.heap := T.keep 0 _ _ st2 fun b hb o e => by subst hs3; exact Heap.get?_push_of_some _ e
  have fl3 : ∀ b ∈ fp, b < s3.heap.objs.size := fun b hb => by
    obtain ⟨o, e, _⟩ := T.obj 0 s3.heap st3 b hb
    exact Heap.lt_size e
  have acl : ac < s3.heap.objs.size := by subst hs3; subst hac; simp [Heap.size_push]
  refine wpAny_newFunctionEnv hcell (by intro y hy; simp at hy) (fun h₁ hns₁ hsb₁ => ?_) hkind
  have old : ∀ b o, s3.heap.get? b = some o → h₁.get? b = some o := fun b o e => hsb₁.extBut b o (Nat.ne_of_lt (Heap.lt_size e)) (Heap.get?_push_of_some _ e)
  have I4 := inv_comp (ownN := ownN) (caps := caps) (tk := s3.toks + ([] : List (Str × Value)).length) I3 f3 fl3 hkind hcell hfree hcaps hns₁ old
  have st4 : tn 0 h₁ := T.keep 0 _ _ st3 fun b hb o e => old b o e
  -- behind the block
  have after : ∀ (s5 : Shared) (σ5 : St) (H5 : Hp), Inv (cxComp X (ownN ++ caps.map (·.1)) scope (clo X.env scope.names []) s3.heap.objs.size s3 (upd H2 ac (.lst [])) fp (X.pn ++ pins)) [] σ5 H5 s5 → Q (.ref ac) H5 →
      compPost (model X.prog X.w) X.A X.xe (some (assign (.Name x pos') X.env)) (fun _ s' => ∃ σ' H', Inv X pins σ' H' s' ∧ D.nx σ' H') (.ref ac) s3.heap.objs.size (.ok .next) s5 := by
    intro s5 σ5 H5 J5 q
    obtain ⟨m, hm, _⟩ := J5.loc
    have nC : H5 s3.heap.objs.size = none := J5.free
    have I5 : Inv X pins σ H5 s5 := I3.call' (s' := s5) (ch := fp) J5.os J5.base J5.hok J5.bare (fun b hb => ⟨(f3 b hb).2.2.2.1, (f3 b hb).2.1, (f3 b hb).2.2.2.2.1, (f3 b hb).2.2.2.2.2⟩)
    have fC := I3.fpOk (Nat.le_refl _) nC
    show wpAny _ X.A (assign (.Name x pos') X.env (.ref ac)) _ _ s5
    refine wpAny_assign_Name (store_ok2 I5 hN hix hxl (v := .ref ac) rfl (fun s6 I6 ⟨a, sb, ha⟩ => ?_) hf)
    have aC : s3.heap.objs.size ≠ a := by
      rcases ha with z | z
      · rw [z]; exact fC.2.1
      · exact Ne.symm (fC.2.2.2.2.1 x a z)
    refine ⟨m, hm.sameBut sb aC, fun h' hs' => ?_⟩
    exact ⟨_, H5, I6.turned (it := s3.heap.objs.size) (t' := s6.toks) (fun b o hb e => hs'.extBut b o hb e) nC fC.2.1 fC.2.2.2.1 fC.2.2.2.2.1 fC.2.2.2.2.2, q⟩
  have loop : ∀ s4 : Shared, s4 = { s3 with heap := h₁, toks := s3.toks + ([] : List (Str × Value)).length } → codeAny (model X.prog X.w) X.A (.compLoop (.ListComp elt [⟨tg, iter, ifs, 0⟩] scope pos) 0 (.ref it) (.ref ac) (compEnvC scope (clo X.env scope.names []) s3.heap.objs.size X.env))
      (compPost (model X.prog X.w) X.A X.xe (some (assign (.Name x pos') X.env)) (fun _ s' => ∃ σ' H', Inv X pins σ' H' s' ∧ D.nx σ' H') (.ref ac) s3.heap.objs.size) s4 := by
    rintro s4 rfl
    refine compLoop_go (fun n s' => ∃ i ys H', Inv (cxComp X (ownN ++ caps.map (·.1)) scope (clo X.env scope.names []) s3.heap.objs.size s3 (upd H2 ac (.lst [])) fp (X.pn ++ pins)) [] (stC ownN.length (caps.map (·.2)) σ) H' s' ∧ tn i s'.heap ∧ (∀ b ∈ fp, H' b = none) ∧ W i n ys H') ?_ m0
      ⟨0, [], _, I4, st4, fun b hb => (f3 b hb).1, w0⟩
    rintro n s6 ⟨i, ys, H6, I6, st6, fr6, w6⟩
    obtain ⟨hl6, alt⟩ := turn i n ys H6 w6
    have fpok : ∀ {H' : Hp}, (∀ b ∈ fp, H' b = none) → ∀ b ∈ fp, FpOk (cxComp X (ownN ++ caps.map (·.1)) scope (clo X.env scope.names []) s3.heap.objs.size s3 (upd H2 ac (.lst [])) fp (X.pn ++ pins)) [] H' b := fun {H'} hn b hb =>
      ⟨hn b hb, Nat.ne_of_lt (fl3 b hb), I6.ok.exfs b hb, .inl hb, (I6.ok.exf b hb).2, fun p hp z => (f3 b hb).2.2.2.2.2 p (by
        have hp' : p ∈ (X.pn ++ pins) ++ [] := hp
        simpa using hp') z⟩
    rcases alt with ⟨stop, qn⟩ | ⟨go, hsz, N, hN, step⟩
    · refine thn (T.done (cxComp X (ownN ++ caps.map (·.1)) scope (clo X.env scope.names []) s3.heap.objs.size s3 (upd H2 ac (.lst [])) fp (X.pn ++ pins)) rfl rfl rfl hc i [] s6 _ H6 _ I6 (fpok fr6) st6 stop) fun r s7 ⟨hr, I7⟩ => ?_
      subst hr
      exact after s7 _ H6 I7 qn
    · refine thn (T.item (cxComp X (ownN ++ caps.map (·.1)) scope (clo X.env scope.names []) s3.heap.objs.size s3 (upd H2 ac (.lst [])) fp (X.pn ++ pins)) rfl rfl rfl hc i [] s6 _ H6 _ I6 (fpok fr6) st6 go) fun r s7 ⟨u, hr, h7⟩ => ?_
      subst hr
      refine thn h7 fun _ s8 ⟨xv, H8, I8, r8, y8, st8, fr8⟩ => ?_
      have I8' := I8.pinned (fpok fr8) (T.obj _ _ st8)
      have fin : ∀ {σ' : St} {H' : Hp} {s' : Shared}, Inv (cxComp X (ownN ++ caps.map (·.1)) scope (clo X.env scope.names []) s3.heap.objs.size s3 (upd H2 ac (.lst [])) fp (X.pn ++ pins)) ([] ++ pinsAt fp s8.heap) σ' H' s' → tn (i + 1) s'.heap ∧ ∀ b ∈ fp, H' b = none := fun {σ' H' s'} J =>
        ⟨T.keep _ _ _ st8 fun b hb o e => (J.pin (b, o) (List.mem_append_right _ (List.mem_append_right _ (mem_pinsAt hb e)))).1, fun b hb => by
          obtain ⟨o, e, _⟩ := T.obj _ _ st8 b hb
          exact (J.pin (b, o) (List.mem_append_right _ (List.mem_append_right _ (mem_pinsAt hb e)))).2.1⟩
      refine thn (hg _ _ _ _ _ _ _ s8 _ H8 xv u _ I8' r8 (step xv H8 y8)) fun _ s9 ⟨σ9, H9, I9, wk, q9⟩ => ?_
      refine thn (ht _ _ _ _ _ _ _ s9 σ9 H9 _ I9 q9) fun b s10 ⟨H10, I10, q10⟩ => ?_
      cases b with
      | false =>
        rw [if_neg Bool.false_ne_true] at q10 ⊢
        obtain ⟨m', hm', w'⟩ := hN _ _ q10
        obtain ⟨e1, e2⟩ := fin I10
        exact ⟨m', hm', i + 1, ys, H10, (I10.weak wk.len wk.get).unpinned, e1, e2, w'⟩
      | true =>
        rw [if_pos rfl] at q10 ⊢
        refine thn (he _ _ _ _ _ _ _ s10 σ9 H10 _ I10 q10) fun y s11 ⟨yv, H11, I11, r11, hl11, q11⟩ => ?_
        obtain ⟨m', hm', w'⟩ := hN _ _ q11
        refine thn (mt_append (X := cxComp X (ownN ++ caps.map (·.1)) scope (clo X.env scope.names []) s3.heap.objs.size s3 (upd H2 ac (.lst [])) fp (X.pn ++ pins)) (pinsAt fp s8.heap) s11 σ9 H11 (.ref ac) [yv] (.ref ac) [y] (fun v H' => H' = upd H11 ac (.lst (ys ++ [yv]))) I11 rfl (.cons r11 .nil) ⟨ac, ys, yv, rfl, rfl, hl11, hsz, rfl⟩) fun _ s12 ⟨v12, H12, I12, _, e12⟩ => ?_
        subst e12
        obtain ⟨e1, e2⟩ := fin I12
        exact ⟨m', hm', i + 1, _, _, (I12.weak wk.len wk.get).unpinned, e1, e2, w'⟩
  exact codeAny_compStart_list (loop _ rfl) (T.self _ 0 _ _ _ st4 (loop _ rfl))

theorem comp_range {lo : Int} {n own : Nat} {caps : List Nat} {g : TG} {tt : TT} {te : TE} {σ : St} {R : Hp → Prop} {l : Addr} {H1 : Hp} (Pv : Nat → List V → Hp → Prop) (h0 : Pv 0 [] (upd H1 l (.lst []))) (hz : n ≤ sizeLine)
    (hl : ∀ i ys H, Pv i ys H → H l = some (.lst ys) ∧ ys.length ≤ i)
    (hs : ∀ i ys H, i < n → Pv i ys H → g (.int (lo + i)) (stC own caps σ) H fun σ2 H2 => Wk (stC own caps σ) σ2 ∧
      tt σ2 H2 fun b H3 => if b = true then te σ2 H3 fun y H4 => H4 l = some (.lst ys) ∧ Pv (i + 1) (ys ++ [y]) (upd H4 l (.lst (ys ++ [y]))) else Pv (i + 1) ys H3)
    (hd : ∀ ys H, Pv n ys H → R H) :
    ∃ W : Nat → Nat → List V → Hp → Prop, (∃ m, W 0 m [] (upd H1 l (.lst []))) ∧
      ∀ i m ys H, W i m ys H → H l = some (.lst ys) ∧ (((Itr lo n).stop i H ∧ R H) ∨ ((Itr lo n).go i H ∧ ys.length < sizeLine ∧ ∃ N : List V → Hp → Prop, (∀ ys' H', N ys' H' → ∃ m', m' < m ∧ W (i + 1) m' ys' H') ∧
        ∀ x H', (Itr lo n).yld i H x H' → g x (stC own caps σ) H' fun σ2 H2 => Wk (stC own caps σ) σ2 ∧
        tt σ2 H2 fun b H3 => if b = true then te σ2 H3 fun y H4 => H4 l = some (.lst ys) ∧ N (ys ++ [y]) (upd H4 l (.lst (ys ++ [y]))) else N ys H3)) := by
  refine ⟨fun i m ys H => m = n - i ∧ i ≤ n ∧ Pv i ys H, ⟨n, by simp, Nat.zero_le _, h0⟩, ?_⟩
  rintro i m ys H ⟨rfl, hi, p⟩
  obtain ⟨e1, e2⟩ := hl i ys H p
  refine ⟨e1, ?_⟩
  by_cases hlt : i < n
  · refine .inr ⟨hlt, by (first | lia | omega), Pv (i + 1), fun ys' H' p' => ⟨n - (i + 1), by (first | lia | omega), rfl, hlt, p'⟩, fun x H' y => ?_⟩
    obtain ⟨e, y⟩ := y
    subst e y
    exact hs i ys _ hlt p
  · have e : i = n := by (first | lia | omega)
    subst e
    exact .inl ⟨Nat.le_refl _, hd ys H p⟩
theorem comp_list {K : PySem.W.Frag} {a : Addr} {xs : List V} {own : Nat} {caps : List Nat} {g : TG} {tt : TT} {te : TE} {σ : St} {R : Hp → Prop} {l : Addr} {H1 : Hp} (Pv : Nat → List V → Hp → Prop) (h0 : Pv 0 [] (upd H1 l (.lst []))) (hz : xs.length ≤ sizeLine)
    (hl : ∀ i ys H, i ≤ xs.length → Pv i ys H → SqL K H a xs ∧ H l = some (.lst ys) ∧ ys.length ≤ i)
    (hs : ∀ i x ys H, xs[i]? = some x → Pv i ys H → g x (stC own caps σ) H fun σ2 H2 => Wk (stC own caps σ) σ2 ∧
      tt σ2 H2 fun b H3 => if b = true then te σ2 H3 fun y H4 => H4 l = some (.lst ys) ∧ Pv (i + 1) (ys ++ [y]) (upd H4 l (.lst (ys ++ [y]))) else Pv (i + 1) ys H3)
    (hd : ∀ ys H, Pv xs.length ys H → R H) :
    ∃ W : Nat → Nat → List V → Hp → Prop, (∃ m, W 0 m [] (upd H1 l (.lst []))) ∧
      ∀ i m ys H, W i m ys H → H l = some (.lst ys) ∧ (((Itl K a).stop i H ∧ R H) ∨ ((Itl K a).go i H ∧ ys.length < sizeLine ∧ ∃ N : List V → Hp → Prop, (∀ ys' H', N ys' H' → ∃ m', m' < m ∧ W (i + 1) m' ys' H') ∧
        ∀ x H', (Itl K a).yld i H x H' → g x (stC own caps σ) H' fun σ2 H2 => Wk (stC own caps σ) σ2 ∧
        tt σ2 H2 fun b H3 => if b = true then te σ2 H3 fun y H4 => H4 l = some (.lst ys) ∧ N (ys ++ [y]) (upd H4 l (.lst (ys ++ [y]))) else N ys H3)) := by
  refine ⟨fun i m ys H => m = xs.length - i ∧ i ≤ xs.length ∧ Pv i ys H, ⟨xs.length, by simp, Nat.zero_le _, h0⟩, ?_⟩
  rintro i m ys H ⟨rfl, hi, p⟩
  obtain ⟨q, e1, e2⟩ := hl i ys H hi p
  refine ⟨e1, ?_⟩
  by_cases hlt : i < xs.length
  · refine .inr ⟨⟨xs, xs[i], q, by simp [hlt]⟩, by (first | lia | omega), Pv (i + 1), fun ys' H' p' => ⟨xs.length - (i + 1), by (first | lia | omega), rfl, hlt, p'⟩, fun x H' y => ?_⟩
    obtain ⟨e, y⟩ := y
    subst e
    exact hs i x ys _ (y xs q) p
  · have e : i = xs.length := by (first | lia | omega)
    subst e
    exact .inl ⟨⟨xs, q, Nat.le_refl _⟩, hd ys H p⟩
end
end L2

namespace L2
open PySem PySem.Spec PyProof.Rows

section
variable {X : Cx}
def rEqL (K : PySem.W.Frag) (neg : Bool) : R2 := fun x y H Q => ∃ (a b : Addr) (ns ms : List Int), x = .ref a ∧ y = .ref b ∧ SqL K H a (ns.map V.int) ∧ SqL K H b (ms.map V.int) ∧ Q (.bl (if neg then !decide (ns = ms) else decide (ns = ms))) H
theorem op_eqL (hu : X.A.units + 64 < cLine) : OpR X (compareOp .Eq) (rEqL X.K false) := by
  intro pins s σ H x y v u Q I rx ry h
  obtain ⟨a, b, ns, ms, rfl, rfl, ha, hb, q⟩ := h
  cases rx
  cases ry
  obtain ⟨its, r1, p1, _⟩ := I.list ha
  obtain ⟨its2, r2, p2, _⟩ := I.list hb
  exact PySem.W.eq_intsK p1.isList (intsAre_of r1) p2.isList (intsAre_of r2) hu ⟨.bl _, H, I, rfl, q⟩
theorem op_neL (hu : X.A.units + 64 < cLine) : OpR X (compareOp .NotEq) (rEqL X.K true) := by
  intro pins s σ H x y v u Q I rx ry h
  obtain ⟨a, b, ns, ms, rfl, rfl, ha, hb, q⟩ := h
  cases rx
  cases ry
  obtain ⟨its, r1, p1, _⟩ := I.list ha
  obtain ⟨its2, r2, p2, _⟩ := I.list hb
  exact PySem.W.ne_intsK p1.isList (intsAre_of r1) p2.isList (intsAre_of r2) hu ⟨.bl _, H, I, rfl, q⟩
def rEqNil (K : PySem.W.Frag) : R2 := fun x y H Q => ∃ (a b : Addr) (xs : List V), x = .ref a ∧ y = .ref b ∧ SqL K H a xs ∧ SqL K H b [] ∧ Q (.bl (decide (xs = []))) H
theorem op_eqNil (hu : X.A.units < cLine) : OpR X (compareOp .Eq) (rEqNil X.K) := by
  intro pins s σ H x y v u Q I rx ry h
  obtain ⟨a, b, xs, rfl, rfl, ha, hb, q⟩ := h
  cases rx
  cases ry
  obtain ⟨its, r1, p1, _⟩ := I.list ha
  obtain ⟨its2, r2, p2, _⟩ := I.list hb
  cases r2
  cases r1 with
  | nil => exact SeqAt.eq_listAt (e := fun _ => true) p1.isList p2.isList rfl hu (fun j h1 h2 => absurd h1 (by simp)) ⟨.bl true, H, I, rfl, by simpa using q⟩
  | cons r rr => exact SeqAt.eq_list_lengthsAt p1.isList p2.isList (by simp) hu ⟨.bl false, H, I, rfl, by simpa using q⟩

end
end L2

namespace L2
open PySem PySem.Spec PyProof.Rows

structure Callee (P : Program) (w : World) (K : PySem.W.Frag) (mg : Str → Option Value) (base : Heap) (x : Str) (k : Nat) (ps : List Str) (sp : Sp) : Prop where
  ex : ∃ (f : Addr) (fd : FuncData), FnOk P w K mg base CX0 k f fd ps sp ∧ Binds K fd ps [] ∧ PySem.W.keepIn K (.ref f) = true ∧ mg x = some (.ref f)
theorem Callee.mono {P : Program} {w : World} {K : PySem.W.Frag} {mg : Str → Option Value} {base : Heap} {x : Str} {k j : Nat} {ps : List Str} {sp : Sp} (C : Callee P w K mg base x k ps sp) (h : k ≤ j) : Callee P w K mg base x j ps sp :=
  let ⟨f, fd, a, b, c, d⟩ := C.ex
  ⟨f, fd, a.mono h, b, c, d⟩
theorem Callee.imp {P : Program} {w : World} {K : PySem.W.Frag} {mg : Str → Option Value} {base : Heap} {x : Str} {k : Nat} {ps : List Str} {sp sp' : Sp} (C : Callee P w K mg base x k ps sp) (h : ∀ vs H Q E, sp' vs H Q E → sp vs H Q E) : Callee P w K mg base x k ps sp' :=
  let ⟨f, fd, a, b, c, d⟩ := C.ex
  ⟨f, fd, a.imp h, b, c, d⟩
theorem pe_callC {X : Cx} {x : Str} {k : Nat} {ps : List Str} {sp : Sp} {e : Expr} {es : List Expr} {t : TA} {p pos : Pos} (C : Callee X.prog X.w X.K X.mg X.base x k ps sp) (hr : Room k X.A) (hg : Gl X x) (ha : PA X (e :: es) t)
    (hdb : (x == ("__debug__" : Str)) = false := by decide) (he : starEach (e :: es) X.env = (false, eval e X.env) :: starEach es X.env := by rfl) (hpl : (backTo pos (starEach es X.env)).any (·.1) = false := by rfl) :
    PE X (.Call (.Name x p) (e :: es) [] pos) (tCall sp [] E0 t) := by
  obtain ⟨f, fd, F, hb, hk, hm⟩ := C.ex
  exact pe_call F hr hg hm hk hb .nil pass0 ha hdb he hpl
structure Here (K : PySem.W.Frag) (mg : Str → Option Value) (x : Str) (st : Stmt) (f : Addr) (fd : FuncData) : Prop where
  fn : Fun K x x st f fd
  at_ : mg x = some (.ref f)
theorem Here.callee {P : Program} {w : World} {K : PySem.W.Frag} {mg : Str → Option Value} {base : Heap} {x : Str} {st : Stmt} {f : Addr} {fd : FuncData} {k : Nat} {ps : List Str} {sp : Sp} (h : Here K mg x st f fd) (F : FnOk P w K mg base CX0 k f fd ps sp)
    (hb : ∀ (kV doc pm : Value) (an : Option Addr) (cdv ct : Value) (us : List Value), us.length = ps.length → bindArgs (PySem.W.fnOf x x (defArgs st) (defBody st) (defScope st) .none kV doc pm an cdv ct) ⟨us, []⟩ = pure (ps.zip us)) : Callee P w K mg base x k ps sp :=
  ⟨f, fd, F, h.fn.binds hb, h.fn.kp, h.at_⟩

theorem boot_intT : bootBuiltins "int" = some (.type "int") := by decide +kernel
theorem boot_listT : bootBuiltins "list" = some (.type "list") := by decide +kernel
theorem boot_tupleT : bootBuiltins "tuple" = some (.type "tuple") := by decide +kernel
section
variable {X : Cx} (K : PySem.W.Frag) (hK : X.K = K)
include hK
theorem ix_listK : IxR X (rIxL K) := by subst hK; exact ix_list
theorem ix_tupK : IxR X (rIxT K) := by subst hK; exact ix_tup
theorem pg_tupK {es : List Expr} {k : Nat} {t : TGs} {n : Nat} {pos : Pos} (hc : X.calm = true) (h : PGs X es t)
    (hn : (assignEach es X.env).length = n := by rfl) (hst : (assignEach es X.env).findIdx? (·.1) = none := by rfl) : PG X (.Tuple es k pos) (gTup K n t) := by subst hK; exact pg_tup hc h hn hst
end

theorem same_new {H : Hp} {p : Addr} (h : H p = none) (o : HO) : Same H (upd H p o) := fun b u q => by rw [upd_ne (ne_of_none q h)]; exact q
def Kp (m : Addr) (H H' : Hp) : Prop := ∀ b o, H b = some o → b ≠ m → H' b = some o
theorem Kp.refl (m : Addr) (H : Hp) : Kp m H H := fun _ _ h _ => h
theorem Kp.trans {m : Addr} {H H1 H2 : Hp} (a : Kp m H H1) (b : Kp m H1 H2) : Kp m H H2 := fun c o h n => b c o (a c o h n) n
theorem Kp.same {m : Addr} {H H' : Hp} (h : Same H H') : Kp m H H' := fun b o e _ => h b o e
theorem Kp.upd {m : Addr} {H : Hp} {o : HO} : Kp m H (upd H m o) := fun b u e n => by rw [upd_ne n]; exact e
theorem Kp.tup {m : Addr} {H H' : Hp} {xs ys : List V} (k : Kp m H H') (hm : H m = some (.lst xs)) {b : Addr} (h : H b = some (.tup ys)) : H' b = some (.tup ys) :=
  k b _ h (ne_of h hm (by intro z; cases z))
def Pen (H : Hp) (p : Addr) : Prop := ∃ a b c : Int, H p = some (.lst [.int a, .int b, .int c])
def Refs (H : Hp) : List V → List (Int × Int) → Prop := Paired fun r w => ∃ t, r = .ref t ∧ H t = some (.tup [.int w.1, .int w.2])
theorem Refs.mono {H H' : Hp} (k : ∀ b xs, H b = some (.tup xs) → H' b = some (.tup xs)) : ∀ {rs : List V} {ws : List (Int × Int)}, Refs H rs ws → Refs H' rs ws
  | _, _, .nil => .nil
  | _, _, .cons ⟨t, e, h⟩ r => .cons ⟨t, e, k t _ h⟩ (Refs.mono k r)
theorem Refs.same {H H' : Hp} (k : Same H H') {rs : List V} {ws : List (Int × Int)} (h : Refs H rs ws) : Refs H' rs ws := h.mono fun b xs e => k b _ e
theorem Refs.kp {m : Addr} {H H' : Hp} {xs : List V} (k : Kp m H H') (hm : H m = some (.lst xs)) {rs : List V} {ws : List (Int × Int)} (h : Refs H rs ws) : Refs H' rs ws := h.mono fun b xs e => k.tup hm e
theorem Refs.len {H : Hp} {rs : List V} {ws : List (Int × Int)} (h : Refs H rs ws) : rs.length = ws.length := Paired.length h
theorem Refs.app {H : Hp} : ∀ {rs qs : List V} {ws us : List (Int × Int)}, Refs H rs ws → Refs H qs us → Refs H (rs ++ qs) (ws ++ us)
  | _, _, _, _, .nil, s => s
  | _, _, _, _, .cons r t, s => .cons r (Refs.app t s)
theorem Refs.get {H : Hp} : ∀ {rs : List V} {ws : List (Int × Int)} {i : Nat} {r : V}, Refs H rs ws → rs[i]? = some r → ∃ w t, ws[i]? = some w ∧ r = .ref t ∧ H t = some (.tup [.int w.1, .int w.2])
  | _, _, _, _, .nil, e => by simp at e
  | _, _, 0, _, .cons ⟨t, e1, h⟩ _, e => by simp at e; subst e; exact ⟨_, t, rfl, e1, h⟩
  | _, _, i + 1, r, .cons _ q, e => by
    obtain ⟨w, t, a, b⟩ := Refs.get (i := i) (r := r) q (by simpa using e)
    exact ⟨w, t, by simpa using a, b⟩
theorem Refs.take {H : Hp} : ∀ {rs : List V} {ws : List (Int × Int)} (n : Nat), Refs H rs ws → Refs H (rs.take n) (ws.take n)
  | _, _, 0, _ => .nil
  | _, _, _ + 1, .nil => .nil
  | _, _, n + 1, .cons r t => .cons r (Refs.take n t)
theorem Refs.drop {H : Hp} : ∀ {rs : List V} {ws : List (Int × Int)} (n : Nat), Refs H rs ws → Refs H (rs.drop n) (ws.drop n)
  | _, _, 0, r => r
  | _, _, _ + 1, .nil => .nil
  | _, _, n + 1, .cons _ t => Refs.drop n t
theorem Refs.rep {H : Hp} {rs : List V} {ws : List (Int × Int)} (h : Refs H rs ws) : ∀ k : Nat, Refs H (List.replicate k rs).flatten (List.replicate k ws).flatten
  | 0 => .nil
  | k + 1 => by
    rw [List.replicate_succ, List.replicate_succ, List.flatten_cons, List.flatten_cons]
    exact h.app (Refs.rep h k)
def WsL (H : Hp) (l : Addr) (ws : List (Int × Int)) : Prop := ∃ rs, H l = some (.lst rs) ∧ Refs H rs ws
theorem WsL.same {H H' : Hp} (k : Same H H') {l : Addr} {ws : List (Int × Int)} (h : WsL H l ws) : WsL H' l ws := let ⟨rs, a, b⟩ := h; ⟨rs, k l _ a, b.same k⟩
theorem WsL.kp {m : Addr} {H H' : Hp} {xs : List V} (k : Kp m H H') (hm : H m = some (.lst xs)) {l : Addr} (n : l ≠ m) {ws : List (Int × Int)} (h : WsL H l ws) : WsL H' l ws := let ⟨rs, a, b⟩ := h; ⟨rs, k l _ a n, b.kp k hm⟩
def WOk (wide : Int) (ws : List (Int × Int)) : Prop := ∀ w ∈ ws, 0 ≤ w.1 ∧ w.1 < wide ∧ 0 ≤ w.2 ∧ w.2 < wide ∧ w.1 ≠ w.2
theorem WOk.nil {wide : Int} : WOk wide [] := fun _ h => nomatch h
theorem WOk.app {wide : Int} {a b : List (Int × Int)} (x : WOk wide a) (y : WOk wide b) : WOk wide (a ++ b) := fun w h => (List.mem_append.mp h).elim (x w) (y w)
theorem WOk.one {wide a b : Int} (h : 0 ≤ a ∧ a < wide ∧ 0 ≤ b ∧ b < wide ∧ a ≠ b) : WOk wide [(a, b)] := fun w hw => by
  have : w = (a, b) := by simpa using hw
  subst this
  exact h
theorem WOk.rep {wide : Int} {a : List (Int × Int)} (x : WOk wide a) (k : Nat) : WOk wide (List.replicate k a).flatten := fun w h => by
  obtain ⟨l, h1, h2⟩ := List.mem_flatten.mp h
  rw [(List.mem_replicate.mp h1).2] at h2
  exact x w h2
def Net (H : Hp) (v : V) (wide : Int) (ws : List (Int × Int)) : Prop := ∃ n t rs, v = .ref n ∧ H n = some (.tup [.int wide, .ref t]) ∧ H t = some (.tup rs) ∧ Refs H rs ws
theorem Net.mono {H H' : Hp} (k : ∀ b xs, H b = some (.tup xs) → H' b = some (.tup xs)) {v : V} {wide : Int} {ws : List (Int × Int)} (h : Net H v wide ws) : Net H' v wide ws :=
  let ⟨n, t, rs, a, b, c, d⟩ := h
  ⟨n, t, rs, a, k _ _ b, k _ _ c, d.mono k⟩
theorem lenLine {n : Nat} (h : n ≤ 100000) : n ≤ sizeLine := Nat.le_trans h (by rw [sizeLine_eq]; decide)
theorem lenLt {n : Nat} (h : n < 100000) : n < sizeLine := Nat.lt_of_lt_of_le h (by rw [sizeLine_eq]; decide)
theorem not_dec {c : Prop} [Decidable c] (h : ¬ decide c = true) : ¬ c := fun z => h (decide_eq_true z)
end L2

namespace Ep
open PySem L2
structure Bn (mg : Str → Option Value) : Prop where
  n_len : mg "len" = none
  n_max : mg "max" = none
  n_min : mg "min" = none
  n_int : mg "int" = none
  n_bool : mg "bool" = none
  n_list : mg "list" = none
  n_tuple : mg "tuple" = none
  n_str : mg "str" = none
  n_dict : mg "dict" = none
  n_range : mg "range" = none
  n_isinstance : mg "isinstance" = none
  n_all : mg "all" = none
  n_any : mg "any" = none
  n_enumerate : mg "enumerate" = none
  n_sum : mg "sum" = none
  n_abs : mg "abs" = none
  n_sorted : mg "sorted" = none
  n_reversed : mg "reversed" = none
  n_zip : mg "zip" = none
  n_ord : mg "ord" = none
  n_repr : mg "repr" = none
  n_set : mg "set" = none
  n_divmod : mg "divmod" = none
  n_ValueError : mg "ValueError" = none
  n_KeyError : mg "KeyError" = none
def CDivB (i j : Int) : Prop := 0 < j ∧ j < 2 ^ 250
theorem op_fdivB {X : Cx} : OpR X (binaryOp .FloorDiv) (rI CDivB fun i j => .int (i / j)) := opI fun i j _ _ _ _ _ hc q => by
  have h1 : (0 : Int) < j := hc.1
  have h2 : j.natAbs < 2 ^ 250 := by have := hc.2; (first | lia | omega)
  refine PyProof.Rows.floordiv_int (by (first | lia | omega)) (by rw [Int.fdiv_eq_ediv_of_nonneg i (by (first | lia | omega))]; exact q) (.inl (PyProof.noPylong_of_log2 ?_))
  have h3 : j.natAbs.log2 < 250 := (Nat.log2_lt (by (first | lia | omega))).mpr h2
  (first | lia | omega)
theorem _root_.L2.Kp.put {m l : Addr} {H H1 : Hp} {o : HO} (hl : H l = none) (k : Kp m H H1) : Kp m H (upd H1 l o) := fun b u e n => by rw [upd_ne (ne_of_none e hl)]; exact k b u e n
theorem _root_.L2.Same.put {l : Addr} {H H1 : Hp} {o : HO} (hl : H l = none) (k : Same H H1) : Same H (upd H1 l o) := fun b u e => by rw [upd_ne (ne_of_none e hl)]; exact k b u e
theorem atI_int {ns : List Int} {i : Int} (h0 : 0 ≤ i) (h1 : i < ns.length) : atI (ns.map V.int) i = some (.int (ns.getD i.toNat 0)) := by
  obtain ⟨j, rfl⟩ : ∃ j : Nat, i = (j : Int) := ⟨i.toNat, by (first | lia | omega)⟩
  have h2 : j < ns.length := by (first | lia | omega)
  refine atI_nat ?_
  rw [List.getElem?_map, Int.toNat_natCast]
  simp [List.getD, h2]
theorem iteFd {c A B : Prop} [Decidable c] (h : ¬ c) (b : B) : if c then A else B := by rw [if_neg h]; exact b
theorem iteTd {c A B : Prop} [Decidable c] (h : c) (a : A) : if c then A else B := by rw [if_pos h]; exact a
theorem veq {a b : Int} (g : decide (V.int a = V.int b) = true) : a = b := V.int.inj (of_decide_eq_true g)
theorem vne {a b : Int} (g : ¬ decide (V.int a = V.int b) = true) : a ≠ b := fun z => g (decide_eq_true (by rw [z]))
def CompW (H3 : Hp) (l : Addr) (good : Int × Int → Prop) (i : Nat) (ys : List V) (Hc : Hp) : Prop := Same H3 Hc ∧ Hc l = some (.lst ys) ∧ ∃ us, Refs Hc ys us ∧ (∀ w ∈ us, good w) ∧ us.length ≤ i
theorem CompW.start {H3 : Hp} {l : Addr} {good : Int × Int → Prop} (fl : H3 l = none) : CompW H3 l good 0 [] (upd H3 l (.lst [])) := ⟨Same.put fl (Same.refl H3), upd_same, [], .nil, (fun _ h => nomatch h), Nat.le_refl _⟩
theorem CompW.len {H3 : Hp} {l : Addr} {good : Int × Int → Prop} {i : Nat} {ys : List V} {Hc : Hp} (h : CompW H3 l good i ys Hc) : Hc l = some (.lst ys) ∧ ys.length ≤ i :=
  let ⟨_, b, us, r, _, le⟩ := h
  ⟨b, by rw [r.len]; exact le⟩
theorem CompW.skip {H3 : Hp} {l : Addr} {good : Int × Int → Prop} {i : Nat} {ys : List V} {Hc : Hp} (h : CompW H3 l good i ys Hc) : CompW H3 l good (i + 1) ys Hc :=
  let ⟨a, b, us, r, g, le⟩ := h
  ⟨a, b, us, r, g, Nat.le_succ_of_le le⟩
theorem CompW.more {H3 : Hp} {l u : Addr} {good : Int × Int → Prop} {i : Nat} {ys : List V} {Hc : Hp} {a b : Int} (fl : H3 l = none) (h : CompW H3 l good i ys Hc) (hu : Hc u = none) (g : good (a, b)) :
    (upd Hc u (.tup [.int a, .int b])) l = some (.lst ys) ∧ CompW H3 l good (i + 1) (ys ++ [.ref u]) (upd (upd Hc u (.tup [.int a, .int b])) l (.lst (ys ++ [.ref u]))) := by
  obtain ⟨s1, e1, us, r1, g1, le⟩ := h
  have nul : u ≠ l := fun z => by rw [z, e1] at hu; cases hu
  refine ⟨by rw [upd_ne (Ne.symm nul)]; exact e1, Same.put fl (Same.trans s1 (same_new hu _)), upd_same, us ++ [(a, b)], ?_, fun w hw => ?_, by simp; (first | lia | omega)⟩
  · have r2 : Refs (upd Hc u (HO.tup [V.int a, V.int b])) (ys ++ [V.ref u]) (us ++ [(a, b)]) := (r1.same (same_new hu _)).app (.cons ⟨u, rfl, upd_same⟩ .nil)
    refine r2.mono fun c xs e => ?_
    rw [upd_ne (fun z => ?_)]
    · exact e
    · subst z
      rw [upd_ne (Ne.symm nul), e1] at e
      cases e
  · rcases List.mem_append.mp hw with z | z
    · exact g1 w z
    · have e : w = (a, b) := by simpa using z
      subst e
      exact g
theorem fresh_step {p u : Addr} {H : Hp} {xs : List V} (hp : H p = some (.lst xs)) (fu : H u = none) (o : HO) : Kp p H (upd H u o) ∧ (upd H u o) p = some (.lst xs) ∧ (upd H u o) u = some o ∧ u ≠ p :=
  ⟨Kp.same (same_new fu o), (same_new fu o) _ _ hp, upd_same, Ne.symm (ne_of_none hp fu)⟩
theorem _root_.L2.Refs.cut {H : Hp} {rs : List V} {ws : List (Int × Int)} (h : Refs H rs ws) (lo hi : Option Int) : ∃ us, Refs H (cutV rs lo hi) us ∧ (∀ w ∈ us, w ∈ ws) ∧ us.length ≤ ws.length :=
  ⟨_, (h.drop _).take _, fun w hw => List.mem_of_mem_drop (List.mem_of_mem_take hw), by rw [List.length_take, List.length_drop]; (first | lia | omega)⟩
theorem _root_.L2.WOk.sub {wide : Int} {us ws : List (Int × Int)} (h : WOk wide ws) (s : ∀ w ∈ us, w ∈ ws) : WOk wide us := fun w hw => h w (s w hw)
theorem atI_ref {H : Hp} {rs : List V} {ws : List (Int × Int)} (h : Refs H rs ws) {i : Int} (h0 : 0 ≤ i) (h1 : i < rs.length) : ∃ t w, atI rs i = some (.ref t) ∧ w ∈ ws ∧ ws[i.toNat]? = some w ∧ H t = some (.tup [.int w.1, .int w.2]) := by
  obtain ⟨j, rfl⟩ : ∃ j : Nat, i = (j : Int) := ⟨i.toNat, by (first | lia | omega)⟩
  have hj : j < rs.length := by (first | lia | omega)
  have e : rs[j]? = some rs[j] := by simp [hj]
  obtain ⟨w, t, hw, et, ht⟩ := h.get e
  rw [et] at e
  exact ⟨t, w, atI_nat e, List.mem_of_getElem? hw, by simpa using hw, ht⟩
inductive SpPenP (K : PySem.W.Frag) (vs : List V) (H : Hp) (Q : VK) : Prop
  | mk (a : Addr) (ns : List Int) (k : Int) (h1 : vs = [.ref a, .int k]) (h2 : SqL K H a (ns.map V.int)) (h3 : ns.length ≤ 63) (h4 : 0 ≤ k) (h5 : k < 100) (h6 : ∀ (p : Addr) (a' b' c' : Int), H p = none → Q (.ref p) (upd H p (.lst [.int a', .int b', .int c']))) : SpPenP K vs H Q
def spPen (K : PySem.W.Frag) : Sp := fun vs H Q _ => SpPenP K vs H Q
inductive SpTakeP (vs : List V) (H : Hp) (Q : VK) : Prop
  | mk (p : Addr) (a b c n : Int) (h1 : vs = [.ref p, .int n]) (h2 : H p = some (.lst [.int a, .int b, .int c])) (h3 : 0 < n) (h4 : n < 2 ^ 250) (h5 : ∀ (v a' b' c' : Int), 0 ≤ v → v < n → Q (.int v) (upd H p (.lst [.int a', .int b', .int c']))) : SpTakeP vs H Q
def spTake : Sp := fun vs H Q _ => SpTakeP  vs H Q
inductive SpWicketsP (vs : List V) (H : Hp) (Q : VK) : Prop
  | mk (p : Addr) (wide many : Int) (h1 : vs = [.ref p, .int wide, .int many]) (h2 : Pen H p) (h3 : 1 ≤ wide) (h4 : wide ≤ 8) (h5 : 0 ≤ many) (h6 : many ≤ 41) (h7 : ∀ (l : Addr) (ws : List (Int × Int)) (H' : Hp), H l = none → Kp p H H' → Pen H' p → WsL H' l ws → WOk wide ws → (ws.length : Int) ≤ many → Q (.ref l) H') : SpWicketsP vs H Q
def spWickets : Sp := fun vs H Q _ => SpWicketsP  vs H Q
def lift (by_ : Int) (w : Int × Int) : Int × Int := (w.1 + by_, w.2 + by_)
inductive SpLiftedP (vs : List V) (H : Hp) (Q : VK) : Prop
  | mk (a : Addr) (ws : List (Int × Int)) (k : Int) (h1 : vs = [.ref a, .int k]) (h2 : WsL H a ws) (h3 : ws.length ≤ 1000) (h4 : ∀ (l : Addr) (H' : Hp), H l = none → Same H H' → WsL H' l (ws.map (lift k)) → Q (.ref l) H') : SpLiftedP vs H Q
def spLifted : Sp := fun vs H Q _ => SpLiftedP  vs H Q
def pow2 (wide : Int) : Prop := wide = 1 ∨ wide = 2 ∨ wide = 4 ∨ wide = 8
inductive SpBuiltP (n : Nat) (vs : List V) (H : Hp) (Q : VK) : Prop
  | mk (wide : Int) (h1 : vs = [.int wide]) (h2 : pow2 wide) (h3 : wide < 2 ^ n) (h4 : ∀ (l : Addr) (ws : List (Int × Int)) (H' : Hp), H l = none → Same H H' → WsL H' l ws → WOk wide ws → (ws.length : Int) ≤ wide * wide → Q (.ref l) H') : SpBuiltP n vs H Q
def spBuilt (n : Nat) : Sp := fun vs H Q _ => SpBuiltP n vs H Q
inductive SpBrickP (vs : List V) (H : Hp) (Q : VK) : Prop
  | mk (wide : Int) (h1 : vs = [.int wide]) (h2 : 1 ≤ wide) (h3 : wide ≤ 8) (h4 : ∀ (l : Addr) (ws : List (Int × Int)) (H' : Hp), H l = none → Same H H' → WsL H' l ws → WOk wide ws → ws.length ≤ 200 → Q (.ref l) H') : SpBrickP vs H Q
def spBrick : Sp := fun vs H Q _ => SpBrickP  vs H Q
inductive SpRoundsP (vs : List V) (H : Hp) (Q : VK) : Prop
  | mk (wide : Int) (h1 : vs = [.int wide]) (h2 : pow2 wide) (h3 : ∀ (l : Addr) (ws : List (Int × Int)) (H' : Hp), H l = none → Same H H' → WsL H' l ws → WOk wide ws → ws.length ≤ 200 → Q (.ref l) H') : SpRoundsP vs H Q
def spRounds : Sp := fun vs H Q _ => SpRoundsP  vs H Q
inductive SpBentP (vs : List V) (H : Hp) (Q : VK) : Prop
  | mk (p : Addr) (wide : Int) (a : Addr) (ws : List (Int × Int)) (h1 : vs = [.ref p, .int wide, .ref a]) (h2 : Pen H p) (h3 : 1 ≤ wide) (h4 : wide ≤ 8) (h5 : a ≠ p) (h6 : WsL H a ws) (h7 : WOk wide ws) (h8 : ws.length ≤ 200) (h9 : ∀ (l : Addr) (us : List (Int × Int)) (H' : Hp), l ≠ p → Kp p H H' → Pen H' p → WsL H' l us → WOk wide us → us.length ≤ 500 → Q (.ref l) H') : SpBentP vs H Q
def spBent : Sp := fun vs H Q _ => SpBentP  vs H Q
inductive SpNetP (vs : List V) (H : Hp) (Q : VK) : Prop
  | mk (p : Addr) (h1 : vs = [.ref p]) (h2 : Pen H p) (h3 : ∀ (v : V) (wide : Int) (ws : List (Int × Int)) (H' : Hp), Kp p H H' → Pen H' p → Net H' v wide ws → 1 ≤ wide → wide ≤ 8 → WOk wide ws → ws.length ≤ 41 → Q v H') : SpNetP vs H Q
def spNet : Sp := fun vs H Q _ => SpNetP  vs H Q
theorem ne1 {H : Hp} {a b : Addr} {o : HO} (n : H b = none) (h : H a = some o) : a ≠ b := ne_of_none h n
theorem ne2 {H : Hp} {a b : Addr} {o : HO} (n : H a = none) (h : H b = some o) : a ≠ b := Ne.symm (ne_of_none h n)
theorem ne3 {H : Hp} {a b : Addr} {xs ys : List V} (h1 : H a = some (.tup xs)) (h2 : H b = some (.lst ys)) : a ≠ b := ne_of h1 h2 (by intro z; cases z)
theorem ne4 {H : Hp} {a b : Addr} {xs ys : List V} (h1 : H a = some (.lst xs)) (h2 : H b = some (.tup ys)) : a ≠ b := ne_of h1 h2 (by intro z; cases z)
theorem free2 {H H' : Hp} {l : Addr} (n : H' l = none) (s : Same H H') : H l = none := s.free n
theorem trans2 {H H1 H2 : Hp} (b : Same H1 H2) (a : Same H H1) : Same H H2 := Same.trans a b
def KT (H H' : Hp) : Prop := ∀ b xs, H b = some (.tup xs) → H' b = some (.tup xs)
theorem KT.refl (H : Hp) : KT H H := fun _ _ h => h
theorem KT.same {G H H' : Hp} (s : Same H H') (k : KT G H) : KT G H' := fun b xs h => s b _ (k b xs h)
theorem KT.kp {G H H' : Hp} {m : Addr} {ys : List V} (q : Kp m H H') (hm : H m = some (.lst ys)) (k : KT G H) : KT G H' := fun b xs h => q b _ (k b xs h) (ne3 (k b xs h) hm)
theorem _root_.L2.Net.kt {H H' : Hp} {v : V} {wide : Int} {ws : List (Int × Int)} (n : Net H v wide ws) (k : KT H H') : Net H' v wide ws := n.mono k
end Ep

namespace Ep
open PySem L2
def maxI (a b : Int) : Int := if b ≤ a then a else b
theorem if_gt_max (a b : Int) : (if b > a then b else a) = maxI a b := by
  unfold maxI
  by_cases h : b ≤ a
  · rw [if_neg (by (first | lia | omega)), if_pos h]
  · rw [if_pos (by (first | lia | omega)), if_neg h]
def layT (st : List Int × List Int) (w : Int × Int) : List Int × List Int :=
  let layer := 1 + maxI (st.1.getD w.1.toNat 0) (st.1.getD w.2.toNat 0)
  ((st.1.set w.1.toNat layer).set w.2.toNat layer, st.2 ++ [layer])
def layS (wide : Int) (ws : List (Int × Int)) : List Int × List Int := ws.foldl layT (List.replicate wide.toNat 0, [])
theorem ixN_of {n : Nat} {i : Int} (h0 : 0 ≤ i) (h1 : i < n) : ixN n i = some i.toNat := by
  unfold ixN
  rw [if_pos h0, if_pos h1]
def wAt (ws : List (Int × Int)) (j : Nat) : Int × Int := ws.getD j (0, 0)
theorem getD_set {l : List Int} {i j : Nat} {z : Int} (hi : i < l.length) : (l.set i z).getD j 0 = if j = i then z else l.getD j 0 := by
  by_cases h : j = i
  · subst h
    simp [List.getD, hi]
  · have h' : ¬ i = j := fun q => h q.symm
    simp [List.getD, h, h']
inductive SpLawP (K : PySem.W.Frag) (vs : List V) (H : Hp) (Q : VK) : Prop
  | mk (a : Addr) (ns : List Int) (h1 : vs = [.ref a]) (h2 : SqL K H a (ns.map V.int)) (h3 : ns.length ≤ 63) (h4 : ∀ H', Q (.bl true) H') : SpLawP K vs H Q
def spLaw (K : PySem.W.Frag) : Sp := fun vs H Q _ => SpLawP K vs H Q
end Ep

namespace L2
open PySem PySem.Spec PyProof.Rows
section
variable {P : Program} {w : World} {A : Around} {s : Shared}
end
section
variable {X : Cx} {elts : List Expr} {kk : Nat} {ps : Pos}
end
end L2

namespace L2
open PySem PySem.Spec PyProof.Rows HT
section
variable {prog : Program} {w : World} {A : Around} {E : Value → Shared → Prop} {s : Shared}
end
section
variable {X : Cx}
def whole (n : Nat) (lo hi : Option Int) : Prop := sIx n 0 lo = 0 ∧ sIx n n hi = n
end
end L2

namespace Ep
open PySem L2
def both (cs : List Int) (w : Int × Int) : Int := cs.getD w.1.toNat 0 + cs.getD w.2.toNat 0
theorem take_snoc {α : Type} {ws : List α} {i : Nat} {w : α} (h : ws[i]? = some w) : ws.take (i + 1) = ws.take i ++ [w] := by rw [List.take_add_one, h]; rfl
theorem set_map (cs : List Int) (i : Nat) (z : Int) : (cs.map V.int).set i (V.int z) = (cs.set i z).map V.int := by rw [List.map_set]
inductive SpCountsP (vs : List V) (H : Hp) (Q : VK) : Prop
  | mk (p : Addr) (wide : Int) (h1 : vs = [.ref p, .int wide]) (h2 : Pen H p) (h3 : 1 ≤ wide) (h4 : wide ≤ 8) (h5 : ∀ (l : Addr) (cs : List Int) (H' : Hp), H l = none → Kp p H H' → Pen H' p → H' l = some (.lst (cs.map V.int)) → cs.length = wide.toNat → Q (.ref l) H') : SpCountsP vs H Q
def spCounts : Sp := fun vs H Q _ => SpCountsP  vs H Q
theorem WOk.mem {wide : Int} {ws : List (Int × Int)} (h : WOk wide ws) {i : Nat} {x : Int × Int} (e : ws[i]? = some x) : 0 ≤ x.1 ∧ x.1 < wide ∧ 0 ≤ x.2 ∧ x.2 < wide ∧ x.1 ≠ x.2 := h x (List.mem_of_getElem? e)
end Ep

namespace L2
open PySem PySem.Spec PyProof.Rows
def Itz (sq1 sq2 : Hp → List V → Prop) : It :=
  ⟨fun i H => ∃ xs x ys y, sq1 H xs ∧ sq2 H ys ∧ xs[i]? = some x ∧ ys[i]? = some y, fun i H x H' => ∃ T v u, H T = none ∧ x = .ref T ∧ H' = upd H T (.tup [v, u]) ∧ (∀ xs, sq1 H xs → xs[i]? = some v) ∧ ∀ ys, sq2 H ys → ys[i]? = some u,
    fun i H => ∃ xs ys, sq1 H xs ∧ sq2 H ys ∧ (xs[i]? = none ∨ ys[i]? = none)⟩
theorem Inv.turnedN {X : Cx} {pins : List (Addr × Obj)} {σ : St} {H : Hp} {s : Shared} {h' : Heap} {t' : Nat} {ch : List Addr} (I : Inv X pins σ H s) (k : ∀ b o, b ∉ ch → s.heap.get? b = some o → h'.get? b = some o)
    (fe : ∀ b ∈ ch, FpOk X pins H b) : Inv X pins σ H { s with heap := h', toks := t' } := by
  have ntr : ∀ b u, H b = some u → b ∉ ch := fun b u q z => by rw [(fe b z).1] at q; cases q
  refine I.step (g' := s.gens) (d' := s.drawn) (ch := ch) (fun b hb => ?_) (fun b o _ _ hc q _ => k b o hc q) (fun b o _ _ hc q _ => ⟨o.slots, k b o hc q⟩) (fun _ _ _ _ n => n)
    (fun b o hc q => ⟨o, k b o hc q⟩) (fun b xs q => q) (fun b o u q => q) (fun b ps q => ⟨q, fun c o ec x => ⟨ec, k c o (ntr c _ ec) x⟩⟩) (fun m hm => ?_) (fun b u q => ?_) I.bare
  · exact ⟨(fe b hb).2.2.2.1, (fe b hb).2.1, (fe b hb).2.2.2.2.1, (fe b hb).2.2.2.2.2⟩
  · obtain ⟨o, es, ep, ho, r⟩ := hm
    exact ⟨o, es, ep, k _ o (fun z => (fe _ z).2.1 rfl) ho, r⟩
  · refine (I.hok b u q).stay (fun c v hc z => k c v ?_ z) (fun _ z => z) fun _ _ z => z
    rcases hc with z | z
    · rw [z]; exact ntr b u q
    · exact ntr c _ z
theorem Inv.turnedT {X : Cx} {pins : List (Addr × Obj)} {σ : St} {H : Hp} {s : Shared} {h' : Heap} {t' : Nat} {ch : List Addr} {ys : List V} (I : Inv X pins σ H s) (k : ∀ b o, b ∉ ch → s.heap.get? b = some o → h'.get? b = some o)
    (fe : ∀ b ∈ ch, FpOk X pins H b) (new : ObjOk X.prog X.w (upd H s.heap.objs.size (.tup ys)) h' s.heap.objs.size (.tup ys)) : Inv X pins σ (upd H s.heap.objs.size (.tup ys)) { s with heap := h', toks := t' } := by
  have hT : H s.heap.objs.size = none := I.hok.fresh (Nat.le_refl _)
  have nT : ∀ b o, s.heap.get? b = some o → b ≠ s.heap.objs.size := fun b o q => Nat.ne_of_lt (Heap.lt_size q)
  have ntr : ∀ b u, H b = some u → b ∉ ch := fun b u q z => by rw [(fe b z).1] at q; cases q
  have up : ∀ b u, H b = some u → upd H s.heap.objs.size (.tup ys) b = some u := fun b u q => by rw [upd_ne (ne_of_none q hT)]; exact q
  refine I.step (g' := s.gens) (d' := s.drawn) (ch := ch) (fun b hb => ?_) (fun b o _ _ hc q _ => k b o hc q) (fun b o _ _ hc q _ => ⟨o.slots, k b o hc q⟩) (fun b o _ q n => by rw [upd_ne (nT b o q)]; exact n)
    (fun b o hc q => ⟨o, k b o hc q⟩) (fun b xs q => up b _ q) (fun b o u q => up b _ q) (fun b ps q => ⟨up b _ q, fun c o ec x => ⟨up c _ ec, k c o (ntr c _ ec) x⟩⟩) (fun m hm => ?_) (fun b u q => ?_) I.bare
  · exact ⟨(fe b hb).2.2.2.1, (fe b hb).2.1, (fe b hb).2.2.2.2.1, (fe b hb).2.2.2.2.2⟩
  · obtain ⟨o, es, ep, ho, r⟩ := hm
    exact ⟨o, es, ep, k _ o (fun z => (fe _ z).2.1 rfl) ho, r⟩
  · by_cases hb : b = s.heap.objs.size
    · subst hb
      rw [upd_same] at q
      cases q
      exact new
    · rw [upd_ne hb] at q
      refine (I.hok b u q).stay (fun c v hc z => k c v ?_ z) (fun c z => up c _ z) fun c xs z => up c _ z
      rcases hc with z | z
      · rw [z]; exact ntr b u q
      · exact ntr c _ z
section
variable {X : Cx} {elts : List Expr} {kk : Nat} {ps : Pos}
theorem turn_zipL {P : Program} {w : World} {K : PySem.W.Frag} (a1 a2 z TI TO i1 i2 : Addr) (D : ZipApart z TI TO i1 i2 a1 a2) : Turn P w K (.Tuple elts kk ps) (Itz (fun H xs => SqL K H a1 xs) (fun H xs => SqL K H a2 xs)) [z, TI, TO, i1, i2] z
    (fun i h => IsZip h z TI TO .none ∧ IsPair h TI (.ref i1) (.ref i2) ∧ (∃ a b, IsPair h TO a b) ∧ h.IsListIter i1 a1 i ∧ h.IsListIter i2 a2 i) where
  mem := by simp
  obj := fun i h st b hb => by
    obtain ⟨hz, hTI, ⟨u, v, hTO⟩, ⟨o1, e1, c1, d1⟩, ⟨o2, e2, c2, d2⟩⟩ := st
    have q : b = z ∨ b = TI ∨ b = TO ∨ b = i1 ∨ b = i2 := by simpa using hb
    rcases q with rfl | rfl | rfl | rfl | rfl
    · exact ⟨_, hz, fun v q => by have q' : Data.fields _ = Data.cell v := q; cases q'⟩
    · exact ⟨_, hTI, fun v q => by have q' : Data.seq _ _ = Data.cell v := q; cases q'⟩
    · exact ⟨_, hTO, fun v q => by have q' : Data.seq _ _ = Data.cell v := q; cases q'⟩
    · exact ⟨o1, e1, fun v q => by rw [d1] at q; cases q⟩
    · exact ⟨o2, e2, fun v q => by rw [d2] at q; cases q⟩
  keep := fun i h h' st k => by
    obtain ⟨hz, hTI, ⟨u, v, hTO⟩, h1, h2⟩ := st
    exact ⟨k z (by simp) _ hz, k TI (by simp) _ hTI, ⟨u, v, k TO (by simp) _ hTO⟩, h1.at fun o e => k i1 (by simp) o e, h2.at fun o e => k i2 (by simp) o e⟩
  item := by
    intro X hP hw hK hc i pins s σ H E I hf st hg
    subst hP hw hK
    obtain ⟨hz, hTI, ⟨u0, v0, hTO⟩, h1, h2⟩ := st
    obtain ⟨xs, x, ys, y, hq, hr, hx, hy⟩ := hg
    obtain ⟨its, rv, p, _⟩ := I.list hq
    obtain ⟨jts, rw', p', _⟩ := I.list hr
    obtain ⟨u, hu, ru⟩ := rv.get hx
    obtain ⟨v, hv, rvv⟩ := rw'.get hy
    refine wpAny_pyNext_zip_item D hz hTI hTO h1 h2 p.isList p'.isList (x := u) (y := v) (by simpa using hu) (by simpa using hv) fun h' b1 b2 b3 b4 b5 b6 hk => ?_
    refine ⟨_, rfl, wpAny_letOwnedTupleGo_zip b1 fun h2' hz2 sb => ?_⟩
    have eT : z < s.heap.objs.size := Heap.lt_size hz
    have k2 : ∀ b o, b ∉ [z, TO, i1, i2] → s.heap.get? b = some o → h2'.get? b = some o := fun b o n q => by
      have n' : b ≠ z ∧ b ≠ TO ∧ b ≠ i1 ∧ b ≠ i2 := by simpa using n
      exact sb.extBut b o n'.1 (hk b o n'.1 n'.2.1 n'.2.2.1 n'.2.2.2 q)
    have new : ObjOk X.prog X.w (upd H s.heap.objs.size (.tup [x, y])) h2' s.heap.objs.size (.tup [x, y]) := ⟨by show 2 ≤ sizeLine; rw [sizeLine_eq]; decide, [u, v], .cons ru (.cons rvv .nil), _, sb.extBut _ _ (Nat.ne_of_gt eT) b5, rfl, _, rfl, rfl⟩
    have sub : ∀ b ∈ [z, TO, i1, i2], b ∈ [z, TI, TO, i1, i2] := fun b hb => by
      simp at hb ⊢
      rcases hb with e | e | e | e <;> simp [e]
    have I2 : Inv X pins σ (upd H s.heap.objs.size (.tup [x, y])) { s with heap := h2', toks := s.toks } := Inv.turnedT I k2 (fun b hb => hf b (sub b hb)) new
    refine ⟨.ref s.heap.objs.size, _, I2, rfl, ⟨s.heap.objs.size, x, y, I.hok.fresh (Nat.le_refl _), rfl, rfl, (fun zs hzs => by rw [I.list_inj hzs hq]; exact hx), fun zs hzs => by rw [I.list_inj hzs hr]; exact hy⟩, ⟨hz2, ?_, ⟨u, v, ?_⟩, ?_, ?_⟩, fun b hb => ?_⟩
    · exact sb.extBut _ _ D.TIz (hk _ _ D.TIz D.TITO D.TIi1 D.TIi2 hTI)
    · exact sb.extBut _ _ D.TOz b2
    · exact b3.extBut sb.extBut D.i1z
    · exact b4.extBut sb.extBut D.i2z
    · have bl : b < s.heap.objs.size := by
        have q : b = z ∨ b = TI ∨ b = TO ∨ b = i1 ∨ b = i2 := by simpa using hb
        rcases q with rfl | rfl | rfl | rfl | rfl
        · exact eT
        · exact Heap.lt_size hTI
        · exact Heap.lt_size hTO
        · obtain ⟨_, q, _⟩ := h1; exact Heap.lt_size q
        · obtain ⟨_, q, _⟩ := h2; exact Heap.lt_size q
      rw [upd_ne (Nat.ne_of_lt bl)]
      exact (hf b hb).1
  done := by
    intro X hP hw hK hc i pins s σ H E I hf st hg
    subst hP hw hK
    obtain ⟨hz, hTI, ⟨u0, v0, hTO⟩, h1, h2⟩ := st
    obtain ⟨xs, ys, hq, hr, hx⟩ := hg
    obtain ⟨its, rv, p, _⟩ := I.list hq
    obtain ⟨jts, rw', p', _⟩ := I.list hr
    have l1 := rv.length
    have l2 := rw'.length
    have hend : its.toArray[i]? = none ∨ jts.toArray[i]? = none := by
      rcases hx with q | q
      · exact .inl (by rw [List.getElem?_toArray, List.getElem?_eq_none_iff] at *; (first | lia | omega))
      · exact .inr (by rw [List.getElem?_toArray, List.getElem?_eq_none_iff] at *; (first | lia | omega))
    have sub : ∀ b ∈ [z, TO, i1, i2], b ∈ [z, TI, TO, i1, i2] := fun b hb => by
      simp at hb ⊢
      rcases hb with e | e | e | e <;> simp [e]
    refine wpAny_pyNext_zip_end (I.ok.hd hc) D hz hTI hTO h1 h2 p.isList p'.isList hend fun h' hk => ⟨rfl, ?_⟩
    exact Inv.turnedN (t' := s.toks) (ch := [z, TO, i1, i2]) I (fun b o n q => by
      have n' : b ≠ z ∧ b ≠ TO ∧ b ≠ i1 ∧ b ≠ i2 := by simpa using n
      exact hk b o n'.1 n'.2.1 n'.2.2.1 n'.2.2.2 q) fun b hb => hf b (sub b hb)
  self := fun _ _ _ _ _ st h => wpAny_pyIter_zip st.1 h
def iZipL (K : PySem.W.Frag) (ta : TA) : TI := fun σ H R => ta σ H fun vs H1 => ∃ a b, vs = [.ref a, .ref b] ∧ (∃ xs, SqL K H1 a xs) ∧ (∃ ys, SqL K H1 b ys) ∧ R (Itz (fun H xs => SqL K H a xs) (fun H xs => SqL K H b xs)) H1
theorem pi_zipL {l r : Expr} {ta : TA} {p pos : Pos} (hg : Gl X "zip") (hm : X.mg "zip" = none) (ha : PA X [l, r] ta) (hs : starEach [l, r] X.env = (false, eval l X.env) :: starEach [r] X.env := by rfl) (hpl : (backTo pos (starEach [r] X.env)).any (·.1) = false := by rfl) :
    PI X (.Tuple elts kk ps) (.Call (.Name "zip" p) [l, r] [] pos) (iZipL X.K ta) := by
  intro pins s σ H R I h
  refine Call_ (ld_blt I hg hm boot_zip (PyProof.Rows.callWith_type1 (thn (ha pos pins s σ H _ I h) fun us s1 ⟨vs, H1, I1, r1, q1⟩ => ?_) hs hpl))
  obtain ⟨a, b, e, ⟨xs, hq⟩, ⟨ys, hr⟩, q⟩ := q1
  subst e
  obtain ⟨u, v, rfl, ru, rv⟩ := Vals.two r1
  cases ru
  cases rv
  obtain ⟨its, _, pp, _⟩ := I1.list hq
  obtain ⟨jts, _, pp', _⟩ := I1.list hr
  have la : a < s1.heap.objs.size := by obtain ⟨o, n, e, _⟩ := pp; exact Heap.lt_size e
  have lb : b < s1.heap.objs.size := by obtain ⟨o, n, e, _⟩ := pp'; exact Heap.lt_size e
  refine call_zip_2 pp.isList pp'.isList fun h' gz gTI gTO g1 g2 sz kk => ?_
  refine wpAny_pyIter_zip (by simpa using gz) ?_
  have ap : ZipApart (s1.heap.objs.size + 4) (s1.heap.objs.size + 2) (s1.heap.objs.size + 3) s1.heap.objs.size (s1.heap.objs.size + 1) a b := by
    generalize s1.heap.objs.size = n at la lb
    constructor <;> exact fun q => by simp only [Addr] at *; (first | lia | omega)
  refine ⟨s1.heap.objs.size + 4, [s1.heap.objs.size + 4, s1.heap.objs.size + 2, s1.heap.objs.size + 3, s1.heap.objs.size, s1.heap.objs.size + 1], _, _, H1, rfl, I1.kept (t' := s1.toks) kk, turn_zipL a b _ _ _ _ _ ap, ⟨gz, gTI, ⟨_, _, gTO⟩, g1, g2⟩, fun c hb => ?_, q⟩
  have bl : s1.heap.objs.size ≤ c := by
    have q : c = s1.heap.objs.size + 4 ∨ c = s1.heap.objs.size + 2 ∨ c = s1.heap.objs.size + 3 ∨ c = s1.heap.objs.size ∨ c = s1.heap.objs.size + 1 := by simpa using hb
    rcases q with rfl | rfl | rfl | rfl | rfl
    · exact Nat.le_add_right _ _
    · exact Nat.le_add_right _ _
    · exact Nat.le_add_right _ _
    · exact Nat.le_refl _
    · exact Nat.le_add_right _ _
  exact I1.fpOk bl (I1.hok.fresh bl)
end
end L2

namespace L2
open PySem PySem.Spec PyProof.Rows
section
variable {X : Cx}
theorem pre_sum (ns : List Int) : ∀ k : Nat, k ≤ ns.length → preSum (fun i => ns.getD i 0) k = (ns.take k).sum := by
  intro k
  induction k with
  | zero => intro _; rfl
  | succ k ih =>
    intro h
    rw [take_sum_succ ns k (by (first | lia | omega)), ← ih (by (first | lia | omega))]
    rfl
inductive P_call_sumL (K : PySem.W.Frag) (xs : List V) (H : Hp) (Q : VK) : Prop
  | mk (p : Addr) (ns : List Int) (h1 : xs = [.ref p]) (h2 : SqL K H p (ns.map V.int)) (h3 : Q (.int ns.sum) H) : P_call_sumL K xs H Q
theorem call_sumL (hc : X.calm = true) : CallR X (.builtin "sum") (P_call_sumL X.K) := by
  intro pins s σ H xs us Q I r h
  obtain ⟨p, ns, rfl, hp, q⟩ := h
  obtain ⟨u, rfl, ru⟩ := r.one
  cases ru
  obtain ⟨its, rv, pl, hz⟩ := I.list hp
  have lts : p < s.heap.objs.size := by
    obtain ⟨o, n, e, _⟩ := pl
    exact Heap.lt_size e
  have hl := rv.length
  rw [List.length_map] at hl
  refine call_sum_walkG (wpAny_pyIter_list pl.isList ?_)
  refine ⟨_, _, _, _, _, _, fun i => ns.getD i 0, rfl, Walks.list (A := X.A.in1) (I.ok.hd hc) s.heap.objs.size p (Nat.ne_of_lt lts) its.toArray, ⟨⟨_, Heap.get?_push_size _ rfl, rfl, rfl⟩, ?_⟩, ?_, ?_, fun h' tk t' hk => ?_⟩
  · obtain ⟨o, n, e, c, d, e2⟩ := pl
    exact ⟨o, Heap.get?_push_of_some _ e, c, n, e2⟩
  · intro b hb
    rw [Heap.size_push]
    have z : b = s.heap.objs.size ∨ b = p := by simpa using hb
    rcases z with rfl | rfl
    · exact Nat.lt_succ_self _
    · exact Nat.lt_succ_of_lt lts
  · intro i v hP
    have hi : its[i]? = some v := by simpa using hP
    have il : i < its.length := (List.getElem?_eq_some_iff.mp hi).1
    have e' : (ns.map V.int)[i]? = some (.int (ns.getD i 0)) := by
      rw [List.getElem?_map]
      simp [List.getD, show i < ns.length by (first | lia | omega)]
    obtain ⟨u, hu, ru⟩ := rv.get e'
    rw [hi] at hu; cases hu
    exact ru
  · have e : preSum (fun i => ns.getD i 0) its.toArray.size = ns.sum := by
      rw [List.size_toArray, ← hl, pre_sum ns ns.length (Nat.le_refl _), List.take_length]
    rw [e]
    refine ⟨.int ns.sum, H, ?_, ⟨t', rfl⟩, q⟩
    exact I.kept (t' := tk) fun b o e => hk b o (by
        intro z
        have : b = s.heap.objs.size := by simpa using z
        exact absurd (Heap.lt_size e) (by rw [this]; exact Nat.lt_irrefl _)) (Heap.get?_push_of_some _ e)
end
end L2

namespace Ep
open PySem L2
theorem ext_getD {a b : List Int} (h : a.length = b.length) (g : ∀ i, i < a.length → a.getD i 0 = b.getD i 0) : a = b := by
  refine List.ext_getElem h fun i h1 h2 => ?_
  have := g i h1
  simpa [List.getD, h1, h2] using this
end Ep
namespace Ep
open PySem L2
def mxL (L : List Int) : Int := L.foldl maxI 0
def depM (wide : Int) (ws : List (Int × Int)) : Nat := (mxL (layS wide ws).2).toNat
abbrev whole (wide : Int) (ws : List (Int × Int)) : Int := ((2 ^ depM wide ws : Nat) : Int)
def Rows (H : Hp) : List V → List (List Int) → Prop := Paired fun r w => ∃ t, r = .ref t ∧ H t = some (.lst (w.map V.int))
theorem Rows.len {H : Hp} {rs : List V} {M : List (List Int)} (h : Rows H rs M) : rs.length = M.length := Paired.length h
theorem Rows.get {H : Hp} : ∀ {rs : List V} {M : List (List Int)} {i : Nat} {r : V}, Rows H rs M → rs[i]? = some r → ∃ w t, M[i]? = some w ∧ r = .ref t ∧ H t = some (.lst (w.map V.int))
  | _, _, _, _, .nil, e => by simp at e
  | _, _, 0, _, .cons ⟨t, e1, h⟩ _, e => by simp at e; subst e; exact ⟨_, t, rfl, e1, h⟩
  | _, _, i + 1, r, .cons _ q, e => by
    obtain ⟨w, t, a, b⟩ := Rows.get (i := i) (r := r) q (by simpa using e)
    exact ⟨w, t, by simpa using a, b⟩
def RowsN (G H : Hp) (l : Addr) : List V → List (List Int) → Prop := Paired fun r w => ∃ t, r = .ref t ∧ t ≠ l ∧ G t = none ∧ H t = some (.lst (w.map V.int))
theorem RowsN.rows {G H : Hp} {l : Addr} : ∀ {rs : List V} {M : List (List Int)}, RowsN G H l rs M → Rows H rs M
  | _, _, .nil => .nil
  | _, _, .cons ⟨t, e, _, _, h⟩ r => .cons ⟨t, e, h⟩ (RowsN.rows r)
theorem RowsN.same {G H H' : Hp} {l : Addr} (k : Same H H') : ∀ {rs : List V} {M : List (List Int)}, RowsN G H l rs M → RowsN G H' l rs M
  | _, _, .nil => .nil
  | _, _, .cons ⟨t, e, a, b, h⟩ r => .cons ⟨t, e, a, b, k t _ h⟩ (RowsN.same k r)
theorem RowsN.put {G H : Hp} {l : Addr} {o : HO} : ∀ {rs : List V} {M : List (List Int)}, RowsN G H l rs M → RowsN G (upd H l o) l rs M
  | _, _, .nil => .nil
  | _, _, .cons ⟨t, e, a, b, h⟩ r => .cons ⟨t, e, a, b, by rw [upd_ne a]; exact h⟩ (RowsN.put r)
theorem RowsN.app {G H : Hp} {l : Addr} : ∀ {rs qs : List V} {M N : List (List Int)}, RowsN G H l rs M → RowsN G H l qs N → RowsN G H l (rs ++ qs) (M ++ N)
  | _, _, _, _, .nil, s => s
  | _, _, _, _, .cons r t, s => .cons r (RowsN.app t s)
theorem RowsN.more {G H H' : Hp} {l t : Addr} {rs : List V} {M : List (List Int)} {w : List Int} {o : HO} (h : RowsN G H l rs M) (k : Same H H') (ht : H' t = some (.lst (w.map V.int))) (n : t ≠ l) (g : G t = none) : RowsN G (upd H' l o) l (rs ++ [.ref t]) (M ++ [w]) :=
  ((h.same k).app (.cons ⟨t, rfl, n, g, ht⟩ .nil)).put
theorem RowsN.len {G H : Hp} {l : Addr} {rs : List V} {M : List (List Int)} (h : RowsN G H l rs M) : rs.length = M.length := Paired.length h
theorem RowsN.get {G H : Hp} {l : Addr} : ∀ {rs : List V} {M : List (List Int)} {i : Nat} {r : V}, RowsN G H l rs M → rs[i]? = some r → ∃ w t, M[i]? = some w ∧ r = .ref t ∧ t ≠ l ∧ G t = none ∧ H t = some (.lst (w.map V.int))
  | _, _, _, _, .nil, e => by simp at e
  | _, _, 0, _, .cons ⟨t, e1, h⟩ _, e => by simp at e; subst e; exact ⟨_, t, rfl, e1, h⟩
  | _, _, i + 1, r, .cons _ q, e => by
    obtain ⟨w, t, a, b⟩ := RowsN.get (i := i) (r := r) q (by simpa using e)
    exact ⟨w, t, by simpa using a, b⟩
theorem int_item {cs : List Int} {j : Nat} {x : V} (h : (cs.map V.int)[j]? = some x) : ∃ z, cs[j]? = some z ∧ x = V.int z := by
  rw [List.getElem?_map] at h
  cases e : cs[j]? with
  | none => rw [e] at h; cases h
  | some z => rw [e] at h; exact ⟨z, rfl, (Option.some.inj h).symm⟩
end Ep
namespace Ep
open PySem L2
theorem getD_of {cs : List Int} {j : Nat} {z : Int} (h : cs[j]? = some z) : cs.getD j 0 = z := by simp [List.getD, h]
end Ep

namespace Ep
open PySem L2
theorem cut_from {xs : List V} {n : Nat} (h : n ≤ xs.length) : cutV xs (some (n : Int)) none = xs.drop n := by
  unfold cutV
  rw [HT.sIx_nat, HT.sIx_none, Nat.min_eq_left h, List.take_of_length_le (by rw [List.length_drop]; (first | lia | omega))]
theorem cut1 {xs : List V} : cutV xs (some 1) none = xs.drop 1 := by
  by_cases h : 1 ≤ xs.length
  · exact cut_from (n := 1) h
  · have e : xs = [] := List.length_eq_zero_iff.mp (by (first | lia | omega))
    subst e
    rfl
end Ep
namespace Ep
open PySem L2
end Ep

namespace L2
open PySem PySem.Spec PyProof.Rows PyProof.V PySem.SeqAt
section
variable {X : Cx}
end
end L2

namespace Ep
open PySem L2 PySem.SeqAt
end Ep

namespace Ep
open PySem L2
def Falls (c : List Int) : Prop := ∀ i, i + 1 < c.length → c.getD (i + 1) 0 ≤ c.getD i 0
end Ep
namespace Ep
open PySem L2
inductive SpFallsP (vs : List V) (H : Hp) (Q : VK) : Prop
  | mk (c : Addr) (cs : List Int) (h1 : vs = [.ref c]) (h2 : H c = some (.lst (cs.map V.int))) (h3 : cs.length ≤ 100) (h4 : ∀ (b : Bool) (H' : Hp), Same H H' → (b = true ↔ Falls cs) → Q (.bl b) H') : SpFallsP vs H Q
def spFalls : Sp := fun vs H Q _ => SpFallsP  vs H Q
end Ep

namespace L2
open PySem PySem.Spec PyProof.Rows PyProof.V PySem.SeqAt
section
variable {X : Cx} {a : Expr} {ta : TE} {pos : Pos}
theorem op_isB : OpR X (compareOp .Is) (fun x y H Q => ∃ i j, x = .bl i ∧ y = .bl j ∧ Q (.bl (decide (i = j))) H) := by
  intro pins s σ H x y v u Q I rx ry h
  obtain ⟨i, j, rfl, rfl, q⟩ := h
  cases rx
  cases ry
  refine wpAny_is_plain rfl ⟨.bl (decide (i = j)), H, I, ?_, q⟩
  cases i <;> cases j <;> rfl
theorem op_notB : OpR X (compareOp .IsNot) (fun x y H Q => ∃ i j, x = .bl i ∧ y = .bl j ∧ Q (.bl (!decide (i = j))) H) := by
  intro pins s σ H x y v u Q I rx ry h
  obtain ⟨i, j, rfl, rfl, q⟩ := h
  cases rx
  cases ry
  refine wpAny_isNot_plain rfl ⟨.bl (!decide (i = j)), H, I, ?_, q⟩
  cases i <;> cases j <;> rfl
end
theorem for_zipN {sq1 sq2 : Hp → List V → Prop} {xs ys : List V} {n : Nat} {g : TG} {tb : TS} {D : Ends} {σ : St} {H : Hp} (h1 : n ≤ xs.length) (h2 : n ≤ ys.length) (h3 : xs.length = n ∨ ys.length = n) (Pv : Nat → St → Hp → Prop) (h0 : Pv 0 σ H) (hl : ∀ i σ H, i ≤ n → Pv i σ H → sq1 H xs ∧ sq2 H ys)
    (hs : ∀ i x y T σ H, i < n → xs[i]? = some x → ys[i]? = some y → H T = none → Pv i σ H → g (.ref T) σ (upd H T (.tup [x, y])) fun σ2 H2 => tb { D with nx := Pv (i + 1), ct := Pv (i + 1), bk := D.nx } σ2 H2) (hd : ∀ σ H, Pv n σ H → D.nx σ H) :
    ∃ W : Nat → Nat → St → Hp → Prop, (∃ m, W 0 m σ H) ∧ ∀ i m σ H, W i m σ H →
      ((Itz sq1 sq2).stop i H ∧ D.nx σ H) ∨ ((Itz sq1 sq2).go i H ∧ ∃ N : St → Hp → Prop, (∀ σ' H', N σ' H' → ∃ m', m' < m ∧ W (i + 1) m' σ' H') ∧ ∀ x H', (Itz sq1 sq2).yld i H x H' → g x σ H' fun σ2 H2 => tb { D with nx := N, ct := N, bk := D.nx } σ2 H2) := by
  refine ⟨fun i m σ H => m = n - i ∧ i ≤ n ∧ Pv i σ H, ⟨n, by simp, Nat.zero_le _, h0⟩, ?_⟩
  rintro i m σ H ⟨rfl, hi, p⟩
  obtain ⟨q1, q2⟩ := hl i σ H hi p
  by_cases hlt : i < n
  · have a1 : i < xs.length := by (first | lia | omega)
    have a2 : i < ys.length := by (first | lia | omega)
    refine .inr ⟨⟨xs, xs[i], ys, ys[i], q1, q2, by simp [a1], by simp [a2]⟩, Pv (i + 1), fun σ' H' p' => ⟨n - (i + 1), by (first | lia | omega), rfl, hlt, p'⟩, fun x H' y => ?_⟩
    obtain ⟨T, v, u, fT, e1, e2, y1, y2⟩ := y
    subst e1 e2
    exact hs i v u T σ H hlt (y1 xs q1) (y2 ys q2) fT p
  · have e : i = n := by (first | lia | omega)
    subst e
    refine .inl ⟨⟨xs, ys, q1, q2, ?_⟩, hd σ H p⟩
    rcases h3 with z | z
    · exact .inl (by rw [← z]; simp)
    · exact .inr (by rw [← z]; simp)
end L2

namespace Ep
open PySem L2 PySem.SeqAt
def minI (a b : Int) : Int := if b < a then b else a
def put1 (cs : List Int) (w : Int × Int) : List Int := (cs.set w.1.toNat (maxI (cs.getD w.1.toNat 0) (cs.getD w.2.toNat 0))).set w.2.toNat (minI (cs.getD w.1.toNat 0) (cs.getD w.2.toNat 0))
def putM (cs : List Int) (ws : List (Int × Int)) : List Int := ws.foldl put1 cs
theorem put1_len (cs : List Int) (w : Int × Int) : (put1 cs w).length = cs.length := by unfold put1; rw [List.length_set, List.length_set]
theorem putM_len (ws : List (Int × Int)) : ∀ cs : List Int, (putM cs ws).length = cs.length := by
  unfold putM
  induction ws with
  | nil => intro cs; rfl
  | cons w r ih => intro cs; rw [List.foldl_cons, ih, put1_len]
theorem putM_snoc (cs : List Int) (ws : List (Int × Int)) (w : Int × Int) : putM cs (ws ++ [w]) = put1 (putM cs ws) w := by
  unfold putM
  rw [List.foldl_append]
  rfl
theorem set_self {cs : List Int} {i : Nat} (h : i < cs.length) : cs.set i (cs.getD i 0) = cs := by
  refine ext_getD (by rw [List.length_set]) fun x hx => ?_
  rw [getD_set h]
  by_cases c : x = i
  · rw [if_pos c, c]
  · rw [if_neg c]
theorem put1_swap {cs : List Int} {w : Int × Int} (h : cs.getD w.1.toNat 0 < cs.getD w.2.toNat 0) : put1 cs w = (cs.set w.1.toNat (cs.getD w.2.toNat 0)).set w.2.toNat (cs.getD w.1.toNat 0) := by
  unfold put1 maxI minI
  rw [if_neg (by (first | lia | omega)), if_neg (by (first | lia | omega))]
theorem put1_keep {cs : List Int} {w : Int × Int} (h1 : w.1.toNat < cs.length) (h2 : w.2.toNat < cs.length) (h : ¬ cs.getD w.1.toNat 0 < cs.getD w.2.toNat 0) : put1 cs w = cs := by
  unfold put1 maxI minI
  rw [if_pos (by (first | lia | omega)), set_self h1]
  by_cases c : cs.getD w.2.toNat 0 < cs.getD w.1.toNat 0
  · rw [if_pos c, set_self h2]
  · have e : cs.getD w.1.toNat 0 = cs.getD w.2.toNat 0 := by (first | lia | omega)
    rw [if_neg c, e, set_self h2]
def longM (M : List (List Int)) (ns : List Int) : List (List Int) := M.flatMap fun r => ns.map fun n => r ++ [n]
def rowsM (C : List (List Int)) : List (List Int) := C.foldl longM [[]]
theorem rowsM_snoc (C : List (List Int)) (ns : List Int) : rowsM (C ++ [ns]) = longM (rowsM C) ns := by
  unfold rowsM
  rw [List.foldl_append]
  rfl
theorem longM_len (M : List (List Int)) (ns : List Int) : (longM M ns).length = M.length * ns.length := by
  unfold longM
  induction M with
  | nil => simp
  | cons r q ih => rw [List.flatMap_cons, List.length_append, ih, List.length_map, List.length_cons, Nat.add_mul]; (first | lia | omega)
def RowOf (C : List (List Int)) (r : List Int) : Prop := r.length = C.length ∧ ∀ i, i < C.length → r.getD i 0 ∈ C.getD i []
theorem rowsM_mem (C : List (List Int)) : ∀ r, r ∈ rowsM C ↔ RowOf C r := by
  have key : ∀ (k : Nat) (C : List (List Int)), C.length = k → ∀ r, r ∈ rowsM C ↔ RowOf C r := by
    intro k
    induction k with
    | zero =>
      intro C hC r
      have : C = [] := List.length_eq_zero_iff.mp hC
      subst this
      show r ∈ [[]] ↔ _
      constructor
      · intro h
        have : r = [] := by simpa using h
        subst this
        exact ⟨rfl, fun i hi => absurd hi (by simp)⟩
      · intro h
        have : r = [] := List.length_eq_zero_iff.mp h.1
        simp [this]
    | succ k ih =>
      intro C hC r
      obtain ⟨D, ns, rfl⟩ : ∃ D ns, C = D ++ [ns] := ⟨C.dropLast, C.getLast (by intro z; rw [z] at hC; simp at hC), (List.dropLast_concat_getLast _).symm⟩
      have hD : D.length = k := by simpa using hC
      rw [rowsM_snoc]
      unfold longM
      rw [List.mem_flatMap]
      constructor
      · rintro ⟨q, hq, hr⟩
        obtain ⟨n, hn, rfl⟩ := List.mem_map.mp hr
        obtain ⟨l, g⟩ := (ih D hD q).mp hq
        refine ⟨by simp [l], fun i hi => ?_⟩
        by_cases c : i < D.length
        · rw [show (q ++ [n]).getD i 0 = q.getD i 0 by simp [List.getD, List.getElem?_append_left (show i < q.length by (first | lia | omega))], show (D ++ [ns]).getD i [] = D.getD i [] by simp [List.getD, List.getElem?_append_left c]]
          exact g i c
        · have : i = D.length := by simp at hi; (first | lia | omega)
          subst this
          rw [show (q ++ [n]).getD D.length 0 = n by rw [← l]; simp [List.getD], show (D ++ [ns]).getD D.length [] = ns by simp [List.getD]]
          exact hn
      · rintro ⟨l, g⟩
        have lr : r.length = k + 1 := by rw [l]; simp [hD]
        have ne : r ≠ [] := fun z => by rw [z] at lr; simp at lr
        have e : r = r.dropLast ++ [r.getLast ne] := (List.dropLast_concat_getLast ne).symm
        have ld : r.dropLast.length = k := by rw [List.length_dropLast]; (first | lia | omega)
        refine ⟨r.dropLast, (ih D hD _).mpr ⟨by (first | lia | omega), fun i hi => ?_⟩, List.mem_map.mpr ⟨r.getLast ne, ?_, e.symm⟩⟩
        · have := g i (by simp; (first | lia | omega))
          rw [e, show (r.dropLast ++ [r.getLast ne]).getD i 0 = r.dropLast.getD i 0 by simp only [List.getD]; rw [List.getElem?_append_left (by (first | lia | omega))], show (D ++ [ns]).getD i [] = D.getD i [] by simp [List.getD, List.getElem?_append_left hi]] at this
          exact this
        · have := g D.length (by simp)
          rw [e, show (r.dropLast ++ [r.getLast ne]).getD D.length 0 = r.getLast ne by simp only [List.getD]; rw [hD, ← ld, List.getElem?_append_right (Nat.le_refl _), Nat.sub_self]; rfl, show (D ++ [ns]).getD D.length [] = ns by simp [List.getD]] at this
          exact this
  exact key C.length C rfl
def Bits (n : Nat) (r : List Int) : Prop := r.length = n ∧ ∀ i, i < n → r.getD i 0 = 0 ∨ r.getD i 0 = 1
theorem bits_rows (n : Nat) (r : List Int) : r ∈ rowsM (List.replicate n [0, 1]) ↔ Bits n r := by
  rw [rowsM_mem]
  unfold RowOf Bits
  rw [List.length_replicate]
  refine and_congr_right fun l => ⟨fun h i hi => ?_, fun h i hi => ?_⟩
  · have := h i hi
    rw [show (List.replicate n ([0, 1] : List Int)).getD i [] = [0, 1] by simp [List.getD, hi]] at this
    simpa using this
  · rw [show (List.replicate n ([0, 1] : List Int)).getD i [] = [0, 1] by simp [List.getD, hi]]
    simpa using h i hi
def AllF (n : Nat) (ws : List (Int × Int)) : Prop := ∀ r, Bits n r → Falls (putM r ws)
end Ep
namespace Ep
open PySem L2
inductive SpPutP (vs : List V) (H : Hp) (Q : VK) : Prop
  | mk (v : V) (wide : Int) (ws : List (Int × Int)) (c : Addr) (cs : List Int) (h1 : vs = [v, .ref c]) (h2 : Net H v wide ws) (h3 : WOk wide ws) (h4 : ws.length ≤ 100) (h5 : H c = some (.lst (cs.map V.int))) (h6 : cs.length = wide.toNat) (h7 : ∀ (a : Addr) (H' : Hp), H a = none → Same H H' → H' a = some (.lst ((putM cs ws).map V.int)) → Q (.ref a) H') : SpPutP vs H Q
def spPut : Sp := fun vs H Q _ => SpPutP  vs H Q
inductive SpLongerP (vs : List V) (H : Hp) (Q : VK) : Prop
  | mk (a b : Addr) (rs : List V) (M : List (List Int)) (ns : List Int) (h1 : vs = [.ref a, .ref b]) (h2 : H a = some (.lst rs)) (h3 : Rows H rs M) (h4 : H b = some (.lst (ns.map V.int))) (h5 : M.length * ns.length ≤ 50000) (h6 : ns.length ≤ 50000) (h7 : (∀ r ∈ M, r.length ≤ 50)) (h8 : ∀ (l : Addr) (rs' : List V) (H' : Hp), H l = none → Same H H' → H' l = some (.lst rs') → RowsN H H' l rs' (longM M ns) → Q (.ref l) H') : SpLongerP vs H Q
def spLonger : Sp := fun vs H Q _ => SpLongerP  vs H Q
inductive SpRowsOfP (vs : List V) (H : Hp) (Q : VK) : Prop
  | mk (a : Addr) (cs : List V) (C : List (List Int)) (h1 : vs = [.ref a]) (h2 : H a = some (.lst cs)) (h3 : Rows H cs C) (h4 : C.length ≤ 40) (h5 : (∀ i, i ≤ C.length → (rowsM (C.take i)).length ≤ 50000)) (h6 : (∀ r ∈ C, r.length ≤ 50000)) (h7 : ∀ (l : Addr) (rs' : List V) (H' : Hp), H l = none → Same H H' → H' l = some (.lst rs') → RowsN H H' l rs' (rowsM C) → Q (.ref l) H') : SpRowsOfP vs H Q
def spRowsOf : Sp := fun vs H Q _ => SpRowsOfP  vs H Q
inductive SpOrdersP (vs : List V) (H : Hp) (Q : VK) : Prop
  | mk (v : V) (wide : Int) (ws : List (Int × Int)) (h1 : vs = [v]) (h2 : Net H v wide ws) (h3 : 1 ≤ wide) (h4 : wide ≤ 8) (h5 : WOk wide ws) (h6 : ws.length ≤ 41) (h7 : (∀ (T : Addr) (H' : Hp), H T = none → Same H H' → H' T = some (.tup [.str "orders"]) → AllF wide.toNat ws → Q (.ref T) H')) (h8 : ∀ (T l : Addr) (r : List Int) (H' : Hp), H T = none → H l = none → Same H H' → H' T = some (.tup [.str "not", .ref l]) → H' l = some (.lst (r.map V.int)) → Bits wide.toNat r → ¬ Falls (putM r ws) → Q (.ref T) H') : SpOrdersP vs H Q
def spOrders : Sp := fun vs H Q _ => SpOrdersP  vs H Q
theorem rowsM_bits_len (n : Nat) : (rowsM (List.replicate n [0, 1])).length = 2 ^ n := by
  induction n with
  | zero => rfl
  | succ n ih => rw [List.replicate_succ', rowsM_snoc, longM_len, ih]; rfl
theorem bits_take {n i : Nat} (h : i ≤ n) : (List.replicate n ([0, 1] : List Int)).take i = List.replicate i [0, 1] := by rw [List.take_replicate, Nat.min_eq_left h]
end Ep
namespace Ep
open PySem L2 PySem.SeqAt
end Ep

namespace L2
open PySem PySem.Spec PyProof.Rows
section
variable {X : Cx} {C : Addr} {x m : Str} {k : Nat} {ps : List Str} {sp : Sp} {o e : Expr} {es : List Expr} {ta : TE} {t : TA} {p pos apos : Pos}
end
end L2
namespace Ep
open PySem L2 PySem.SeqAt
inductive Place where
  | before (k : Nat) (l : Int)
  | exit (l : Int)
  | out (l n : Int)
structure PlS where
  fac : List Int
  tal : List Int
  pla : List Place
  chg : List Int
structure PlL where
  dx : Addr
  lf : Addr
  lt : Addr
  lp : Addr
  lc : Addr
end Ep
namespace L2
open PySem PySem.Spec PyProof.Rows
end L2
namespace Ep
open PySem L2 PySem.SeqAt
end Ep
namespace Ep
open PySem L2 PySem.SeqAt
end Ep
namespace Ep
open PySem L2
end Ep
namespace Ep
open PySem L2 PySem.SeqAt
end Ep

namespace Ep
open PySem L2 PySem.SeqAt
structure Sts where
  sa : Addr
  a0 : Addr
  a1 : Addr
  a2 : Addr
def Sts.own (A : Sts) : List Addr := [A.sa, A.a0, A.a1, A.a2]
def z1 (w : Int × Int) (f : Int) : Int := if f = w.1 then 0 else 1
end Ep
namespace Ep
open PySem L2 PySem.SeqAt
theorem Kp.fresh {H H' : Hp} {p : Addr} {o : HO} (f : H p = none) (k : Kp p (upd H p o) H') : Same H H' := fun b x e => k b x (same_new f o b x e) (ne_of_none e f)
theorem Kp.sameOf {G H H' : Hp} {p : Addr} (k : Kp p H H') (s : Same G H) (f : G p = none) : Same G H' := fun b o e => k b o (s b o e) (ne_of_none e f)
end Ep
namespace L2
open PySem
section
variable {X : Cx} (K : PySem.W.Frag) (hK : X.K = K) {tg : Expr}
include hK
end
end L2

namespace Ep
open PySem L2 PySem.SeqAt
def Vf (ws : List (Int × Int)) (e : Int → Int) (P : Nat → Int) : Nat → Int → Int
  | 0, x => e x
  | k + 1, x => if x = (wAt ws k).1 then (P k + 1) / 2 else if x = (wAt ws k).2 then P k / 2 else Vf ws e P k x
def sumC (p : Place → Bool) : List Int → List Place → Int
  | c :: cs, pl :: ps => (if p pl then c else 0) + sumC p cs ps
  | _, _ => 0
def isB (k : Nat) : Place → Bool
  | .before j _ => decide (j = k)
  | _ => false
def isX (l : Int) : Place → Bool
  | .exit x => decide (x = l)
  | _ => false
structure Flow (wide : Int) (ws : List (Int × Int)) (st : PlS) (e : Int → Int) (P : Nat → Int) : Prop where
  fa : ∀ k w, ws[k]? = some w → st.fac.getD k 0 = if P k % 2 = 0 then w.1 else w.2
  pa : ∀ k, k < ws.length → P k = Vf ws e P k (wAt ws k).1 + Vf ws e P k (wAt ws k).2 - sumC (isB k) st.chg st.pla
  ta : ∀ l, 0 ≤ l → l < wide → st.tal.getD l.toNat 0 = Vf ws e P ws.length l - sumC (isX l) st.chg st.pla
-- one more on lane l from level s on, and its place
end Ep
namespace L2
open PySem PySem.Spec PyProof.Rows
end L2
namespace Ep
open PySem L2 PySem.SeqAt
end Ep
namespace Ep
open PySem L2 PySem.SeqAt
section
variable {C : Addr} {H H' : Hp} {p : Addr} {v : V} {wide : Int} {ws : List (Int × Int)} {L : PlL} {A : Sts} {st : PlS} {en : Addr} {cs : List Int}
end
end Ep

namespace L2
open PySem PySem.Spec PyProof.Rows
section
variable {prog : Program} {w : World} {A : Around} {s : Shared}
end
section
variable {X : Cx}
end
end L2

namespace L2
open PySem PySem.Spec PyProof.Rows
variable {X : Cx}
theorem vals_of_ints : ∀ {us : List Value} {ns : List Int}, IntsAre us ns → Vals (ns.map V.int) us
  | _, _, .nil => .nil
  | _, _, .cons n t h => .cons ⟨t, rfl⟩ (vals_of_ints h)
inductive P_call_sortedL (K : PySem.W.Frag) (xs : List V) (H : Hp) (Q : VK) : Prop
  | mk (p : Addr) (ns : List Int) (h1 : xs = [.ref p]) (h2 : SqL K H p (ns.map V.int)) (h3 : ns.length < 64) (h4 : ∀ (l : Addr) (ns' : List Int), H l = none → ns'.Perm ns → ns'.Pairwise (· ≤ ·) → Q (.ref l) (upd H l (.lst (ns'.map V.int)))) : P_call_sortedL K xs H Q
theorem call_sortedL : CallR X (.builtin "sorted") (P_call_sortedL X.K) := by
  intro pins s σ H xs us Q I r h
  obtain ⟨p, ns, rfl, hp, h64, q⟩ := h
  obtain ⟨u, rfl, ru⟩ := r.one
  cases ru
  obtain ⟨its, rv, pl, hz⟩ := I.list hp
  have hl := rv.length
  rw [List.length_map] at hl
  refine sorted_ints pl.isList (intsAre_of rv) (by (first | lia | omega)) fun out ns' a1 a2 a3 => ?_
  obtain ⟨e, he⟩ := sortedAll_at s.heap its out
  have l2 := a2.length_eq
  refine ⟨.ref (s.heap.objs.size + 1), upd H (s.heap.objs.size + 1) (.lst (ns'.map V.int)), I.laid (t' := s.toks) (fun b o e => sortedAll_old e) (Nat.le_succ _) ⟨?_, out.toList, e, vals_of_ints a1, ?_⟩, rfl, q _ ns' (I.hok.fresh (Nat.le_succ _)) a2 a3⟩
  · rw [List.length_map]
    exact Nat.le_of_lt (small1000 (by (first | lia | omega)))
  · rw [Array.toArray_toList]
    exact he
end L2
namespace Ep
open PySem L2 PySem.SeqAt
end Ep
namespace L2
open PySem
end L2

namespace L2
open PySem PySem.Spec PyProof.Rows
variable {X : Cx}
theorem bmK (K : PySem.W.Frag) (hK : X.K = K) {e : Expr} {T : String} {r : V → List V → Hp → VK → Prop} {to : TE} {t : TA} (h : PE X e (tBM X.K T r to t)) : PE X e (tBM K T r to t) := by subst hK; exact h
def rIndex : V → List V → Hp → VK → Prop := fun x vs H Q => ∃ (l : Addr) (ns : List Int) (k : Int), x = .ref l ∧ vs = [.int k] ∧ H l = some (.lst (ns.map V.int)) ∧ k ∈ ns ∧ ns.length ≤ 1000 ∧ Q (.int (ns.idxOf k : Nat)) H
theorem mt_index : MtM X "list.index" rIndex := by
  intro pins s σ H x vs v us Q I rx rv h
  obtain ⟨l, ns, k, rfl, rfl, hH, hk, hn, q⟩ := h
  cases rx
  obtain ⟨u, rfl, ru⟩ := rv.one
  obtain ⟨t, rfl⟩ := ru
  obtain ⟨z, its, n, r, hl, e⟩ := I.lstM hH
  have hi : IntsAre its ns := intsAre_of r
  have hlen := hi.length
  have hj : ns.idxOf k < ns.length := List.idxOf_lt_length_iff.mpr hk
  refine call_meets PySem.F.slot_list_index ⟨_, e, rfl⟩ PySem.F.entry_list_index (PySem.F.args_list_index_2 _ _)
    (SeqAt.list_indexAt l its.toArray n none #[] (.int k t) (isInt k) (ns.idxOf k) (by simpa [hlen] using hj) (by (first | lia | omega)) ?_ ?_) ⟨e, fun y hy => (eq_isInt k t hi y (by simpa using hy)).at _ _, ?_⟩
  · show isInt k its[ns.idxOf k] = true
    rw [isInt_at k hi _ (by (first | lia | omega)) hj]
    simpa using List.getElem_idxOf hj
  · intro j hjs hlt
    show isInt k its[j] = false
    rw [isInt_at k hi j (by simpa using hjs) (by (first | lia | omega))]
    exact ne_of_lt_idxOf hlt _
  · exact ⟨.int _, H, I.tok _, ⟨_, rfl⟩, q⟩
end L2
namespace Ep
open PySem L2 PySem.SeqAt
end Ep

namespace L2
open PySem PySem.Spec PyProof.Rows
end L2
namespace Ep
open PySem L2 PySem.SeqAt
end Ep

namespace Ep
open PySem L2 PySem.SeqAt
def meets (w o : Int × Int) : Bool := (o.1 == w.1 || o.1 == w.2) || (o.2 == w.1 || o.2 == w.2)
def lastW (p : Int × Int → Bool) (l : List (Int × Int)) : Option (Int × Int) := l.foldl (fun acc o => if p o then some o else acc) none
def idle (k : List (Int × Int)) (w : Int × Int) : Prop := lastW (meets w) k = some w
instance (k : List (Int × Int)) (w : Int × Int) : Decidable (idle k w) := by unfold idle; infer_instance
end Ep
namespace Ep
open PySem L2 PySem.SeqAt
end Ep

namespace Ep
open PySem L2 PySem.SeqAt
end Ep
namespace Ep
open PySem L2 PySem.SeqAt
end Ep

namespace Ep
open PySem L2 PySem.SeqAt
end Ep

namespace L2
open PySem PySem.Spec PyProof.Rows
section
variable {P : Program} {w : World} {A : Around} {E : Value → Shared → Prop} {s : Shared}
end
section
variable {X : Cx} {elts : List Expr} {kk : Nat} {ps : Pos}
end
end L2

namespace L2
open PySem PySem.Spec PyProof.Rows
section
variable {P : Program} {w : World} {K : PySem.W.Frag} {mg : Str → Option Value} {base : Heap} {N : List Str} {qual : Str} {scope : Scope} {f : Addr} {cd : Value} {A : Around} {outer : List Env} {s₀ : Shared} {H₀ : Hp} {E : XK}
  {pins : List (Addr × Obj)} {σ : St} {H : Hp} {s : Shared}
end
end L2

namespace L2
open PySem PySem.Spec PyProof.Rows
section
variable {P : Program} {w : World} {K : PySem.W.Frag} {mg : Str → Option Value} {base : Heap} {N : List Str} {qual : Str} {scope : Scope} {f : Addr} {cd : Value} {A : Around} {outer : List Env} {s₀ : Shared} {H₀ : Hp} {E : XK}
end
section
variable {X : Cx} {pins : List (Addr × Obj)} {σ : St} {H H' : Hp} {s s' : Shared} {B h5 : Heap} {ea : Addr} {cls a0 : Value}
end
section
variable {X : Cx}
end
end L2

namespace L2
open PySem PySem.Spec PyProof.Rows PySem.W Builtin Builtin.ObjectAttr Builtin.Getset_descriptor
section
variable {prog : Program} {w : World} {A : Around} {E : Value → Shared → Prop} {K : PySem.W.Frag} {x C : Addr} {s : Shared}
end
end L2

namespace L2
open PySem PySem.Spec PyProof.Rows
section
variable {X : Cx} {pins : List (Addr × Obj)} {σ : St} {H : Hp} {s : Shared}
end
section
variable {X : Cx}
end
end L2

namespace L2
open PySem PySem.Spec PyProof.Rows
variable {X : Cx}
end L2

namespace L2
open PySem PySem.Spec PyProof.Rows
variable {X : Cx}
end L2
namespace Ep
open PySem L2 PySem.SeqAt
end Ep

namespace L2
open PySem PySem.Spec PyProof.Rows
end L2

namespace L2
open PySem PySem.Spec PyProof.Rows PyProof.V PySem.SeqAt
section
variable {X : Cx}
end
end L2
namespace Ep
open PySem L2 PySem.SeqAt PySem.Spec PyProof.Rows
end Ep

namespace L2
open PySem PySem.Spec PyProof.Rows
section
variable {X : Cx} {tg : Expr}
end
end L2

namespace L2
open PySem PySem.Spec PyProof.Rows
def n2 (a b : Int) : Nat := ((b - a + 1) / 2).toNat
section
variable {X : Cx} {tg : Expr}
end
end L2
namespace Ep
open PySem L2 PySem.SeqAt
end Ep
namespace L2
open PySem
end L2
namespace Ep
open PySem L2 PySem.SeqAt
end Ep

namespace L2
open PySem PySem.Spec PyProof.Rows
section
variable {P : Program} {w : World} {A : Around} {E : Value → Shared → Prop}
variable {s : Shared}
end
section
variable {X : Cx} {pos : Pos}
end
end L2

namespace Ep
open PySem L2 PySem.SeqAt
end Ep
namespace Ep
open PySem L2 PySem.SeqAt
end Ep
namespace Ep
open PySem L2 PySem.SeqAt
end Ep
namespace Ep
open PySem L2 PySem.SeqAt
end Ep
namespace Ep
open PySem L2 PySem.SeqAt
end Ep
namespace Ep
open PySem L2 PySem.SeqAt
end Ep
namespace Ep
open PySem L2 PySem.SeqAt
end Ep

namespace L2
open PySem PySem.Spec PyProof.Rows
variable {X : Cx}
theorem sl_listK (K : PySem.W.Frag) (hK : X.K = K) : SlR X (rSlL K) := by subst hK; exact sl_list
end L2
namespace Ep
open PySem L2 PySem.SeqAt
end Ep

namespace L2
open PySem PySem.Spec PyProof.Rows
section
variable {X : Cx}
end
end L2
namespace Ep
open PySem L2 PySem.SeqAt
def pw (k : Nat) : Int := ((2 ^ k : Nat) : Int)
def halved (i : Int) : Prop := i = 1 ∨ i = 2 ∨ i = 4 ∨ i = 8
instance (i : Int) : Decidable (halved i) := inferInstanceAs (Decidable (i = 1 ∨ i = 2 ∨ i = 4 ∨ i = 8))
end Ep

namespace Ep
open PySem L2 PySem.SeqAt
end Ep

namespace Ep
open PySem L2 PySem.SeqAt
end Ep

namespace L2
open PySem PySem.Spec PyProof.Rows
section
variable {X : Cx}
end
end L2
namespace Ep
open PySem L2 PySem.SeqAt
end Ep

namespace L2
open PySem PySem.Spec PyProof.Rows
open AutoSeq1 (wpAny_loadPart')
section
variable {prog : Program} {w : World} {A : Around} {E : Value → Shared → Prop} {s : Shared}
end
section
variable {prog : Program} {w : World} {A : Around} {E : Value → Shared → Prop} {s : Shared}
end
variable {X : Cx}
end L2

namespace L2
open PySem PySem.Spec PyProof.Rows
section
variable {X : Cx} {C : Addr} {m : Str} {k : Nat} {ps : List Str} {sp : Sp} {o e : Expr} {es : List Expr} {ta : TE} {t : TA} {pos apos : Pos}
end
end L2
namespace Ep
open PySem L2 PySem.SeqAt
end Ep

namespace Ep
open PySem L2 PySem.SeqAt
theorem at0 (y : V) (ys : List V) : atI (y :: ys) 0 = some y := by
  unfold atI ixN
  simp
end Ep

namespace L2
open PySem PySem.Spec PyProof.Rows
open AutoSeq1 (wpAny_loadPart')
variable {X : Cx}
def metL (ns : List Int) : List Int := ns.foldl step_dedup []
theorem met_first (ns : List Int) : firstMet (fun i => ns.getD i 0) ns.length = metL ns := by
  unfold firstMet metL
  congr 1
  apply List.ext_getElem?
  intro i
  by_cases h : i < ns.length
  · simp [h, List.getD]
  · simp [h]
theorem boot_setT : bootBuiltins "set" = some (.type "set") := by decide +kernel
end L2

namespace L2
open PySem
def Rise (xs : Array Nat) : Prop := xs.toList.Pairwise (· < ·)
theorem Rise.at {xs : Array Nat} (h : Rise xs) {a b : Nat} {x y : Nat} (ha : xs[a]? = some x) (hb : xs[b]? = some y) (l : a < b) : x < y := by
  unfold Rise at h
  rw [List.pairwise_iff_getElem] at h
  rw [← Array.getElem?_toList] at ha hb
  obtain ⟨h1, rfl⟩ := List.getElem?_eq_some_iff.mp ha
  obtain ⟨h2, rfl⟩ := List.getElem?_eq_some_iff.mp hb
  exact h a b h1 h2 l
theorem below_go {xs : Array Nat} (h : Rise xs) (j : Nat) : ∀ fuel lo hi : Nat, hi - lo ≤ fuel → lo ≤ hi → hi ≤ xs.size → (∀ k x, k < lo → xs[k]? = some x → x < j) → (∀ k x, hi ≤ k → xs[k]? = some x → j ≤ x) →
    SetTable.below.go xs j fuel lo hi ≤ xs.size ∧ (∀ k x, k < SetTable.below.go xs j fuel lo hi → xs[k]? = some x → x < j) ∧ (∀ k x, SetTable.below.go xs j fuel lo hi ≤ k → xs[k]? = some x → j ≤ x)
  | 0, lo, hi, f, l, s, a, b => by
    have e : hi = lo := by (first | lia | omega)
    subst e
    exact ⟨s, a, b⟩
  | fuel + 1, lo, hi, f, l, s, a, b => by
    unfold SetTable.below.go
    by_cases c : lo < hi
    · rw [if_pos c]
      dsimp only
      have hm : (lo + hi) / 2 < xs.size := by (first | lia | omega)
      have e : xs[(lo + hi) / 2]? = some xs[(lo + hi) / 2] := Array.getElem?_eq_getElem hm
      have g : xs.getD ((lo + hi) / 2) j = xs[(lo + hi) / 2] := by simp [hm]
      rw [g]
      split
      · rename_i q
        refine below_go h j fuel _ hi (by (first | lia | omega)) (by (first | lia | omega)) s (fun k x hk hx => ?_) b
        by_cases z : k = (lo + hi) / 2
        · subst z
          rw [e] at hx
          cases hx
          exact q
        · have := h.at hx e (by (first | lia | omega))
          (first | lia | omega)
      · rename_i q
        refine below_go h j fuel lo _ (by (first | lia | omega)) (by (first | lia | omega)) (by (first | lia | omega)) a (fun k x hk hx => ?_)
        by_cases z : k = (lo + hi) / 2
        · subst z
          rw [e] at hx
          cases hx
          (first | lia | omega)
        · have := h.at e hx (by (first | lia | omega))
          (first | lia | omega)
    · rw [if_neg c]
      have e : hi = lo := by (first | lia | omega)
      subst e
      exact ⟨s, a, b⟩
theorem below_at {xs : Array Nat} (h : Rise xs) (j : Nat) : SetTable.below xs j ≤ xs.size ∧ (∀ k x, k < SetTable.below xs j → xs[k]? = some x → x < j) ∧ (∀ k x, SetTable.below xs j ≤ k → xs[k]? = some x → j ≤ x) :=
  below_go h j xs.size 0 xs.size (by (first | lia | omega)) (Nat.zero_le _) (Nat.le_refl _) (fun _ _ z => absurd z (Nat.not_lt_zero _)) (fun k x z q => by
    have : k < xs.size := by
      rw [← Array.getElem?_toList] at q
      have := (List.getElem?_eq_some_iff.mp q).1
      simpa using this
    (first | lia | omega))
theorem below_self {xs : Array Nat} (h : Rise xs) {i j : Nat} (e : xs[i]? = some j) : SetTable.below xs j = i := by
  obtain ⟨_, a, b⟩ := below_at h j
  rcases Nat.lt_trichotomy (SetTable.below xs j) i with l | l | l
  · have hi : i < xs.size := by
      rw [← Array.getElem?_toList] at e
      have := (List.getElem?_eq_some_iff.mp e).1
      simpa using this
    have e2 : xs[SetTable.below xs j]? = some (xs[SetTable.below xs j]'(by (first | lia | omega))) := Array.getElem?_eq_getElem (by (first | lia | omega))
    have := h.at e2 e l
    have := b _ _ (Nat.le_refl _) e2
    (first | lia | omega)
  · exact l
  · have := a _ _ l e
    (first | lia | omega)
theorem below_next {xs : Array Nat} (h : Rise xs) {i j : Nat} (e : xs[i]? = some j) : SetTable.below xs (j + 1) = i + 1 := by
  obtain ⟨c, a, b⟩ := below_at h (j + 1)
  have hi : i < xs.size := by
    rw [← Array.getElem?_toList] at e
    have := (List.getElem?_eq_some_iff.mp e).1
    simpa using this
  rcases Nat.lt_trichotomy (SetTable.below xs (j + 1)) (i + 1) with l | l | l
  · have := b i j (by (first | lia | omega)) e
    (first | lia | omega)
  · exact l
  · have e2 : xs[i + 1]? = some (xs[i + 1]'(by (first | lia | omega))) := Array.getElem?_eq_getElem (by (first | lia | omega))
    have := h.at e e2 (by (first | lia | omega))
    have := a _ _ l e2
    (first | lia | omega)
theorem below_zero {xs : Array Nat} (h : Rise xs) : SetTable.below xs 0 = 0 := by
  obtain ⟨c, a, b⟩ := below_at h 0
  rcases Nat.eq_zero_or_pos (SetTable.below xs 0) with l | l
  · exact l
  · have e2 : xs[0]? = some (xs[0]'(by (first | lia | omega))) := Array.getElem?_eq_getElem (by (first | lia | omega))
    have := a _ _ l e2
    (first | lia | omega)
structure Tb (t : SetTable) : Prop where
  rise : Rise t.place
  nod : t.dummies = #[]
  le : ∀ j ∈ t.place.toList, j ≤ t.mask
theorem slot_of {t : SetTable} (T : Tb t) (j : Nat) : (t.slot j = .empty ∧ j ∉ t.place.toList) ∨ ((∃ i, t.slot j = .live i) ∧ j ∈ t.place.toList) := by
  unfold SetTable.slot
  dsimp only
  by_cases c : t.place[SetTable.below t.place j]? = some j
  · refine .inr ⟨⟨SetTable.below t.place j, by simp [c]⟩, ?_⟩
    rw [← Array.getElem?_toList] at c
    exact List.mem_of_getElem? c
  · refine .inl ⟨?_, fun m => ?_⟩
    · have : SetTable.has t.dummies j = false := by
        rw [T.nod]
        simp [SetTable.has]
      simp [c, this]
    · obtain ⟨i, hi⟩ := List.mem_iff_getElem?.mp m
      rw [Array.getElem?_toList] at hi
      rw [below_self T.rise hi] at c
      exact c hi
theorem put_tb {t : SetTable} (T : Tb t) {j : Nat} (h : j ∉ t.place.toList) (l : j ≤ t.mask) : Tb (t.put j).1 := by
  obtain ⟨c, a, b⟩ := below_at T.rise j
  have hd : SetTable.has t.dummies j = false := by
    rw [T.nod]
    simp [SetTable.has]
  refine ⟨?_, ?_, ?_⟩
  · show Rise (SetTable.insertAt t.place _ j)
    unfold Rise
    rw [SetTable.toList_insertAt, List.pairwise_append]
    have r := T.rise
    unfold Rise at r
    refine ⟨r.sublist (List.take_sublist ..), List.pairwise_cons.mpr ⟨fun y hy => ?_, r.sublist (List.drop_sublist ..)⟩, fun x hx y hy => ?_⟩
    · obtain ⟨k, hk⟩ := List.mem_iff_getElem?.mp hy
      rw [List.getElem?_drop, Array.getElem?_toList] at hk
      have := b _ _ (Nat.le_add_right ..) hk
      have : y ≠ j := fun z => h (by rw [← Array.getElem?_toList] at hk; rw [← z]; exact List.mem_of_getElem? hk)
      (first | lia | omega)
    · have hxj : x < j := by
        obtain ⟨k, hk⟩ := List.mem_iff_getElem?.mp hx
        rw [List.getElem?_take] at hk
        split at hk
        · rename_i z
          rw [Array.getElem?_toList] at hk
          exact a _ _ z hk
        · cases hk
      rcases List.mem_cons.mp hy with rfl | hy
      · exact hxj
      · obtain ⟨k, hk⟩ := List.mem_iff_getElem?.mp hy
        rw [List.getElem?_drop, Array.getElem?_toList] at hk
        have := b _ _ (Nat.le_add_right ..) hk
        (first | lia | omega)
  · show (if SetTable.has t.dummies j then _ else t.dummies) = #[]
    rw [hd]
    simpa using T.nod
  · intro y hy
    show y ≤ t.mask
    have : y ∈ (SetTable.insertAt t.place (SetTable.below t.place j) j).toList := hy
    rw [SetTable.toList_insertAt] at this
    rcases List.mem_append.mp this with m | m
    · exact T.le y (List.mem_of_mem_take m)
    · rcases List.mem_cons.mp m with rfl | m
      · exact l
      · exact T.le y (List.mem_of_mem_drop m)
def leapN (mask : Nat) : Nat → Nat × Nat → Nat × Nat
  | 0, p => p
  | n + 1, p => leapN mask n (SetTable.leap mask p.1 p.2)
theorem leapN_add (mask : Nat) : ∀ (n m : Nat) (p : Nat × Nat), leapN mask (n + m) p = leapN mask m (leapN mask n p)
  | 0, m, p => by rw [Nat.zero_add]; rfl
  | n + 1, m, p => by
    rw [show n + 1 + m = (n + m) + 1 by (first | lia | omega)]
    exact leapN_add mask n m _
theorem leapN_snd (mask : Nat) : ∀ (n : Nat) (p : Nat × Nat), (leapN mask n p).2 = p.2 / 32 ^ n
  | 0, p => by simp [leapN]
  | n + 1, p => by
    show (leapN mask n _).2 = _
    rw [leapN_snd mask n]
    show p.2 / 32 / 32 ^ n = _
    rw [Nat.div_div_eq_div_mul, Nat.pow_succ, Nat.mul_comm]
theorem leapN_le (mask : Nat) (n : Nat) (p : Nat × Nat) (h : p.1 ≤ mask) : (leapN mask n p).1 ≤ mask := by
  induction n generalizing p with
  | zero => exact h
  | succ n ih =>
    refine ih _ ?_
    show (p.1 * 5 + 1 + p.2 / 32) % (mask + 1) ≤ mask
    have := Nat.mod_lt (p.1 * 5 + 1 + p.2 / 32) (show 0 < mask + 1 by (first | lia | omega))
    (first | lia | omega)
theorem cover7 : ∀ i ≤ 7, ∀ r ≤ 7, ∃ m < 8, (leapN 7 m (i, 0)).1 = r := by decide +kernel
theorem cover31 : ∀ i ≤ 31, ∀ r ≤ 31, ∃ m < 32, (leapN 31 m (i, 0)).1 = r := by decide +kernel
theorem bits_lt (h : Int) : SetTable.bits h < 2 ^ 64 := by
  unfold SetTable.bits
  (first | lia | omega)
theorem cover {mask : Nat} (hm : mask = 7 ∨ mask = 31) {i q : Nat} (hi : i ≤ mask) (hq : q < 2 ^ 64) {r : Nat} (hr : r ≤ mask) : ∃ m < mask + 15, (leapN mask m (i, q)).1 = r := by
  have z : (leapN mask 13 (i, q)).2 = 0 := by
    rw [leapN_snd]
    show q / 32 ^ 13 = 0
    have : q < 32 ^ 13 := Nat.lt_of_lt_of_le hq (by decide)
    exact Nat.div_eq_of_lt this
  have l := leapN_le mask 13 (i, q) hi
  have e : leapN mask 13 (i, q) = ((leapN mask 13 (i, q)).1, 0) := by rw [← z]
  rcases hm with rfl | rfl
  · obtain ⟨m, h1, h2⟩ := cover7 _ l r hr
    refine ⟨13 + m, by (first | lia | omega), ?_⟩
    rw [leapN_add, e]
    exact h2
  · obtain ⟨m, h1, h2⟩ := cover31 _ l r hr
    refine ⟨13 + m, by (first | lia | omega), ?_⟩
    rw [leapN_add, e]
    exact h2
theorem len_of_cover : ∀ (n : Nat) (l : List Nat), (∀ r < n, r ∈ l) → n ≤ l.length
  | 0, _, _ => Nat.zero_le _
  | n + 1, l, h => by
    have m := h n (Nat.lt_succ_self n)
    have := len_of_cover n (l.erase n) fun r hr => (List.mem_erase_of_ne (by (first | lia | omega))).mpr (h r (by (first | lia | omega)))
    rw [List.length_erase_of_mem m] at this
    have : 0 < l.length := List.length_pos_of_mem m
    (first | lia | omega)
section
variable {t : SetTable} {h : Int}
theorem go_none (T : Tb t) : ∀ (fuel : Nat) (p : SetTable.Probe), SetTable.probe.go t (fun _ => h + 1) h (fuel + 1) p = none → p.j ∈ t.place.toList ∧ SetTable.probe.go t (fun _ => h + 1) h fuel (t.advance p) = none
  | fuel, p, e => by
    unfold SetTable.probe.go at e
    rcases slot_of T p.j with ⟨a, b⟩ | ⟨⟨i, a⟩, b⟩
    · rw [a] at e
      cases e
    · rw [a] at e
      simp only [show (h + 1 == h) = false by simp; (first | lia | omega), Bool.false_eq_true, if_false] at e
      exact ⟨b, e⟩
theorem go_live (T : Tb t) (fuel : Nat) (p : SetTable.Probe) (m : p.j ∈ t.place.toList) : SetTable.probe.go t (fun _ => h + 1) h (fuel + 1) p = SetTable.probe.go t (fun _ => h + 1) h fuel (t.advance p) := by
  rw [SetTable.probe.go]
  rcases slot_of T p.j with ⟨a, b⟩ | ⟨⟨i, a⟩, b⟩
  · exact absurd m b
  · rw [a]
    simp only [show (h + 1 == h) = false by simp; (first | lia | omega), Bool.false_eq_true, if_false]
theorem go_less (T : Tb t) : ∀ (fuel : Nat) (p : SetTable.Probe), SetTable.probe.go t (fun _ => h + 1) h (fuel + 1) p = none → SetTable.probe.go t (fun _ => h + 1) h fuel p = none
  | 0, p, e => rfl
  | fuel + 1, p, e => by
    obtain ⟨a, b⟩ := go_none T _ p e
    rw [go_live T fuel p a]
    exact go_less T fuel _ b
theorem go_lessN (T : Tb t) (fuel : Nat) (p : SetTable.Probe) : ∀ k : Nat, SetTable.probe.go t (fun _ => h + 1) h (fuel + k) p = none → SetTable.probe.go t (fun _ => h + 1) h fuel p = none
  | 0, e => e
  | k + 1, e => go_lessN T fuel p k (go_less T _ p e)
theorem runEnd_at {mask i : Nat} (h : i ≤ mask) : i ≤ SetTable.runEnd mask i ∧ SetTable.runEnd mask i ≤ mask ∧ SetTable.runEnd mask i ≤ i + 9 := by
  unfold SetTable.runEnd
  split <;> (first | lia | omega)
def stP (mask : Nat) (d : Option Nat) (i q : Nat) : SetTable.Probe := { j := i, more := SetTable.runEnd mask i - i, i := i, perturb := q, dummy := d }
theorem run_none (T : Tb t) (d : Option Nat) (i q fuel : Nat) : ∀ (r j : Nat), SetTable.probe.go t (fun _ => h + 1) h (fuel + r + 1) { j := j, more := r, i := i, perturb := q, dummy := d } = none →
    j ∈ t.place.toList ∧ SetTable.probe.go t (fun _ => h + 1) h fuel (stP t.mask d (SetTable.leap t.mask i q).1 (SetTable.leap t.mask i q).2) = none
  | 0, j, e => by
    obtain ⟨a, b⟩ := go_none T _ _ e
    exact ⟨a, by simpa [SetTable.advance, stP] using b⟩
  | r + 1, j, e => by
    obtain ⟨a, b⟩ := go_none T _ _ e
    refine ⟨a, (run_none T d i q fuel r (j + 1) ?_).2⟩
    simpa [SetTable.advance, Nat.add_assoc] using b
theorem leaps_none (T : Tb t) (d : Option Nat) : ∀ (n i q : Nat), i ≤ t.mask → SetTable.probe.go t (fun _ => h + 1) h (10 * n) (stP t.mask d i q) = none → ∀ m < n, (leapN t.mask m (i, q)).1 ∈ t.place.toList
  | 0, _, _, _, _, _, z => absurd z (Nat.not_lt_zero _)
  | n + 1, i, q, hi, e, m, hm => by
    have R := runEnd_at hi
    obtain ⟨a, b⟩ := run_none (h := h) T d i q (10 * n + (9 - (SetTable.runEnd t.mask i - i))) (SetTable.runEnd t.mask i - i) i (by
      rw [show 10 * n + (9 - (SetTable.runEnd t.mask i - i)) + (SetTable.runEnd t.mask i - i) + 1 = 10 * (n + 1) by (first | lia | omega)]
      exact e)
    cases m with
    | zero => exact a
    | succ m =>
      refine leaps_none T d n _ _ ?_ (go_lessN T _ _ _ b) m (by (first | lia | omega))
      exact leapN_le t.mask 1 (i, q) hi
theorem probe_found (T : Tb t) (hm : t.mask = 7 ∨ t.mask = 31) (hs : t.place.size ≤ t.mask) : t.probe (fun _ => h + 1) h (t.probeStart h) ≠ none := by
  intro e
  have hi : SetTable.bits h % (t.mask + 1) ≤ t.mask := by
    have := Nat.mod_lt (SetTable.bits h) (show 0 < t.mask + 1 by (first | lia | omega))
    (first | lia | omega)
  have L := leaps_none (h := h) T none (t.mask + 15) _ (SetTable.bits h) hi e
  have := len_of_cover (t.mask + 1) t.place.toList fun r hr => by
    obtain ⟨m, h1, h2⟩ := cover hm hi (bits_lt h) (show r ≤ t.mask by (first | lia | omega))
    rw [← h2]
    exact L m h1
  rw [Array.length_toList] at this
  (first | lia | omega)
def Pb (t : SetTable) (p : SetTable.Probe) : Prop := p.j + p.more ≤ t.mask ∧ p.dummy = none
theorem Pb.next {p : SetTable.Probe} (q : Pb t p) : Pb t (t.advance p) := by
  unfold SetTable.advance
  obtain ⟨a, b⟩ := q
  split
  · exact ⟨by dsimp only; (first | lia | omega), b⟩
  · refine ⟨?_, b⟩
    have l := leapN_le t.mask 1 (t.mask, p.perturb) (Nat.le_refl _)
    have l2 : (SetTable.leap t.mask p.i p.perturb).1 ≤ t.mask := by
      show (p.i * 5 + 1 + p.perturb / 32) % (t.mask + 1) ≤ t.mask
      have := Nat.mod_lt (p.i * 5 + 1 + p.perturb / 32) (show 0 < t.mask + 1 by (first | lia | omega))
      (first | lia | omega)
    have R := runEnd_at l2
    dsimp only
    (first | lia | omega)
theorem go_some (T : Tb t) : ∀ (fuel : Nat) (p : SetTable.Probe) (m : SetTable.Met), Pb t p → SetTable.probe.go t (fun _ => h + 1) h fuel p = some m → ∃ j, m = .empty j none ∧ j ∉ t.place.toList ∧ j ≤ t.mask
  | 0, _, _, _, e => by cases e
  | fuel + 1, p, m, q, e => by
    rcases slot_of T p.j with ⟨a, b⟩ | ⟨_, b⟩
    · rw [SetTable.probe.go, a] at e
      cases e
      obtain ⟨q1, q2⟩ := q
      exact ⟨p.j, by rw [q2], b, by (first | lia | omega)⟩
    · rw [go_live T _ _ b] at e
      exact go_some T fuel _ m q.next e
theorem free_found (T : Tb t) (hm : t.mask = 7 ∨ t.mask = 31) (hs : t.place.size ≤ t.mask) : ∃ j, t.freeSlot h = some (j, false) ∧ j ∉ t.place.toList ∧ j ≤ t.mask := by
  have f := probe_found (h := h) T hm hs
  unfold SetTable.freeSlot
  cases e : t.probe (fun _ => h + 1) h (t.probeStart h) with
  | none => exact absurd e f
  | some m =>
    have hi : SetTable.bits h % (t.mask + 1) ≤ t.mask := by
      have := Nat.mod_lt (SetTable.bits h) (show 0 < t.mask + 1 by (first | lia | omega))
      (first | lia | omega)
    have R := runEnd_at hi
    obtain ⟨j, rfl, a, b⟩ := go_some T _ _ m (show Pb t (t.probeStart h) from ⟨by show SetTable.bits h % (t.mask + 1) + (SetTable.runEnd t.mask (SetTable.bits h % (t.mask + 1)) - SetTable.bits h % (t.mask + 1)) ≤ t.mask; (first | lia | omega), rfl⟩) e
    exact ⟨j, rfl, a, b⟩
theorem lay_new (T : Tb t) (hm : t.mask = 7 ∨ t.mask = 31) {es : Array (Int × Value)} (he : t.place.size = es.size) (hs : es.size < t.mask) (x : Value) :
    ∃ es' t', layNew t es h x = (es', t', false, false) ∧ Tb t' ∧ t'.mask = t.mask ∧ t'.plain = t.plain ∧ t'.led = t.led ∧ t'.place.size = es'.size ∧ es'.size = es.size + 1 := by
  obtain ⟨j, e, a, b⟩ := free_found (h := h) T hm (by (first | lia | omega))
  have T' := put_tb T a b
  have z1 : (t.put j).1.place.size = es.size + 1 := by
    show (SetTable.insertAt t.place _ j).size = _
    rw [← Array.length_toList, SetTable.toList_insertAt]
    have := (below_at T.rise j).1
    simp
    (first | lia | omega)
  have z2 : (SetTable.insertAt es (t.put j).2 (h, x)).size = es.size + 1 := by
    rw [← Array.length_toList, SetTable.toList_insertAt]
    have : (t.put j).2 ≤ es.size := by rw [← he]; exact (below_at T.rise j).1
    simp
    (first | lia | omega)
  have fit : (t.put j).1.fits (SetTable.insertAt es (t.put j).2 (h, x)).size = true := by
    unfold SetTable.fits SetTable.fill
    rw [T'.nod, z1, z2]
    show ((es.size + 1 == es.size + 1) && decide (es.size + 1 + 0 ≤ t.mask)) = true
    simp
    (first | lia | omega)
  refine ⟨SetTable.insertAt es (t.put j).2 (h, x), (t.put j).1, ?_, T', rfl, rfl, rfl, by rw [z1, z2], z2⟩
  unfold layNew
  rw [e]
  dsimp only
  rw [SetTable.orStandIn, if_pos fit, fit]
  rfl
end
theorem perm_of_same {α : Type} [BEq α] [LawfulBEq α] : ∀ {l l' : List α}, l.Nodup → l'.Nodup → (∀ a, a ∈ l ↔ a ∈ l') → l.Perm l'
  | [], l', _, _, h => by
    cases l' with
    | nil => exact .nil
    | cons a l' => exact absurd ((h a).mpr List.mem_cons_self) (List.not_mem_nil)
  | a :: l, l', n, n', h => by
    have m : a ∈ l' := (h a).mp List.mem_cons_self
    obtain ⟨na, nl⟩ := List.nodup_cons.mp n
    refine ((perm_of_same nl (n'.erase a) fun b => ?_).cons a).trans (List.perm_cons_erase m).symm
    rw [n'.mem_erase_iff]
    constructor
    · intro hb
      exact ⟨fun z => na (by rw [← z]; exact hb), (h b).mp (List.mem_cons_of_mem _ hb)⟩
    · rintro ⟨z, hb⟩
      rcases List.mem_cons.mp ((h b).mpr hb) with q | q
      · exact absurd q z
      · exact q
structure Ow (mask : Nat) (owner : Array (Option Nat)) (js : List Nat) : Prop where
  size : owner.size = mask + 1
  nd : js.Nodup
  iff : ∀ j i : Nat, owner[j]? = some (some i) ↔ js[i]? = some j
theorem free_none {mask : Nat} {owner : Array (Option Nat)} : ∀ (fuel i q : Nat), i ≤ mask → SetTable.layClean.free mask owner fuel i q = none → ∀ m < fuel, (owner.getD (leapN mask m (i, q)).1 (some 0)).isSome = true
  | 0, _, _, _, _, _, z => absurd z (Nat.not_lt_zero _)
  | fuel + 1, i, q, hi, e, m, hm => by
    unfold SetTable.layClean.free at e
    split at e
    · cases e
    · rename_i f
      cases m with
      | zero =>
        have R := runEnd_at hi
        have := List.find?_eq_none.mp f 0 (List.mem_range.mpr (by (first | lia | omega)))
        show (owner.getD i (some 0)).isSome = true
        rw [← Option.not_isNone, Bool.not_eq_true']
        rw [Nat.add_zero] at this
        exact Bool.eq_false_iff.mpr this
      | succ m => exact free_none fuel _ _ (leapN_le mask 1 (i, q) hi) e m (by (first | lia | omega))
theorem free_some {mask : Nat} {owner : Array (Option Nat)} : ∀ (fuel i q j : Nat), SetTable.layClean.free mask owner fuel i q = some j → (owner.getD j (some 0)).isNone = true
  | 0, _, _, _, e => by cases e
  | fuel + 1, i, q, j, e => by
    unfold SetTable.layClean.free at e
    split at e
    · rename_i f
      cases e
      exact (List.find?_some (p := fun k => (owner.getD (i + k) (some 0)).isNone) f)
    · exact free_some fuel _ _ j e
theorem Ow.put {mask : Nat} {owner : Array (Option Nat)} {js : List Nat} (O : Ow mask owner js) {j : Nat} (h : (owner.getD j (some 0)).isNone = true) : Ow mask (owner.setIfInBounds j (some js.length)) (js ++ [j]) := by
  have hj : j < owner.size := by
    rcases Nat.lt_or_ge j owner.size with l | l
    · exact l
    · simp [Array.getD, Nat.not_lt.mpr l] at h
  have e : owner[j]? = some none := by
    rw [Array.getElem?_eq_getElem hj]
    simp [Array.getD, hj] at h
    rw [h]
  have nj : j ∉ js := fun m => by
    obtain ⟨i, hi⟩ := List.mem_iff_getElem?.mp m
    have := (O.iff j i).mpr hi
    rw [e] at this
    cases this
  refine ⟨by rw [Array.size_setIfInBounds]; exact O.size, ?_, fun j' i => ?_⟩
  · rw [List.nodup_append]
    exact ⟨O.nd, by simp, fun a ha b hb => by rw [List.mem_singleton.mp hb]; exact fun z => nj (by rw [← z]; exact ha)⟩
  · rw [Array.getElem?_setIfInBounds]
    by_cases c : j = j'
    · subst c
      rw [if_pos rfl, if_pos hj]
      constructor
      · intro z
        cases z
        simp
      · intro z
        rcases Nat.lt_trichotomy i js.length with l | l | l
        · rw [List.getElem?_append_left l] at z
          exact absurd (List.mem_of_getElem? z) nj
        · rw [l]
        · rw [List.getElem?_eq_none (by simp; (first | lia | omega))] at z
          cases z
    · rw [if_neg c, O.iff]
      rcases Nat.lt_trichotomy i js.length with l | l | l
      · rw [List.getElem?_append_left l]
      · subst l
        simp [c]
      · rw [List.getElem?_eq_none (show js.length ≤ i by (first | lia | omega)), List.getElem?_eq_none (show (js ++ [j]).length ≤ i by rw [List.length_append, List.length_singleton]; (first | lia | omega))]
theorem Ow.free {mask : Nat} (hm : mask = 7 ∨ mask = 31) {owner : Array (Option Nat)} {js : List Nat} (O : Ow mask owner js) (hl : js.length ≤ mask) (h : Int) : ∃ j, SetTable.layClean.free mask owner (SetTable.turns mask) (SetTable.bits h % (mask + 1)) (SetTable.bits h) = some j := by
  cases e : SetTable.layClean.free mask owner (SetTable.turns mask) (SetTable.bits h % (mask + 1)) (SetTable.bits h) with
  | some j => exact ⟨j, rfl⟩
  | none =>
    exfalso
    have hi : SetTable.bits h % (mask + 1) ≤ mask := by
      have := Nat.mod_lt (SetTable.bits h) (show 0 < mask + 1 by (first | lia | omega))
      (first | lia | omega)
    have L := free_none _ _ _ hi e
    have := len_of_cover (mask + 1) js fun r hr => by
      obtain ⟨m, h1, h2⟩ := cover hm hi (bits_lt h) (show r ≤ mask by (first | lia | omega))
      have := L m h1
      rw [h2] at this
      have hr' : r < owner.size := by rw [O.size]; exact hr
      simp only [Array.getD, hr', dif_pos] at this
      obtain ⟨i, z⟩ := Option.isSome_iff_exists.mp this
      exact List.mem_of_getElem? ((O.iff r i).mp (by rw [Array.getElem?_eq_getElem hr']; exact congrArg some z))
    (first | lia | omega)
theorem lay_fold {mask : Nat} (hm : mask = 7 ∨ mask = 31) : ∀ (hs : List Int) (owner : Array (Option Nat)) (js : List Nat), Ow mask owner js → js.length + hs.length ≤ mask + 1 →
    ∃ owner' js', hs.foldl (fun acc h => do
      let (owner, k) ← acc
      let j ← SetTable.layClean.free mask owner (SetTable.turns mask) (SetTable.bits h % (mask + 1)) (SetTable.bits h)
      pure (owner.setIfInBounds j (some k), k + 1)) (some (owner, js.length)) = some (owner', js'.length) ∧ Ow mask owner' js' ∧ js'.length = js.length + hs.length
  | [], owner, js, O, _ => ⟨owner, js, rfl, O, rfl⟩
  | h :: hs, owner, js, O, l => by
    obtain ⟨j, e⟩ := O.free hm (by simp at l; (first | lia | omega)) h
    have O' := O.put (free_some _ _ _ _ e)
    obtain ⟨owner', js', a, b, c⟩ := lay_fold hm hs _ _ O' (by simp at l ⊢; (first | lia | omega))
    refine ⟨owner', js', ?_, b, by simp at c ⊢; (first | lia | omega)⟩
    rw [← a, List.foldl_cons]
    congr 1
    simp [e]
theorem lay_clean {mask : Nat} (hm : mask = 7 ∨ mask = 31) (hs : Array Int) (l : hs.size ≤ mask + 1) : ∃ owner js, SetTable.layClean mask hs = some owner ∧ Ow mask owner js ∧ js.length = hs.size := by
  have O : Ow mask (Array.replicate (mask + 1) none) [] := ⟨by simp, List.nodup_nil, fun j i => by
    rw [Array.getElem?_replicate]
    split <;> simp⟩
  obtain ⟨owner', js', a, b, c⟩ := lay_fold hm hs.toList _ _ O (by simpa using l)
  refine ⟨owner', js', ?_, b, by simpa using c⟩
  unfold SetTable.layClean
  rw [← Array.foldl_toList]
  rw [show (hs.toList.foldl _ (some (Array.replicate (mask + 1) none, 0))) = _ from a]
  rfl
theorem laid_ok {mask : Nat} (hm : mask = 7 ∨ mask = 31) (f mv : Nat) (led plain : Bool) (hs : Array Int) (l : hs.size ≤ mask) :
    ∃ t order, SetTable.laid mask f mv led plain hs = some (t, order) ∧ Tb t ∧ t.mask = mask ∧ t.plain = plain ∧ t.led = led ∧ t.place.size = hs.size ∧ order.toList.Perm (List.range hs.size) := by
  obtain ⟨owner, js, e, O, c⟩ := lay_clean hm hs (by (first | lia | omega))
  have at' : ∀ j, j < mask + 1 → ∀ i, (owner.getD j none = some i ↔ js[i]? = some j) := fun j hj i => by
    have hj' : j < owner.size := by rw [O.size]; exact hj
    rw [← O.iff, Array.getElem?_eq_getElem hj']
    simp [Array.getD, hj']
  have lt : ∀ {i j}, js[i]? = some j → j < mask + 1 := fun {i j} h => by
    have := (O.iff j i).mpr h
    rw [← Array.getElem?_toList] at this
    have := (List.getElem?_eq_some_iff.mp this).1
    rw [Array.length_toList, O.size] at this
    exact this
  generalize hL : (List.range (mask + 1)).filterMap (fun j => (owner.getD j none).map (j, ·)) = live
  have mem : ∀ p : Nat × Nat, p ∈ live ↔ p.1 < mask + 1 ∧ js[p.2]? = some p.1 := fun p => by
    rw [← hL, List.mem_filterMap]
    constructor
    · rintro ⟨j, hj, z⟩
      have hj := List.mem_range.mp hj
      cases q : owner.getD j none with
      | none => rw [q] at z; cases z
      | some i =>
        rw [q] at z
        cases z
        exact ⟨hj, (at' j hj i).mp q⟩
    · rintro ⟨hj, q⟩
      exact ⟨p.1, List.mem_range.mpr hj, by rw [(at' _ hj _).mpr q]; rfl⟩
  have pw : live.Pairwise (fun a b => a.1 < b.1) := by
    rw [← hL]
    refine List.Pairwise.filterMap _ (fun a a' haa b hb b' hb' => ?_) (List.pairwise_lt_range (n := mask + 1))
    rw [Option.map_eq_some_iff] at hb hb'
    obtain ⟨_, _, rfl⟩ := hb
    obtain ⟨_, _, rfl⟩ := hb'
    exact haa
  have p2 : (live.map (·.2)).Perm (List.range hs.size) := by
    refine perm_of_same ?_ List.nodup_range fun i => ?_
    · unfold List.Nodup
      rw [List.pairwise_map]
      refine List.Pairwise.imp_of_mem ?_ pw
      intro a b ha hb hab z
      have h1 := ((mem a).mp ha).2
      have h2 := ((mem b).mp hb).2
      rw [z, h2] at h1
      have := Option.some.inj h1
      (first | lia | omega)
    · rw [List.mem_map, List.mem_range, ← c]
      constructor
      · rintro ⟨p, hp, rfl⟩
        exact (List.getElem?_eq_some_iff.mp ((mem p).mp hp).2).1
      · intro hi
        have q : js[i]? = some js[i] := List.getElem?_eq_getElem hi
        exact ⟨(js[i], i), (mem _).mpr ⟨lt q, q⟩, rfl⟩
  have len : live.length = hs.size := by
    have := p2.length_eq
    simpa using this
  refine ⟨{ mask, place := (live.map (·.1)).toArray, dummies := #[], finger := f, led, moves := mv, plain }, (live.map (·.2)).toArray, ?_, ⟨?_, rfl, ?_⟩, rfl, rfl, rfl, by simpa using len, by simpa using p2⟩
  · unfold SetTable.laid
    rw [e]
    dsimp only [Option.bind_eq_bind, Option.bind]
    rw [hL]
    rfl
  · show (live.map (·.1)).toArray.toList.Pairwise (· < ·)
    rw [List.pairwise_map]
    exact pw
  · intro j hj
    have hj : j ∈ live.map (·.1) := hj
    obtain ⟨p, hp, rfl⟩ := List.mem_map.mp hj
    have := ((mem p).mp hp).1
    show p.1 ≤ mask
    (first | lia | omega)
theorem relay5 {t : SetTable} {es : Array (Int × Value)} (h : es.size = 5) :
    ∃ es' t', relayAll t es (SetTable.grown es.size) = (es', t', false) ∧ Tb t' ∧ t'.mask = 31 ∧ t'.plain = t.plain ∧ t'.led = t.led ∧ t'.place.size = es'.size ∧ es'.size = 5 := by
  have e32 : SetTable.sizeAbove (SetTable.grown es.size) - 1 = 31 := by rw [h]; decide
  obtain ⟨t', order, e, T, m, p, l, z, pm⟩ := laid_ok (mask := 31) (.inr rfl) t.finger (t.movedTo 31) t.led t.plain (es.map (·.1)) (by rw [Array.size_map, h]; decide)
  rw [Array.size_map] at z pm
  have er : t.relaid (es.map (·.1)) (SetTable.grown es.size) = some (t', order) := by
    unfold SetTable.relaid
    rw [e32]
    exact e
  have len : (order.filterMap (es[·]?)).size = es.size := by
    rw [← Array.length_toList, Array.toList_filterMap, (pm.filterMap _).length_eq, filterMap_getElem?_range, Array.length_toList]
  have cov : coversAll order es.size = true := List.isPerm_iff.mpr pm
  have fit : t'.fits (order.filterMap (es[·]?)).size = true := by
    unfold SetTable.fits SetTable.fill
    rw [len, z, T.nod, m, h]
    decide
  refine ⟨order.filterMap (es[·]?), t', ?_, T, m, p, l, by rw [len, z], by rw [len, h]⟩
  unfold relayAll
  rw [er]
  dsimp only
  rw [cov, fit]
  rfl
end L2

namespace L2
open PySem PySem.Spec PyProof.Rows
def byTx (w : World) : Bool := w.params.followText "set-order"
def keyE (e : Int × Value) : Int := match e.2 with | .int k _ => k | _ => 0
def IntE (e : Int × Value) : Prop := ∃ k u, e = (hashInt k, Value.int k u)
theorem IntE.val {e : Int × Value} (h : IntE e) : ∃ u, e.2 = .int (keyE e) u := by
  obtain ⟨k, u, rfl⟩ := h
  exact ⟨u, rfl⟩
structure SetO (w : World) (o : Obj) (ks : List Int) : Prop where
  ex : ∃ (es : Array (Int × Value)) (ep : Nat) (t : SetTable), o = { cls := .type "set", dict := none, data := .set es ep t } ∧ Tb t ∧ t.place.size = es.size ∧ ((t.mask = 7 ∧ es.size ≤ 4) ∨ (t.mask = 31 ∧ es.size ≤ 18)) ∧ t.plain = true ∧ t.led = !(byTx w) ∧
    (∀ e ∈ es.toList, IntE e) ∧ (es.toList.map keyE).Perm ks
section
variable {prog : Program} {w : World} {A : Around} {E : Value → Shared → Prop} {s : Shared}
theorem elems_int {es : List (Int × Value)} (h : ∀ e ∈ es, IntE e) : ElemsOf (intKind prog w) es := fun e he => by
  obtain ⟨k, u, rfl⟩ := h e he
  exact ⟨⟨k, intKind_is .., rfl⟩, rfl⟩
theorem fits_of {t : SetTable} {n : Nat} (T : Tb t) (z : t.place.size = n) (h : (t.mask = 7 ∧ n ≤ 4) ∨ (t.mask = 31 ∧ n ≤ 18)) : t.fits n = true := by
  unfold SetTable.fits SetTable.fill
  rw [T.nod, z]
  simp
  (first | lia | omega)
theorem full_of {t : SetTable} {n : Nat} (T : Tb t) (z : t.place.size = n) : t.tooFull = decide (n * 5 ≥ t.mask * 3) := by
  unfold SetTable.tooFull SetTable.fill
  rw [T.nod, z]
  rfl
theorem putSet_at {h : Heap} {a : Addr} {es es' : Array (Int × Value)} {ep : Nat} {t t' : SetTable} (ho : h.get? a = some { cls := .type "set", dict := none, data := .set es ep t }) :
    (h.update a (Obj.putSet es' t')).get? a = some { cls := .type "set", dict := none, data := .set es' (ep + 1) t' } := by
  have := Heap.get?_update_self (Obj.putSet es' t') ho (by rfl)
  exact this
theorem add_int {a : Addr} {o : Obj} {ks : List Int} {k : Int} {u : Tok} {Q : Bool → Shared → Prop} (ho : s.heap.get? a = some o) (S : SetO w o ks) (hl : ks.length ≤ 17)
    (h : ∀ (h' : Heap) (o' : Obj) (b : Bool), Heap.SameBut a s.heap h' → h'.get? a = some o' → SetO w o' (step_dedup ks k) → Q b { s with heap := h' }) :
    wpAny (model prog w) A (setAddHashed a (.int k u) (hashInt k)) Q E s := by
  obtain ⟨es, ep, t, rfl, T, z, hm, pl, ld, hi, pm⟩ := S.ex
  have hn : es.size = ks.length := by
    have := pm.length_eq
    simpa using this
  have hf := fits_of T z hm
  have hel := elems_int (prog := prog) (w := w) hi
  have hb : es.size < scanBound := by unfold scanBound; (first | lia | omega)
  have mem : ks.any (· == k) = true ↔ ∃ e ∈ es.toList, (intKind prog w).is k e.2 = true := by
    rw [List.any_eq_true]
    constructor
    · rintro ⟨x, hx, q⟩
      have q := eq_of_beq q
      subst q
      obtain ⟨e, he, q⟩ := List.mem_map.mp (pm.mem_iff.mpr hx)
      obtain ⟨v, hv⟩ := (hi e he).val
      exact ⟨e, he, by rw [hv, q]; exact intKind_is ..⟩
    · rintro ⟨e, he, q⟩
      refine ⟨k, pm.mem_iff.mp (List.mem_map.mpr ⟨e, he, ?_⟩), by simp⟩
      obtain ⟨v, hv⟩ := (hi e he).val
      rw [hv] at q
      exact (intKind prog w).inj _ _ _ (intKind_is ..) q
  unfold setAddHashed setAddHashedIn
  refine wpAny_holding (wpAny_bind (wpAny_setState_of ho rfl hf ?_))
  dsimp only
  rw [byScan_of (knd := intKind prog w) rfl hb hel]
  simp only [↓reduceIte]
  unfold setAddByScan
  refine wpAny_bind ?_
  refine wpAny_bind (wpAny_rule ?_)
  refine wpAny_bind (wpAny_setScan_of (knd := intKind prog w) (k := k) (intKind_is ..) ho rfl hf hel ?_)
  cases hr : List.findIdx? (fun e => (intKind prog w).is k e.2) es.toList with
  | some j =>
    dsimp only
    obtain ⟨hj, hpj, _⟩ := List.findIdx?_eq_some_iff_getElem.mp hr
    refine wpAny_pure (wpAny_pure ?_)
    have e : step_dedup ks k = ks := by
      unfold step_dedup
      rw [if_pos (mem.mpr ⟨_, List.getElem_mem hj, hpj⟩)]
    exact h s.heap _ _ (Heap.SameBut.refl a s.heap) ho (by rw [e]; exact S)
  | none =>
    dsimp only
    have e : step_dedup ks k = ks ++ [k] := by
      unfold step_dedup
      rw [if_neg]
      intro q
      obtain ⟨e, he, hp⟩ := mem.mp q
      have := List.findIdx?_eq_none_iff.mp hr e he
      rw [hp] at this
      cases this
    have lp := layNew_perm t es (hashInt k) (.int k u)
    obtain ⟨es1, t1, eL, T1, m1, p1, l1, z1, n1⟩ := lay_new (h := hashInt k) T (by (first | lia | omega)) z (by (first | lia | omega)) (Value.int k u)
    rw [eL] at lp ⊢
    dsimp only at lp ⊢
    rw [Array.toList_push] at lp
    have hi1 : ∀ e ∈ es1.toList, IntE e := fun e he => by
      rcases List.mem_append.mp (lp.mem_iff.mp he) with q | q
      · exact hi e q
      · rw [List.mem_singleton.mp q]
        exact ⟨k, u, rfl⟩
    have pm1 : (es1.toList.map keyE).Perm (ks ++ [k]) := (lp.map keyE).trans (by rw [List.map_append]; exact pm.append_right _)
    refine wpAny_bind (show wpAny _ _ (pure ()) _ _ _ from wpAny_pure ?_)
    rw [p1, pl]
    simp only [↓reduceIte]
    refine wpAny_bind (show wpAny _ _ (pure true) _ _ _ from wpAny_pure ?_)
    simp only [↓reduceIte]
    refine wpAny_bind (wpAny_storeSet_of ho rfl ?_ (fits_of_scanBound (by unfold scanBound; (first | lia | omega))))
    have ho1 := putSet_at (es' := es1) (t' := t1) ho
    have sb1 := Heap.SameBut.update s.heap a (Obj.putSet es1 t1)
    rw [full_of T1 z1, n1]
    by_cases c : (es.size + 1) * 5 ≥ t1.mask * 3
    · rw [decide_eq_true c]
      simp only [Bool.not_false, Bool.and_self, ↓reduceIte]
      have h5 : es1.size = 5 := by (first | lia | omega)
      obtain ⟨es2, t2, eR, T2, m2, p2, l2, z2, n2⟩ := relay5 (t := t1) h5
      have rp := relayAll_perm t1 es1 (SetTable.grown es1.size)
      rw [eR] at rp
      rw [← n1, eR]
      dsimp only at rp ⊢
      refine wpAny_bind (show wpAny _ _ (pure ()) _ _ _ from wpAny_pure ?_)
      refine wpAny_bind (wpAny_storeSet_of ho1 rfl ?_ (fits_of_scanBound (by unfold scanBound; (first | lia | omega))))
      refine wpAny_pure (wpAny_pure ?_)
      refine h _ _ _ (sb1.trans (Heap.SameBut.update _ a _)) (putSet_at ho1) ?_
      rw [e]
      exact ⟨_, _, _, rfl, T2, z2, .inr ⟨m2, by (first | lia | omega)⟩, by rw [p2, p1, pl], by rw [l2, l1, ld], fun e he => hi1 e (rp.mem_iff.mp he), (rp.map keyE).trans pm1⟩
    · rw [decide_eq_false c]
      simp only [Bool.and_false, Bool.false_eq_true, ↓reduceIte]
      refine wpAny_pure (wpAny_pure ?_)
      refine h _ _ _ sb1 ho1 ?_
      rw [e]
      exact ⟨_, _, _, rfl, T1, z1, by (first | lia | omega), by rw [p1, pl], by rw [l1, ld], hi1, pm1⟩
theorem set_fresh (w : World) : SetO w { cls := .type "set", dict := none, data := .set #[] 0 (.fresh 0 0 (!(byTx w))) } [] :=
  ⟨#[], 0, _, rfl, ⟨by simp [Rise, SetTable.fresh], rfl, by simp [SetTable.fresh]⟩, rfl, .inl ⟨rfl, by simp⟩, rfl, rfl, by simp, .nil⟩
theorem new_led (a : Value) {Q₁ : Value → Shared → Prop}
    (h : Q₁ (.ref s.heap.objs.size) { s with heap := s.heap.push { cls := .type "set", dict := none, data := .set #[] 0 (.fresh 0 0 (!(byTx w))) } }) :
    codeAny (model prog w) A (.call (.builtin "set.__new__") ⟨[.type "set", a], []⟩) (wants Q₁ E) s := by
  refine codeAny_of_tree ?_
  show wpAny _ A.in1 (checkBuiltinCall "set.__new__" ⟨[.type "set", a], []⟩ >>= fun _ => again (.builtin "set.__new__" ⟨[.type "set", a], []⟩)) _ _ s
  refine wpAny_bind (wpAny_of_eq (F.newCall_set_1 a) (wpAny_pure ⟨plainId_quiet F.plain_set_new _, codeAny_builtin F.entry_set_new ?_⟩))
  rw [Around.under_plainId F.plain_set_new _]
  unfold Builtin.«set.__new__» Builtin.Frozenset.newClass
  have hsub := sub_set_self
  obtain ⟨hp, g, d, tk, os⟩ := s
  dsimp only
  wp_walk
  refine wpAny_askSetting (wpAny_pure ?_)
  simp only [newObj]
  refine wpAny_bind (wpAny_alloc (wpAny_pure ?_))
  exact wpAny_pure h
end
section
variable {prog : Program} {w : World} {A : Around} {R : Result → Shared → Prop} {I : Addr} {fp wr : List Addr} {G : Array GenState → Array GenState → Prop} {n : Nat} {P : Nat → Value → Prop} {St : Nat → Shared → Prop}
theorem fill_loop (W : WalksS prog w A.in1 I fp wr G n P St) (S : Addr) (hSf : S ∉ fp) (val : Nat → Int) (hval : ∀ i v, P i v → ∃ t, v = .int (val i) t) (hb : n ≤ 18) :
    ∀ (k i : Nat) (s : Shared) (o : Obj), n - i = k → i ≤ n → St i s → s.heap.get? S = some o → SetO w o (firstMet val i) →
      (∀ s' o', Moved (S :: wr) G s s' → s'.heap.get? S = some o' → SetO w o' (firstMet val n) → R (.ok (.ret .none)) s') →
      codeAny (model prog w) A (.builtin "set.update.loop" ⟨[.ref S, .ref I], []⟩) R s := by
  have hSw : S ∉ wr := fun h => hSf (W.sub _ h)
  have hsub : ∀ b ∈ wr, b ∈ S :: wr := fun b hb => List.mem_cons_of_mem _ hb
  intro k
  induction k with
  | zero =>
    intro i s o hk hi hst ho hS hR
    have hin : i = n := by (first | lia | omega)
    subst hin
    refine codeAny_builtin F.entry_set_update_loop ?_
    rw [Around.under_plainId F.plain_set_update_loop _]
    show wpAny _ A.in1 (pyNext (.ref I) >>= _) _ _ s
    refine wpAny_bind (W.done s _ _ hst fun s' hm => ?_)
    exact wpAny_pure (hR s' o (hm.mono hsub) (hm.heap S _ hSw ho) hS)
  | succ k ih =>
    intro i s o hk hi hst ho hS hR
    have hlt : i < n := by (first | lia | omega)
    refine codeAny_builtin F.entry_set_update_loop ?_
    rw [Around.under_plainId F.plain_set_update_loop _]
    show wpAny _ A.in1 (pyNext (.ref I) >>= _) _ _ s
    refine wpAny_bind (W.item i s _ _ hlt hst fun v s' hP hst' hm => ?_)
    obtain ⟨t, rfl⟩ := hval i v hP
    show wpAny _ A.in1 (holding [Value.int (val i) t] (setAdd S (.int (val i) t)) >>= _) _ _ s'
    refine wpAny_bind (wpAny_holding ?_)
    unfold setAdd
    refine wpAny_holding (wpAny_bind ((intKind prog w).pyHash (k := val i) (intKind_is ..) ?_))
    have hroom : (firstMet val i).length ≤ 17 := by
      have := firstMet_length_le val i
      (first | lia | omega)
    refine add_int (s := { s' with toks := s'.toks + 1 }) (hm.heap S _ hSw ho) hS hroom fun h' o' b hsb ho' hS' => ?_
    rw [← firstMet_succ] at hS'
    refine wpAny_pure ⟨plainId_quiet F.plain_set_update_loop _, ih (i + 1) _ o' (by (first | lia | omega)) hlt (W.frame _ s' _ _ hst' (Nat.le_succ _) fun b hb o e => ?_) ho' hS' fun s'' o'' hm'' ho'' hS'' => ?_⟩
    · rw [hsb.2 b (fun h : b = S => hSf (by rw [← h]; exact hb))]; exact e
    · refine hR s'' o'' (Moved.trans W.gtrans ((hm.mono hsub).then_heap (Nat.le_succ _) fun b o hb e => ?_) hm'') ho'' hS''
      rw [hsb.2 b (fun h : b = S => hb (by rw [h]; exact List.mem_cons_self))]; exact e
end
end L2

namespace L2
open PySem PySem.Spec PyProof.Rows
section
variable {prog : Program} {w : World} {A : Around} {E : Value → Shared → Prop} {s : Shared}
theorem call_setF {l : Addr} {items : Array Value} {ns : List Int} {Q : Value → Shared → Prop} (hh : A.handled = none) (hl : s.heap.IsList l items) (hi : IntsAre items.toList ns) (hb : items.size ≤ 18)
    (h : ∀ (h' : Heap) (tk : Nat) (o : Obj), h'.get? s.heap.objs.size = some o → SetO w o (firstMet (fun i => ns.getD i 0) items.size) →
      (∀ b o, s.heap.get? b = some o → h'.get? b = some o) → Q (.ref s.heap.objs.size) { s with heap := h', toks := tk }) :
    wpAny (model prog w) A (call (.type "set") [.ref l]) Q E s := by
  obtain ⟨c, tl, hmro⟩ := F.called_set.mro
  have hmade := F.called_set.made
  have hsub := F.called_set.sub
  refine wpAny_call (codeAny_of_tree ?_)
  show wpAny _ _ (callAny (.type "set") _) _ _ _
  refine wpAny_pure ⟨Code.quiet_builtin _ (by decide +kernel), codeAny_builtin F.entry_type_call ?_⟩
  rw [Around.under_plain (weight_type_call_type "set" [.ref l] []) rfl]
  have h1 := F.called_set.notType
  have h2 := F.called_set.canCreate
  have hct := F.typeCall_set_1 (.ref l)
  repeat (any_goals (first | assumption | wp_step))
  generalize hO : ({ cls := .type "set", dict := none, data := .set #[] 0 (.fresh 0 0 (!(byTx w))) } : Obj) = O
  have hSO : SetO w O [] := by rw [← hO]; exact set_fresh w
  have hOc : O.cls = .type "set" := by rw [← hO]
  have hOf : O.isFreed = false := by rw [← hO]; rfl
  refine codeAny_mono (new_led (.ref l) (E := E) (Q₁ := fun obj s₁ => obj = .ref s.heap.objs.size ∧ s₁ = { s with heap := s.heap.push O }) ⟨rfl, by rw [← hO]⟩) fun r s₁ hr => ?_
  match r, hr with
  | .error e, hr => exact hr
  | .ok (.ret obj), ⟨e1, e2⟩ =>
    subst e1 e2
    have hS : (s.heap.push O).get? s.heap.objs.size = some O := Heap.get?_push_size _ hOf
    have hT : Shared.TypeIs { s with heap := s.heap.push O } (.ref s.heap.objs.size) "set" := ⟨_, hS, hOc⟩
    have hli := F.called_set.init.lookup
    have hbi := F.called_set.init.bind (.ref s.heap.objs.size)
    repeat (any_goals (first | assumption | wp_step))
    refine codeAny_mono (codeAny_call_builtin (R := wants (fun r s₂ => r = .none ∧ ∃ h' tk o, s₂ = { s with heap := h', toks := tk } ∧ h'.get? s.heap.objs.size = some o ∧ SetO w o (firstMet (fun i => ns.getD i 0) items.size) ∧
        (∀ b o, s.heap.get? b = some o → h'.get? b = some o)) E) F.called_set.init.plain F.entry_set_init (check_set_init_1 hT ?_)) fun r₂ s₂ hr₂ => ?_
    · obtain ⟨ol, hol, hcl, nl, hdl⟩ := hl
      obtain ⟨ocls, odict, odata, oslots⟩ := ol
      simp only at hcl hdl
      subst hcl; subst hdl
      have hol' : (s.heap.push O).get? l = some { cls := .type "list", dict := odict, data := .seq items nl, slots := oslots } := Heap.get?_push_of_some _ hol
      have hsls := F.sub_list_set
      have hslf := F.sub_list_frozenset
      have hne : (Value.type "list" == Value.type "dict") = false := by decide
      have hl1 : (s.heap.push O).IsList l items := ⟨_, hol', rfl, nl, rfl⟩
      subst hO
      unfold Builtin.«set.__init__» noKeywords Builtin.Frozenset.updateFrom
      generalize hPI : pyIter = PI
      wp_walk
      subst hPI
      refine wpAny_pyIter_list hl1 ?_
      refine wpAny_bind (wpAny_runValue ?_)
      have hlS : l < s.heap.objs.size := Heap.lt_size hol
      generalize ({ cls := .type "set", dict := none, data := .set #[] 0 (.fresh 0 0 (!(byTx w))) } : Obj) = O at *
      have hneI : l ≠ (s.heap.push O).objs.size := by
        rw [Heap.size_push]
        exact Nat.ne_of_lt (Nat.lt_succ_of_lt hlS)
      have hSf : s.heap.objs.size ∉ [(s.heap.push O).objs.size, l] := by
        rw [Heap.size_push]
        simp only [List.mem_cons, List.not_mem_nil, or_false, not_or]
        exact ⟨Nat.ne_of_lt (Nat.lt_succ_self _), Nat.ne_of_gt hlS⟩
      refine fill_loop ((Walks.list (by simp [hh]) _ l hneI items).toS) s.heap.objs.size hSf (fun i => ns.getD i 0) (fun i v hv => IntsAre.int_at hi i v (by rw [Array.getElem?_toList]; exact hv)) hb (items.size - 0) 0 _ O (by (first | lia | omega)) (Nat.zero_le _)
        ⟨⟨_, Heap.get?_push_size _ rfl, rfl, rfl⟩, hl1.push _⟩ (Heap.get?_push_of_some _ hS) hSO fun s' o' hm ho' hS' => ?_
      obtain ⟨h', g', d', tk', os'⟩ := s'
      have eg : g' = s.gens := hm.gens
      have ed : d' = s.drawn := hm.drawn
      have eo : os' = s.os := hm.os
      subst eg; subst ed; subst eo
      show wpAny _ _ _ _ _ _
      refine wpAny_pure ?_
      show wpAny _ _ (ret Value.none) _ _ _
      refine wpAny_pure ⟨rfl, h', tk', o', rfl, ho', hS', fun b o e => hm.heap b o ?_ (Heap.get?_push_of_some _ (Heap.get?_push_of_some _ e))⟩
      have lb := Heap.lt_size e
      rw [Heap.size_push]
      simp only [List.mem_cons, List.not_mem_nil, or_false, not_or]
      exact ⟨Nat.ne_of_lt lb, Nat.ne_of_lt (Nat.lt_succ_of_lt lb)⟩
    · match r₂, hr₂ with
      | .error e, hr => exact hr
      | .ok (.ret r), ⟨e1, h', tk, o, e2, a, b, c⟩ =>
        subst e1 e2
        repeat (any_goals (first | assumption | wp_step))
        exact h _ _ _ a b c
end
end L2

namespace L2
open PySem PySem.Spec PyProof.Rows
theorem sit_slot : Slot "set_iterator" "__next__" "set_iterator.__next__" :=
  .of (owner := "set_iterator") (n := "__next__") (by rw [typeLookup_type, builtinLookup_eq_fast]; kernel_rfl) (by decide +kernel) (by decide +kernel) (by decide +kernel)
    (by first | exact .inl (by decide +kernel) | exact .inr (by decide +kernel)) (by rw [isSubtype_type]; kernel_rfl)
theorem sit_entry : entryFor table "set_iterator.__next__" = some Builtin.«set_iterator.__next__» := entryFor_of_tree (by kernel_rfl)
theorem sit_owner : Manifest.owners.lookup (String.ofList ['r', 'o', 't', 'a', 'r', 'e', 't', 'i', '_', 't', 'e', 's'].reverse) = some Manifest.sig_set_iterator := by kernel_rfl
theorem sit_args (a : Value) : argsOk "set_iterator.__next__" ⟨[a], []⟩ := by
  unfold argsOk; rw [signature?_of (id := "set_iterator.__next__") (n := ['_', '_', 't', 'x', 'e', 'n', '_', '_']) (o := ['r', 'o', 't', 'a', 'r', 'e', 't', 'i', '_', 't', 'e', 's']) (by kernel_rfl) sit_owner]; kernel_rfl
theorem set_iter_entry : entryFor table "set.__iter__" = some Builtin.«frozenset.__iter__» :=
  entryFor_alias (id' := "frozenset.__iter__") (by kernel_rfl) rfl (by decide +kernel) (by kernel_rfl)
theorem sit_self_slot : Slot "set_iterator" "__iter__" "set_iterator.__iter__" :=
  .of (owner := "set_iterator") (n := "__iter__") (by rw [typeLookup_type, builtinLookup_eq_fast]; kernel_rfl) (by decide +kernel) (by decide +kernel) (by decide +kernel)
    (by first | exact .inl (by decide +kernel) | exact .inr (by decide +kernel)) (by rw [isSubtype_type]; kernel_rfl)
theorem pick_perm {α : Type} (next : Nat → Nat) : ∀ (fuel k : Nat) (left : List α) (out : Array α), left.length = fuel → (pickOrder.go next fuel k left out).toList.Perm (out.toList ++ left)
  | 0, k, left, out, e => by
    have : left = [] := List.length_eq_zero_iff.mp e
    subst this
    rw [List.append_nil]
    exact .rfl
  | fuel + 1, k, left, out, e => by
    unfold pickOrder.go
    have hl : next k % left.length < left.length := Nat.mod_lt _ (by (first | lia | omega))
    rw [List.getElem?_eq_getElem hl]
    dsimp only
    refine (pick_perm next fuel (k + 1) _ _ (by rw [List.length_eraseIdx_of_lt hl]; (first | lia | omega))).trans ?_
    rw [Array.toList_push, List.append_assoc]
    refine .append_left _ ?_
    rw [List.eraseIdx_eq_take_drop_succ]
    refine (List.perm_middle (a := left[next k % left.length]) (l₁ := left.take (next k % left.length)) (l₂ := left.drop (next k % left.length + 1))).symm.trans ?_
    rw [List.getElem_cons_drop hl, List.take_append_drop]
def ordS (w : World) (a : Addr) (es : Array (Int × Value)) (ep : Nat) : Array (Int × Value) := if byTx w then pickOrder (w.params.setOrder a ep) es else es
theorem ord_perm (w : World) (a : Addr) (es : Array (Int × Value)) (ep : Nat) : (ordS w a es ep).toList.Perm es.toList := by
  unfold ordS
  split
  · have := pick_perm (w.params.setOrder a ep) es.size 0 es.toList #[] (by simp)
    simpa [pickOrder] using this
  · exact .rfl
section
variable {prog : Program} {w : World} {A : Around} {E : Value → Shared → Prop} {s : Shared}
structure SetS (w : World) (es : Array (Int × Value)) (t : SetTable) : Prop where
  tb : Tb t
  size : t.place.size = es.size
  mask : (t.mask = 7 ∧ es.size ≤ 4) ∨ (t.mask = 31 ∧ es.size ≤ 18)
  plain : t.plain = true
  led : t.led = !(byTx w)
def setO (es : Array (Int × Value)) (ep : Nat) (t : SetTable) : Obj := { cls := .type "set", dict := none, data := .set es ep t }
def sitO (a : Addr) (slot i n ep : Nat) : Obj := { cls := .type "set_iterator", data := .fields #[.int slot 0, .int i 0, .ref a, .int n 0, .int ep 0] }
def slotAt (w : World) (t : SetTable) (i : Nat) : Nat := if byTx w then 0 else match i with | 0 => 0 | i + 1 => t.place.getD i 0 + 1
theorem below_slot {es : Array (Int × Value)} {t : SetTable} (S : SetS w es t) (hb : byTx w = false) {i : Nat} (hi : i ≤ es.size) : SetTable.below t.place (slotAt w t i) = i := by
  unfold slotAt
  rw [hb]
  simp only [Bool.false_eq_true, if_false]
  cases i with
  | zero => exact below_zero S.tb.rise
  | succ i =>
    dsimp only
    have hi' : i < t.place.size := by rw [S.size]; (first | lia | omega)
    have e : t.place[i]? = some t.place[i] := Array.getElem?_eq_getElem hi'
    have g : t.place.getD i 0 = t.place[i] := by simp [Array.getD, hi']
    rw [g]
    exact below_next S.tb.rise e
theorem setNext_at {a : Addr} {es : Array (Int × Value)} {ep i : Nat} {t : SetTable} {Q : Option (Value × Nat) → Shared → Prop} (ho : s.heap.get? a = some (setO es ep t)) (S : SetS w es t) (hi : i < es.size)
    (h : ∀ v, ((ordS w a es ep).toList.map (·.2))[i]? = some v → Q (some (v, slotAt w t (i + 1))) s) : wpAny (model prog w) A (setNext a (slotAt w t i) i ep) Q E s := by
  have hf := fits_of S.tb S.size S.mask
  have len : (ordS w a es ep).size = es.size := by
    have := (ord_perm w a es ep).length_eq
    simpa using this
  have eo : (ordS w a es ep)[i]? = some ((ordS w a es ep)[i]'(by (first | lia | omega))) := Array.getElem?_eq_getElem (by (first | lia | omega))
  have hv : ((ordS w a es ep).toList.map (·.2))[i]? = some ((ordS w a es ep)[i]'(by (first | lia | omega))).2 := by
    rw [List.getElem?_map, Array.getElem?_toList, eo]
    rfl
  have hq := h _ hv
  unfold setNext
  refine wpAny_bind (wpAny_setState_of ho rfl hf ?_)
  dsimp only
  unfold setsByText
  refine wpAny_bind (wpAny_bind (wpAny_askSetting (wpAny_pure ?_)))
  show wpAny _ _ (if byTx w = true then _ else _) _ _ _
  cases hb : byTx w with
  | true =>
    simp only [↓reduceIte]
    rw [if_neg (by simp)]
    unfold setWalk
    refine wpAny_bind (wpAny_bind (wpAny_setState_of ho rfl hf ?_))
    dsimp only
    unfold setsByText
    refine wpAny_bind (wpAny_bind (wpAny_askSetting (wpAny_pure ?_)))
    show wpAny _ _ (if byTx w = true then _ else _) _ _ _
    rw [hb]
    simp only [↓reduceIte]
    refine wpAny_bind (wpAny_askSetting (wpAny_pure (wpAny_pure ?_)))
    have e : ordS w a es ep = pickOrder (w.params.setOrder a ep) es := by
      unfold ordS
      rw [hb]
      rfl
    have sl : ∀ j, slotAt w t j = 0 := fun j => by
      unfold slotAt
      rw [hb]
      rfl
    simp only [sl] at hq ⊢
    simp only [e] at hq eo
    rw [show (pickOrder (Params.setOrder (model prog w).w.params a ep) es) = pickOrder (w.params.setOrder a ep) es from rfl, eo]
    exact hq
  | false =>
    simp only [Bool.false_eq_true, if_false]
    rw [if_neg (by show ¬ ((!t.plain && decide (es.size > 1)) = true); rw [S.plain]; simp)]
    refine wpAny_bind ?_
    show wpAny _ _ (if (!t.led && !es.isEmpty) = true then _ else _) _ _ _
    rw [if_neg (by rw [S.led, hb]; simp)]
    refine wpAny_pure ?_
    rw [below_slot S hb (by (first | lia | omega))]
    have e : ordS w a es ep = es := by
      unfold ordS
      rw [hb]
      rfl
    simp only [e] at hq eo
    have hp : i < t.place.size := by rw [S.size]; exact hi
    have ep' : t.place[i]? = some t.place[i] := Array.getElem?_eq_getElem hp
    have sl : slotAt w t (i + 1) = t.place[i] + 1 := by
      unfold slotAt
      rw [hb]
      simp [Array.getD, hp]
    rw [sl] at hq
    rw [eo, ep']
    exact wpAny_pure hq
theorem setNext_end {a : Addr} {es : Array (Int × Value)} {ep : Nat} {t : SetTable} {Q : Option (Value × Nat) → Shared → Prop} (ho : s.heap.get? a = some (setO es ep t)) (S : SetS w es t)
    (h : Q none s) : wpAny (model prog w) A (setNext a (slotAt w t es.size) es.size ep) Q E s := by
  have hf := fits_of S.tb S.size S.mask
  have len : (ordS w a es ep).size = es.size := by
    have := (ord_perm w a es ep).length_eq
    simpa using this
  unfold setNext
  refine wpAny_bind (wpAny_setState_of ho rfl hf ?_)
  dsimp only
  unfold setsByText
  refine wpAny_bind (wpAny_bind (wpAny_askSetting (wpAny_pure ?_)))
  show wpAny _ _ (if byTx w = true then _ else _) _ _ _
  cases hb : byTx w with
  | true =>
    simp only [↓reduceIte]
    rw [if_neg (by simp)]
    unfold setWalk
    refine wpAny_bind (wpAny_bind (wpAny_setState_of ho rfl hf ?_))
    dsimp only
    unfold setsByText
    refine wpAny_bind (wpAny_bind (wpAny_askSetting (wpAny_pure ?_)))
    show wpAny _ _ (if byTx w = true then _ else _) _ _ _
    rw [hb]
    simp only [↓reduceIte]
    refine wpAny_bind (wpAny_askSetting (wpAny_pure (wpAny_pure ?_)))
    have e : ordS w a es ep = pickOrder (w.params.setOrder a ep) es := by
      unfold ordS
      rw [hb]
      rfl
    rw [e] at len
    rw [show (pickOrder (Params.setOrder (model prog w).w.params a ep) es) = pickOrder (w.params.setOrder a ep) es from rfl, Array.getElem?_eq_none (by (first | lia | omega))]
    exact h
  | false =>
    simp only [Bool.false_eq_true, if_false]
    rw [if_neg (by show ¬ ((!t.plain && decide (es.size > 1)) = true); rw [S.plain]; simp)]
    refine wpAny_bind ?_
    show wpAny _ _ (if (!t.led && !es.isEmpty) = true then _ else _) _ _ _
    rw [if_neg (by rw [S.led, hb]; simp)]
    refine wpAny_pure ?_
    rw [below_slot S hb (Nat.le_refl _), Array.getElem?_eq_none (Nat.le_refl _)]
    exact wpAny_pure h
theorem entries_at {a : Addr} {es : Array (Int × Value)} {ep : Nat} {t : SetTable} {Q : Array (Int × Value) → Shared → Prop} (ho : s.heap.get? a = some (setO es ep t)) (S : SetS w es t) (h : Q es s) : wpAny (model prog w) A (setEntries a) Q E s := by
  unfold setEntries
  exact wpAny_bind (wpAny_setState_of ho rfl (fits_of S.tb S.size S.mask) (wpAny_pure h))
theorem next_item {I a : Addr} {es : Array (Int × Value)} {ep i : Nat} {t : SetTable} {Q : Option Value → Shared → Prop} (ho : s.heap.get? a = some (setO es ep t)) (S : SetS w es t) (hI : s.heap.get? I = some (sitO a (slotAt w t i) i es.size ep)) (hi : i < es.size)
    (h : ∀ v h', ((ordS w a es ep).toList.map (·.2))[i]? = some v → h'.get? I = some (sitO a (slotAt w t (i + 1)) (i + 1) es.size ep) → Heap.SameBut I s.heap h' → Q (some v) { s with heap := h' }) :
    wpAny (model prog w) A (pyNext (.ref I)) Q E s := by
  have hT : s.TypeIs (.ref I) "set_iterator" := ⟨_, hI, rfl⟩
  unfold pyNext
  refine wpAny_bind (wpAny_attempt (wpAny_callSpecial?_slot (name := Str.ofString "__next__") hT sit_slot (wpAny_call_entry sit_slot hT sit_entry ?_ (sit_args _))))
  refine wpAny_bind (wpAny_pure ?_)
  refine wpAny_bind (wpAny_fieldsOf hI rfl ?_)
  dsimp only
  refine wpAny_bind (entries_at ho S ?_)
  rw [if_neg (by simp)]
  refine wpAny_bind (setNext_at ho S hi fun v hv => ?_)
  dsimp only
  refine wpAny_bind (wpAny_setField hI rfl (by simp) ?_)
  have h1 := Heap.get?_update_self (Obj.mapFields (·.setIfInBounds 0 (rawInt (slotAt w t (i + 1))))) hI rfl
  refine wpAny_bind (wpAny_setField h1 rfl (by simp) ?_)
  have h2 := Heap.get?_update_self (Obj.mapFields (·.setIfInBounds 1 (rawInt ((i : Int) + 1)))) h1 rfl
  refine wpAny_pure ⟨_, rfl, wpAny_pure (h v _ hv ?_ ((Heap.SameBut.update ..).trans (Heap.SameBut.update ..)))⟩
  exact h2
end
end L2

namespace L2
open PySem PySem.Spec PyProof.Rows
section
variable {prog : Program} {w : World} {A : Around} {E : Value → Shared → Prop} {s : Shared}
theorem next_end {I a : Addr} {es : Array (Int × Value)} {ep : Nat} {t : SetTable} {Q : Option Value → Shared → Prop} (hh : A.handled = none) (ho : s.heap.get? a = some (setO es ep t)) (S : SetS w es t) (hI : s.heap.get? I = some (sitO a (slotAt w t es.size) es.size es.size ep))
    (hQ : ∀ h', Heap.ExtBut I s.heap h' → Q none { s with heap := h' }) :
    wpAny (model prog w) A (pyNext (.ref I)) Q E s := by
  have hT : s.TypeIs (.ref I) "set_iterator" := ⟨_, hI, rfl⟩
  unfold pyNext
  refine wpAny_bind (wpAny_attempt (wpAny_callSpecial?_slot (name := Str.ofString "__next__") hT sit_slot (wpAny_call_entry sit_slot hT sit_entry ?_ (sit_args _))))
  refine wpAny_bind (wpAny_pure ?_)
  refine wpAny_bind (wpAny_fieldsOf hI rfl ?_)
  dsimp only
  refine wpAny_bind (entries_at ho S ?_)
  rw [if_neg (by simp)]
  refine wpAny_bind (setNext_end ho S ?_)
  dsimp only
  refine wpAny_bind (wpAny_setField hI rfl (by simp) ?_)
  refine wpAny_bind ?_
  simp only [newExc, newTuple]
  refine wpAny_bind (wpAny_newObj_type ?_ (by size_fits))
  refine wpAny_bind (m := firstArgMember _ _) (wpAny_of_eq (a := Value.none) (by first | rfl | (simp only [firstArgMember]; rfl)) ?_)
  refine wpAny_newObj_type ?_ (by size_fits)
  simp only [raiseNew]
  refine wpAny_bind (wpAny_handled ?_)
  rw [show A.in1.handled = none from hh]
  refine wpAny_bind (wpAny_pure (wpAny_throw ?_))
  refine wpAny_bind (wpAny_isInstance (T := "StopIteration") (b := true) ⟨_, Heap.get?_push_size _ rfl, rfl⟩ isSubtype_stop ?_)
  exact wpAny_pure (hQ _ (((Heap.SameBut.update ..).extBut.push _).push _))
theorem sit_self_entry : entryFor table "set_iterator.__iter__" = some Builtin.«dict_keyiterator.__iter__» :=
  entryFor_alias (id' := "dict_keyiterator.__iter__") (by kernel_rfl) rfl (by decide +kernel) (by kernel_rfl)
theorem sit_self_args (a : Value) : argsOk "set_iterator.__iter__" ⟨[a], []⟩ := by
  unfold argsOk; rw [signature?_of (id := "set_iterator.__iter__") (n := ['_', '_', 'r', 'e', 't', 'i', '_', '_']) (o := ['r', 'o', 't', 'a', 'r', 'e', 't', 'i', '_', 't', 'e', 's']) (by kernel_rfl) sit_owner]; kernel_rfl
theorem sit_self {I : Addr} {o : Obj} {Q : Value → Shared → Prop} (hI : s.heap.get? I = some o) (hc : o.cls = .type "set_iterator") (h : Q (.ref I) s) : wpAny (model prog w) A (pyIter (.ref I)) Q E s := by
  have hT : s.TypeIs (.ref I) "set_iterator" := ⟨_, hI, hc⟩
  refine wpAny_pyIter_slot hT sit_self_slot (wpAny_call_entry sit_self_slot hT sit_self_entry ?_ (sit_self_args _))
  show wpAny _ _ (ret (.ref I)) _ _ s
  exact wpAny_pure ⟨_, rfl, "set_iterator", _, hT, sit_slot.lookup, h⟩
theorem iter_set {a : Addr} {es : Array (Int × Value)} {ep : Nat} {t : SetTable} {Q : Value → Shared → Prop} (ho : s.heap.get? a = some (setO es ep t)) (S : SetS w es t)
    (hQ : Q (.ref s.heap.objs.size) { s with heap := s.heap.push (sitO a (slotAt w t 0) 0 es.size ep) }) :
    wpAny (model prog w) A (pyIter (.ref a)) Q E s := by
  have hf := fits_of S.tb S.size S.mask
  have hT : s.TypeIs (.ref a) "set" := ⟨_, ho, rfl⟩
  refine wpAny_pyIter_slot hT F.slot_set_iter (wpAny_call_entry F.slot_set_iter hT set_iter_entry ?_ (F.args_set_iter_1 _))
  unfold Builtin.«frozenset.__iter__»
  refine wpAny_bind (show wpAny _ _ (pure a) _ _ _ from wpAny_pure ?_)
  refine wpAny_bind (show wpAny _ _ (setEntries a >>= fun x => pure x.size) _ _ _ from wpAny_bind (entries_at ho S (wpAny_pure ?_)))
  refine wpAny_bind ?_
  refine wpAny_bind ?_
  refine wpAny_setState_of ho rfl hf ?_
  dsimp only
  unfold setsByText
  refine wpAny_bind (wpAny_bind (wpAny_askSetting (wpAny_pure (wpAny_pure ?_))))
  refine wpAny_ite_split (fun z => absurd (show (!(byTx w) && (!t.plain && decide (es.size > 1))) = true from z) (by rw [S.plain]; simp)) fun _ => ?_
  refine wpAny_bind (wpAny_pure ?_)
  unfold setEpoch
  refine wpAny_bind (wpAny_bind (wpAny_setState_of ho rfl hf (wpAny_pure ?_)))
  refine wpAny_bind (wpAny_newObj_type (wpAny_pure ⟨_, rfl, "set_iterator", _, ⟨_, Heap.get?_push_size _ rfl, rfl⟩, sit_slot.lookup, ?_⟩))
  have : slotAt w t 0 = 0 := by
    unfold slotAt
    split <;> rfl
  rw [this] at hQ
  exact hQ
theorem hint_set {r : Addr} {Q : Bool → Shared → Prop} (hT : s.TypeIs (.ref r) "set") (h : Q false s) : wpAny (model prog w) A (Builtin.List.listLengthHint (.ref r)) Q E s := by
  unfold Builtin.List.listLengthHint
  refine wpAny_bind (wpAny_specialOf hT F.slot_set_len.lookup ?_)
  generalize hid : ("set.__len__" : String) = id0
  wp_delta
  rw [show splitId id0 = some ("set", "__len__") from by subst hid; decide +kernel]
  subst hid
  refine wpAny_bind (wpAny_isInstance (T := "set") (b := true) hT (by rw [isSubtype_type]; kernel_rfl) ?_)
  refine wpAny_ite_split (fun hab => absurd hab (by decide)) (fun _ => ?_)
  refine wpAny_ite_split (fun _ => ?_) (fun hab => absurd (by decide +kernel) hab)
  refine wpAny_bind (wpAny_typeOf hT ?_)
  exact wpAny_pure h
end
end L2

namespace L2
open PySem PySem.Spec PyProof.Rows
section
variable {prog : Program} {w : World} {A : Around} {E : Value → Shared → Prop} {s : Shared}
theorem sorted_of {x : Value} {vs : List Value} {ns : List Int} {Q : Value → Shared → Prop} (hI : IntsAre vs ns) (h64 : vs.length < 64)
    (hc : ∀ {Q' : List Value → Shared → Prop} {A' : Around}, A'.handled = A.handled → (∀ (h' : Heap) (tk : Nat), (∀ b o', s.heap.get? b = some o' → h'.get? b = some o') → Q' vs { s with heap := h', toks := tk }) → wpAny (model prog w) A' (collect x) Q' E s)
    (h : ∀ (h' : Heap) (tk : Nat) (out : Array Value) (ns' : List Int) (e : Nat), (∀ b o', s.heap.get? b = some o' → h'.get? b = some o') → IntsAre out.toList ns' → ns'.Perm ns → ns'.Pairwise (· ≤ ·) →
      (sortedHeap (h'.push (seqObj "list" vs.toArray 0)) h'.objs.size vs out).get? h'.objs.size = some (seqObj "list" out e) → Q (.ref h'.objs.size) { s with heap := sortedHeap (h'.push (seqObj "list" vs.toArray 0)) h'.objs.size vs out, toks := tk }) :
    wpAny (model prog w) A (call (.builtin "sorted") [x]) Q E s := by
  refine Calls.call_function_entry kind_sorted plain_sorted entry_sorted (args_sorted1 _) ?_
  unfold Builtin.«sorted»
  refine wpAny_bind (m := checkCount "sorted" 1 1 _) (wpAny_pure ?_)
  refine wpAny_bind (hc rfl fun h' tk hk => ?_)
  refine wpAny_bind (wpAny_newList ?_ (Nat.le_trans (Nat.le_of_lt h64) (lenLine (n := 64) (by decide))))
  have hoL : (h'.push (seqObj "list" vs.toArray 0)).get? h'.objs.size = some (seqObj "list" vs.toArray 0) := Heap.get?_push_size _ rfl
  refine wpAny_bind (wpAny_holding (wpAny_call_entry slot_list_sort ⟨_, hoL, rfl⟩ entry_list_sort (list_sort_tree hoL hI h64 fun out ns' a1 a2 a3 => ⟨_, rfl, ?_⟩) (args_list_sort _)))
  obtain ⟨e, he⟩ := sortedHeap_at (out := out) hoL
  exact wpAny_pure ⟨_, rfl, h h' tk out ns' e hk a1 a2 a3 he⟩
end
variable {X : Cx}
end L2

namespace L2
open PySem PySem.Spec PyProof.Rows
section
variable {prog : Program} {w : World}
theorem walks_set {A : Around} (hh : A.handled = none) {I a : Addr} (hne : a ≠ I) {es : Array (Int × Value)} {ep : Nat} {t : SetTable} (S : SetS w es t) :
    Walks prog w A I [I, a] [I] es.size (fun i v => ((ordS w a es ep).toList.map (·.2))[i]? = some v) (fun i h => h.get? I = some (sitO a (slotAt w t i) i es.size ep) ∧ h.get? a = some (setO es ep t)) where
  sub := fun b hb => by simp at hb; simp [hb]
  frame := fun _ _ _ st hk => ⟨hk I (by simp) _ st.1, hk a (by simp) _ st.2⟩
  item := fun i s Q E hi st hQ => next_item st.2 S st.1 hi fun v h' hv hI' hs' => hQ v h' s.toks hv ⟨hI', hs'.extBut a _ hne st.2⟩ fun b o hb e => hs'.extBut b o (fun h => hb (by simp [h])) e
  done := fun s Q E st hQ => next_end hh st.2 S st.1 fun h' he' => hQ h' s.toks fun b o hb e => he' b o (fun h => hb (by simp [h])) e
  self := fun _ _ _ _ st hQ => sit_self st.1 rfl hQ
theorem kdl_set {a : Addr} {es : Array (Int × Value)} {ep : Nat} {t : SetTable} (S : SetS w es t) : PySem.W.KdlSrc prog w "set" a a es.size (fun i v => ((ordS w a es ep).toList.map (·.2))[i]? = some v) (fun h => h.get? a = some (setO es ep t)) where
  type := fun _ h => ⟨_, h, rfl⟩
  there := fun _ e => ⟨Heap.lt_size e, Heap.lt_size e⟩
  keep := fun _ _ e k => k a (.inl rfl) _ e
  notList := by decide
  notTuple := by decide
  hint := fun _ _ _ _ h q => hint_set ⟨_, h, rfl⟩ q
  iter := fun A s hh h => ⟨_, _, fun _ _ hq => iter_set h S hq, walks_set hh (Nat.ne_of_lt (Heap.lt_size h)) S, Heap.get?_push_size _ rfl, Heap.get?_push_of_some _ h⟩
end
def setX (w : World) (a : Addr) (ks : List Int) : HO := .ext fun h => ∃ o, h.get? a = some o ∧ SetO w o ks
variable {X : Cx}
inductive P_call_setX (w : World) (K : PySem.W.Frag) (xs : List V) (H : Hp) (Q : VK) : Prop
  | mk (p : Addr) (ns : List Int) (h1 : xs = [.ref p]) (h2 : SqL K H p (ns.map V.int)) (h3 : ns.length ≤ 18) (h4 : ∀ l, H l = none → Q (.ref l) (upd H l (setX w l (metL ns)))) : P_call_setX w K xs H Q
theorem call_setX (hc : X.calm = true) : CallR X (.type "set") (P_call_setX X.w X.K) := by
  intro pins s σ H xs us Q I r h
  obtain ⟨p, ns, rfl, hp, h18, q⟩ := h
  obtain ⟨u, rfl, ru⟩ := r.one
  cases ru
  obtain ⟨its, rv, pl, hz⟩ := I.list hp
  have hi : IntsAre its ns := intsAre_of rv
  have hl := hi.length
  refine call_setF (I.ok.hd hc) pl.isList (items := its.toArray) (ns := ns) (by simpa using hi) (by rw [List.size_toArray]; (first | lia | omega)) fun h' tk o ho hS hk => ?_
  have h2 : its.toArray.size = ns.length := by rw [← hl]; exact List.size_toArray ..
  rw [h2, met_first] at hS
  exact ⟨.ref s.heap.objs.size, _, I.laid (t' := tk) (o := setX X.w s.heap.objs.size (metL ns)) (fun b o e => hk b o e) (Nat.le_refl _) ⟨⟨o, ho, hS⟩, ⟨o, ho⟩, fun h1 h2 ⟨o1, z1, z2⟩ k => ⟨o1, k o1 z1, z2⟩⟩, rfl, q _ (I.hok.fresh (Nat.le_refl _))⟩
inductive P_call_sortedX (w : World) (xs : List V) (H : Hp) (Q : VK) : Prop
  | mk (p : Addr) (ks : List Int) (h1 : xs = [.ref p]) (h2 : H p = some (setX w p ks)) (h3 : ks.length < 64) (h4 : ∀ (l : Addr) (ns' : List Int), H l = none → ns'.Perm ks → ns'.Pairwise (· ≤ ·) → Q (.ref l) (upd H l (.lst (ns'.map V.int)))) : P_call_sortedX w xs H Q
theorem call_sortedX (hc : X.calm = true) : CallR X (.builtin "sorted") (P_call_sortedX X.w) := by
  intro pins s σ H xs us Q I r h
  obtain ⟨p, ks, rfl, hp, h64, q⟩ := h
  obtain ⟨u, rfl, ru⟩ := r.one
  cases ru
  obtain ⟨⟨o, ho, hS⟩, _, _⟩ := (show ObjOk X.prog X.w H s.heap p (setX X.w p ks) from I.hok p _ hp)
  obtain ⟨es, ep, t, rfl, T, z, hm, pl, ld, hi, pm⟩ := hS.ex
  have S : SetS X.w es t := ⟨T, z, hm, pl, ld⟩
  have op := ord_perm X.w p es ep
  have e3 : ∀ l : List (Int × Value), (∀ e ∈ l, IntE e) → IntsAre (l.map (·.2)) (l.map keyE) := by
    intro l
    induction l with
    | nil => intro _; exact .nil
    | cons e l ih =>
      intro h
      obtain ⟨v, hv⟩ := (h e List.mem_cons_self).val
      rw [List.map_cons, List.map_cons, hv]
      exact .cons _ _ (ih fun e' he => h e' (List.mem_cons_of_mem _ he))
  have hIs := e3 _ fun e he => hi e (op.mem_iff.mp he)
  have hks : ((ordS X.w p es ep).toList.map keyE).Perm ks := (op.map keyE).trans pm
  have hlen : ((ordS X.w p es ep).toList.map (·.2)).length = es.size := by rw [List.length_map, op.length_eq, Array.length_toList]
  have hlk : es.size = ks.length := by
    have := pm.length_eq
    simpa using this
  refine sorted_of (vs := (ordS X.w p es ep).toList.map (·.2)) (ns := (ordS X.w p es ep).toList.map keyE) hIs (by (first | lia | omega)) (fun {Q'} {A'} hA k => PySem.W.kdu_collect (kdl_set S) (hA.trans (I.ok.hd hc)) ho (Nat.le_trans (show es.size ≤ 64 by (first | lia | omega)) (lenLine (n := 64) (by decide))) fun h' tk acc hk hacc => ?_) (fun h' tk out ns' e hk a1 a2 a3 he => ?_)
  · have : acc.toList = (ordS X.w p es ep).toList.map (·.2) := by
      apply List.ext_getElem?
      intro i
      rcases Nat.lt_or_ge i es.size with l | l
      · have e1 : acc[i]? = some (acc[i]'(by rw [hacc.1]; exact l)) := Array.getElem?_eq_getElem _
        rw [Array.getElem?_toList, e1, hacc.2 i _ e1]
      · rw [List.getElem?_eq_none (show acc.toList.length ≤ i by rw [Array.length_toList, hacc.1]; exact l), List.getElem?_eq_none (show ((ordS X.w p es ep).toList.map (·.2)).length ≤ i by rw [hlen]; exact l)]
    rw [this]
    exact k h' tk hk
  have I1 : Inv X pins σ H { s with heap := h', toks := tk } := I.kept (t' := tk) hk
  have l2 := (a2.trans hks).length_eq
  refine ⟨.ref h'.objs.size, upd H h'.objs.size (.lst (ns'.map V.int)), I1.laid (t' := tk) (fun b o e => ?_) (Nat.le_refl _) ⟨?_, out.toList, e, vals_of_ints a1, ?_⟩, rfl, q _ ns' (I1.hok.fresh (Nat.le_refl _)) (a2.trans hks) a3⟩
  · have hlt := Heap.lt_size e
    rw [sortedHeap_old (Nat.ne_of_lt hlt) (by rw [size_push']; exact Nat.lt_succ_of_lt hlt)]
    exact Heap.get?_push_of_some _ e
  · rw [List.length_map]
    exact Nat.le_of_lt (small1000 (by (first | lia | omega)))
  · rw [Array.toArray_toList]
    exact he
end L2

namespace Ep
open PySem L2 PySem.SeqAt
def Mono (f : Int → Int) : Prop := ∀ a b, a ≤ b → f a ≤ f b
theorem Mono.max {f : Int → Int} (h : Mono f) (a b : Int) : f (maxI a b) = maxI (f a) (f b) := by
  unfold maxI
  by_cases c : b ≤ a
  · rw [if_pos c, if_pos (h _ _ c)]
  · have := h a b (by (first | lia | omega))
    rw [if_neg c]
    by_cases d : f b ≤ f a
    · rw [if_pos d]; (first | lia | omega)
    · rw [if_neg d]
theorem Mono.min {f : Int → Int} (h : Mono f) (a b : Int) : f (minI a b) = minI (f a) (f b) := by
  unfold minI
  by_cases c : b < a
  · have := h b a (by (first | lia | omega))
    rw [if_pos c]
    by_cases d : f b < f a
    · rw [if_pos d]
    · rw [if_neg d]; (first | lia | omega)
  · have := h a b (by (first | lia | omega))
    rw [if_neg c, if_neg (by (first | lia | omega))]
theorem getD_mapI {f : Int → Int} {cs : List Int} {i : Nat} (h : i < cs.length) : (cs.map f).getD i 0 = f (cs.getD i 0) := by
  simp [List.getD, h]
theorem put1_map {f : Int → Int} (hf : Mono f) {cs : List Int} {w : Int × Int} (h1 : w.1.toNat < cs.length) (h2 : w.2.toNat < cs.length) : put1 (cs.map f) w = (put1 cs w).map f := by
  unfold put1
  rw [getD_mapI h1, getD_mapI h2, ← hf.max, ← hf.min, List.map_set, List.map_set]
theorem putM_map {f : Int → Int} (hf : Mono f) : ∀ (ws : List (Int × Int)) (cs : List Int), (∀ w ∈ ws, w.1.toNat < cs.length ∧ w.2.toNat < cs.length) → putM (cs.map f) ws = (putM cs ws).map f
  | [], cs, _ => rfl
  | w :: ws, cs, h => by
    show putM (put1 (cs.map f) w) ws = (putM (put1 cs w) ws).map f
    have hw := h w List.mem_cons_self
    rw [put1_map hf hw.1 hw.2]
    exact putM_map hf ws _ fun v hv => by rw [put1_len]; exact h v (List.mem_cons_of_mem _ hv)
theorem put1_perm {cs : List Int} {w : Int × Int} (h1 : w.1.toNat < cs.length) (h2 : w.2.toNat < cs.length) : (put1 cs w).Perm cs := by
  by_cases c : cs.getD w.1.toNat 0 < cs.getD w.2.toNat 0
  · rw [put1_swap c]
    have e1 : cs.getD w.1.toNat 0 = cs[w.1.toNat] := by simp [List.getD, h1]
    have e2 : cs.getD w.2.toNat 0 = cs[w.2.toNat] := by simp [List.getD, h2]
    rw [e1, e2]
    exact List.set_set_perm h1 h2
  · rw [put1_keep h1 h2 c]
theorem putM_perm : ∀ (ws : List (Int × Int)) (cs : List Int), (∀ w ∈ ws, w.1.toNat < cs.length ∧ w.2.toNat < cs.length) → (putM cs ws).Perm cs
  | [], cs, _ => .rfl
  | w :: ws, cs, h => by
    have hw := h w List.mem_cons_self
    refine (putM_perm ws (put1 cs w) fun v hv => ?_).trans (put1_perm hw.1 hw.2)
    rw [put1_len]
    exact h v (List.mem_cons_of_mem _ hv)
def thr (e x : Int) : Int := if e ≤ x then 1 else 0
theorem thr_mono (e : Int) : Mono (thr e) := fun a b h => by
  unfold thr
  split <;> split <;> (first | lia | omega)
theorem falls_map {f : Int → Int} (hf : Mono f) {c : List Int} (h : Falls c) : Falls (c.map f) := fun i hi => by
  rw [List.length_map] at hi
  rw [getD_mapI hi, getD_mapI (by (first | lia | omega))]
  exact hf _ _ (h i hi)
theorem thr_bits (e : Int) (cs : List Int) : Bits cs.length (cs.map (thr e)) := by
  refine ⟨by rw [List.length_map], fun i hi => ?_⟩
  rw [getD_mapI hi]
  unfold thr
  split
  · exact .inr rfl
  · exact .inl rfl
theorem all_of_bits {n : Nat} {ws : List (Int × Int)} (h : AllF n ws) {cs : List Int} (l : cs.length = n) (ok : ∀ w ∈ ws, w.1.toNat < cs.length ∧ w.2.toNat < cs.length) : Falls (putM cs ws) := by
  intro i hi
  rw [putM_len] at hi
  apply Decidable.byContradiction
  intro c
  have F := h _ (l ▸ thr_bits ((putM cs ws).getD (i + 1) 0) cs)
  rw [putM_map (thr_mono _) _ _ ok] at F
  have := F i (by rw [List.length_map, putM_len]; exact hi)
  rw [getD_mapI (by rw [putM_len]; exact hi), getD_mapI (by rw [putM_len]; (first | lia | omega))] at this
  unfold thr at this
  rw [if_pos (Int.le_refl _), if_neg (by (first | lia | omega))] at this
  (first | lia | omega)
def unlike (r : List Int) : List Int := (List.range r.length).map fun i => 100 * r.getD i 0 + i
theorem unlike_len (r : List Int) : (unlike r).length = r.length := by simp [unlike]
theorem unlike_thr {n : Nat} {r : List Int} (b : Bits n r) (h : n ≤ 50) : (unlike r).map (thr 100) = r := by
  refine ext_getD (by rw [List.length_map, unlike_len]) fun i hi => ?_
  rw [List.length_map, unlike_len] at hi
  rw [getD_mapI (by rw [unlike_len]; exact hi)]
  have e : (unlike r).getD i 0 = 100 * r.getD i 0 + i := by simp [unlike, List.getD, hi]
  rw [e]
  have := b.2 i (by rw [← b.1]; exact hi)
  have l := b.1
  unfold thr
  rcases this with z | z <;> rw [z] <;> split <;> (first | lia | omega)
theorem unlike_not {n : Nat} {r : List Int} {ws : List (Int × Int)} (b : Bits n r) (h : n ≤ 50) (ok : ∀ w ∈ ws, w.1.toNat < r.length ∧ w.2.toNat < r.length) (nf : ¬ Falls (putM r ws)) : ¬ Falls (putM (unlike r) ws) := fun F => by
  have := falls_map (thr_mono 100) F
  rw [← putM_map (thr_mono 100) _ _ (by rw [unlike_len]; exact ok), unlike_thr b h] at this
  exact nf this
def stepF (ks ss : List Int) (x : Int) : Int := (ss.take (ks.filter (fun k => decide (k ≤ x))).length).sum
theorem sum_nonneg : ∀ {ss : List Int}, (∀ s ∈ ss, 0 ≤ s) → 0 ≤ ss.sum
  | [], _ => by simp
  | s :: ss, h => by
    rw [List.sum_cons]
    have := h s List.mem_cons_self
    have := sum_nonneg fun x hx => h x (List.mem_cons_of_mem s hx)
    (first | lia | omega)
theorem take_sum_mono {ss : List Int} (h : ∀ s ∈ ss, 0 ≤ s) {a b : Nat} (l : a ≤ b) : (ss.take a).sum ≤ (ss.take b).sum := by
  have e : ss.take b = ss.take a ++ (ss.drop a).take (b - a) := by
    conv => lhs; rw [show b = a + (b - a) by (first | lia | omega)]
    rw [List.take_add]
  rw [e, List.sum_append]
  have := sum_nonneg (ss := (ss.drop a).take (b - a)) fun s hs => h s (List.mem_of_mem_drop (List.mem_of_mem_take hs))
  (first | lia | omega)
theorem filter_len_mono {p q : Int → Bool} : ∀ (ks : List Int), (∀ k ∈ ks, p k = true → q k = true) → (ks.filter p).length ≤ (ks.filter q).length
  | [], _ => Nat.le_refl _
  | k :: ks, h => by
    have ih := filter_len_mono ks fun x hx => h x (List.mem_cons_of_mem _ hx)
    have hk := h k List.mem_cons_self
    rw [List.filter_cons, List.filter_cons]
    cases hp : p k with
    | true => rw [hk hp]; simpa using ih
    | false =>
      cases q k with
      | true => simp; (first | lia | omega)
      | false => simpa using ih
theorem step_mono53 {ks ss : List Int} (h : ∀ s ∈ ss, 0 ≤ s) : Mono (stepF ks ss) := fun a b l => take_sum_mono h (filter_len_mono ks fun k _ z => by
  rw [decide_eq_true_eq] at z ⊢
  (first | lia | omega))
theorem filter_at : ∀ {ks : List Int} {i : Nat} {x : Int}, ks.Pairwise (· < ·) → ks[i]? = some x → (ks.filter (fun k => decide (k ≤ x))).length = i + 1
  | [], _, _, _, h => by simp at h
  | k :: ks, 0, x, p, h => by
    simp at h
    subst h
    obtain ⟨hk, _⟩ := List.pairwise_cons.mp p
    rw [List.filter_cons, if_pos (by simp)]
    rw [List.filter_eq_nil_iff.mpr fun y hy => by have := hk y hy; simp; (first | lia | omega)]
    rfl
  | k :: ks, i + 1, x, p, h => by
    obtain ⟨hk, p'⟩ := List.pairwise_cons.mp p
    have h' : ks[i]? = some x := by simpa using h
    have := hk x (List.mem_of_getElem? h')
    rw [List.filter_cons, if_pos (by simp; (first | lia | omega)), List.length_cons, filter_at p' h']
theorem strict_of : ∀ {ks : List Int}, ks.Nodup → ks.Pairwise (· ≤ ·) → ks.Pairwise (· < ·)
  | [], _, _ => .nil
  | k :: ks, n, p => by
    obtain ⟨a, b⟩ := List.nodup_cons.mp n
    obtain ⟨c, d⟩ := List.pairwise_cons.mp p
    refine List.pairwise_cons.mpr ⟨fun x hx => ?_, strict_of b d⟩
    have := c x hx
    have : k ≠ x := fun z => a (by rw [z]; exact hx)
    (first | lia | omega)
theorem met_nd53 : ∀ (ns acc : List Int), acc.Nodup → (ns.foldl PyProof.Rows.step_dedup acc).Nodup
  | [], acc, h => h
  | n :: ns, acc, h => by
    refine met_nd53 ns _ ?_
    unfold PyProof.Rows.step_dedup
    split
    · exact h
    · rename_i c
      rw [List.nodup_append]
      refine ⟨h, by simp, fun a ha b hb => ?_⟩
      rw [List.mem_singleton.mp hb]
      intro z
      exact c (List.any_eq_true.mpr ⟨a, ha, by simp [z]⟩)
theorem met_in53 : ∀ (ns acc : List Int) (x : Int), x ∈ ns.foldl PyProof.Rows.step_dedup acc ↔ x ∈ acc ∨ x ∈ ns
  | [], acc, x => by simp
  | n :: ns, acc, x => by
    rw [List.foldl_cons, met_in53 ns]
    unfold PyProof.Rows.step_dedup
    split
    · rename_i c
      obtain ⟨y, hy, e⟩ := List.any_eq_true.mp c
      have e := eq_of_beq e
      subst e
      rw [List.mem_cons]
      constructor
      · rintro (h | h)
        · exact .inl h
        · exact .inr (.inr h)
      · rintro (h | h | h)
        · exact .inl h
        · subst h; exact .inl hy
        · exact .inr h
    · rw [List.mem_append, List.mem_singleton, List.mem_cons]
      exact or_assoc
end Ep

namespace L2
open PySem PySem.Spec PyProof.Rows
section
variable {κ : Type} [DecidableEq κ]
end


abbrev KT (H : Hp) : List (List Key × V) → List (List Key × Addr × Value) → Prop := Paired fun p q => p.1 = q.1 ∧ H q.2.1 = some (.tup (p.1.map kV)) ∧ RelV p.2 q.2.2
section
variable {P : Program} {w : World} {H : Hp} {h : Heap} {a : Addr}
end

section
variable {X : Cx} {pins : List (Addr × Obj)} {σ : St} {H : Hp} {s : Shared} {a : Addr} {y v : V} {u r : Value} {o : Option V} {A : Around} {E : Value → Shared → Prop}

end

section
variable {X : Cx} {pins : List (Addr × Obj)} {σ : St} {H : Hp} {s : Shared} {a : Addr} {kvs : List (Key × V)} {k : Key} {u : Value} {A : Around} {E : Value → Shared → Prop}
end


section
variable {X : Cx} {o i e value : Expr} {pos pos' tpos : Pos} {td ty tv : TE}
end


section
variable {X : Cx} {pos : Pos}
end

section
variable {X : Cx} {pins : List (Addr × Obj)} {σ : St} {H : Hp} {s : Shared} {a : Addr} {y d : V} {u r : Value} {o : Option V} {A : Around} {E : Value → Shared → Prop}
end

section
variable {X : Cx} {o e f : Expr} {apos cpos : Pos} {td ty tx : TE}
end

section
variable {X : Cx} {pins : List (Addr × Obj)} {σ : St} {H : Hp} {s : Shared} {a : Addr} {kvs : List (Key × V)} {A : Around} {E : Value → Shared → Prop}
end


section
variable {X : Cx} {pins : List (Addr × Obj)} {σ : St} {H : Hp} {s : Shared} {a : Addr} {y : V} {u : Value} {A : Around} {E : Value → Shared → Prop}
end
end L2

namespace L2
open PySem PySem.Spec PyProof.Rows
open PySem.W (CodeHd tabObj kla_fn kla_obj envX)
section
variable {X : Cx} {pins : List (Addr × Obj)} {σ : St} {H : Hp} {s : Shared} {A : Around} {E : Value → Shared → Prop} {Q : Value → Shared → Prop} {c P : Addr} {params : Arguments} {body : Expr} {scope : Scope} {pos : Pos} {clos : List (Str × Addr)}
end
section
variable {X : Cx} {pins : List (Addr × Obj)} {σ : St} {H : Hp} {s : Shared} {A : Around} {params : Arguments} {body : Expr} {scope : Scope} {x y qual : Str} {j : Nat} {f c' cy P : Addr} {pm ctv u : Value} {v wv : V} {tb : TE} {Q : VK} {q : Str × Int × Int}
end
section
variable {X : Cx} {pins : List (Addr × Obj)} {σ : St} {rows : List V} {l q S It : Addr} {J : Hp → Heap → Prop} {kf : Nat → Int}
end
end L2

namespace Ep
open PySem L2 PySem.SeqAt PyProof.Rows
end Ep

namespace Ep
open PySem L2
end Ep
namespace L2
open PySem PySem.Spec PyProof.Rows
variable {X : Cx}
end L2

namespace Ep
open PySem L2 PySem.SeqAt
end Ep

namespace L2
end L2
namespace Ep
open PySem L2 PySem.SeqAt
end Ep

namespace L2
open PySem PySem.Spec PyProof.Rows
section
variable {X : Cx} (K : PySem.W.Frag) (hK : X.K = K)
include hK
end
end L2
namespace Ep
open PySem L2 PySem.SeqAt
theorem sorted_eq {a b c : List Int} (h1 : a.Perm c) (h2 : b.Perm c) (s1 : a.Pairwise (· ≤ ·)) (s2 : b.Pairwise (· ≤ ·)) : a = b :=
  List.Perm.eq_of_pairwise (fun x y _ _ h g => Int.le_antisymm h g) s1 s2 (h1.trans h2.symm)
end Ep
namespace Ep
open PySem L2 PySem.SeqAt
structure One where
  p : Addr
  L : PlL
  A : Sts
section
variable {C : Addr} {H H' : Hp} {v : V} {wide : Int} {ws : List (Int × Int)} {b c : Nat} {x : One} {S : List Addr}
end
section
variable {C : Addr} {G H H' : Hp} {v : V} {wide : Int} {ws : List (Int × Int)} {b c : Nat} {xs : List One} {x : One} {lp ls pn : Addr}
end
end Ep

namespace L2
open PySem
theorem call_sumLK {X : Cx} (K : PySem.W.Frag) (hK : X.K = K) (hc : X.calm = true) : CallR X (.builtin "sum") (P_call_sumL K) := by subst hK; exact call_sumL hc
theorem call_setXw {X : Cx} (w : World) (hw : X.w = w) (hc : X.calm = true) : CallR X (.type "set") (P_call_setX w X.K) := by subst hw; exact call_setX hc
theorem call_sortedXw {X : Cx} (w : World) (hw : X.w = w) (hc : X.calm = true) : CallR X (.builtin "sorted") (P_call_sortedX w) := by subst hw; exact call_sortedX hc
end L2
namespace Ep
open PySem L2 PySem.SeqAt
structure SrtOf (cs ks : List Int) : Prop where
  pm : ks.Perm (metL cs)
  pw : ks.Pairwise (· ≤ ·)
theorem SrtOf.one {cs ks ks' : List Int} (a : SrtOf cs ks) (b : SrtOf cs ks') : ks = ks' := sorted_eq a.pm b.pm a.pw b.pw
theorem SrtOf.mem {cs ks : List Int} (a : SrtOf cs ks) {x : Int} : x ∈ ks ↔ x ∈ cs := by
  rw [a.pm.mem_iff]
  unfold metL
  rw [met_in53]
  simp
theorem SrtOf.lt {cs ks : List Int} (a : SrtOf cs ks) : ks.Pairwise (· < ·) := strict_of (a.pm.nodup_iff.mpr (met_nd53 cs [] List.nodup_nil)) a.pw
theorem SrtOf.len {cs ks : List Int} (a : SrtOf cs ks) : ks.length ≤ cs.length := by
  rw [a.pm.length_eq]
  unfold metL
  exact PyProof.Rows.foldl_step_dedup_nil_length_le cs
theorem SrtOf.at {cs ks ss : List Int} (a : SrtOf cs ks) {x : Int} (h : x ∈ cs) : (ss.take (ks.idxOf x + 1)).sum = stepF ks ss x := by
  have m := a.mem.mpr h
  have l := List.idxOf_lt_length_of_mem m
  unfold stepF
  rw [filter_at a.lt (show ks[ks.idxOf x]? = some x by rw [List.getElem?_eq_getElem l, List.getElem_idxOf])]
theorem cut_head (ss : List Int) (k : Nat) : cutV (ss.map V.int) none (some ((k : Int) + 1)) = (ss.take (k + 1)).map V.int := by
  unfold cutV
  rw [← List.map_drop, ← List.map_take]
  congr 1
  rw [List.length_map]
  have e1 : HT.sIx ss.length 0 none = 0 := rfl
  rw [e1, List.drop_zero, Nat.sub_zero]
  have e2 : HT.sIx ss.length ss.length (some ((k : Int) + 1)) = min (k + 1) ss.length := by
    unfold HT.sIx
    simp
    (first | lia | omega)
  rw [e2]
  rcases Nat.le_total (k + 1) ss.length with h | h
  · rw [Nat.min_eq_left h]
  · rw [Nat.min_eq_right h, List.take_of_length_le (Nat.le_refl _), List.take_of_length_le h]
inductive SpMapP (vs : List V) (H : Hp) (Q : VK) : Prop
  | mk (c d : Addr) (cs ss : List Int) (h1 : vs = [.ref c, .ref d]) (h2 : H c = some (.lst (cs.map V.int))) (h3 : cs.length ≤ 8) (h4 : H d = some (.lst (ss.map V.int))) (q : ∀ (ks : List Int) (a : Addr) (H' : Hp), SrtOf cs ks → H a = none → Same H H' → H' a = some (.lst ((cs.map (stepF ks ss)).map V.int)) → Q (.ref a) H') : SpMapP vs H Q
def spMap : Sp := fun vs H Q _ => SpMapP vs H Q
inductive SpRowR53P (vs : List V) (H : Hp) (Q : VK) : Prop
  | mk (v : V) (wide : Int) (ws : List (Int × Int)) (c d : Addr) (cs ss : List Int) (h1 : vs = [v, .ref c, .ref d]) (h2 : Net H v wide ws) (w1 : 1 ≤ wide) (w8 : wide ≤ 8) (h3 : WOk wide ws) (h4 : ws.length ≤ 41) (h5 : H c = some (.lst (cs.map V.int))) (h6 : cs.length = wide.toNat) (h7 : H d = some (.lst (ss.map V.int))) (h8 : ∀ s ∈ ss, 0 ≤ s)
      (q : ∀ H', Same H H' → Q (.bl true) H') : SpRowR53P vs H Q
def spRowR53 : Sp := fun vs H Q _ => SpRowR53P vs H Q
inductive SpNetR53P (vs : List V) (H : Hp) (Q : VK) : Prop
  | mk (v : V) (wide : Int) (ws : List (Int × Int)) (p : Addr) (h1 : vs = [v, .ref p]) (h2 : Net H v wide ws) (w1 : 1 ≤ wide) (w8 : wide ≤ 8) (h3 : WOk wide ws) (h4 : ws.length ≤ 41) (h5 : Pen H p) (q : ∀ H', Kp p H H' → Pen H' p → Q (.bl true) H') : SpNetR53P vs H Q
def spNetR53 : Sp := fun vs H Q _ => SpNetR53P vs H Q
theorem wok_lt {wide : Int} {ws : List (Int × Int)} (ok : WOk wide ws) {cs : List Int} (l : cs.length = wide.toNat) : ∀ w ∈ ws, w.1.toNat < cs.length ∧ w.2.toNat < cs.length := fun w hw => by
  have := ok w hw
  (first | lia | omega)
inductive SpOrdUP (vs : List V) (H : Hp) (Q : VK) : Prop
  | mk (v : V) (wide : Int) (ws : List (Int × Int)) (h1 : vs = [v]) (h2 : Net H v wide ws) (h3 : 1 ≤ wide) (h4 : wide ≤ 8) (h5 : WOk wide ws) (h6 : ws.length ≤ 41) (q : ∀ (T : Addr) (H' : Hp) (wd : Str) (xs : List V), Same H H' → H' T = some (.tup (.str wd :: xs)) →
      ((wd = "orders" ∧ xs = [] ∧ AllF wide.toNat ws) ∨ (wd = "not" ∧ ∃ (l : Addr) (r : List Int), xs = [.ref l] ∧ H l = none ∧ H' l = some (.lst (r.map V.int)) ∧ Bits wide.toNat r ∧ ¬ Falls (putM r ws))) → Q (.ref T) H') : SpOrdUP vs H Q
def spOrdU : Sp := fun vs H Q _ => SpOrdUP vs H Q
theorem orders_u (vs : List V) (H : Hp) (Q : VK) (E : XK) (h : spOrdU vs H Q E) : spOrders vs H Q E := by
  obtain ⟨v, wide, ws, rfl, net, w1, w8, ok, len, q⟩ := h
  exact ⟨v, wide, ws, rfl, net, w1, w8, ok, len, fun T H' _ s x a => q T H' _ _ s x (.inl ⟨rfl, rfl, a⟩), fun T l r H' _ fl s x xl b nf => q T H' _ _ s x (.inr ⟨rfl, l, r, rfl, fl, xl, b, nf⟩)⟩
end Ep

namespace L2
open PySem PySem.Spec PyProof.Rows
variable {X : Cx}
end L2

namespace Ep
open PySem L2 PySem.SeqAt
end Ep
namespace Ep
open PySem L2 PySem.SeqAt
end Ep
namespace L2
open PySem PySem.Spec PyProof.Rows
variable {X : Cx}
end L2
namespace Ep
open PySem L2 PySem.SeqAt
end Ep
namespace L2
open PySem PySem.Spec PyProof.Rows
variable {X : Cx}
end L2
namespace Ep
open PySem L2 PySem.SeqAt
end Ep
namespace Ep
open PySem L2 PySem.SeqAt
end Ep
namespace Ep
open PySem L2 PySem.SeqAt
end Ep
namespace Ep
open PySem L2 PySem.SeqAt
end Ep

namespace L2
open PySem PySem.Spec PyProof.Rows PySem.SeqAt
open AutoSeq1 (wpAny_loadPart')
variable {X : Cx}
end L2

namespace Ep
open PySem L2 PySem.SeqAt PyProof.Rows
end Ep

namespace Ep
open PySem L2 PySem.SeqAt PyProof.Rows
end Ep

namespace Ep
open PySem L2 PySem.SeqAt
end Ep

namespace Ep
open PySem L2 PySem.SeqAt
end Ep

namespace Ep
open PySem L2 PySem.SeqAt PyProof.Rows
end Ep

namespace L2
open PySem PySem.Spec PyProof.Rows
section
variable {X : Cx}
end
end L2

namespace L2
open PySem PySem.Spec PyProof.Rows HT
section
variable {prog : Program} {w : World} {A : Around} {E : Value → Shared → Prop} {s : Shared}
end
section
variable {X : Cx}
end
end L2
namespace Ep
open PySem L2 PySem.SeqAt PyProof.Rows
end Ep

namespace L2
open PySem PySem.Spec PyProof.Rows
section
variable {X : Cx}
end
end L2
namespace L2
open PySem PySem.Spec PyProof.Rows
section
variable {X : Cx}
end
end L2
namespace L2
open PySem PySem.Spec PyProof.Rows
end L2
namespace L2
open PySem PySem.Spec PyProof.Rows
end L2

namespace Ep
open PySem L2 PySem.SeqAt PyProof.Rows
end Ep


namespace Ep
open PySem L2
def top (i : Nat) : Stmt := PySem.Challenge.pw_evenpass_k53_whole_each_row_by_its_thres.main.body.getD i (.Pass ⟨0, 0, 0, 0⟩)
abbrev s_longer_rows : Stmt := top 1
abbrev s_rows_of : Stmt := top 2
abbrev s_put_in_order : Stmt := top 4
abbrev s_falls : Stmt := top 5
abbrev s_orders : Stmt := top 6
abbrev s_pen : Stmt := top 8
abbrev s_take : Stmt := top 9
abbrev s_wickets : Stmt := top 10
abbrev s_lifted : Stmt := top 11
abbrev s_folded : Stmt := top 12
abbrev s_block : Stmt := top 13
abbrev s_brick : Stmt := top 14
abbrev s_rounds : Stmt := top 15
abbrev s_bent : Stmt := top 16
abbrev s_net : Stmt := top 17
abbrev s_values : Stmt := top 18
abbrev s_mapped : Stmt := top 19
abbrev s_row_right : Stmt := top 20
abbrev s_net_right : Stmt := top 21
abbrev s_law : Stmt := top 22
end Ep

namespace Ep
open PySem L2 PySem.SeqAt
local macro_rules | `(tactic| walk_at "cm") => `(tactic| first | exact .inr ⟨by decide, by decide⟩ | exact .inl ⟨by decide, by decide⟩ | exact .inl ⟨by omega, by omega⟩ | exact .inr ⟨by omega, by omega⟩)
local macro_rules | `(tactic| walk_at "side") => `(tactic| first
  | (show (0 : Int) < _; first | decide | omega)
  | (show CMul _ _; walk_at "cm")
  | (show List.length _ ≤ sizeLine; exact lenLine (by simp only [List.length_cons, List.length_nil] <;> omega))
  | (show tyV _ _ _ _; exact .inl ⟨rfl, _, SqL.of (by walk_at "hh")⟩)
  | (show CPow _ _; exact ⟨by decide, by decide, by decide⟩)
  | (show _ ∧ _; exact ⟨by first | decide | omega, by first | decide | omega⟩)
  | omega)
local macro_rules | `(tactic| walk_at "rd1") => `(tactic| first
  | refine ⟨_, rfl, ?_⟩
  | refine ⟨_, _, rfl, rfl, ?_⟩
  | refine ⟨_, _, _, _, rfl, rfl, SqL.of (by assumption), by first | rfl | assumption, ?_⟩
  | refine ⟨_, _, _, _, rfl, rfl, SqT.of (by assumption), by first | rfl | assumption, ?_⟩
  | refine ⟨_, _, rfl, rfl, by walk_at "side", ?_⟩
  | refine REqP.mk rfl ?_
  | refine RNeP.mk rfl ?_
  | refine NewOb.mk (by walk_at "side") ?_
  | refine And.intro rfl ?_
  | refine And.intro (by walk_at "side") ?_
  | refine Or.inr ⟨_, rfl, ?_⟩)
local macro_rules | `(tactic| walk_at "rd") => `(tactic| repeat walk_at "rd1")
local macro_rules | `(tactic| walk_at "ne") => `(tactic| first
  | assumption
  | exact Ne.symm (by assumption)
  | exact ne1 (by assumption) (by walk_at "hh")
  | exact ne2 (by assumption) (by walk_at "hh")
  | exact ne3 (by assumption) (by walk_at "hh")
  | exact ne4 (by assumption) (by walk_at "hh"))
local macro_rules | `(tactic| walk_at "hh") => `(tactic| first
  | assumption
  | exact upd_same
  | exact (upd_ne (by walk_at "ne")).trans (by walk_at "hh")
  | exact (by assumption : Same _ _) _ _ (by walk_at "hh")
  | exact (by assumption : Kp _ _ _) _ _ (by walk_at "hh") (by walk_at "ne"))
local macro_rules | `(tactic| walk_at "fr") => `(tactic| first
  | assumption
  | exact free2 (by assumption) (by walk_at "sm"))
local macro_rules | `(tactic| walk_at "sm") => `(tactic| first
  | assumption
  | exact Same.refl _
  | exact Same.put (by walk_at "fr") (by walk_at "sm")
  | exact trans2 (by assumption) (by walk_at "sm"))
local macro_rules | `(tactic| walk_at "kt") => `(tactic| first
  | exact KT.refl _
  | assumption
  | exact KT.new (by assumption) (by walk_at "kt")
  | exact KT.lst (by walk_at "hh") (by walk_at "kt")
  | exact KT.same (by assumption) (by walk_at "kt")
  | exact KT.kp (by assumption) (by walk_at "hh") (by walk_at "kt"))

section
variable {P : Program} {w : World} {K : PySem.W.Frag} {mg : Str → Option Value} {base : Heap} {f : Addr} {fd : FuncData}
theorem sc_take : FnScope ["_law_pen_here", "_law_size", "_law_found", "_law_number"] ["_law_pen_here", "_law_size"] (defScope s_take) := ⟨rfl, rfl, rfl, by decide +kernel, rfl, by decide +kernel, by decide +kernel⟩
theorem ok_take (F : Here K mg "_law_take" s_take f fd) : FnOk P w K mg base CX0 1 f fd ["_law_pen_here", "_law_size"] spTake := by
  refine F.fn.ok sc_take (fun vs H Q E h => ?_) (fun cdv A outer s H vs Q E hr h => ?_)
  · obtain ⟨p, a, b, c, n, rfl, _⟩ := h
    rfl
  · obtain ⟨p, a, b, c, n, rfl, hp, h0, h1, k⟩ := h
    refine ⟨_, (pss_cons (ps_if (pt_cmpR op_gt (pe_ix ix_list (pv 0) pe_int (fun _ _ => rfl)) pe_int (nomark _))
    (pss_cons (ps_set (i := 2) sc_take.nd rfl (by first | exact Or.inl rfl | exact Or.inr rfl) (pe_op op_mod (pe_ix ix_list (pv 0) pe_int (fun _ _ => rfl)) (pv 1)))
    (pss_cons (ps_asg (pe_op op_fdivB (pe_ix ix_list (pv 0) pe_int (fun _ _ => rfl)) (pv 1)) (pg_sub (pv 0) pe_int set_list))
    (pss_one (ps_ret (pv 2)))))
    pss_nil)
    (pss_cons (ps_asg (pe_op op_add (pe_ix ix_list (pv 0) pe_int (fun _ _ => rfl)) pe_int) (pg_sub (pv 0) pe_int set_list))
    (pss_cons (ps_set (i := 3) sc_take.nd rfl (by first | exact Or.inl rfl | exact Or.inr rfl) (pe_op op_mod (pe_op op_mul (pe_op op_add (pe_ix ix_list (pv 0) pe_int (fun _ _ => rfl)) (pe_op op_mul pe_int (pe_ix ix_list (pv 0) pe_int (fun _ _ => rfl)))) pe_int) pe_int))
    (pss_cons (ps_set (i := 3) sc_take.nd rfl (by first | exact Or.inl rfl | exact Or.inr rfl) (pe_op op_mod (pe_op op_add (pe_op op_mul (pv 3) (pv 3)) (pe_op op_mul pe_int (pe_ix ix_list (pv 0) pe_int (fun _ _ => rfl)))) pe_int))
    (pss_cons (ps_set (i := 3) sc_take.nd rfl (by first | exact Or.inl rfl | exact Or.inr rfl) (pe_op op_mod (pe_op op_mul (pv 3) (pe_op op_add (pe_op op_mod (pv 3) pe_int) (pe_ix ix_list (pv 0) pe_int (fun _ _ => rfl)))) pe_int))
    (pss_one (ps_ret (pe_op op_mod (pe_op op_fdivB (pv 3) pe_int) (pv 1))))))))), ?_⟩
    walk_at "rd"
    refine ite2 (fun g => ?_) (fun g => ?_)
    · walk_at "rd"
      refine ⟨p, _, _, _, rfl, rfl, hp, rfl, ?_⟩
      walk_at "rd"
      exact k _ _ _ _ (Int.emod_nonneg _ (by (first | lia | omega))) (Int.emod_lt_of_pos _ h0)
    · walk_at "rd"
      refine ⟨p, _, _, _, rfl, rfl, hp, rfl, ?_⟩
      have hp2 : (upd H p (HO.lst [V.int a, V.int (b + 1), V.int c])) p = some (.lst [V.int a, V.int (b + 1), V.int c]) := upd_same
      walk_at "rd"
      exact k _ _ _ _ (Int.emod_nonneg _ (by (first | lia | omega))) (Int.emod_lt_of_pos _ h0)
end
section
variable {P : Program} {w : World} {K : PySem.W.Frag} {mg : Str → Option Value} {base : Heap} {f : Addr} {fd : FuncData}
theorem sc_pen : FnScope ["_law_script", "_law_k", "_law_cell"] ["_law_script", "_law_k"] (defScope s_pen) := ⟨rfl, rfl, rfl, by decide +kernel, rfl, by decide +kernel, by decide +kernel⟩
theorem ok_pen (T : Bn mg) (F : Here K mg "_law_pen" s_pen f fd) : FnOk P w K mg base CX0 1 f fd ["_law_script", "_law_k"] (spPen K) := by
  refine F.fn.ok sc_pen (fun vs H Q E h => ?_) (fun cdv A outer s H vs Q E hr h => ?_)
  · obtain ⟨a, ns, k, rfl, _⟩ := h
    rfl
  · obtain ⟨a, ns, k, rfl, hS, h63, h0, h1, q⟩ := h
    refine ⟨_, (pss_cons (ps_set (i := 2) sc_pen.nd rfl (by first | exact Or.inl rfl | exact Or.inr rfl) (pe_op op_add (pe_op op_mul pe_int (pv 1)) pe_int))
    (pss_cons (ps_if (pt_cmpR op_gt (pe_callB call_len_seq rfl T.n_len PySem.boot_len (pa_cons (pv 0) pa_nil)) pe_int (nomark _))
    (pss_cons (ps_set (i := 2) sc_pen.nd rfl (by first | exact Or.inl rfl | exact Or.inr rfl) (pe_ix ix_list (pv 0) (pe_op op_mod (pv 1) (pe_callB call_len_seq rfl T.n_len PySem.boot_len (pa_cons (pv 0) pa_nil))) (fun _ _ => rfl)))
    (pss_one (ps_if (pt_cmpR op_ge (pv 1) (pe_callB call_len_seq rfl T.n_len PySem.boot_len (pa_cons (pv 0) pa_nil)) (nomark _))
    (pss_one (ps_set (i := 2) sc_pen.nd rfl (by first | exact Or.inl rfl | exact Or.inr rfl) (pe_op op_add (pe_op op_mod (pv 2) pe_int) (pe_op op_mul pe_int (pv 1)))))
    pss_nil)))
    pss_nil)
    (pss_cons (ps_if (pt_cmpR op_ge (pv 2) (pe_op op_pow pe_int pe_int) (nomark _))
    (pss_one (ps_ret (pe_lst (pa_cons (pe_op op_sub (pv 2) (pe_op op_pow pe_int pe_int)) (pa_cons pe_int (pa_cons (pe_op op_add (pe_op op_mod (pv 2) pe_int) (pv 1)) pa_nil))))))
    pss_nil)
    (pss_one (ps_ret (pe_lst (pa_cons pe_int (pa_cons pe_int (pa_cons (pe_op op_add (pe_op op_mod (pv 2) pe_int) (pe_op op_mul pe_int (pv 1))) pa_nil))))))))), ?_⟩
    have hl : (ns.map V.int).length = ns.length := List.length_map _
    walk_at "rd"
    refine ⟨_, _, rfl, .inl hS, ?_⟩
    walk_at "rd"
    refine ite2 (fun g => ?_) (fun g => ?_)
    · have g' := of_decide_eq_true g
      rw [hl] at g'
      walk_at "rd"
      refine ⟨_, _, rfl, .inl hS, ?_⟩
      walk_at "rd"
      refine ⟨a, _, _, _, rfl, rfl, hS, atI_int (Int.emod_nonneg _ (by (first | lia | omega))) (by rw [hl]; exact Int.emod_lt_of_pos _ (by (first | lia | omega))), ?_⟩
      walk_at "rd"
      refine ⟨_, _, rfl, .inl hS, ?_⟩
      walk_at "rd"
      refine ite2 (fun g => ?_) (fun g => ?_)
      all_goals
        walk_at "rd"
        refine ite2 (fun g => ?_) (fun g => ?_)
        · walk_at "rd"
          intro p hp
          exact q p _ _ _ hp
        · walk_at "rd"
          intro p hp
          exact q p _ _ _ hp
    · walk_at "rd"
      refine ite2 (fun g => ?_) (fun g => ?_)
      · walk_at "rd"
        intro p hp
        exact q p _ _ _ hp
      · walk_at "rd"
        intro p hp
        exact q p _ _ _ hp
end
section
variable {P : Program} {w : World} {K : PySem.W.Frag} {mg : Str → Option Value} {base : Heap} {f : Addr} {fd : FuncData}
theorem sc_wickets : FnScope ["_law_pen_here", "_law_wide", "_law_many", "_law_found", "_law_k", "_law_first"] ["_law_pen_here", "_law_wide", "_law_many"] (defScope s_wickets) := ⟨rfl, rfl, rfl, by decide +kernel, rfl, by decide +kernel, by decide +kernel⟩
theorem ok_wickets (T : Bn mg) (F : Here K mg "_law_wickets" s_wickets f fd) (C_law_take : Callee P w K mg base "_law_take" 1 ["_law_pen_here", "_law_size"] spTake) :
    FnOk P w K mg base CX0 2 f fd ["_law_pen_here", "_law_wide", "_law_many"] spWickets := by
  refine F.fn.ok sc_wickets (fun vs H Q E h => ?_) (fun cdv A outer s H vs Q E hr h => ?_)
  · obtain ⟨p, wide, many, rfl, _⟩ := h
    rfl
  · obtain ⟨p, wide, many, rfl, ⟨a0, b0, c0, hp0⟩, w1, w8, m0, m41, q⟩ := h
    refine ⟨_, (pss_cons (ps_set (i := 3) sc_wickets.nd rfl (by first | exact Or.inl rfl | exact Or.inr rfl) (pe_lst pa_nil))
    (pss_cons (ps_for PassesOwn.never rfl  (pi_range1 rfl T.n_range (pa_cons (pe_op op_mul (pv 2) (pe_callTy call_int1 rfl T.n_int boot_intT (pa_cons (pe_cmpR op_gt (pv 1) pe_int (nomark _)) pa_nil))) pa_nil)) (pg_name (i := 4) sc_wickets.nd rfl (by first | exact Or.inl rfl | exact Or.inr rfl))
    (pss_cons (ps_set (i := 5) sc_wickets.nd rfl (by first | exact Or.inl rfl | exact Or.inr rfl) (pe_callC C_law_take (hr.mono (by first | decide | (first | lia | omega))) rfl (pa_cons (pv 0) (pa_cons (pv 1) pa_nil))))
    (pss_one (ps_expr (pe_bm PySem.F.plainAttrs_list PySem.F.slot_list_append PySem.F.type_list_append mt_append (pv 3) (pa_cons (pe_tup (pa_cons (pv 5) (pa_cons (pe_op op_mod (pe_op op_add (pe_op op_add (pv 5) pe_int) (pe_callC C_law_take (hr.mono (by first | decide | (first | lia | omega))) rfl (pa_cons (pv 0) (pa_cons (pe_op op_sub (pv 1) pe_int) pa_nil)))) (pv 1)) pa_nil))) pa_nil))))))
    (pss_one (ps_ret (pv 3))))), ?_⟩
    walk_at "rd"
    intro l hl
    have npl : p ≠ l := ne_of_none hp0 hl
    walk_at "rd"
    have hj : ∃ j : Nat, many * (if decide (1 < wide) = true then (1 : Int) else 0) = (j : Int) ∧ (j : Int) ≤ many ∧ (0 < j → 1 < wide) := by
      by_cases hw : 1 < wide
      · exact ⟨many.toNat, by rw [if_pos (decide_eq_true hw)]; (first | lia | omega), by (first | lia | omega), fun _ => hw⟩
      · exact ⟨0, by rw [if_neg (by simpa using hw)]; (first | lia | omega), by (first | lia | omega), fun z => absurd z (by (first | lia | omega))⟩
    obtain ⟨j, ej, jm, jw⟩ := hj
    show -(2 ^ 62) ≤ many * (if decide (1 < wide) = true then (1 : Int) else 0) ∧ _
    rw [ej]
    refine ⟨by (first | lia | omega), by (first | lia | omega), ?_⟩
    refine for_range (n := (j : Int).toNat) (fun i σ Hc => ∃ (v4 v5 : Option V) (ws : List (Int × Int)), σ = [some (.ref p), some (.int wide), some (.int many), some (.ref l), v4, v5] ∧ Kp p H Hc ∧ Pen Hc p ∧ WsL Hc l ws ∧ WOk wide ws ∧ ws.length = i)
      ⟨none, none, [], rfl, Kp.put hl (Kp.refl _ _), ⟨a0, b0, c0, by rw [upd_ne npl]; exact hp0⟩, ⟨[], upd_same, .nil⟩, WOk.nil, rfl⟩ ?_ ?_
    · rintro i σ Hc hlt ⟨v4, v5, ws, rfl, kp, ⟨a, b, c, hp⟩, ⟨rs, hls, hrs⟩, ok, len⟩
      have hw : 1 < wide := jw (by (first | lia | omega))
      walk_at "rd"
      refine ⟨p, a, b, c, wide, rfl, hp, by (first | lia | omega), by (first | lia | omega), fun v a' b' c' v0 vw => ?_⟩
      have hl1 : (upd Hc p (HO.lst [V.int a', V.int b', V.int c'])) l = some (.lst rs) := by rw [upd_ne (Ne.symm npl)]; exact hls
      walk_at "rd"
      refine ⟨p, a', b', c', wide - 1, rfl, upd_same, by (first | lia | omega), by (first | lia | omega), fun u a2 b2 c2 u0 uw => ?_⟩
      walk_at "rd"
      intro t ht
      have kp2 : Kp p Hc (upd (upd (upd Hc p (HO.lst [V.int a', V.int b', V.int c'])) p (HO.lst [V.int a2, V.int b2, V.int c2])) t (HO.tup [V.int v, V.int ((v + 1 + u) % wide)])) :=
        Kp.trans (Kp.trans Kp.upd Kp.upd) (Kp.same (same_new ht _))
      have ntl : t ≠ l := fun z => by
        rw [z, upd_ne (Ne.symm npl), upd_ne (Ne.symm npl), hls] at ht
        cases ht
      have ntp : t ≠ p := fun z => by
        rw [z, upd_same] at ht
        cases ht
      refine ⟨l, rs, _, rfl, rfl, kp2 l _ hls (Ne.symm npl), lenLt (by have := hrs.len; (first | lia | omega)), ?_⟩
      have hv : (v + 1 + u) % wide ≠ v ∧ 0 ≤ (v + 1 + u) % wide ∧ (v + 1 + u) % wide < wide := by
        refine ⟨fun z => ?_, Int.emod_nonneg _ (by (first | lia | omega)), Int.emod_lt_of_pos _ (by (first | lia | omega))⟩
        by_cases hh : v + 1 + u < wide
        · rw [Int.emod_eq_of_lt (by (first | lia | omega)) hh] at z
          (first | lia | omega)
        · have e2 : (v + 1 + u) % wide = v + 1 + u - wide := by
            rw [Int.emod_eq_emod_iff_emod_sub_eq_zero.mpr (show (v + 1 + u - (v + 1 + u - wide)) % wide = 0 by rw [show v + 1 + u - (v + 1 + u - wide) = wide by (first | lia | omega)]; exact Int.emod_self)]
            exact Int.emod_eq_of_lt (by (first | lia | omega)) (by (first | lia | omega))
          rw [e2] at z
          (first | lia | omega)
      refine ⟨_, _, ws ++ [(v, (v + 1 + u) % wide)], rfl, Kp.put hl (Kp.trans kp kp2), ?_, ?_, ok.app (WOk.one ⟨v0, vw, hv.2.1, hv.2.2, Ne.symm hv.1⟩), by simp [len]⟩
      · exact ⟨a2, b2, c2, by rw [upd_ne npl, upd_ne (Ne.symm ntp), upd_same]⟩
      · refine ⟨_, upd_same, ?_⟩
        have hr2 := hrs.kp kp2 hp
        refine (hr2.app (.cons ⟨t, rfl, upd_same⟩ .nil)).mono fun b xs e => ?_
        rw [upd_ne (fun z => ?_)]
        · exact e
        · subst z
          rw [kp2 _ _ hls (Ne.symm npl)] at e
          cases e
    · rintro σ Hc ⟨v4, v5, ws, rfl, kp, pn, wl, ok, len⟩
      walk_at "rd"
      exact q l ws Hc hl kp pn wl ok (by (first | lia | omega))
end
section
variable {P : Program} {w : World} {K : PySem.W.Frag} {mg : Str → Option Value} {base : Heap} {f : Addr} {fd : FuncData}
theorem sc_lifted : FnScope ["_law_wickets_here", "_law_by"] ["_law_wickets_here", "_law_by"] (defScope s_lifted) := ⟨rfl, rfl, rfl, by decide +kernel, rfl, by decide +kernel, by decide +kernel⟩
theorem ok_lifted (F : Here K mg "_law_lifted" s_lifted f fd) : FnOk P w K mg base CX0 1 f fd ["_law_wickets_here", "_law_by"] spLifted := by
  refine F.fn.ok sc_lifted (fun vs H Q E h => ?_) (fun cdv A outer s H vs Q E hr h => ?_)
  · obtain ⟨a, ws, k, rfl, _⟩ := h
    rfl
  · obtain ⟨a, ws, k, rfl, ⟨rs, ha, hrs⟩, hlen, q⟩ := h
    have el := hrs.len
    refine ⟨_, (pss_one (ps_ret (pe_comp ["_law_first", "_law_second"] [("_law_by", 1)] rfl (pi_list (pv 0)) (fun _ _ _ _ _ _ => by exact (pg_tupK K rfl (n := 2) rfl (pgs_cons (pg_name (i := 0) (show List.Nodup (["_law_first", "_law_second", "_law_by"] : List Str) by decide +kernel) rfl (by first | exact Or.inl rfl | exact Or.inr rfl)) (pgs_cons (pg_name (i := 1) (show List.Nodup (["_law_first", "_law_second", "_law_by"] : List Str) by decide +kernel) rfl (by first | exact Or.inl rfl | exact Or.inr rfl)) pgs_nil)))) (fun _ _ _ _ _ _ => by exact pts_nil) (fun _ _ _ _ _ _ => by exact (pe_tup (pa_cons (pe_op op_add (pv 0) (pv 2)) (pa_cons (pe_op op_add (pv 1) (pv 2)) pa_nil))))))), ?_⟩
    walk_at "rd"
    refine ⟨⟨_, SqL.of ha⟩, fun l hl => ?_⟩
    refine comp_list (xs := rs) (fun i ys Hc => Same H Hc ∧ Hc l = some (.lst ys) ∧ Refs Hc ys ((ws.take i).map (lift k))) ⟨Same.put hl (Same.refl H), upd_same, .nil⟩ (lenLine (by (first | lia | omega))) (fun i ys Hc hi ⟨s1, e1, r1⟩ => ⟨SqL.of (s1 a _ ha), e1, by have := r1.len; simp at this; (first | lia | omega)⟩) ?_ ?_
    · rintro i x ys Hc hx ⟨s1, e1, r1⟩
      obtain ⟨w1, t, hw1, rfl, ht⟩ := hrs.get hx
      have ht1 := s1 t _ ht
      refine ⟨t, _, rfl, SqT.of ht1, rfl, ?_⟩
      refine ⟨_, _, rfl, _, _, rfl, rfl, ?_⟩
      refine ⟨⟨.inl rfl, .inl rfl, .inr rfl, trivial⟩, ?_⟩
      refine tru_if ?_
      walk_at "rd"
      intro u hu
      have nul : u ≠ l := fun z => by rw [z, e1] at hu; cases hu
      refine ⟨by rw [upd_ne (Ne.symm nul)]; exact e1, Same.put hl (Same.trans s1 (same_new hu _)), upd_same, ?_⟩
      have et : (ws.take (i + 1)).map (lift k) = (ws.take i).map (lift k) ++ [lift k w1] := by
        rw [List.take_add_one, hw1]; simp
      rw [et]
      have r2 : Refs (upd Hc u (HO.tup [V.int (w1.1 + k), V.int (w1.2 + k)])) (ys ++ [V.ref u]) ((ws.take i).map (lift k) ++ [lift k w1]) :=
        (r1.same (same_new hu _)).app (.cons ⟨u, rfl, upd_same⟩ .nil)
      refine r2.mono fun b xs e => ?_
      rw [upd_ne (fun z => ?_)]
      · exact e
      · subst z
        rw [upd_ne (Ne.symm nul), e1] at e
        cases e
    · rintro ys Hc ⟨s1, e1, r1⟩
      rw [el, List.take_length] at r1
      exact q l Hc hl s1 ⟨ys, e1, r1⟩
end
section
variable {P : Program} {w : World} {K : PySem.W.Frag} {mg : Str → Option Value} {base : Heap} {f : Addr} {fd : FuncData}
theorem sc_folded : FnScope ["_law_wide", "_law_half", "_law_below", "_law_found", "_law_gap"] ["_law_wide"] (defScope s_folded) := ⟨rfl, rfl, rfl, by decide +kernel, rfl, by decide +kernel, by decide +kernel⟩
def gapOf (σ : St) : Nat := match σ[4]? with
  | some (some (V.int g)) => g.toNat
  | _ => 0
theorem ok_folded0 : FnOk P w K mg base CX0 1 f fd ["_law_wide"] (spBuilt 0) :=
  ⟨fun vs H Q E ⟨wide, _, h1, h2, _⟩ => absurd h2 (by rcases h1 with h | h | h | h <;> subst h <;> decide), fun A outer s H args us vs Q E _ _ _ _ ⟨wide, _, h1, h2, _⟩ => absurd h2 (by rcases h1 with h | h | h | h <;> subst h <;> decide)⟩
theorem ok_folded1 {n m : Nat} (T : Bn mg) (F : Here K mg "_law_folded" s_folded f fd) (C_law_lifted : Callee P w K mg base "_law_lifted" 1 ["_law_wickets_here", "_law_by"] spLifted)
    (C_law_folded : Callee P w K mg base "_law_folded" (m + 1) ["_law_wide"] (spBuilt n)) : FnOk P w K mg base CX0 (m + 2) f fd ["_law_wide"] (spBuilt (n + 1)) := by
  refine F.fn.ok sc_folded (fun vs H Q E h => ?_) (fun cdv A outer s H vs Q E hr h => ?_)
  · obtain ⟨wide, rfl, _⟩ := h
    rfl
  · obtain ⟨wide, rfl, hp2, hn, q⟩ := h
    refine ⟨_, (pss_cons (ps_if (pt_cmpR op_eq (pv 0) pe_int (nomark _))
    (pss_one (ps_ret (pe_lst pa_nil)))
    pss_nil)
    (pss_cons (ps_set (i := 1) sc_folded.nd rfl (by first | exact Or.inl rfl | exact Or.inr rfl) (pe_op op_fdiv (pv 0) pe_int))
    (pss_cons (ps_set (i := 2) sc_folded.nd rfl (by first | exact Or.inl rfl | exact Or.inr rfl) (pe_callC C_law_folded (hr.mono (by first | decide | (first | lia | omega))) rfl (pa_cons (pv 1) pa_nil)))
    (pss_cons (ps_set (i := 3) sc_folded.nd rfl (by first | exact Or.inl rfl | exact Or.inr rfl) (pe_op op_cat (pe_op op_cat (pv 2) (pe_callC C_law_lifted (hr.mono (by first | decide | (first | lia | omega))) rfl (pa_cons (pv 2) (pa_cons (pv 1) pa_nil)))) (pe_comp ["_law_k"] [("_law_wide", 0)] rfl (pi_range1 rfl T.n_range (pa_cons (pv 1) pa_nil)) (fun _ _ _ _ _ _ => by exact (pg_name (i := 0) (show List.Nodup (["_law_k", "_law_wide"] : List Str) by decide +kernel) rfl (by first | exact Or.inl rfl | exact Or.inr rfl))) (fun _ _ _ _ _ _ => by exact pts_nil) (fun _ _ _ _ _ _ => by exact (pe_tup (pa_cons (pv 0) (pa_cons (pe_op op_sub (pe_op op_sub (pv 1) pe_int) (pv 0)) pa_nil)))))))
    (pss_cons (ps_set (i := 4) sc_folded.nd rfl (by first | exact Or.inl rfl | exact Or.inr rfl) (pe_op op_fdiv (pv 1) pe_int))
    (pss_cons (ps_while PassesOwn.never  (pt_cmpR op_gt (pv 4) pe_int (nomark _))
    (pss_cons (ps_set (i := 3) sc_folded.nd rfl (by first | exact Or.inl rfl | exact Or.inr rfl) (pe_op op_cat (pv 3) (pe_comp ["_law_k"] [("_law_gap", 4)] rfl (pi_range1 rfl T.n_range (pa_cons (pv 0) pa_nil)) (fun _ _ _ _ _ _ => by exact (pg_name (i := 0) (show List.Nodup (["_law_k", "_law_gap"] : List Str) by decide +kernel) rfl (by first | exact Or.inl rfl | exact Or.inr rfl))) (fun _ _ _ _ _ _ => by exact (pts_one (pt_cmpR op_eq (pe_op op_mod (pe_op op_fdiv (pv 0) (pv 1)) pe_int) pe_int (nomark _)))) (fun _ _ _ _ _ _ => by exact (pe_tup (pa_cons (pv 0) (pa_cons (pe_op op_add (pv 0) (pv 1)) pa_nil)))))))
    (pss_one (ps_set (i := 4) sc_folded.nd rfl (by first | exact Or.inl rfl | exact Or.inr rfl) (pe_op op_fdiv (pv 4) pe_int)))))
    (pss_one (ps_ret (pv 3))))))))), ?_⟩
    walk_at "rd"
    refine ite2 (fun g => ?_) (fun g => ?_)
    · walk_at "rd"
      intro l hl
      exact q l [] _ hl (same_new hl _) ⟨[], upd_same, .nil⟩ WOk.nil (by rcases hp2 with h | h | h | h <;> subst h <;> decide)
    · have hw : wide ≠ 1 := vne g
      obtain ⟨half, eh, hp3, hh⟩ : ∃ half, wide = 2 * half ∧ pow2 half ∧ half ≤ 4 := by
        rcases hp2 with h | h | h | h
        · exact absurd h hw
        · exact ⟨1, by (first | lia | omega), .inl rfl, by decide⟩
        · exact ⟨2, by (first | lia | omega), .inr (.inl rfl), by decide⟩
        · exact ⟨4, by (first | lia | omega), .inr (.inr (.inl rfl)), by decide⟩
      have e2 : wide / 2 = half := by (first | lia | omega)
      have hhn : half < 2 ^ n := by
        have e3 : (2 : Int) ^ (n + 1) = 2 * 2 ^ n := by rw [Int.pow_succ]; (first | lia | omega)
        (first | lia | omega)
      walk_at "rd"
      refine ⟨_, rfl, by rw [e2]; exact hp3, by rw [e2]; exact hhn, fun bl ws1 H1 fb s1 wl1 ok1 len1 => ?_⟩
      rw [e2] at ok1 len1
      obtain ⟨rs1, hb1, hr1⟩ := wl1
      have lr1 := hr1.len
      have half0 : 0 < half := by rcases hp3 with h | h | h | h <;> (first | lia | omega)
      have b64 : half * half ≤ 16 := by rcases hp3 with h | h | h | h <;> subst h <;> first | decide | (first | lia | omega)
      walk_at "rd"
      refine ⟨bl, ws1, wide / 2, rfl, ⟨rs1, hb1, hr1⟩, by (first | lia | omega), fun ll H2 fl2 s2 wl2 => ?_⟩
      obtain ⟨rs2, hb2, hr2⟩ := wl2
      have lr2 := hr2.len
      rw [List.length_map] at lr2
      refine ⟨bl, ll, rs1, rs2, rfl, rfl, s2 _ _ hb1, hb2, lenLine (by (first | lia | omega)), fun c1 fc1 => ?_⟩
      have okl : WOk wide (ws1 ++ ws1.map (lift (wide / 2))) := by
        refine WOk.app (fun w hw => ?_) (fun w hw => ?_)
        · have := ok1 w hw; (first | lia | omega)
        · obtain ⟨u, hu, rfl⟩ := List.mem_map.mp hw
          have := ok1 u hu
          show 0 ≤ u.1 + wide / 2 ∧ u.1 + wide / 2 < wide ∧ 0 ≤ u.2 + wide / 2 ∧ u.2 + wide / 2 < wide ∧ u.1 + wide / 2 ≠ u.2 + wide / 2
          (first | lia | omega)
      have rf1 : Refs (upd H2 c1 (HO.lst (rs1 ++ rs2))) (rs1 ++ rs2) (ws1 ++ ws1.map (lift (wide / 2))) := ((hr1.same s2).app hr2).same (same_new fc1 _)
      have sc1 : Same H (upd H2 c1 (HO.lst (rs1 ++ rs2))) := Same.trans (Same.trans s1 s2) (same_new fc1 _)
      generalize hH3 : upd H2 c1 (HO.lst (rs1 ++ rs2)) = H3 at rf1 sc1
      have hc1 : H3 c1 = some (.lst (rs1 ++ rs2)) := by rw [← hH3]; exact upd_same
      walk_at "rd"
      intro l3 fl3
      refine comp_range (n := (wide / 2).toNat) (CompW H3 l3 fun w => 0 ≤ w.1 ∧ w.1 < wide ∧ 0 ≤ w.2 ∧ w.2 < wide ∧ w.1 ≠ w.2) (CompW.start fl3) (lenLine (by (first | lia | omega))) (fun i ys Hc h => h.len) ?_ ?_
      · intro i ys Hc hi cw
        refine ⟨⟨.inl rfl, .inr rfl, trivial⟩, tru_if ?_⟩
        walk_at "rd"
        intro u hu
        exact cw.more fl3 hu (by show 0 ≤ 0 + (i : Int) ∧ 0 + (i : Int) < wide ∧ 0 ≤ wide - 1 - (0 + (i : Int)) ∧ wide - 1 - (0 + (i : Int)) < wide ∧ 0 + (i : Int) ≠ wide - 1 - (0 + (i : Int)); (first | lia | omega))
      rintro ys H4 ⟨s4, e4, us4, r4, g4, le4⟩
      have l4 := r4.len
      have lw : (rs1 ++ rs2).length = ws1.length + ws1.length := by rw [List.length_append]; (first | lia | omega)
      refine ⟨c1, l3, _, _, rfl, rfl, s4 _ _ hc1, e4, lenLine (by (first | lia | omega)), fun c5 fc5 => ?_⟩
      have rf5 : Refs (upd H4 c5 (HO.lst ((rs1 ++ rs2) ++ ys))) ((rs1 ++ rs2) ++ ys) ((ws1 ++ ws1.map (lift (wide / 2))) ++ us4) := ((rf1.same s4).app r4).same (same_new fc5 _)
      have sc5 : Same H (upd H4 c5 (HO.lst ((rs1 ++ rs2) ++ ys))) := Same.trans (Same.trans sc1 s4) (same_new fc5 _)
      have fr5 : H c5 = none := (Same.trans sc1 s4).free fc5
      walk_at "rd"
      refine while_by (fun σ Hc => ∃ (gap : Int) (fl : Addr) (ws : List (Int × Int)), σ = [some (.int wide), some (.int (wide / 2)), some (.ref bl), some (.ref fl), some (.int gap)] ∧ H fl = none ∧ Same H Hc ∧ WsL Hc fl ws ∧ WOk wide ws ∧ 0 ≤ gap ∧ gap ≤ 2 ∧ (gap = 2 → wide = 8) ∧ (1 ≤ gap → 4 ≤ wide) ∧ (ws.length : Int) + wide * gap ≤ wide * wide)
        (fun σ _ => gapOf σ) ⟨wide / 2 / 2, c5, _, rfl, fr5, sc5, ⟨_, upd_same, rf5⟩, okl.app g4, by (first | lia | omega), by (first | lia | omega), by (first | lia | omega), by (first | lia | omega), ?_⟩ ?_ ?_
      · rw [List.length_append, List.length_append, List.length_map]
        rcases hp3 with h | h | h | h <;> subst h <;> subst eh <;> simp at len1 le4 ⊢ <;> (first | lia | omega)
      · rintro σ Hc ⟨gap, fl, ws, rfl, frl, sc, ⟨rs, hfl, hrs⟩, ok, g0, g2, g8, g4', hlen⟩
        have lrs := hrs.len
        walk_at "rd"
        refine ite2 (fun g => ?_) (fun g => ?_)
        · have gp : 0 < gap := of_decide_eq_true g
          walk_at "rd"
          intro l6 fl6
          refine comp_range (n := wide.toNat) (CompW Hc l6 fun w => 0 ≤ w.1 ∧ w.1 < wide ∧ 0 ≤ w.2 ∧ w.2 < wide ∧ w.1 ≠ w.2) (CompW.start fl6) (lenLine (by (first | lia | omega))) (fun i ys Hc h => h.len) ?_ ?_
          · intro i ys Hd hi cw
            refine ⟨⟨.inl rfl, .inr rfl, trivial⟩, ?_⟩
            walk_at "rd"
            refine ite2 (fun g => ?_) (fun g => ?_)
            · have ge := veq g
              walk_at "rd"
              intro u hu
              refine cw.more fl6 hu ?_
              show 0 ≤ 0 + (i : Int) ∧ 0 + (i : Int) < wide ∧ 0 ≤ 0 + (i : Int) + gap ∧ 0 + (i : Int) + gap < wide ∧ 0 + (i : Int) ≠ 0 + (i : Int) + gap
              have g12 : gap = 1 ∨ gap = 2 := by (first | lia | omega)
              rcases g12 with h | h
              · subst h
                rcases hp3 with h | h | h | h <;> (first | lia | omega)
              · subst h
                (first | lia | omega)
            · exact cw.skip
          rintro ys H7 ⟨s7, e7, us7, r7, g7, le7⟩
          have l7 := r7.len
          have w64 : wide * wide ≤ 64 ∧ 0 ≤ wide * gap := ⟨by rcases hp3 with h | h | h | h <;> subst h <;> subst eh <;> first | decide | (first | lia | omega), Int.mul_nonneg (by (first | lia | omega)) (by (first | lia | omega))⟩
          refine ⟨fl, l6, _, _, rfl, rfl, s7 _ _ hfl, e7, lenLine (by (first | lia | omega)), fun c8 fc8 => ?_⟩
          walk_at "rd"
          refine ⟨⟨gap / 2, c8, ws ++ us7, rfl, (Same.trans sc s7).free fc8, Same.trans (Same.trans sc s7) (same_new fc8 _), ⟨_, upd_same, ((hrs.same s7).app r7).same (same_new fc8 _)⟩, ok.app g7, by (first | lia | omega), by (first | lia | omega), by (first | lia | omega), by (first | lia | omega), ?_⟩, ?_⟩
          · rw [List.length_append]
            have g12 : gap = 1 ∨ gap = 2 := by (first | lia | omega)
            rcases g12 with h | h <;> subst h
            · have : (1 : Int) / 2 = 0 := by decide
              rw [this]; (first | lia | omega)
            · have : (2 : Int) / 2 = 1 := by decide
              rw [this]; (first | lia | omega)
          · show (gap / 2).toNat < gap.toNat
            (first | lia | omega)
        · walk_at "rd"
          exact q fl ws Hc frl sc ⟨rs, hfl, hrs⟩ ok (by
            have : 0 ≤ wide * gap := Int.mul_nonneg (by (first | lia | omega)) g0
            (first | lia | omega))
      · rintro σ Hc Q1 Q2 hm ⟨v, e, h⟩
        refine ⟨v, e, ?_⟩
        obtain ⟨i, j, e1, e2, b, e3, h⟩ := h
        exact ⟨i, j, e1, e2, b, e3, hm _ _ h⟩
end
section
variable {P : Program} {w : World} {K : PySem.W.Frag} {mg : Str → Option Value} {base : Heap} {f : Addr} {fd : FuncData}
theorem sc_block : FnScope ["_law_wide", "_law_half", "_law_below"] ["_law_wide"] (defScope s_block) := ⟨rfl, rfl, rfl, by decide +kernel, rfl, by decide +kernel, by decide +kernel⟩
theorem ok_block0 : FnOk P w K mg base CX0 1 f fd ["_law_wide"] (spBuilt 0) :=
  ⟨fun vs H Q E ⟨wide, _, h1, h2, _⟩ => absurd h2 (by rcases h1 with h | h | h | h <;> subst h <;> decide), fun A outer s H args us vs Q E _ _ _ _ ⟨wide, _, h1, h2, _⟩ => absurd h2 (by rcases h1 with h | h | h | h <;> subst h <;> decide)⟩
theorem ok_block1 {n m : Nat} (T : Bn mg) (F : Here K mg "_law_block" s_block f fd) (C_law_lifted : Callee P w K mg base "_law_lifted" 1 ["_law_wickets_here", "_law_by"] spLifted)
    (C_law_block : Callee P w K mg base "_law_block" (m + 1) ["_law_wide"] (spBuilt n)) : FnOk P w K mg base CX0 (m + 2) f fd ["_law_wide"] (spBuilt (n + 1)) := by
  refine F.fn.ok sc_block (fun vs H Q E h => ?_) (fun cdv A outer s H vs Q E hr h => ?_)
  · obtain ⟨wide, rfl, _⟩ := h
    rfl
  · obtain ⟨wide, rfl, hp2, hn, q⟩ := h
    refine ⟨_, (pss_cons (ps_if (pt_cmpR op_eq (pv 0) pe_int (nomark _))
    (pss_one (ps_ret (pe_lst pa_nil)))
    pss_nil)
    (pss_cons (ps_set (i := 1) sc_block.nd rfl (by first | exact Or.inl rfl | exact Or.inr rfl) (pe_op op_fdiv (pv 0) pe_int))
    (pss_cons (ps_set (i := 2) sc_block.nd rfl (by first | exact Or.inl rfl | exact Or.inr rfl) (pe_callC C_law_block (hr.mono (by first | decide | (first | lia | omega))) rfl (pa_cons (pv 1) pa_nil)))
    (pss_one (ps_ret (pe_op op_cat (pe_op op_cat (pe_comp ["_law_k"] [("_law_wide", 0)] rfl (pi_range1 rfl T.n_range (pa_cons (pv 1) pa_nil)) (fun _ _ _ _ _ _ => by exact (pg_name (i := 0) (show List.Nodup (["_law_k", "_law_wide"] : List Str) by decide +kernel) rfl (by first | exact Or.inl rfl | exact Or.inr rfl))) (fun _ _ _ _ _ _ => by exact pts_nil) (fun _ _ _ _ _ _ => by exact (pe_tup (pa_cons (pv 0) (pa_cons (pe_op op_sub (pe_op op_sub (pv 1) pe_int) (pv 0)) pa_nil))))) (pv 2)) (pe_callC C_law_lifted (hr.mono (by first | decide | (first | lia | omega))) rfl (pa_cons (pv 2) (pa_cons (pv 1) pa_nil))))))))), ?_⟩
    walk_at "rd"
    refine ite2 (fun g => ?_) (fun g => ?_)
    · walk_at "rd"
      intro l hl
      exact q l [] _ hl (same_new hl _) ⟨[], upd_same, .nil⟩ WOk.nil (by rcases hp2 with h | h | h | h <;> subst h <;> decide)
    · have hw : wide ≠ 1 := vne g
      obtain ⟨half, eh, hp3, hh⟩ : ∃ half, wide = 2 * half ∧ pow2 half ∧ half ≤ 4 := by
        rcases hp2 with h | h | h | h
        · exact absurd h hw
        · exact ⟨1, by (first | lia | omega), .inl rfl, by decide⟩
        · exact ⟨2, by (first | lia | omega), .inr (.inl rfl), by decide⟩
        · exact ⟨4, by (first | lia | omega), .inr (.inr (.inl rfl)), by decide⟩
      have e2 : wide / 2 = half := by (first | lia | omega)
      have hhn : half < 2 ^ n := by
        have e3 : (2 : Int) ^ (n + 1) = 2 * 2 ^ n := by rw [Int.pow_succ]; (first | lia | omega)
        (first | lia | omega)
      walk_at "rd"
      refine ⟨_, rfl, by rw [e2]; exact hp3, by rw [e2]; exact hhn, fun bl ws1 H1 fb s1 wl1 ok1 len1 => ?_⟩
      rw [e2] at ok1 len1
      obtain ⟨rs1, hb1, hr1⟩ := wl1
      have lr1 := hr1.len
      have half0 : 0 < half := by rcases hp3 with h | h | h | h <;> (first | lia | omega)
      have b64 : half * half ≤ 16 := by rcases hp3 with h | h | h | h <;> subst h <;> first | decide | (first | lia | omega)
      walk_at "rd"
      intro l3 fl3
      refine comp_range (n := (wide / 2).toNat) (CompW H1 l3 fun w => 0 ≤ w.1 ∧ w.1 < wide ∧ 0 ≤ w.2 ∧ w.2 < wide ∧ w.1 ≠ w.2) (CompW.start fl3) (lenLine (by (first | lia | omega))) (fun i ys Hc h => h.len) ?_ ?_
      · intro i ys Hc hi cw
        refine ⟨⟨.inl rfl, .inr rfl, trivial⟩, tru_if ?_⟩
        walk_at "rd"
        intro u hu
        exact cw.more fl3 hu (by show 0 ≤ 0 + (i : Int) ∧ 0 + (i : Int) < wide ∧ 0 ≤ wide - 1 - (0 + (i : Int)) ∧ wide - 1 - (0 + (i : Int)) < wide ∧ 0 + (i : Int) ≠ wide - 1 - (0 + (i : Int)); (first | lia | omega))
      rintro ys H4 ⟨s4, e4, us4, r4, g4, le4⟩
      have l4 := r4.len
      walk_at "rd"
      refine ⟨l3, bl, _, _, rfl, rfl, e4, s4 _ _ hb1, lenLine (by (first | lia | omega)), fun c5 fc5 => ?_⟩
      have rf5 : Refs (upd H4 c5 (HO.lst (ys ++ rs1))) (ys ++ rs1) (us4 ++ ws1) := (r4.app (hr1.same s4)).same (same_new fc5 _)
      have sc5 : Same H1 (upd H4 c5 (HO.lst (ys ++ rs1))) := Same.trans s4 (same_new fc5 _)
      walk_at "rd"
      refine ⟨bl, ws1, wide / 2, rfl, ⟨rs1, sc5 _ _ hb1, hr1.same sc5⟩, by (first | lia | omega), fun ll H6 fl6 s6 wl6 => ?_⟩
      obtain ⟨rs6, hb6, hr6⟩ := wl6
      have lr6 := hr6.len
      rw [List.length_map] at lr6
      have le5 : (ys ++ rs1).length = us4.length + ws1.length := by rw [List.length_append]; (first | lia | omega)
      refine ⟨c5, ll, _, _, rfl, rfl, s6 _ _ upd_same, hb6, lenLine (by (first | lia | omega)), fun c7 fc7 => ?_⟩
      have okl : WOk wide ((us4 ++ ws1) ++ ws1.map (lift (wide / 2))) := by
        refine WOk.app (WOk.app g4 (fun w hw => ?_)) (fun w hw => ?_)
        · have := ok1 w hw; (first | lia | omega)
        · obtain ⟨u, hu, rfl⟩ := List.mem_map.mp hw
          have := ok1 u hu
          show 0 ≤ u.1 + wide / 2 ∧ u.1 + wide / 2 < wide ∧ 0 ≤ u.2 + wide / 2 ∧ u.2 + wide / 2 < wide ∧ u.1 + wide / 2 ≠ u.2 + wide / 2
          (first | lia | omega)
      refine q c7 _ _ ((Same.trans s1 (Same.trans sc5 s6)).free fc7) (Same.trans (Same.trans s1 (Same.trans sc5 s6)) (same_new fc7 _)) ⟨_, upd_same, ((rf5.same s6).app hr6).same (same_new fc7 _)⟩ okl ?_
      rw [List.length_append, List.length_append, List.length_map]
      rcases hp3 with h | h | h | h <;> subst h <;> subst eh <;> simp at len1 le4 ⊢ <;> (first | lia | omega)
end
section
variable {P : Program} {w : World} {K : PySem.W.Frag} {mg : Str → Option Value} {base : Heap} {f : Addr} {fd : FuncData}
theorem sc_brick : FnScope ["_law_wide", "_law_found", "_law_row"] ["_law_wide"] (defScope s_brick) := ⟨rfl, rfl, rfl, by decide +kernel, rfl, by decide +kernel, by decide +kernel⟩
theorem ok_brick (T : Bn mg) (F : Here K mg "_law_brick" s_brick f fd) : FnOk P w K mg base CX0 1 f fd ["_law_wide"] spBrick := by
  refine F.fn.ok sc_brick (fun vs H Q E h => ?_) (fun cdv A outer s H vs Q E hr h => ?_)
  · obtain ⟨wide, rfl, _⟩ := h
    rfl
  · obtain ⟨wide, rfl, w1, w8, q⟩ := h
    refine ⟨_, (pss_cons (ps_set (i := 1) sc_brick.nd rfl (by first | exact Or.inl rfl | exact Or.inr rfl) (pe_lst pa_nil))
    (pss_cons (ps_for PassesOwn.never rfl  (pi_range1 rfl T.n_range (pa_cons (pv 0) pa_nil)) (pg_name (i := 2) sc_brick.nd rfl (by first | exact Or.inl rfl | exact Or.inr rfl))
    (pss_one (ps_set (i := 1) sc_brick.nd rfl (by first | exact Or.inl rfl | exact Or.inr rfl) (pe_op op_cat (pv 1) (pe_comp ["_law_k"] [("_law_row", 2)] rfl (pi_range1 rfl T.n_range (pa_cons (pe_op op_sub (pv 0) pe_int) pa_nil)) (fun _ _ _ _ _ _ => by exact (pg_name (i := 0) (show List.Nodup (["_law_k", "_law_row"] : List Str) by decide +kernel) rfl (by first | exact Or.inl rfl | exact Or.inr rfl))) (fun _ _ _ _ _ _ => by exact (pts_one (pt_cmpR op_eq (pe_op op_mod (pv 0) pe_int) (pe_op op_mod (pv 1) pe_int) (nomark _)))) (fun _ _ _ _ _ _ => by exact (pe_tup (pa_cons (pv 0) (pa_cons (pe_op op_add (pv 0) pe_int) pa_nil)))))))))
    (pss_one (ps_ret (pv 1))))), ?_⟩
    walk_at "rd"
    intro l hl
    walk_at "rd"
    refine for_range (n := wide.toNat) (fun i σ Hc => ∃ (v2 : Option V) (fl : Addr) (ws : List (Int × Int)), σ = [some (.int wide), some (.ref fl), v2] ∧ H fl = none ∧ Same H Hc ∧ WsL Hc fl ws ∧ WOk wide ws ∧ ws.length ≤ i * 8)
      ⟨none, l, [], rfl, hl, Same.put hl (Same.refl H), ⟨[], upd_same, .nil⟩, WOk.nil, Nat.zero_le _⟩ ?_ ?_
    · rintro i σ Hc hlt ⟨v2, fl, ws, rfl, frl, sc, ⟨rs, hfl, hrs⟩, ok, len⟩
      have lrs := hrs.len
      walk_at "rd"
      intro l3 fl3
      refine comp_range (n := (wide - 1).toNat) (CompW Hc l3 fun w => 0 ≤ w.1 ∧ w.1 < wide ∧ 0 ≤ w.2 ∧ w.2 < wide ∧ w.1 ≠ w.2) (CompW.start fl3) (lenLine (by (first | lia | omega))) (fun i ys Hc h => h.len) ?_ ?_
      · intro j ys Hd hj cw
        refine ⟨⟨.inl rfl, .inr rfl, trivial⟩, ?_⟩
        walk_at "rd"
        refine ite2 (fun g => ?_) (fun g => ?_)
        · walk_at "rd"
          intro u hu
          exact cw.more fl3 hu (by show 0 ≤ 0 + (j : Int) ∧ 0 + (j : Int) < wide ∧ 0 ≤ 0 + (j : Int) + 1 ∧ 0 + (j : Int) + 1 < wide ∧ 0 + (j : Int) ≠ 0 + (j : Int) + 1; (first | lia | omega))
        · exact cw.skip
      rintro ys H7 ⟨s7, e7, us7, r7, g7, le7⟩
      have l7 := r7.len
      refine ⟨fl, l3, _, _, rfl, rfl, s7 _ _ hfl, e7, lenLine (by (first | lia | omega)), fun c8 fc8 => ?_⟩
      exact ⟨_, c8, ws ++ us7, rfl, (Same.trans sc s7).free fc8, Same.trans (Same.trans sc s7) (same_new fc8 _), ⟨_, upd_same, ((hrs.same s7).app r7).same (same_new fc8 _)⟩, ok.app g7, by rw [List.length_append]; (first | lia | omega)⟩
    · rintro σ Hc ⟨v2, fl, ws, rfl, frl, sc, wl, ok, len⟩
      walk_at "rd"
      exact q fl ws Hc frl sc wl ok (by (first | lia | omega))
end
section
variable {P : Program} {w : World} {K : PySem.W.Frag} {mg : Str → Option Value} {base : Heap} {f : Addr} {fd : FuncData}
theorem sc_rounds : FnScope ["_law_wide"] ["_law_wide"] (defScope s_rounds) := ⟨rfl, rfl, rfl, by decide +kernel, rfl, by decide +kernel, by decide +kernel⟩
theorem ok_rounds (F : Here K mg "_law_rounds" s_rounds f fd) (C_law_block : Callee P w K mg base "_law_block" 6 ["_law_wide"] (spBuilt 4)) : FnOk P w K mg base CX0 7 f fd ["_law_wide"] spRounds := by
  refine F.fn.ok sc_rounds (fun vs H Q E h => ?_) (fun cdv A outer s H vs Q E hr h => ?_)
  · obtain ⟨wide, rfl, _⟩ := h
    rfl
  · obtain ⟨wide, rfl, hp2, q⟩ := h
    refine ⟨_, (pss_one (ps_ret (pe_op op_rep (pe_callC C_law_block (hr.mono (by first | decide | (first | lia | omega))) rfl (pa_cons (pv 0) pa_nil)) (pe_ix ix_list (pe_lst (pa_cons pe_int (pa_cons pe_int (pa_cons pe_int (pa_cons pe_int (pa_cons pe_int (pa_cons pe_int (pa_cons pe_int (pa_cons pe_int (pa_cons pe_int pa_nil)))))))))) (pv 0) (fun _ _ => rfl))))), ?_⟩
    walk_at "rd"
    have wb : 0 ≤ wide ∧ wide < 9 ∧ wide * wide ≤ 64 := by rcases hp2 with h | h | h | h <;> subst h <;> decide
    refine ⟨_, rfl, hp2, by rcases hp2 with h | h | h | h <;> subst h <;> decide, fun bl ws1 H1 fb s1 wl1 ok1 len1 => ?_⟩
    obtain ⟨rs1, hb1, hr1⟩ := wl1
    have lr1 := hr1.len
    walk_at "rd"
    intro l2 fl2
    walk_at "rd"
    obtain ⟨k, ek, k0, k3⟩ : ∃ k : Int, atI [V.int 0, V.int 0, V.int 1, V.int 0, V.int 2, V.int 0, V.int 0, V.int 0, V.int 3] wide = some (.int k) ∧ 0 ≤ k ∧ k ≤ 3 := by
      rcases hp2 with h | h | h | h <;> subst h
      · exact ⟨0, rfl, by decide, by decide⟩
      · exact ⟨1, rfl, by decide, by decide⟩
      · exact ⟨2, rfl, by decide, by decide⟩
      · exact ⟨3, rfl, by decide, by decide⟩
    refine ⟨l2, _, wide, _, rfl, rfl, SqL.of upd_same, ek, ?_⟩
    have le : rs1.length * k.toNat ≤ 192 := by
      have : rs1.length ≤ 64 := by (first | lia | omega)
      calc rs1.length * k.toNat ≤ 64 * 3 := Nat.mul_le_mul this (by (first | lia | omega))
        _ = 192 := rfl
    refine ⟨bl, k, rs1, rfl, rfl, (same_new fl2 _) _ _ hb1, by (first | lia | omega), by (first | lia | omega), lenLine (by (first | lia | omega)), fun l3 fl3 => ?_⟩
    have sc : Same H (upd (upd H1 l2 (HO.lst [V.int 0, V.int 0, V.int 1, V.int 0, V.int 2, V.int 0, V.int 0, V.int 0, V.int 3])) l3 (HO.lst (List.replicate k.toNat rs1).flatten)) := Same.trans (Same.trans s1 (same_new fl2 _)) (same_new fl3 _)
    refine q l3 (List.replicate k.toNat ws1).flatten _ ((Same.trans s1 (same_new fl2 _)).free fl3) sc ⟨_, upd_same, ((hr1.same (same_new fl2 _)).same (same_new fl3 _)).rep _⟩ (ok1.rep _) ?_
    rw [len_rep, ← lr1, Nat.mul_comm]
    (first | lia | omega)
end
section
variable {P : Program} {w : World} {K : PySem.W.Frag} {mg : Str → Option Value} {base : Heap} {f : Addr} {fd : FuncData}
theorem sc_bent : FnScope ["_law_pen_here", "_law_wide", "_law_wickets_here", "_law_at", "_law_first", "_law_second", "_law_way", "_law_put"] ["_law_pen_here", "_law_wide", "_law_wickets_here"] (defScope s_bent) := ⟨rfl, rfl, rfl, by decide +kernel, rfl, by decide +kernel, by decide +kernel⟩
theorem ok_bent (T : Bn mg) (F : Here K mg "_law_bent" s_bent f fd) (C_law_take : Callee P w K mg base "_law_take" 1 ["_law_pen_here", "_law_size"] spTake)
    (C_law_wickets : Callee P w K mg base "_law_wickets" 2 ["_law_pen_here", "_law_wide", "_law_many"] spWickets) : FnOk P w K mg base CX0 3 f fd ["_law_pen_here", "_law_wide", "_law_wickets_here"] spBent := by
  refine F.fn.ok sc_bent (fun vs H Q E h => ?_) (fun cdv A outer s H vs Q E hr h => ?_)
  · obtain ⟨p, wide, a, ws, rfl, _⟩ := h
    rfl
  · obtain ⟨p, wide, a, ws, rfl, ⟨a0, b0, c0, hp0⟩, w1, w8, nap, ⟨rs, ha, hrs⟩, ok, len, q⟩ := h
    have lrs := hrs.len
    refine ⟨_, (pss_cons (ps_if (pt_cmpR (op_eqNil hr.units0) (pv 2) (pe_lst pa_nil) (nomark _))
    (pss_one (ps_ret (pv 2)))
    pss_nil)
    (pss_cons (ps_set (i := 3) sc_bent.nd rfl (by first | exact Or.inl rfl | exact Or.inr rfl) (pe_callC C_law_take (hr.mono (by first | decide | (first | lia | omega))) rfl (pa_cons (pv 0) (pa_cons (pe_callB call_len_seq rfl T.n_len PySem.boot_len (pa_cons (pv 2) pa_nil)) pa_nil))))
    (pss_cons (ps_asg (pe_ix ix_list (pv 2) (pv 3) (fun _ _ => rfl)) (pg_tup rfl (pgs_cons (pg_name (i := 4) sc_bent.nd rfl (by first | exact Or.inl rfl | exact Or.inr rfl)) (pgs_cons (pg_name (i := 5) sc_bent.nd rfl (by first | exact Or.inl rfl | exact Or.inr rfl)) pgs_nil))))
    (pss_cons (ps_set (i := 6) sc_bent.nd rfl (by first | exact Or.inl rfl | exact Or.inr rfl) (pe_callC C_law_take (hr.mono (by first | decide | (first | lia | omega))) rfl (pa_cons (pv 0) (pa_cons pe_int pa_nil))))
    (pss_cons (ps_set (i := 7) sc_bent.nd rfl (by first | exact Or.inl rfl | exact Or.inr rfl) (pe_ix ix_list (pe_lst (pa_cons (pe_lst pa_nil) (pa_cons (pe_lst (pa_cons (pe_tup (pa_cons (pv 5) (pa_cons (pv 4) pa_nil))) pa_nil)) (pa_cons (pe_op op_rep (pe_lst (pa_cons (pe_tup (pa_cons (pv 4) (pa_cons (pv 5) pa_nil))) pa_nil)) pe_int) (pa_cons (pe_op op_cat (pe_callC C_law_wickets (hr.mono (by first | decide | (first | lia | omega))) rfl (pa_cons (pv 0) (pa_cons (pv 1) (pa_cons pe_int pa_nil)))) (pe_lst (pa_cons (pe_tup (pa_cons (pv 4) (pa_cons (pv 5) pa_nil))) pa_nil))) pa_nil))))) (pv 6) (fun _ _ => rfl)))
    (pss_one (ps_ret (pe_op op_cat (pe_op op_cat (pe_slice sl_list (pv 2) po_none (po_some (pv 3))) (pv 7)) (pe_slice sl_list (pv 2) (po_some (pe_op op_add (pv 3) pe_int)) po_none))))))))), ?_⟩
    walk_at "rd"
    intro l0 f0
    obtain ⟨k1, hp1, x1, n1⟩ := fresh_step hp0 f0 (.lst [])
    generalize hH1 : upd H l0 (HO.lst []) = H1 at k1 hp1 x1
    refine ⟨a, l0, rs, rfl, rfl, SqL.of (k1 a _ ha nap), SqL.of x1, _, rfl, ?_⟩
    refine ite2 (fun g => ?_) (fun g => ?_)
    · walk_at "rd"
      exact q a ws H1 nap k1 ⟨a0, b0, c0, hp1⟩ ⟨rs, k1 a _ ha nap, hrs.kp k1 hp0⟩ ok (by (first | lia | omega))
    · have ne : rs ≠ [] := not_dec g
      have lpos : 0 < rs.length := List.length_pos_iff.mpr ne
      walk_at "rd"
      refine ⟨_, _, rfl, .inl (SqL.of (k1 a _ ha nap)), ?_⟩
      walk_at "rd"
      refine ⟨p, a0, b0, c0, rs.length, rfl, hp1, by (first | lia | omega), by (first | lia | omega), fun at_ a2 b2 c2 at0 atl => ?_⟩
      have k2 : Kp p H (upd H1 p (.lst [.int a2, .int b2, .int c2])) := Kp.trans k1 Kp.upd
      have hp2 : (upd H1 p (.lst [.int a2, .int b2, .int c2])) p = some (.lst [.int a2, .int b2, .int c2]) := upd_same
      generalize hH2 : upd H1 p (HO.lst [V.int a2, V.int b2, V.int c2]) = H2 at k2 hp2
      walk_at "rd"
      obtain ⟨t, w0, et, mw0, _, ht⟩ := atI_ref hrs at0 atl
      refine ⟨a, _, _, _, rfl, rfl, SqL.of (k2 a _ ha nap), et, ?_⟩
      refine ⟨t, _, rfl, SqT.of (k2.tup hp0 ht), rfl, ?_⟩
      refine ⟨_, _, rfl, _, _, rfl, rfl, ?_⟩
      obtain ⟨o1, o2, o3, o4, o5⟩ := ok w0 mw0
      walk_at "rd"
      refine ⟨p, a2, b2, c2, 4, rfl, hp2, by decide, by decide, fun way a3 b3 c3 way0 way4 => ?_⟩
      have k3 : Kp p H (upd H2 p (.lst [.int a3, .int b3, .int c3])) := Kp.trans k2 Kp.upd
      have hp3 : (upd H2 p (.lst [.int a3, .int b3, .int c3])) p = some (.lst [.int a3, .int b3, .int c3]) := upd_same
      generalize hH3 : upd H2 p (HO.lst [V.int a3, V.int b3, V.int c3]) = H3 at k3 hp3
      walk_at "rd"
      intro e0 f0'
      obtain ⟨k4, hp4, x4, n4⟩ := fresh_step hp3 f0' (.lst [])
      generalize hH4 : upd H3 e0 (HO.lst []) = H4 at k4 hp4 x4
      walk_at "rd"
      intro t1 f1
      obtain ⟨k5, hp5, x5, n5⟩ := fresh_step hp4 f1 (.tup [.int w0.2, .int w0.1])
      generalize hH5 : upd H4 t1 (HO.tup [V.int w0.2, V.int w0.1]) = H5 at k5 hp5 x5
      walk_at "rd"
      intro e1 f1'
      obtain ⟨k6, hp6, x6, n6⟩ := fresh_step hp5 f1' (.lst [.ref t1])
      generalize hH6 : upd H5 e1 (HO.lst [V.ref t1]) = H6 at k6 hp6 x6
      walk_at "rd"
      intro t2 f2
      obtain ⟨k7, hp7, x7, n7⟩ := fresh_step hp6 f2 (.tup [.int w0.1, .int w0.2])
      generalize hH7 : upd H6 t2 (HO.tup [V.int w0.1, V.int w0.2]) = H7 at k7 hp7 x7
      walk_at "rd"
      intro e2 f2'
      obtain ⟨k8, hp8, x8, n8⟩ := fresh_step hp7 f2' (.lst [.ref t2])
      generalize hH8 : upd H7 e2 (HO.lst [V.ref t2]) = H8 at k8 hp8 x8
      walk_at "rd"
      refine ⟨e2, 2, _, rfl, rfl, x8, by decide, by decide, lenLine (by show 1 * 2 ≤ 100000; decide), fun e3 f3 => ?_⟩
      obtain ⟨k9, hp9, x9, n9⟩ := fresh_step hp8 f3 (.lst [.ref t2, .ref t2])
      show tCons _ _ _ (upd H8 e3 (HO.lst [V.ref t2, V.ref t2])) _
      generalize hH9 : upd H8 e3 (HO.lst [V.ref t2, V.ref t2]) = H9 at k9 hp9 x9
      walk_at "rd"
      refine ⟨p, wide, 1, rfl, ⟨_, _, _, hp9⟩, w1, w8, by decide, by decide, fun e4 us4 H10 f4 k10 ⟨a10, b10, c10, hp10⟩ ⟨rs4, x10, hr10⟩ ok4 len4 => ?_⟩
      have n10 : e4 ≠ p := Ne.symm (ne_of_none hp9 f4)
      have l4 := hr10.len
      walk_at "rd"
      intro t3 f3'
      obtain ⟨k11, hp11, x11, n11⟩ := fresh_step hp10 f3' (.tup [.int w0.1, .int w0.2])
      generalize hH11 : upd H10 t3 (HO.tup [V.int w0.1, V.int w0.2]) = H11 at k11 hp11 x11
      walk_at "rd"
      intro e5 f5
      obtain ⟨k12, hp12, x12, n12⟩ := fresh_step hp11 f5 (.lst [.ref t3])
      generalize hH12 : upd H11 e5 (HO.lst [V.ref t3]) = H12 at k12 hp12 x12
      walk_at "rd"
      refine ⟨e4, e5, rs4, [.ref t3], rfl, rfl, k12 _ _ (k11 _ _ x10 n10) n10, x12, lenLine (by simp; (first | lia | omega)), fun e6 f6 => ?_⟩
      obtain ⟨k13, hp13, x13, n13⟩ := fresh_step hp12 f6 (.lst (rs4 ++ [.ref t3]))
      generalize hH13 : upd H12 e6 (HO.lst (rs4 ++ [V.ref t3])) = H13 at k13 hp13 x13
      walk_at "rd"
      intro e7 f7
      obtain ⟨k14, hp14, x14, n14⟩ := fresh_step hp13 f7 (.lst [.ref e0, .ref e1, .ref e3, .ref e6])
      generalize hH14 : upd H13 e7 (HO.lst [V.ref e0, V.ref e1, V.ref e3, V.ref e6]) = H14 at k14 hp14 x14
      -- all that was made stands at H14
      have kk13 : Kp p H12 H14 := Kp.trans k13 k14
      have kk12 : Kp p H11 H14 := Kp.trans k12 kk13
      have kk11 : Kp p H10 H14 := Kp.trans k11 kk12
      have kk10 : Kp p H9 H14 := Kp.trans k10 kk11
      have kk9 : Kp p H8 H14 := Kp.trans k9 kk10
      have kk8 : Kp p H7 H14 := Kp.trans k8 kk9
      have kk7 : Kp p H6 H14 := Kp.trans k7 kk8
      have kk6 : Kp p H5 H14 := Kp.trans k6 kk7
      have kk5 : Kp p H4 H14 := Kp.trans k5 kk6
      have kk4 : Kp p H H14 := Kp.trans k3 (Kp.trans k4 kk5)
      have put : ∃ (e : Addr) (qs : List V) (us : List (Int × Int)), atI [V.ref e0, V.ref e1, V.ref e3, V.ref e6] way = some (.ref e) ∧ e ≠ p ∧ H14 e = some (.lst qs) ∧ Refs H14 qs us ∧ WOk wide us ∧ us.length ≤ 3 := by
        have wc : way = 0 ∨ way = 1 ∨ way = 2 ∨ way = 3 := by (first | lia | omega)
        rcases wc with h | h | h | h <;> subst h
        · exact ⟨e0, [], [], rfl, n4, kk5 _ _ x4 n4, .nil, WOk.nil, by decide⟩
        · exact ⟨e1, [.ref t1], [(w0.2, w0.1)], rfl, n6, kk7 _ _ x6 n6, .cons ⟨t1, rfl, kk6 _ _ x5 n5⟩ .nil, WOk.one ⟨o3, o4, o1, o2, Ne.symm o5⟩, by simp⟩
        · exact ⟨e3, [.ref t2, .ref t2], [(w0.1, w0.2), (w0.1, w0.2)], rfl, n9, kk10 _ _ x9 n9, .cons ⟨t2, rfl, kk8 _ _ x7 n7⟩ (.cons ⟨t2, rfl, kk8 _ _ x7 n7⟩ .nil),
            WOk.app (WOk.one ⟨o1, o2, o3, o4, o5⟩) (WOk.one ⟨o1, o2, o3, o4, o5⟩), by simp⟩
        · exact ⟨e6, rs4 ++ [.ref t3], us4 ++ [(w0.1, w0.2)], rfl, n13, k14 _ _ x13 n13, (hr10.kp kk11 hp10).app (.cons ⟨t3, rfl, kk12 _ _ x11 n11⟩ .nil), ok4.app (WOk.one ⟨o1, o2, o3, o4, o5⟩), by simp; (first | lia | omega)⟩
      obtain ⟨e, qs, us, ee, ne', xe, hq, okq, lq⟩ := put
      have lqs := hq.len
      refine ⟨_, rfl, ?_⟩
      refine ⟨e7, _, _, _, rfl, rfl, SqL.of x14, ee, ?_⟩
      have ha14 := kk4 a _ ha nap
      have hr14 := hrs.kp kk4 hp0
      refine ⟨_, rfl, _, rfl, _, rfl, ?_⟩
      refine ⟨a, rs, rfl, SqL.of ha14, fun s1 fs1 => ?_⟩
      obtain ⟨us1, hc1, sub1, len1⟩ := hr14.cut none (some at_)
      obtain ⟨k15, hp15, x15, n15⟩ := fresh_step hp14 fs1 (.lst (cutV rs none (some at_)))
      generalize hH15 : upd H14 s1 (HO.lst (cutV rs none (some at_))) = H15 at k15 hp15 x15
      have lc1 := hc1.len
      walk_at "rd"
      refine ⟨s1, e, _, _, rfl, rfl, x15, k15 _ _ xe ne', lenLine (by (first | lia | omega)), fun s2 fs2 => ?_⟩
      obtain ⟨k16, hp16, x16, n16⟩ := fresh_step hp15 fs2 (.lst (cutV rs none (some at_) ++ qs))
      generalize hH16 : upd H15 s2 (HO.lst (cutV rs none (some at_) ++ qs)) = H16 at k16 hp16 x16
      refine ⟨_, rfl, _, rfl, _, _, rfl, rfl, _, rfl, ?_⟩
      refine ⟨a, rs, rfl, SqL.of (k16 _ _ (k15 _ _ ha14 nap) nap), fun s3 fs3 => ?_⟩
      obtain ⟨us3, hc3, sub3, len3⟩ := hr14.cut (some (at_ + 1)) none
      obtain ⟨k17, hp17, x17, n17⟩ := fresh_step hp16 fs3 (.lst (cutV rs (some (at_ + 1)) none))
      generalize hH17 : upd H16 s3 (HO.lst (cutV rs (some (at_ + 1)) none)) = H17 at k17 hp17 x17
      have lc3 := hc3.len
      refine ⟨s2, s3, _, _, rfl, rfl, k17 _ _ x16 n16, x17, lenLine (by rw [List.length_append]; (first | lia | omega)), fun s4 fs4 => ?_⟩
      obtain ⟨k18, hp18, x18, n18⟩ := fresh_step hp17 fs4 (.lst ((cutV rs none (some at_) ++ qs) ++ cutV rs (some (at_ + 1)) none))
      have kk14 : Kp p H14 _ := Kp.trans k15 (Kp.trans k16 (Kp.trans k17 k18))
      refine q s4 ((us1 ++ us) ++ us3) _ n18 (Kp.trans kk4 kk14) ⟨_, _, _, hp18⟩ ⟨_, x18, (((hc1.app hq).app hc3).kp kk14 hp14)⟩ (WOk.app (WOk.app (ok.sub sub1) okq) (ok.sub sub3)) ?_
      rw [List.length_append, List.length_append]
      (first | lia | omega)
end
section
variable {P : Program} {w : World} {K : PySem.W.Frag} {mg : Str → Option Value} {base : Heap} {f : Addr} {fd : FuncData}
theorem sc_net : FnScope ["_law_pen_here", "_law_way", "_law_wide", "_law_found"] ["_law_pen_here"] (defScope s_net) := ⟨rfl, rfl, rfl, by decide +kernel, rfl, by decide +kernel, by decide +kernel⟩
theorem ok_net (T : Bn mg) (F : Here K mg "_law_net" s_net f fd) (C_law_take : Callee P w K mg base "_law_take" 1 ["_law_pen_here", "_law_size"] spTake)
    (C_law_wickets : Callee P w K mg base "_law_wickets" 2 ["_law_pen_here", "_law_wide", "_law_many"] spWickets) (C_law_folded : Callee P w K mg base "_law_folded" 6 ["_law_wide"] (spBuilt 4))
    (C_law_rounds : Callee P w K mg base "_law_rounds" 7 ["_law_wide"] spRounds) (C_law_brick : Callee P w K mg base "_law_brick" 1 ["_law_wide"] spBrick)
    (C_law_bent : Callee P w K mg base "_law_bent" 3 ["_law_pen_here", "_law_wide", "_law_wickets_here"] spBent) : FnOk P w K mg base CX0 8 f fd ["_law_pen_here"] spNet := by
  refine F.fn.ok sc_net (fun vs H Q E h => ?_) (fun cdv A outer s H vs Q E hr h => ?_)
  · obtain ⟨p, rfl, _⟩ := h
    rfl
  · obtain ⟨p, rfl, ⟨a0, b0, c0, hp0⟩, q⟩ := h
    -- the last row
    have fin : ∀ (way wide : Int) (fl : Addr) (ws : List (Int × Int)) (Hc : Hp), Kp p H Hc → Pen Hc p → WsL Hc fl ws → 1 ≤ wide → wide ≤ 8 → WOk wide ws →
        tRet (tTup (tCons (tVar 2) (tCons (tCB (P_call_tuple_of K) (tCons (tSl (rSlL K) (tVar 3) tNoPart (tPart (tC (.int 40)))) tNil)) tNil))) { nx := fun _ H' => Q .non H', rt := Q } [some (.ref p), some (.int way), some (.int wide), some (.ref fl)] Hc := by
      rintro way wide fl ws Hc kp ⟨a1, b1, c1, hp1⟩ ⟨rs, hfl, hrs⟩ w1 w8 ok
      refine ⟨_, rfl, _, rfl, _, rfl, ?_⟩
      refine ⟨fl, rs, rfl, SqL.of hfl, fun s1 fs1 => ?_⟩
      have hc1 : Refs Hc (cutV rs none (some 40)) ((ws.drop (HT.sIx rs.length 0 none)).take (HT.sIx rs.length rs.length (some 40) - HT.sIx rs.length 0 none)) := (hrs.drop _).take _
      have sub1 : ∀ w ∈ (ws.drop (HT.sIx rs.length 0 none)).take (HT.sIx rs.length rs.length (some 40) - HT.sIx rs.length 0 none), w ∈ ws := fun w hw => List.mem_of_mem_drop (List.mem_of_mem_take hw)
      have le1 : ((ws.drop (HT.sIx rs.length 0 none)).take (HT.sIx rs.length rs.length (some 40) - HT.sIx rs.length 0 none)).length ≤ 40 := by
        rw [List.length_take]
        have e : HT.sIx rs.length rs.length (some ((40 : Nat) : Int)) = min 40 rs.length := HT.sIx_nat _ _ 40
        have e' : HT.sIx rs.length rs.length (some 40) = min 40 rs.length := e
        rw [e']
        (first | lia | omega)
      generalize (ws.drop (HT.sIx rs.length 0 none)).take (HT.sIx rs.length rs.length (some 40) - HT.sIx rs.length 0 none) = us at hc1 sub1 le1
      obtain ⟨k2, hp2, x2, n2⟩ := fresh_step hp1 fs1 (.lst (cutV rs none (some 40)))
      generalize hH2 : upd Hc s1 (HO.lst (cutV rs none (some 40))) = H2 at k2 hp2 x2
      refine ⟨s1, _, rfl, .inl ⟨SqL.of x2, fun t3 ft3 => ?_⟩⟩
      obtain ⟨k3, hp3, x3, n3⟩ := fresh_step hp2 ft3 (.tup (cutV rs none (some 40)))
      generalize hH3 : upd H2 t3 (HO.tup (cutV rs none (some 40))) = H3 at k3 hp3 x3
      refine ⟨lenLine (by show 2 ≤ 100000; decide), fun n4 fn4 => ?_⟩
      obtain ⟨k4, hp4, x4, m4⟩ := fresh_step hp3 fn4 (.tup [.int wide, .ref t3])
      exact q (.ref n4) wide us _ (Kp.trans kp (Kp.trans k2 (Kp.trans k3 k4))) ⟨_, _, _, hp4⟩ ⟨n4, t3, _, rfl, x4, k4 _ _ x3 n3, hc1.kp (Kp.trans k2 (Kp.trans k3 k4)) hp1⟩ w1 w8 (ok.sub sub1) (by (first | lia | omega))
    refine ⟨_, (pss_cons (ps_set (i := 1) sc_net.nd rfl (by first | exact Or.inl rfl | exact Or.inr rfl) (pe_callC C_law_take (hr.mono (by first | decide | (first | lia | omega))) rfl (pa_cons (pv 0) (pa_cons pe_int pa_nil))))
    (pss_cons (ps_if (pt_cmpR op_lt (pv 1) pe_int (nomark _))
    (pss_cons (ps_set (i := 2) sc_net.nd rfl (by first | exact Or.inl rfl | exact Or.inr rfl) (pe_op op_add pe_int (pe_callC C_law_take (hr.mono (by first | decide | (first | lia | omega))) rfl (pa_cons (pv 0) (pa_cons pe_int pa_nil)))))
    (pss_one (ps_ret (pe_tup (pa_cons (pv 2) (pa_cons (pe_callTy call_tuple_of rfl T.n_tuple boot_tupleT (pa_cons (pe_callC C_law_wickets (hr.mono (by first | decide | (first | lia | omega))) rfl (pa_cons (pv 0) (pa_cons (pv 2) (pa_cons (pe_callC C_law_take (hr.mono (by first | decide | (first | lia | omega))) rfl (pa_cons (pv 0) (pa_cons (pe_ix ix_list (pe_lst (pa_cons pe_int (pa_cons pe_int (pa_cons pe_int pa_nil)))) (pv 1) (fun _ _ => rfl)) pa_nil))) pa_nil)))) pa_nil)) pa_nil))))))
    pss_nil)
    (pss_cons (ps_set (i := 2) sc_net.nd rfl (by first | exact Or.inl rfl | exact Or.inr rfl) (pe_ix ix_list (pe_lst (pa_cons pe_int (pa_cons pe_int (pa_cons pe_int (pa_cons pe_int (pa_cons pe_int pa_nil)))))) (pe_callC C_law_take (hr.mono (by first | decide | (first | lia | omega))) rfl (pa_cons (pv 0) (pa_cons pe_int pa_nil))) (fun _ _ => rfl)))
    (pss_cons (ps_set (i := 3) sc_net.nd rfl (by first | exact Or.inl rfl | exact Or.inr rfl) (pe_ix ix_list (pe_lst (pa_cons (pe_callC C_law_folded (hr.mono (by first | decide | (first | lia | omega))) rfl (pa_cons (pv 2) pa_nil)) (pa_cons (pe_callC C_law_rounds (hr.mono (by first | decide | (first | lia | omega))) rfl (pa_cons (pv 2) pa_nil)) pa_nil))) (pe_callC C_law_take (hr.mono (by first | decide | (first | lia | omega))) rfl (pa_cons (pv 0) (pa_cons pe_int pa_nil))) (fun _ _ => rfl)))
    (pss_cons (ps_if (pt_cmpR op_eq (pv 1) pe_int (nomark _))
    (pss_cons (ps_set (i := 2) sc_net.nd rfl (by first | exact Or.inl rfl | exact Or.inr rfl) (pe_op op_add pe_int (pe_callC C_law_take (hr.mono (by first | decide | (first | lia | omega))) rfl (pa_cons (pv 0) (pa_cons pe_int pa_nil)))))
    (pss_one (ps_set (i := 3) sc_net.nd rfl (by first | exact Or.inl rfl | exact Or.inr rfl) (pe_callC C_law_brick (hr.mono (by first | decide | (first | lia | omega))) rfl (pa_cons (pv 2) pa_nil)))))
    pss_nil)
    (pss_cons (ps_if (pt_cmpR op_eq (pv 1) pe_int (nomark _))
    (pss_one (ps_set (i := 3) sc_net.nd rfl (by first | exact Or.inl rfl | exact Or.inr rfl) (pe_callC C_law_bent (hr.mono (by first | decide | (first | lia | omega))) rfl (pa_cons (pv 0) (pa_cons (pv 2) (pa_cons (pv 3) pa_nil))))))
    pss_nil)
    (pss_cons (ps_if (pt_cmpR op_eq (pv 1) pe_int (nomark _))
    (pss_one (ps_set (i := 3) sc_net.nd rfl (by first | exact Or.inl rfl | exact Or.inr rfl) (pe_op op_cat (pe_callC C_law_wickets (hr.mono (by first | decide | (first | lia | omega))) rfl (pa_cons (pv 0) (pa_cons (pv 2) (pa_cons (pe_callC C_law_take (hr.mono (by first | decide | (first | lia | omega))) rfl (pa_cons (pv 0) (pa_cons pe_int pa_nil))) pa_nil)))) (pv 3))))
    pss_nil)
    (pss_cons (ps_if (pt_cmpR op_eq (pv 1) pe_int (nomark _))
    (pss_one (ps_set (i := 3) sc_net.nd rfl (by first | exact Or.inl rfl | exact Or.inr rfl) (pe_op op_cat (pv 3) (pe_callC C_law_wickets (hr.mono (by first | decide | (first | lia | omega))) rfl (pa_cons (pv 0) (pa_cons (pv 2) (pa_cons (pe_callC C_law_take (hr.mono (by first | decide | (first | lia | omega))) rfl (pa_cons (pv 0) (pa_cons pe_int pa_nil))) pa_nil)))))))
    pss_nil)
    (pss_one (ps_ret (pe_tup (pa_cons (pv 2) (pa_cons (pe_callTy call_tuple_of rfl T.n_tuple boot_tupleT (pa_cons (pe_slice sl_list (pv 3) po_none (po_some pe_int)) pa_nil)) pa_nil))))))))))))), ?_⟩
    walk_at "rd"
    refine ⟨p, a0, b0, c0, 8, rfl, hp0, by decide, by decide, fun way a1 b1 c1 way0 way8 => ?_⟩
    have k1 : Kp p H (upd H p (.lst [.int a1, .int b1, .int c1])) := Kp.upd
    have hp1 : (upd H p (.lst [.int a1, .int b1, .int c1])) p = some (.lst [.int a1, .int b1, .int c1]) := upd_same
    generalize hH1 : upd H p (HO.lst [V.int a1, V.int b1, V.int c1]) = H1 at k1 hp1
    walk_at "rd"
    refine ite2 (fun g => ?_) (fun g => ?_)
    · have g3 : way < 3 := of_decide_eq_true g
      walk_at "rd"
      refine ⟨p, _, _, _, 8, rfl, hp1, by decide, by decide, fun v2 a2 b2 c2 v20 v28 => ?_⟩
      have k2 : Kp p H (upd H1 p (.lst [.int a2, .int b2, .int c2])) := Kp.trans k1 Kp.upd
      have hp2 : (upd H1 p (.lst [.int a2, .int b2, .int c2])) p = some (.lst [.int a2, .int b2, .int c2]) := upd_same
      generalize hH2 : upd H1 p (HO.lst [V.int a2, V.int b2, V.int c2]) = H2 at k2 hp2
      walk_at "rd"
      intro l3 fl3
      obtain ⟨k3, hp3, x3, n3⟩ := fresh_step hp2 fl3 (.lst [.int 4, .int 12, .int 41])
      generalize hH3 : upd H2 l3 (HO.lst [V.int 4, V.int 12, V.int 41]) = H3 at k3 hp3 x3
      obtain ⟨z, ez, z0, z41⟩ : ∃ z : Int, atI [V.int 4, V.int 12, V.int 41] way = some (.int z) ∧ 0 < z ∧ z ≤ 41 := by
        have wc : way = 0 ∨ way = 1 ∨ way = 2 := by (first | lia | omega)
        rcases wc with h | h | h <;> subst h
        · exact ⟨4, rfl, by decide, by decide⟩
        · exact ⟨12, rfl, by decide, by decide⟩
        · exact ⟨41, rfl, by decide, by decide⟩
      walk_at "rd"
      refine ⟨p, _, _, _, z, rfl, hp3, by (first | lia | omega), by (first | lia | omega), fun many a4 b4 c4 m0 mz => ?_⟩
      have k4 : Kp p H (upd H3 p (.lst [.int a4, .int b4, .int c4])) := Kp.trans k2 (Kp.trans k3 Kp.upd)
      have hp4 : (upd H3 p (.lst [.int a4, .int b4, .int c4])) p = some (.lst [.int a4, .int b4, .int c4]) := upd_same
      generalize hH4 : upd H3 p (HO.lst [V.int a4, V.int b4, V.int c4]) = H4 at k4 hp4
      refine ⟨p, 1 + v2, many, rfl, ⟨_, _, _, hp4⟩, by (first | lia | omega), by (first | lia | omega), m0, by (first | lia | omega), fun l5 ws5 H5 f5 k5 ⟨a5, b5, c5, hp5⟩ ⟨rs5, x5, hr5⟩ ok5 len5 => ?_⟩
      refine ⟨l5, _, rfl, .inl ⟨SqL.of x5, fun t6 ft6 => ?_⟩⟩
      obtain ⟨k6, hp6, x6, n6⟩ := fresh_step hp5 ft6 (.tup rs5)
      generalize hH6 : upd H5 t6 (HO.tup rs5) = H6 at k6 hp6 x6
      refine ⟨lenLine (by show 2 ≤ 100000; decide), fun n7 fn7 => ?_⟩
      obtain ⟨k7, hp7, x7, m7⟩ := fresh_step hp6 fn7 (.tup [.int (1 + v2), .ref t6])
      exact q (.ref n7) (1 + v2) ws5 _ (Kp.trans k4 (Kp.trans k5 (Kp.trans k6 k7))) ⟨_, _, _, hp7⟩ ⟨n7, t6, _, rfl, x7, k7 _ _ x6 n6, hr5.kp (Kp.trans k6 k7) hp5⟩ (by (first | lia | omega)) (by (first | lia | omega)) ok5 (by (first | lia | omega))
    · have g3 : ¬ way < 3 := not_dec g
      walk_at "rd"
      intro l2 fl2
      obtain ⟨k2, hp2, x2, n2⟩ := fresh_step hp1 fl2 (.lst [.int 2, .int 4, .int 4, .int 8, .int 1])
      generalize hH2 : upd H1 l2 (HO.lst [V.int 2, V.int 4, V.int 4, V.int 8, V.int 1]) = H2 at k2 hp2 x2
      walk_at "rd"
      refine ⟨p, _, _, _, 5, rfl, hp2, by decide, by decide, fun v3 a3 b3 c3 v30 v35 => ?_⟩
      have k3 : Kp p H (upd H2 p (.lst [.int a3, .int b3, .int c3])) := Kp.trans k1 (Kp.trans k2 Kp.upd)
      have hp3 : (upd H2 p (.lst [.int a3, .int b3, .int c3])) p = some (.lst [.int a3, .int b3, .int c3]) := upd_same
      have x3 : (upd H2 p (.lst [.int a3, .int b3, .int c3])) l2 = some (.lst [.int 2, .int 4, .int 4, .int 8, .int 1]) := by rw [upd_ne n2]; exact x2
      generalize hH3 : upd H2 p (HO.lst [V.int a3, V.int b3, V.int c3]) = H3 at k3 hp3 x3
      obtain ⟨wide, ez, hpw⟩ : ∃ z : Int, atI [V.int 2, V.int 4, V.int 4, V.int 8, V.int 1] v3 = some (.int z) ∧ pow2 z := by
        have wc : v3 = 0 ∨ v3 = 1 ∨ v3 = 2 ∨ v3 = 3 ∨ v3 = 4 := by (first | lia | omega)
        rcases wc with h | h | h | h | h <;> subst h
        · exact ⟨2, rfl, .inr (.inl rfl)⟩
        · exact ⟨4, rfl, .inr (.inr (.inl rfl))⟩
        · exact ⟨4, rfl, .inr (.inr (.inl rfl))⟩
        · exact ⟨8, rfl, .inr (.inr (.inr rfl))⟩
        · exact ⟨1, rfl, .inl rfl⟩
      have w18 : 1 ≤ wide ∧ wide ≤ 8 ∧ wide * wide ≤ 64 ∧ wide < 2 ^ 4 := by rcases hpw with h | h | h | h <;> subst h <;> decide
      refine ⟨l2, _, _, _, rfl, rfl, SqL.of x3, ez, ?_⟩
      refine ⟨_, rfl, wide, rfl, hpw, w18.2.2.2, fun l4 ws4 H4 f4 s4 ⟨rs4, x4, hr4⟩ ok4 len4 => ?_⟩
      refine ⟨_, rfl, wide, rfl, hpw, fun l5 ws5 H5 f5 s5 ⟨rs5, x5, hr5⟩ ok5 len5 => ?_⟩
      have hp5 := s5 _ _ (s4 _ _ hp3)
      have k5 : Kp p H H5 := Kp.trans k3 (Kp.same (Same.trans s4 s5))
      have n4 : l4 ≠ p := Ne.symm (ne_of_none hp3 f4)
      have n5 : l5 ≠ p := Ne.symm (ne_of_none (s4 _ _ hp3) f5)
      walk_at "rd"
      intro l6 f6
      obtain ⟨k6, hp6, x6, n6⟩ := fresh_step hp5 f6 (.lst [.ref l4, .ref l5])
      generalize hH6 : upd H5 l6 (HO.lst [V.ref l4, V.ref l5]) = H6 at k6 hp6 x6
      walk_at "rd"
      refine ⟨p, _, _, _, 2, rfl, hp6, by decide, by decide, fun v7 a7 b7 c7 v70 v72 => ?_⟩
      have k67 : Kp p H5 (upd H6 p (.lst [.int a7, .int b7, .int c7])) := Kp.trans k6 Kp.upd
      have hp7 : (upd H6 p (.lst [.int a7, .int b7, .int c7])) p = some (.lst [.int a7, .int b7, .int c7]) := upd_same
      have x7 : (upd H6 p (.lst [.int a7, .int b7, .int c7])) l6 = some (.lst [.ref l4, .ref l5]) := by rw [upd_ne n6]; exact x6
      generalize hH7 : upd H6 p (HO.lst [V.int a7, V.int b7, V.int c7]) = H7 at k67 hp7 x7
      have k7 : Kp p H H7 := Kp.trans k5 k67
      obtain ⟨fl, ws, efl, nfl, wlf, okf, lef⟩ : ∃ (fl : Addr) (ws : List (Int × Int)), atI [V.ref l4, V.ref l5] v7 = some (.ref fl) ∧ fl ≠ p ∧ WsL H7 fl ws ∧ WOk wide ws ∧ ws.length ≤ 200 := by
        have wc : v7 = 0 ∨ v7 = 1 := by (first | lia | omega)
        rcases wc with h | h <;> subst h
        · exact ⟨l4, ws4, rfl, n4, WsL.kp k67 hp5 n4 ⟨rs4, s5 _ _ x4, hr4.same s5⟩, ok4, by (first | lia | omega)⟩
        · exact ⟨l5, ws5, rfl, n5, WsL.kp k67 hp5 n5 ⟨rs5, x5, hr5⟩, ok5, by (first | lia | omega)⟩
      refine ⟨l6, _, _, _, rfl, rfl, SqL.of x7, efl, ?_⟩
      have wc : way = 3 ∨ way = 4 ∨ way = 5 ∨ way = 6 ∨ way = 7 := by (first | lia | omega)
      rcases wc with h | h | h | h | h <;> subst h
      · -- brick
        refine ⟨_, rfl, rfl, _, rfl, iteTd (by decide) ?_⟩
        walk_at "rd"
        refine ⟨p, _, _, _, 8, rfl, hp7, by decide, by decide, fun v8 a8 b8 c8 v80 v88 => ?_⟩
        have k8 : Kp p H (upd H7 p (.lst [.int a8, .int b8, .int c8])) := Kp.trans k7 Kp.upd
        have hp8 : (upd H7 p (.lst [.int a8, .int b8, .int c8])) p = some (.lst [.int a8, .int b8, .int c8]) := upd_same
        generalize hH8 : upd H7 p (HO.lst [V.int a8, V.int b8, V.int c8]) = H8 at k8 hp8
        walk_at "rd"
        refine ⟨_, rfl, by (first | lia | omega), by (first | lia | omega), fun l9 ws9 H9 f9 s9 wl9 ok9 len9 => ?_⟩
        refine ⟨_, rfl, rfl, _, rfl, iteFd (by decide) ?_⟩
        refine ⟨_, rfl, rfl, _, rfl, iteFd (by decide) ?_⟩
        refine ⟨_, rfl, rfl, _, rfl, iteFd (by decide) ?_⟩
        exact fin 3 (1 + v8) l9 ws9 H9 (Kp.trans k8 (Kp.same s9)) ⟨_, _, _, s9 _ _ hp8⟩ wl9 (by (first | lia | omega)) (by (first | lia | omega)) ok9
      · -- bent
        refine ⟨_, rfl, rfl, _, rfl, iteFd (by decide) ?_⟩
        refine ⟨_, rfl, rfl, _, rfl, iteTd (by decide) ?_⟩
        walk_at "rd"
        refine ⟨p, wide, fl, ws, rfl, ⟨_, _, _, hp7⟩, w18.1, w18.2.1, nfl, wlf, okf, by (first | lia | omega), fun l9 us9 H9 n9 k9 pn9 wl9 ok9 len9 => ?_⟩
        refine ⟨_, rfl, rfl, _, rfl, iteFd (by decide) ?_⟩
        refine ⟨_, rfl, rfl, _, rfl, iteFd (by decide) ?_⟩
        exact fin 4 wide l9 us9 H9 (Kp.trans k7 k9) pn9 wl9 w18.1 w18.2.1 ok9
      · -- some ahead
        refine ⟨_, rfl, rfl, _, rfl, iteFd (by decide) ?_⟩
        refine ⟨_, rfl, rfl, _, rfl, iteFd (by decide) ?_⟩
        refine ⟨_, rfl, rfl, _, rfl, iteTd (by decide) ?_⟩
        walk_at "rd"
        refine ⟨p, _, _, _, 4, rfl, hp7, by decide, by decide, fun v8 a8 b8 c8 v80 v84 => ?_⟩
        have k78 : Kp p H7 (upd H7 p (.lst [.int a8, .int b8, .int c8])) := Kp.upd
        have hp8 : (upd H7 p (.lst [.int a8, .int b8, .int c8])) p = some (.lst [.int a8, .int b8, .int c8]) := upd_same
        generalize hH8 : upd H7 p (HO.lst [V.int a8, V.int b8, V.int c8]) = H8 at k78 hp8
        refine ⟨p, wide, v8, rfl, ⟨_, _, _, hp8⟩, w18.1, w18.2.1, v80, by (first | lia | omega), fun l9 ws9 H9 f9 k9 ⟨a9, b9, c9, hp9⟩ ⟨rs9, x9, hr9⟩ ok9 len9 => ?_⟩
        obtain ⟨rsf, xf, hrf⟩ := WsL.kp (Kp.trans k78 k9) hp7 nfl wlf
        have lr9 := hr9.len
        have lrf := hrf.len
        walk_at "rd"
        refine ⟨l9, fl, _, _, rfl, rfl, x9, xf, lenLine (by (first | lia | omega)), fun l10 f10 => ?_⟩
        obtain ⟨k10, hp10, x10, n10⟩ := fresh_step hp9 f10 (.lst (rs9 ++ rsf))
        generalize hH10 : upd H9 l10 (HO.lst (rs9 ++ rsf)) = H10 at k10 hp10 x10
        refine ⟨_, rfl, rfl, _, rfl, iteFd (by decide) ?_⟩
        exact fin 5 wide l10 (ws9 ++ ws) H10 (Kp.trans k7 (Kp.trans k78 (Kp.trans k9 k10))) ⟨_, _, _, hp10⟩ ⟨_, x10, (hr9.app hrf).kp k10 hp9⟩ w18.1 w18.2.1 (ok9.app okf)
      · -- some behind
        refine ⟨_, rfl, rfl, _, rfl, iteFd (by decide) ?_⟩
        refine ⟨_, rfl, rfl, _, rfl, iteFd (by decide) ?_⟩
        refine ⟨_, rfl, rfl, _, rfl, iteFd (by decide) ?_⟩
        refine ⟨_, rfl, rfl, _, rfl, iteTd (by decide) ?_⟩
        walk_at "rd"
        refine ⟨p, _, _, _, 3, rfl, hp7, by decide, by decide, fun v8 a8 b8 c8 v80 v84 => ?_⟩
        have k78 : Kp p H7 (upd H7 p (.lst [.int a8, .int b8, .int c8])) := Kp.upd
        have hp8 : (upd H7 p (.lst [.int a8, .int b8, .int c8])) p = some (.lst [.int a8, .int b8, .int c8]) := upd_same
        generalize hH8 : upd H7 p (HO.lst [V.int a8, V.int b8, V.int c8]) = H8 at k78 hp8
        refine ⟨p, wide, v8, rfl, ⟨_, _, _, hp8⟩, w18.1, w18.2.1, v80, by (first | lia | omega), fun l9 ws9 H9 f9 k9 ⟨a9, b9, c9, hp9⟩ ⟨rs9, x9, hr9⟩ ok9 len9 => ?_⟩
        obtain ⟨rsf, xf, hrf⟩ := WsL.kp (Kp.trans k78 k9) hp7 nfl wlf
        have lr9 := hr9.len
        have lrf := hrf.len
        refine ⟨fl, l9, _, _, rfl, rfl, xf, x9, lenLine (by (first | lia | omega)), fun l10 f10 => ?_⟩
        obtain ⟨k10, hp10, x10, n10⟩ := fresh_step hp9 f10 (.lst (rsf ++ rs9))
        generalize hH10 : upd H9 l10 (HO.lst (rsf ++ rs9)) = H10 at k10 hp10 x10
        exact fin 6 wide l10 (ws ++ ws9) H10 (Kp.trans k7 (Kp.trans k78 (Kp.trans k9 k10))) ⟨_, _, _, hp10⟩ ⟨_, x10, (hrf.app hr9).kp k10 hp9⟩ w18.1 w18.2.1 (okf.app ok9)
      · refine ⟨_, rfl, rfl, _, rfl, iteFd (by decide) ?_⟩
        refine ⟨_, rfl, rfl, _, rfl, iteFd (by decide) ?_⟩
        refine ⟨_, rfl, rfl, _, rfl, iteFd (by decide) ?_⟩
        refine ⟨_, rfl, rfl, _, rfl, iteFd (by decide) ?_⟩
        exact fin 7 wide fl ws H7 k7 ⟨_, _, _, hp7⟩ wlf w18.1 w18.2.1 okf
end
section
variable {P : Program} {w : World} {K : PySem.W.Frag} {mg : Str → Option Value} {base : Heap} {f : Addr} {fd : FuncData}
theorem sc_longer_rows : FnScope ["rows", "numbers", "found", "row", "number"] ["rows", "numbers"] (defScope s_longer_rows) := ⟨rfl, rfl, rfl, by decide +kernel, rfl, by decide +kernel, by decide +kernel⟩
theorem ok_longer_rows (T : Bn mg) (F : Here K mg "longer_rows" s_longer_rows f fd) : FnOk P w K mg base CX0 1 f fd ["rows", "numbers"] spLonger := by
  refine F.fn.ok sc_longer_rows (fun vs H Q E h => ?_) (fun cdv A outer s H vs Q E hr h => ?_)
  · obtain ⟨a, b, rs, M, ns, rfl, _⟩ := h
    rfl
  · obtain ⟨a, b, rs, M, ns, rfl, ha, rows, hb, hprod, hnl, hrl, q⟩ := h
    have lr := rows.len
    refine ⟨_, (pss_cons (ps_set (i := 2) sc_longer_rows.nd rfl (by first | exact Or.inl rfl | exact Or.inr rfl) (pe_lst pa_nil))
    (pss_cons (ps_for PassesOwn.never rfl  (pi_list (pv 0)) (pg_name (i := 3) sc_longer_rows.nd rfl (by first | exact Or.inl rfl | exact Or.inr rfl))
    (pss_one (ps_for PassesOwn.never rfl  (pi_list (pv 1)) (pg_name (i := 4) sc_longer_rows.nd rfl (by first | exact Or.inl rfl | exact Or.inr rfl))
    (pss_one (ps_expr (pe_bm PySem.F.plainAttrs_list PySem.F.slot_list_append PySem.F.type_list_append mt_append (pv 2) (pa_cons (pe_op op_cat (pv 3) (pe_lst (pa_cons (pv 4) pa_nil))) pa_nil)))))))
    (pss_one (ps_ret (pv 2))))), ?_⟩
    refine ⟨lenLine (by show 0 ≤ 100000; decide), fun l fl => ?_⟩
    refine ⟨_, rfl, a, rfl, ⟨_, SqL.of (by walk_at "hh")⟩, ?_⟩
    refine for_list (xs := rs) (fun i σ Hc => ∃ v3 v4 ys, σ = [some (.ref a), some (.ref b), some (.ref l), v3, v4] ∧ Same H Hc ∧ Hc l = some (.lst ys) ∧ RowsN H Hc l ys (longM (M.take i) ns)) ⟨none, none, [], rfl, by walk_at "sm", upd_same, .nil⟩
      (fun i σ Hc _ ⟨_, _, _, _, sc, _⟩ => SqL.of (sc _ _ ha)) ?_ ?_
    · rintro i x σ Hc hx ⟨v3, v4, ys, rfl, sc, xl, rn⟩
      obtain ⟨r, tr, hr0, rfl, htr⟩ := rows.get hx
      have il : i < M.length := (List.getElem?_eq_some_iff.mp hr0).1
      have rl := hrl r (List.mem_of_getElem? hr0)
      refine ⟨_, rfl, b, rfl, ⟨_, SqL.of (sc _ _ hb)⟩, ?_⟩
      refine for_list (xs := ns.map V.int) (fun j σ Hd => ∃ v4 ys, σ = [some (.ref a), some (.ref b), some (.ref l), some (.ref tr), v4] ∧ Same H Hd ∧ Hd l = some (.lst ys) ∧ RowsN H Hd l ys (longM (M.take i) ns ++ (ns.take j).map fun n => r ++ [n])) ⟨v4, ys, rfl, sc, xl, by simpa using rn⟩
        (fun j σ Hd _ ⟨_, _, _, sd, _⟩ => SqL.of (sd _ _ hb)) ?_ ?_
      · rintro j x σ Hd hx2 ⟨v4, ys, rfl, sd, xd, rd⟩
        obtain ⟨z, hz, rfl⟩ := int_item hx2
        have jl : j < ns.length := (List.getElem?_eq_some_iff.mp hz).1
        have ly := rd.len
        rw [List.length_append, longM_len, List.length_map, List.length_take, List.length_take, Nat.min_eq_left (by (first | lia | omega)), Nat.min_eq_left (by (first | lia | omega))] at ly
        have hm : (i + 1) * ns.length ≤ M.length * ns.length := Nat.mul_le_mul_right _ (by (first | lia | omega))
        rw [Nat.add_mul] at hm
        refine ⟨_, rfl, .inl ⟨rfl, _, SqL.of xd⟩, _, rfl, _, rfl, lenLine (by show 1 ≤ 100000; decide), fun l1 f1 => ?_⟩
        refine ⟨tr, l1, _, _, rfl, rfl, (same_new f1 _) _ _ (sd _ _ htr), upd_same, lenLine (by rw [List.length_map]; show r.length + 1 ≤ 100000; (first | lia | omega)), fun l2 f2 => ?_⟩
        have s2 : Same Hd (upd (upd Hd l1 (HO.lst [V.int z])) l2 (HO.lst (r.map V.int ++ [V.int z]))) := Same.trans (same_new f1 _) (same_new f2 _)
        have x2 : (upd (upd Hd l1 (HO.lst [V.int z])) l2 (HO.lst (r.map V.int ++ [V.int z]))) l2 = some (.lst ((r ++ [z]).map V.int)) := by rw [upd_same, List.map_append]; rfl
        have f2' : Hd l2 = none := (same_new f1 _).free f2
        generalize upd (upd Hd l1 (HO.lst [V.int z])) l2 (HO.lst (r.map V.int ++ [V.int z])) = H2 at s2 x2
        refine ⟨l, _, _, rfl, rfl, s2 _ _ xd, lenLt (by (first | lia | omega)), ?_⟩
        refine ⟨_, ys ++ [.ref l2], rfl, Same.put fl (Same.trans sd s2), upd_same, ?_⟩
        rw [take_snoc hz, List.map_append, ← List.append_assoc]
        exact rd.more s2 x2 (Ne.symm (ne_of_none xd f2')) (sd.free f2')
      · rintro σ Hd ⟨v4, ys, rfl, sd, xd, rd⟩
        refine ⟨_, _, ys, rfl, sd, xd, ?_⟩
        rw [List.length_map, List.take_length] at rd
        rw [take_snoc hr0]
        unfold longM at rd ⊢
        rw [List.flatMap_append]
        simpa using rd
    · rintro σ Hc ⟨v3, v4, ys, rfl, sc, xl, rn⟩
      rw [lr, List.take_length] at rn
      exact ⟨_, rfl, q l ys Hc fl sc xl rn⟩
end
section
variable {P : Program} {w : World} {K : PySem.W.Frag} {mg : Str → Option Value} {base : Heap} {f : Addr} {fd : FuncData}
theorem sc_rows_of : FnScope ["choices", "rows", "numbers"] ["choices"] (defScope s_rows_of) := ⟨rfl, rfl, rfl, by decide +kernel, rfl, by decide +kernel, by decide +kernel⟩
theorem ok_rows_of (T : Bn mg) (F : Here K mg "rows_of" s_rows_of f fd) (Clonger_rows : Callee P w K mg base "longer_rows" 1 ["rows", "numbers"] spLonger) : FnOk P w K mg base CX0 2 f fd ["choices"] spRowsOf := by
  refine F.fn.ok sc_rows_of (fun vs H Q E h => ?_) (fun cdv A outer s H vs Q E hr h => ?_)
  · obtain ⟨a, cs, C, rfl, _⟩ := h
    rfl
  · obtain ⟨a, cs, C, rfl, ha, rows, c40, hbig, hrl, q⟩ := h
    have lr := rows.len
    refine ⟨_, (pss_cons (ps_set (i := 1) sc_rows_of.nd rfl (by first | exact Or.inl rfl | exact Or.inr rfl) (pe_lst (pa_cons (pe_lst pa_nil) pa_nil)))
    (pss_cons (ps_for PassesOwn.never rfl  (pi_list (pv 0)) (pg_name (i := 2) sc_rows_of.nd rfl (by first | exact Or.inl rfl | exact Or.inr rfl))
    (pss_one (ps_set (i := 1) sc_rows_of.nd rfl (by first | exact Or.inl rfl | exact Or.inr rfl) (pe_callC Clonger_rows (hr.mono (by first | decide | (first | lia | omega))) rfl (pa_cons (pv 1) (pa_cons (pv 2) pa_nil))))))
    (pss_one (ps_ret (pv 1))))), ?_⟩
    refine ⟨lenLine (by show 0 ≤ 100000; decide), fun l0 f0 => ?_⟩
    refine ⟨lenLine (by show 1 ≤ 100000; decide), fun l1 f1 => ?_⟩
    have n01 : l0 ≠ l1 := ne_of_none upd_same f1
    have f1' : H l1 = none := (same_new f0 _).free f1
    refine ⟨_, rfl, a, rfl, ⟨_, SqL.of (by walk_at "hh")⟩, ?_⟩
    refine for_list (xs := cs) (fun i σ Hc => ∃ l v2 ys, σ = [some (.ref a), some (.ref l), v2] ∧ Same H Hc ∧ H l = none ∧ Hc l = some (.lst ys) ∧ RowsN H Hc l ys (rowsM (C.take i))) ⟨l1, none, [.ref l0], rfl, by walk_at "sm", f1', upd_same, .cons ⟨l0, rfl, n01, f0, (upd_ne n01).trans upd_same⟩ .nil⟩
      (fun i σ Hc _ ⟨_, _, _, _, sc, _⟩ => SqL.of (sc _ _ ha)) ?_ ?_
    · rintro i x σ Hc hx ⟨l, v2, ys, rfl, sc, fl, xl, rn⟩
      obtain ⟨r, tr, hr0, rfl, htr⟩ := rows.get hx
      have il : i < C.length := (List.getElem?_eq_some_iff.mp hr0).1
      have b1 := hbig (i + 1) (by (first | lia | omega))
      rw [take_snoc hr0, rowsM_snoc, longM_len] at b1
      refine ⟨_, rfl, _, rfl, l, tr, ys, rowsM (C.take i), r, rfl, xl, rn.rows, sc _ _ htr, b1, hrl r (List.mem_of_getElem? hr0), fun u hu => ?_, fun l' ys' H' fl' s' xl' rn' => ?_⟩
      · have := ((rowsM_mem (C.take i) u).mp hu).1
        rw [List.length_take] at this
        (first | lia | omega)
      refine ⟨l', _, ys', rfl, Same.trans sc s', sc.free fl', xl', ?_⟩
      rw [take_snoc hr0, rowsM_snoc]
      exact Paired.mapP rn' fun r x ⟨t, e1, e2, e3, e4⟩ => ⟨t, e1, e2, sc.free e3, e4⟩
    · rintro σ Hc ⟨l, v2, ys, rfl, sc, fl, xl, rn⟩
      rw [lr, List.take_length] at rn
      exact ⟨_, rfl, q l ys Hc fl sc xl rn⟩
end
section
variable {P : Program} {w : World} {K : PySem.W.Frag} {mg : Str → Option Value} {base : Heap} {f : Addr} {fd : FuncData}
theorem sc_put_in_order : FnScope ["net", "values", "now", "first", "second", "greater", "lesser"] ["net", "values"] (defScope s_put_in_order) := ⟨rfl, rfl, rfl, by decide +kernel, rfl, by decide +kernel, by decide +kernel⟩
theorem ok_put_in_order (T : Bn mg) (F : Here K mg "put_in_order" s_put_in_order f fd) : FnOk P w K mg base CX0 1 f fd ["net", "values"] spPut := by
  refine F.fn.ok sc_put_in_order (fun vs H Q E h => ?_) (fun cdv A outer s H vs Q E hr h => ?_)
  · obtain ⟨v, wide, ws, c, cs, rfl, _⟩ := h
    rfl
  · obtain ⟨v, wide, ws, c, cs, rfl, ⟨n, t, rs, rfl, hn, ht, hrs⟩, ok, len, hc, lc, q⟩ := h
    have lrs := hrs.len
    refine ⟨_, (pss_cons (ps_set (i := 2) sc_put_in_order.nd rfl (by first | exact Or.inl rfl | exact Or.inr rfl) (pe_callTy call_list_of rfl T.n_list boot_listT (pa_cons (pv 1) pa_nil)))
    (pss_cons (ps_for PassesOwn.never rfl  (pi_tup (pe_ix ix_tup (pv 0) pe_int (fun _ _ => rfl))) (pg_tup rfl (pgs_cons (pg_name (i := 3) sc_put_in_order.nd rfl (by first | exact Or.inl rfl | exact Or.inr rfl)) (pgs_cons (pg_name (i := 4) sc_put_in_order.nd rfl (by first | exact Or.inl rfl | exact Or.inr rfl)) pgs_nil)))
    (pss_cons (ps_set (i := 5) sc_put_in_order.nd rfl (by first | exact Or.inl rfl | exact Or.inr rfl) (pe_callB (call_max2 rfl) rfl T.n_max PyProof.Rows.boot_max (pa_cons (pe_ix ix_list (pv 2) (pv 3) (fun _ _ => rfl)) (pa_cons (pe_ix ix_list (pv 2) (pv 4) (fun _ _ => rfl)) pa_nil))))
    (pss_cons (ps_set (i := 6) sc_put_in_order.nd rfl (by first | exact Or.inl rfl | exact Or.inr rfl) (pe_callB (call_min2 rfl) rfl T.n_min PyProof.Rows.boot_min (pa_cons (pe_ix ix_list (pv 2) (pv 3) (fun _ _ => rfl)) (pa_cons (pe_ix ix_list (pv 2) (pv 4) (fun _ _ => rfl)) pa_nil))))
    (pss_cons (ps_asg (pv 5) (pg_sub (pv 2) (pv 3) set_list))
    (pss_one (ps_asg (pv 6) (pg_sub (pv 2) (pv 4) set_list)))))))
    (pss_one (ps_ret (pv 2))))), ?_⟩
    refine ⟨_, rfl, c, _, rfl, .inl (SqL.of hc), fun ln fn => ?_⟩
    refine ⟨_, rfl, n, _, _, _, rfl, rfl, SqT.of (by walk_at "hh"), by rfl, ?_⟩
    refine ⟨t, rfl, ⟨rs, SqT.of (by walk_at "hh")⟩, ?_⟩
    refine for_tup (xs := rs) (fun i σ Hc => ∃ v3 v4 v5 v6, σ = [some (.ref n), some (.ref c), some (.ref ln), v3, v4, v5, v6] ∧ Same H Hc ∧ Hc ln = some (.lst ((putM cs (ws.take i)).map V.int)))
      ⟨none, none, none, none, rfl, by walk_at "sm", upd_same⟩ (fun i σ Hc _ ⟨_, _, _, _, _, sc, _⟩ => SqT.of (sc _ _ ht)) ?_ ?_
    · rintro i x σ Hc hx ⟨v3, v4, v5, v6, rfl, sc, xn⟩
      obtain ⟨w0, t0, hw0, rfl, ht0⟩ := hrs.get hx
      obtain ⟨o1, o2, o3, o4, o5⟩ := WOk.mem ok hw0
      have lth := putM_len (ws.take i) cs
      refine ⟨t0, _, rfl, SqT.of (sc _ _ ht0), rfl, ?_⟩
      refine ⟨_, _, rfl, _, _, rfl, rfl, ?_⟩
      refine ⟨_, rfl, _, rfl, ln, _, _, _, rfl, rfl, SqL.of xn, atI_int o1 (by (first | lia | omega)), ?_⟩
      refine ⟨_, rfl, _, rfl, ln, _, _, _, rfl, rfl, SqL.of xn, atI_int o3 (by (first | lia | omega)), _, _, rfl, ?_⟩
      refine ⟨_, rfl, _, rfl, ln, _, _, _, rfl, rfl, SqL.of xn, atI_int o1 (by (first | lia | omega)), ?_⟩
      refine ⟨_, rfl, _, rfl, ln, _, _, _, rfl, rfl, SqL.of xn, atI_int o3 (by (first | lia | omega)), _, _, rfl, ?_⟩
      refine ⟨_, rfl, _, rfl, _, rfl, ln, _, w0.1, w0.1.toNat, rfl, rfl, xn, ixN_of o1 (by rw [List.length_map]; (first | lia | omega)), ?_⟩
      refine ⟨_, rfl, _, rfl, _, rfl, ln, _, w0.2, w0.2.toNat, rfl, rfl, upd_same, ixN_of o3 (by rw [List.length_set, List.length_map]; (first | lia | omega)), ?_⟩
      rw [upd_upd]
      refine ⟨_, _, _, _, rfl, Same.put fn sc, ?_⟩
      rw [upd_same, take_snoc hw0, putM_snoc, if_gt_max, set_map, set_map]
      rfl
    · rintro σ Hc ⟨v3, v4, v5, v6, rfl, sc, xn⟩
      rw [lrs, List.take_length] at xn
      exact ⟨_, rfl, q ln Hc fn sc xn⟩
end
section
variable {P : Program} {w : World} {K : PySem.W.Frag} {mg : Str → Option Value} {base : Heap} {f : Addr} {fd : FuncData}
theorem sc_falls : FnScope ["values", "ahead", "value"] ["values"] (defScope s_falls) := ⟨rfl, rfl, rfl, by decide +kernel, rfl, by decide +kernel, by decide +kernel⟩
theorem ok_falls (T : Bn mg) (F : Here K mg "falls" s_falls f fd) : FnOk P w K mg base CX0 1 f fd ["values"] spFalls := by
  refine F.fn.ok sc_falls (fun vs H Q E h => ?_) (fun cdv A outer s H vs Q E hr h => ?_)
  · obtain ⟨c, cs, rfl, _⟩ := h
    rfl
  · obtain ⟨c, cs, rfl, hc, l100, q⟩ := h
    refine ⟨_, (pss_cons (ps_for PassesOwn.never rfl  (pi_zipL rfl T.n_zip (pa_cons (pv 0) (pa_cons (pe_slice sl_list (pv 0) (po_some pe_int) po_none) pa_nil))) (pg_tup rfl (pgs_cons (pg_name (i := 1) sc_falls.nd rfl (by first | exact Or.inl rfl | exact Or.inr rfl)) (pgs_cons (pg_name (i := 2) sc_falls.nd rfl (by first | exact Or.inl rfl | exact Or.inr rfl)) pgs_nil)))
    (pss_one (ps_if (pt_cmpR op_gt (pv 2) (pv 1) (nomark _))
    (pss_one (ps_ret pe_bl))
    pss_nil)))
    (pss_one (ps_ret pe_bl))), ?_⟩
    refine ⟨_, rfl, _, rfl, _, rfl, c, _, rfl, SqL.of hc, fun p fp => ?_⟩
    rw [cut1]
    have s1 : Same H (upd H p (HO.lst ((cs.map V.int).drop 1))) := same_new fp _
    have xp : (upd H p (HO.lst ((cs.map V.int).drop 1))) p = some (.lst ((cs.map V.int).drop 1)) := upd_same
    generalize upd H p (HO.lst ((cs.map V.int).drop 1)) = H1 at s1 xp
    have hc1 := s1 _ _ hc
    refine ⟨c, p, rfl, ⟨_, SqL.of hc1⟩, ⟨_, SqL.of xp⟩, ?_⟩
    refine for_zipN (xs := cs.map V.int) (ys := (cs.map V.int).drop 1) (n := cs.length - 1) (by rw [List.length_map]; (first | lia | omega)) (by rw [List.length_drop, List.length_map]; (first | lia | omega)) (.inr (by rw [List.length_drop, List.length_map])) (fun i σ Hc => ∃ v1 v2, σ = [some (.ref c), v1, v2] ∧ Same H1 Hc ∧ ∀ j, j < i → cs.getD (j + 1) 0 ≤ cs.getD j 0)
      ⟨none, none, rfl, Same.refl _, fun j hj => absurd hj (by (first | lia | omega))⟩ (fun i σ Hc _ ⟨_, _, _, sc, _⟩ => ⟨SqL.of (sc _ _ hc1), SqL.of (sc _ _ xp)⟩) ?_ ?_
    · rintro i x y T σ Hc hi hx hy fT ⟨v1, v2, rfl, sc, fa⟩
      obtain ⟨z, hz, rfl⟩ := int_item hx
      rw [List.getElem?_drop, Nat.add_comm] at hy
      obtain ⟨u, hu, rfl⟩ := int_item hy
      refine ⟨T, _, rfl, SqT.of upd_same, rfl, ?_⟩
      refine ⟨_, _, rfl, _, _, rfl, rfl, ?_⟩
      have s2 : Same H1 (upd Hc T (HO.tup [V.int z, V.int u])) := Same.trans sc (same_new fT _)
      refine ⟨_, rfl, _, rfl, _, _, rfl, rfl, _, rfl, ?_⟩
      refine ite2 (fun g => ?_) (fun g => ?_)
      · have g' : z < u := of_decide_eq_true g
        refine q false _ (Same.trans s1 s2) ⟨(fun h => nomatch h), fun h => ?_⟩
        have := h i (by (first | lia | omega))
        rw [getD_of hz, getD_of hu] at this
        (first | lia | omega)
      · have g' : ¬ z < u := not_dec g
        refine ⟨_, _, rfl, s2, fun j hj => ?_⟩
        by_cases c : j < i
        · exact fa j c
        · have : j = i := by (first | lia | omega)
          subst this
          rw [getD_of hz, getD_of hu]
          (first | lia | omega)
    · rintro σ Hc ⟨v1, v2, rfl, sc, fa⟩
      exact q true Hc (Same.trans s1 sc) ⟨fun _ i hi => fa i (by (first | lia | omega)), fun _ => rfl⟩
end
section
variable {P : Program} {w : World} {K : PySem.W.Frag} {mg : Str → Option Value} {base : Heap} {f : Addr} {fd : FuncData}
theorem sc_orders : FnScope ["net", "bits"] ["net"] (defScope s_orders) := ⟨rfl, rfl, rfl, by decide +kernel, rfl, by decide +kernel, by decide +kernel⟩
theorem ok_orders (T : Bn mg) (F : Here K mg "orders" s_orders f fd) (Crows_of : Callee P w K mg base "rows_of" 2 ["choices"] spRowsOf) (Cput_in_order : Callee P w K mg base "put_in_order" 1 ["net", "values"] spPut) (Cfalls : Callee P w K mg base "falls" 1 ["values"] spFalls) :
    FnOk P w K mg base CX0 3 f fd ["net"] spOrders := by
  refine F.fn.ok sc_orders (fun vs H Q E h => ?_) (fun cdv A outer s H vs Q E hr h => ?_)
  · obtain ⟨v, wide, ws, rfl, _⟩ := h
    rfl
  · obtain ⟨v, wide, ws, rfl, net, w1, w8, ok, len, q1, q2⟩ := h
    obtain ⟨n, t, rs, rfl, hn, ht, hrs⟩ := id net
    refine ⟨_, (pss_cons (ps_for PassesOwn.never rfl  (pi_list (pe_callC Crows_of (hr.mono (by first | decide | (first | lia | omega))) rfl (pa_cons (pe_op op_rep (pe_lst (pa_cons (pe_lst (pa_cons pe_int (pa_cons pe_int pa_nil))) pa_nil)) (pe_ix ix_tup (pv 0) pe_int (fun _ _ => rfl))) pa_nil))) (pg_name (i := 1) sc_orders.nd rfl (by first | exact Or.inl rfl | exact Or.inr rfl))
    (pss_one (ps_if (pt_not (pt_val (pe_callC Cfalls (hr.mono (by first | decide | (first | lia | omega))) rfl (pa_cons (pe_callC Cput_in_order (hr.mono (by first | decide | (first | lia | omega))) rfl (pa_cons (pv 0) (pa_cons (pv 1) pa_nil))) pa_nil))))
    (pss_one (ps_ret (pe_tup (pa_cons pe_str (pa_cons (pv 1) pa_nil)))))
    pss_nil)))
    (pss_one (ps_ret (pe_tup (pa_cons pe_str pa_nil))))), ?_⟩
    refine ⟨lenLine (by show 2 ≤ 100000; decide), fun l0 f0 => ?_⟩
    refine ⟨lenLine (by show 1 ≤ 100000; decide), fun l1 f1 => ?_⟩
    refine ⟨_, rfl, n, _, _, _, rfl, rfl, SqT.of (by walk_at "hh"), by rfl, ?_⟩
    refine ⟨l1, wide, _, rfl, rfl, upd_same, by (first | lia | omega), by (first | lia | omega), lenLine (by show 1 * wide.toNat ≤ 100000; (first | lia | omega)), fun l2 f2 => ?_⟩
    have er : (List.replicate wide.toNat [V.ref l0]).flatten = List.replicate wide.toNat (V.ref l0) := by
      generalize wide.toNat = k
      induction k with
      | zero => rfl
      | succ k ih => rw [List.replicate_succ, List.flatten_cons, ih, List.replicate_succ]; rfl
    rw [er]
    have x0 : (upd (upd (upd H l0 (HO.lst [V.int 0, V.int 1])) l1 (HO.lst [V.ref l0])) l2 (HO.lst (List.replicate wide.toNat (V.ref l0)))) l0 = some (.lst (([0, 1] : List Int).map V.int)) := by
      show _ = some (HO.lst [V.int 0, V.int 1])
      walk_at "hh"
    have x2 : (upd (upd (upd H l0 (HO.lst [V.int 0, V.int 1])) l1 (HO.lst [V.ref l0])) l2 (HO.lst (List.replicate wide.toNat (V.ref l0)))) l2 = some (.lst (List.replicate wide.toNat (V.ref l0))) := upd_same
    have s2 : Same H (upd (upd (upd H l0 (HO.lst [V.int 0, V.int 1])) l1 (HO.lst [V.ref l0])) l2 (HO.lst (List.replicate wide.toNat (V.ref l0)))) := by walk_at "sm"
    generalize upd (upd (upd H l0 (HO.lst [V.int 0, V.int 1])) l1 (HO.lst [V.ref l0])) l2 (HO.lst (List.replicate wide.toNat (V.ref l0))) = H2 at x0 x2 s2
    have rw2 : Rows H2 (List.replicate wide.toNat (V.ref l0)) (List.replicate wide.toNat [0, 1]) := by
      generalize wide.toNat = k
      induction k with
      | zero => exact .nil
      | succ k ih => rw [List.replicate_succ, List.replicate_succ]; exact .cons ⟨l0, rfl, x0⟩ ih
    refine ⟨l2, _, _, rfl, x2, rw2, by rw [List.length_replicate]; (first | lia | omega), fun i hi => ?_, fun r hr => ?_, fun l3 rs3 H3 f3 s3 x3 rn => ?_⟩
    · rw [List.length_replicate] at hi
      rw [bits_take hi, rowsM_bits_len]
      exact Nat.le_trans (Nat.pow_le_pow_right (by decide) (show i ≤ 8 by (first | lia | omega))) (by decide)
    · rw [(List.mem_replicate.mp hr).2]; decide
    have lr := rn.len
    rw [rowsM_bits_len] at lr
    have s23 := Same.trans s2 s3
    refine ⟨l3, rfl, ⟨_, SqL.of x3⟩, ?_⟩
    refine for_list (xs := rs3) (fun i σ Hc => ∃ v1, σ = [some (.ref n), v1] ∧ Same H3 Hc ∧ ∀ j r, j < i → (rowsM (List.replicate wide.toNat [0, 1]))[j]? = some r → Falls (putM r ws)) ⟨none, rfl, Same.refl _, fun j r hj => absurd hj (by (first | lia | omega))⟩
      (fun i σ Hc _ ⟨_, _, sc, _⟩ => SqL.of (sc _ _ x3)) ?_ ?_
    · rintro i x σ Hc hx ⟨v1, rfl, sc, fa⟩
      obtain ⟨r, tr, hr0, rfl, ntl, ftr, htr⟩ := rn.get hx
      have hb := (bits_rows wide.toNat r).mp (List.mem_of_getElem? hr0)
      have htc := sc _ _ htr
      have s3c : Same H Hc := Same.trans s23 sc
      refine ⟨_, rfl, _, rfl, .ref n, wide, ws, tr, r, rfl, net.kt (KT.same s3c (KT.refl _)), ok, by (first | lia | omega), htc, hb.1, fun l4 H4 f4 s4 x4 => ?_⟩
      refine ⟨l4, _, rfl, x4, by rw [putM_len, hb.1]; (first | lia | omega), fun b H5 s5 hfb => ?_⟩
      refine ⟨b, rfl, ?_⟩
      have s35 : Same H H5 := Same.trans s3c (Same.trans s4 s5)
      cases b with
      | true =>
        refine iteFd (by decide) ?_
        refine ⟨_, rfl, Same.trans sc (Same.trans s4 s5), fun j u hj hu => ?_⟩
        by_cases c : j < i
        · exact fa j u c hu
        · have : j = i := by (first | lia | omega)
          subst this
          rw [hr0] at hu
          cases hu
          exact hfb.mp rfl
      | false =>
        refine iteTd (by decide) ?_
        refine ⟨_, rfl, lenLine (by show 2 ≤ 100000; decide), fun T6 f6 => ?_⟩
        refine q2 T6 tr r _ (s35.free f6) (s2.free ftr) (Same.trans s35 (same_new f6 _)) upd_same ((same_new f6 _) _ _ (s5 _ _ (s4 _ _ htc))) hb fun z => ?_
        have := hfb.mpr z
        cases this
    · rintro σ Hc ⟨v1, rfl, sc, fa⟩
      have s3c : Same H Hc := Same.trans s23 sc
      refine ⟨lenLine (by show 1 ≤ 100000; decide), fun T6 f6 => ?_⟩
      refine q1 T6 _ (s3c.free f6) (Same.trans s3c (same_new f6 _)) upd_same fun r hb => ?_
      obtain ⟨j, hj, ej⟩ := List.mem_iff_getElem.mp ((bits_rows wide.toNat r).mpr hb)
      exact fa j r (by rw [lr, ← rowsM_bits_len]; exact hj) (by simp [hj, ej])
end
section
variable {P : Program} {w : World} {K : PySem.W.Frag} {mg : Str → Option Value} {base : Heap} {f : Addr} {fd : FuncData}
theorem sc_values : FnScope ["_law_pen_here", "_law_wide", "_law_size"] ["_law_pen_here", "_law_wide"] (defScope s_values) := ⟨rfl, rfl, rfl, by decide +kernel, rfl, by decide +kernel, by decide +kernel⟩
theorem ok_values (T : Bn mg) (F : Here K mg "_law_values" s_values f fd) (C_law_take : Callee P w K mg base "_law_take" 1 ["_law_pen_here", "_law_size"] spTake) : FnOk P w K mg base CX0 2 f fd ["_law_pen_here", "_law_wide"] spCounts := by
  refine F.fn.ok sc_values (fun vs H Q E h => ?_) (fun cdv A outer s H vs Q E hr h => ?_)
  · obtain ⟨p, wide, rfl, _⟩ := h
    rfl
  · obtain ⟨p, wide, rfl, ⟨a0, b0, c0, hp0⟩, w1, w8, q⟩ := h
    refine ⟨_, (pss_cons (ps_set (i := 2) sc_values.nd rfl (by first | exact Or.inl rfl | exact Or.inr rfl) (pe_ix ix_list (pe_lst (pa_cons pe_int (pa_cons pe_int (pa_cons pe_int (pa_cons (pe_op op_pow pe_int pe_int) pa_nil))))) (pe_callC C_law_take (hr.mono (by first | decide | (first | lia | omega))) rfl (pa_cons (pv 0) (pa_cons pe_int pa_nil))) (fun _ _ => rfl)))
    (pss_one (ps_ret (pe_comp ["_law_lane"] [("_law_pen_here", 0), ("_law_size", 2)] rfl (pi_range1 rfl T.n_range (pa_cons (pv 1) pa_nil)) (fun _ _ _ _ _ _ => by exact (pg_name (i := 0) (show List.Nodup (["_law_lane", "_law_pen_here", "_law_size"] : List Str) by decide +kernel) rfl (by first | exact Or.inl rfl | exact Or.inr rfl))) (fun _ _ _ _ _ _ => by exact pts_nil) (fun _ _ _ _ _ _ => by exact (pe_op op_sub (pe_callC C_law_take (hr.mono (by first | decide | (first | lia | omega))) rfl (pa_cons (pv 1) (pa_cons (pv 2) pa_nil))) (pe_op op_fdiv (pv 2) pe_int))))))), ?_⟩
    refine ⟨_, _, rfl, rfl, ⟨by decide, by decide, by decide⟩, lenLine (by show 4 ≤ 100000; decide), fun l1 f1 => ?_⟩
    have s1 : Same H (upd H l1 (HO.lst [V.int 2, V.int 4, V.int 21, V.int (10 ^ 60)])) := same_new f1 _
    have x1 : (upd H l1 (HO.lst [V.int 2, V.int 4, V.int 21, V.int (10 ^ 60)])) l1 = some (.lst [V.int 2, V.int 4, V.int 21, V.int (10 ^ 60)]) := upd_same
    rw [show Int.toNat 60 = 60 from rfl]
    have n1 : l1 ≠ p := Ne.symm (ne_of_none hp0 f1)
    generalize upd H l1 (HO.lst [V.int 2, V.int 4, V.int 21, V.int (10 ^ 60)]) = H1 at s1 x1
    refine ⟨_, rfl, p, _, _, _, 4, rfl, s1 _ _ hp0, by decide, by decide, fun way a2 b2 c2 way0 way4 => ?_⟩
    have kp2 : Kp p H (upd H1 p (HO.lst [V.int a2, V.int b2, V.int c2])) := Kp.trans (Kp.same s1) Kp.upd
    have hp2 : (upd H1 p (HO.lst [V.int a2, V.int b2, V.int c2])) p = some (.lst [V.int a2, V.int b2, V.int c2]) := upd_same
    have x2 : (upd H1 p (HO.lst [V.int a2, V.int b2, V.int c2])) l1 = some (.lst [V.int 2, V.int 4, V.int 21, V.int (10 ^ 60)]) := (upd_ne n1).trans x1
    generalize upd H1 p (HO.lst [V.int a2, V.int b2, V.int c2]) = H2 at kp2 hp2 x2
    obtain ⟨size, ez, sz0, szl⟩ : ∃ z : Int, atI [V.int 2, V.int 4, V.int 21, V.int (10 ^ 60)] way = some (.int z) ∧ 0 < z ∧ z < 2 ^ 250 := by
      have wc : way = 0 ∨ way = 1 ∨ way = 2 ∨ way = 3 := by (first | lia | omega)
      rcases wc with h | h | h | h <;> subst h
      · exact ⟨_, rfl, by decide, by decide⟩
      · exact ⟨_, rfl, by decide, by decide⟩
      · exact ⟨_, rfl, by decide, by decide⟩
      · exact ⟨_, rfl, by decide, by decide⟩
    refine ⟨l1, _, _, _, rfl, rfl, SqL.of x2, ez, ?_⟩
    refine ⟨_, rfl, wide, rfl, by (first | lia | omega), by (first | lia | omega), fun l3 f3 => ?_⟩
    have n3 : l3 ≠ p := Ne.symm (ne_of_none hp2 f3)
    have f3' : H l3 = none := by
      cases e : H l3 with
      | none => rfl
      | some o => rw [kp2 _ _ e n3] at f3; cases f3
    refine comp_range (n := wide.toNat) (fun j ys Hc => Kp p H Hc ∧ Pen Hc p ∧ Hc l3 = some (.lst ys) ∧ ∃ cs : List Int, ys = cs.map V.int ∧ cs.length = j) ⟨Kp.put f3' kp2, ⟨a2, b2, c2, (upd_ne (Ne.symm n3)).trans hp2⟩, upd_same, [], rfl, rfl⟩ (lenLine (by (first | lia | omega)))
      (fun j ys Hc ⟨_, _, e, cs, r, r'⟩ => ⟨e, by rw [r, List.length_map, r']; exact Nat.le_refl _⟩) ?_ ?_
    · rintro j ys Hc hj ⟨kc, ⟨a4, b4, c4, hp4⟩, e4, cs, rfl, lcs⟩
      refine ⟨⟨.inl rfl, .inr rfl, .inr rfl, trivial⟩, tru_if ?_⟩
      refine ⟨_, rfl, _, rfl, p, _, _, _, size, rfl, hp4, sz0, szl, fun x a5 b5 c5 _ _ => ?_⟩
      have kp5 : Kp p H (upd Hc p (HO.lst [V.int a5, V.int b5, V.int c5])) := Kp.trans kc Kp.upd
      have hp5 : (upd Hc p (HO.lst [V.int a5, V.int b5, V.int c5])) p = some (.lst [V.int a5, V.int b5, V.int c5]) := upd_same
      have e5 : (upd Hc p (HO.lst [V.int a5, V.int b5, V.int c5])) l3 = some (.lst (cs.map V.int)) := (upd_ne n3).trans e4
      generalize upd Hc p (HO.lst [V.int a5, V.int b5, V.int c5]) = H5 at kp5 hp5 e5
      refine ⟨_, rfl, _, _, rfl, rfl, ⟨by decide, by decide⟩, _, _, rfl, rfl, e5, Kp.put f3' kp5, ⟨a5, b5, c5, (upd_ne (Ne.symm n3)).trans hp5⟩, upd_same, cs ++ [x - size / 3], by rw [List.map_append]; rfl, by simp [lcs]⟩
    · rintro ys Hc ⟨kc, pn, e4, cs, rfl, lcs⟩
      exact q l3 cs Hc f3' kc pn e4 lcs
end
section
variable {P : Program} {w : World} {K : PySem.W.Frag} {mg : Str → Option Value} {base : Heap} {f : Addr} {fd : FuncData}
theorem sc_mapped : FnScope ["_law_values_here", "_law_steps", "_law_there"] ["_law_values_here", "_law_steps"] (defScope s_mapped) := ⟨rfl, rfl, rfl, by decide +kernel, rfl, by decide +kernel, by decide +kernel⟩
theorem ok_mapped (T : Bn mg) (F : Here K mg "_law_mapped" s_mapped f fd) : FnOk P w K mg base CX0 1 f fd ["_law_values_here", "_law_steps"] spMap := by
  refine F.fn.ok sc_mapped (fun vs H Q E h => ?_) (fun cdv A outer s H vs Q E hr h => ?_)
  · obtain ⟨c, d, cs, ss, rfl, _⟩ := h
    rfl
  · obtain ⟨c, d, cs, ss, rfl, hc, lc, hd, q⟩ := h
    refine ⟨_, (pss_cons (ps_set (i := 2) sc_mapped.nd rfl (by first | exact Or.inl rfl | exact Or.inr rfl) (pe_callB (call_sortedXw w rfl rfl) rfl T.n_sorted PyProof.Rows.boot_sorted (pa_cons (pe_callTy (call_setXw w rfl rfl) rfl T.n_set boot_setT (pa_cons (pv 0) pa_nil)) pa_nil)))
    (pss_one (ps_ret (pe_comp ["_law_one"] [("_law_steps", 1), ("_law_there", 2)] rfl (pi_list (pv 0)) (fun _ _ _ _ _ _ => by exact (pg_name (i := 0) (show List.Nodup (["_law_one", "_law_steps", "_law_there"] : List Str) by decide +kernel) rfl (by first | exact Or.inl rfl | exact Or.inr rfl))) (fun _ _ _ _ _ _ => by exact pts_nil) (fun _ _ _ _ _ _ => by exact (pe_callB (call_sumLK K rfl rfl) rfl T.n_sum PyProof.Rows.boot_sum (pa_cons (pe_slice (sl_listK K rfl) (pv 1) po_none (po_some (pe_op op_add (bmK K rfl (pe_bm PySem.F.plainAttrs_list PySem.F.slot_list_index PySem.F.type_list_index mt_index (pv 2) (pa_cons (pv 0) pa_nil))) pe_int))) pa_nil))))))), ?_⟩
    refine ⟨_, rfl, c, cs, rfl, SqL.of hc, by (first | lia | omega), fun l1 f1 => ?_⟩
    have s1 : Same H (upd H l1 (setX w l1 (metL cs))) := same_new f1 _
    have x1 : (upd H l1 (setX w l1 (metL cs))) l1 = some (setX w l1 (metL cs)) := upd_same
    generalize upd H l1 (setX w l1 (metL cs)) = H1 at s1 x1
    refine ⟨l1, _, rfl, x1, ?_, fun l2 ks f2 pm pw => ?_⟩
    · have : (metL cs).length ≤ cs.length := PyProof.Rows.foldl_step_dedup_nil_length_le cs
      (first | lia | omega)
    have so : SrtOf cs ks := ⟨pm, pw⟩
    have lk := so.len
    have s2 : Same H1 (upd H1 l2 (HO.lst (ks.map V.int))) := same_new f2 _
    have x2 : (upd H1 l2 (HO.lst (ks.map V.int))) l2 = some (.lst (ks.map V.int)) := upd_same
    generalize upd H1 l2 (HO.lst (ks.map V.int)) = H2 at s2 x2
    have s12 := Same.trans s1 s2
    refine ⟨_, rfl, c, rfl, ⟨_, SqL.of (s12 _ _ hc)⟩, fun l3 f3 => ?_⟩
    refine comp_list (xs := cs.map V.int) (fun j ys Hd => Same H2 Hd ∧ Hd l3 = some (.lst ys) ∧ ys = ((cs.take j).map (stepF ks ss)).map V.int) ⟨Same.put f3 (Same.refl _), upd_same, rfl⟩ (lenLine (by rw [List.length_map]; (first | lia | omega)))
      (fun j ys Hd hj ⟨s4, e4, e5⟩ => ⟨SqL.of (s4 _ _ (s12 _ _ hc)), e4, by rw [e5, List.length_map, List.length_map, List.length_take]; (first | lia | omega)⟩) ?_ ?_
    · rintro j x ys Hd hx ⟨s4, e4, rfl⟩
      obtain ⟨z, hz, rfl⟩ := int_item hx
      have mz : z ∈ cs := List.mem_of_getElem? hz
      refine ⟨⟨.inl rfl, .inr rfl, .inr rfl, trivial⟩, tru_if ?_⟩
      have xk := s4 _ _ x2
      have xd := s4 _ _ (s12 _ _ hd)
      refine ⟨_, rfl, _, rfl, .inl ⟨rfl, _, SqL.of xk⟩, _, rfl, l2, ks, z, rfl, rfl, xk, so.mem.mpr mz, by (first | lia | omega), _, _, rfl, rfl, _, rfl, d, _, rfl, SqL.of xd, fun l5 f5 => ?_⟩
      rw [cut_head]
      have s5 : Same Hd (upd Hd l5 (HO.lst ((ss.take (ks.idxOf z + 1)).map V.int))) := same_new f5 _
      have x5 : (upd Hd l5 (HO.lst ((ss.take (ks.idxOf z + 1)).map V.int))) l5 = some (.lst ((ss.take (ks.idxOf z + 1)).map V.int)) := upd_same
      generalize upd Hd l5 (HO.lst ((ss.take (ks.idxOf z + 1)).map V.int)) = H5 at s5 x5
      refine ⟨l5, _, rfl, SqL.of x5, s5 _ _ e4, Same.put f3 (Same.trans s4 s5), upd_same, ?_⟩
      rw [so.at mz, List.take_add_one, hz]
      simp
    · rintro ys Hd ⟨s4, e4, rfl⟩
      rw [List.length_map, List.take_of_length_le (Nat.le_refl _)] at e4
      exact q ks l3 Hd so (s12.free f3) (Same.trans s12 s4) e4
end
section
variable {P : Program} {w : World} {K : PySem.W.Frag} {mg : Str → Option Value} {base : Heap} {f : Addr} {fd : FuncData}
theorem sc_row_right : FnScope ["_law_net_here", "_law_values_here", "_law_steps", "_law_found", "_law_edge", "_law_there", "_law_due"] ["_law_net_here", "_law_values_here", "_law_steps"] (defScope s_row_right) := ⟨rfl, rfl, rfl, by decide +kernel, rfl, by decide +kernel, by decide +kernel⟩
theorem ok_row_right (T : Bn mg) (F : Here K mg "_law_row_right" s_row_right f fd) (Cput_in_order : Callee P w K mg base "put_in_order" 1 ["net", "values"] spPut) (C_law_mapped : Callee P w K mg base "_law_mapped" 1 ["_law_values_here", "_law_steps"] spMap) : FnOk P w K mg base CX0 2 f fd ["_law_net_here", "_law_values_here", "_law_steps"] spRowR53 := by
  refine F.fn.ok sc_row_right (fun vs H Q E h => ?_) (fun cdv A outer s H vs Q E hr h => ?_)
  · obtain ⟨v, wide, ws, c, d, cs, ss, rfl, _⟩ := h
    rfl
  · obtain ⟨v, wide, ws, c, d, cs, ss, rfl, net, w1, w8, ok, len, hc, lc, hd, s0, q⟩ := h
    refine ⟨_, (pss_cons (ps_set (i := 3) sc_row_right.nd rfl (by first | exact Or.inl rfl | exact Or.inr rfl) (pe_callC Cput_in_order (hr.mono (by first | decide | (first | lia | omega))) rfl (pa_cons (pv 0) (pa_cons (pe_callTy call_list_of rfl T.n_list boot_listT (pa_cons (pv 1) pa_nil)) pa_nil))))
    (pss_cons (ps_if (pt_cmpR (op_neL hr.units) (pe_callB call_sortedL rfl T.n_sorted PyProof.Rows.boot_sorted (pa_cons (pv 3) pa_nil)) (pe_callB call_sortedL rfl T.n_sorted PyProof.Rows.boot_sorted (pa_cons (pv 1) pa_nil)) (nomark _))
    (pss_one (ps_ret pe_bl))
    pss_nil)
    (pss_cons (ps_for PassesOwn.never rfl  (pi_list (pv 1)) (pg_name (i := 4) sc_row_right.nd rfl (by first | exact Or.inl rfl | exact Or.inr rfl))
    (pss_one (ps_if (pt_cmpR (op_neL hr.units) (pe_callC Cput_in_order (hr.mono (by first | decide | (first | lia | omega))) rfl (pa_cons (pv 0) (pa_cons (pe_comp ["_law_one"] [("_law_edge", 4)] rfl (pi_list (pv 1)) (fun _ _ _ _ _ _ => by exact (pg_name (i := 0) (show List.Nodup (["_law_one", "_law_edge"] : List Str) by decide +kernel) rfl (by first | exact Or.inl rfl | exact Or.inr rfl))) (fun _ _ _ _ _ _ => by exact pts_nil) (fun _ _ _ _ _ _ => by exact (pe_callTy call_int1 rfl T.n_int boot_intT (pa_cons (pe_cmpR op_ge (pv 0) (pv 1) (nomark _)) pa_nil)))) pa_nil))) (pe_comp ["_law_one"] [("_law_edge", 4)] rfl (pi_list (pv 3)) (fun _ _ _ _ _ _ => by exact (pg_name (i := 0) (show List.Nodup (["_law_one", "_law_edge"] : List Str) by decide +kernel) rfl (by first | exact Or.inl rfl | exact Or.inr rfl))) (fun _ _ _ _ _ _ => by exact pts_nil) (fun _ _ _ _ _ _ => by exact (pe_callTy call_int1 rfl T.n_int boot_intT (pa_cons (pe_cmpR op_ge (pv 0) (pv 1) (nomark _)) pa_nil)))) (nomark _))
    (pss_one (ps_ret pe_bl))
    pss_nil)))
    (pss_cons (ps_set (i := 5) sc_row_right.nd rfl (by first | exact Or.inl rfl | exact Or.inr rfl) (pe_callB (call_sortedXw w rfl rfl) rfl T.n_sorted PyProof.Rows.boot_sorted (pa_cons (pe_callTy (call_setXw w rfl rfl) rfl T.n_set boot_setT (pa_cons (pv 1) pa_nil)) pa_nil)))
    (pss_cons (ps_setComp (i := 6) sc_row_right.nd rfl (by first | exact Or.inl rfl | exact Or.inr rfl) ["_law_one"] [("_law_steps", 2), ("_law_there", 5)] rfl (pi_list (pv 3)) (fun _ _ _ _ _ _ => by exact (pg_name (i := 0) (show List.Nodup (["_law_one", "_law_steps", "_law_there"] : List Str) by decide +kernel) rfl (by first | exact Or.inl rfl | exact Or.inr rfl))) (fun _ _ _ _ _ _ => by exact pts_nil) (fun _ _ _ _ _ _ => by exact (pe_callB (call_sumLK K rfl rfl) rfl T.n_sum PyProof.Rows.boot_sum (pa_cons (pe_slice (sl_listK K rfl) (pv 1) po_none (po_some (pe_op op_add (bmK K rfl (pe_bm PySem.F.plainAttrs_list PySem.F.slot_list_index PySem.F.type_list_index mt_index (pv 2) (pa_cons (pv 0) pa_nil))) pe_int))) pa_nil))))
    (pss_one (ps_ret (pe_cmpR (op_eqL hr.units) (pe_callC Cput_in_order (hr.mono (by first | decide | (first | lia | omega))) rfl (pa_cons (pv 0) (pa_cons (pe_callC C_law_mapped (hr.mono (by first | decide | (first | lia | omega))) rfl (pa_cons (pv 1) (pa_cons (pv 2) pa_nil))) pa_nil))) (pv 6) (nomark _))))))))), ?_⟩
    have lt := wok_lt ok lc
    have lput := putM_len ws cs
    have pput := putM_perm ws cs lt
    refine ⟨_, rfl, _, rfl, c, _, rfl, .inl (SqL.of hc), fun lh fh => ?_⟩
    have s1 : Same H (upd H lh (HO.lst (cs.map V.int))) := same_new fh _
    have x1 : (upd H lh (HO.lst (cs.map V.int))) lh = some (.lst (cs.map V.int)) := upd_same
    generalize upd H lh (HO.lst (cs.map V.int)) = H1 at s1 x1
    refine ⟨v, wide, ws, lh, cs, rfl, net.kt (KT.same s1 (KT.refl _)), ok, by (first | lia | omega), x1, lc, fun ld H2 fd2 s2 xd => ?_⟩
    have sH2 := Same.trans s1 s2
    refine ⟨_, rfl, ld, _, rfl, SqL.of xd, by (first | lia | omega), fun l3 r3 f3 pm3 pw3 => ?_⟩
    have s3 : Same H2 (upd H2 l3 (HO.lst (r3.map V.int))) := same_new f3 _
    have x3 : (upd H2 l3 (HO.lst (r3.map V.int))) l3 = some (.lst (r3.map V.int)) := upd_same
    generalize upd H2 l3 (HO.lst (r3.map V.int)) = H3 at s3 x3
    have sH3 := Same.trans sH2 s3
    refine ⟨_, rfl, c, cs, rfl, SqL.of (sH3 _ _ hc), by (first | lia | omega), fun l4 r4 f4 pm4 pw4 => ?_⟩
    have s4 : Same H3 (upd H3 l4 (HO.lst (r4.map V.int))) := same_new f4 _
    have x4 : (upd H3 l4 (HO.lst (r4.map V.int))) l4 = some (.lst (r4.map V.int)) := upd_same
    generalize upd H3 l4 (HO.lst (r4.map V.int)) = H4 at s4 x4
    have e34 : r3 = r4 := sorted_eq (pm3.trans pput) pm4 pw3 pw4
    subst e34
    refine ⟨l3, l4, _, _, rfl, rfl, SqL.of (s4 _ _ x3), SqL.of x4, _, rfl, iteFd (by simp) ?_⟩
    have sH4 := Same.trans sH3 s4
    have xd4 := s4 _ _ (s3 _ _ xd)
    refine ⟨_, rfl, c, rfl, ⟨_, SqL.of (sH4 _ _ hc)⟩, ?_⟩
    refine for_list (xs := cs.map V.int) (fun i σ Hc => ∃ v4, σ = [some v, some (.ref c), some (.ref d), some (.ref ld), v4, none, none] ∧ Same H4 Hc) ⟨none, rfl, Same.refl _⟩ (fun i σ Hc hi ⟨_, _, sc⟩ => SqL.of (sc _ _ (sH4 _ _ hc))) ?_ ?_
    · rintro i x σ Hc hx ⟨v4, rfl, sc⟩
      obtain ⟨ed, hed, rfl⟩ := int_item hx
      have sHc := Same.trans sH4 sc
      refine ⟨_, rfl, _, rfl, c, rfl, ⟨_, SqL.of (sHc _ _ hc)⟩, fun l5 f5 => ?_⟩
      refine comp_list (xs := cs.map V.int) (fun j ys Hd => Same Hc Hd ∧ Hd l5 = some (.lst ys) ∧ ys = ((cs.take j).map (thr ed)).map V.int) ⟨Same.put f5 (Same.refl _), upd_same, rfl⟩ (lenLine (by rw [List.length_map]; (first | lia | omega)))
        (fun j ys Hd hj ⟨s4, e4, e5⟩ => ⟨SqL.of (s4 _ _ (sHc _ _ hc)), e4, by rw [e5, List.length_map, List.length_map, List.length_take]; (first | lia | omega)⟩) ?_ ?_
      · rintro j x ys Hd hx ⟨s6, e6, rfl⟩
        obtain ⟨z, hz, rfl⟩ := int_item hx
        refine ⟨⟨.inl rfl, .inr rfl, trivial⟩, tru_if ?_⟩
        refine ⟨_, rfl, _, rfl, _, _, rfl, rfl, .inr ⟨_, rfl, e6, Same.put f5 s6, upd_same, ?_⟩⟩
        rw [List.take_add_one, hz]
        simp [thr]
      rintro ys H5 ⟨s5, e5, rfl⟩
      rw [List.length_map, List.take_of_length_le (Nat.le_refl _)] at e5
      have sH5 := Same.trans sHc s5
      refine ⟨v, wide, ws, l5, _, rfl, net.kt (KT.same sH5 (KT.refl _)), ok, by (first | lia | omega), e5, by rw [List.length_map]; exact lc, fun l6 H6 f6 s6 x6 => ?_⟩
      rw [putM_map (thr_mono ed) _ _ lt] at x6
      have xd6 := s6 _ _ (s5 _ _ (sc _ _ xd4))
      refine ⟨_, rfl, ld, rfl, ⟨_, SqL.of xd6⟩, fun l7 f7 => ?_⟩
      refine comp_list (xs := (putM cs ws).map V.int) (fun j ys Hd => Same H6 Hd ∧ Hd l7 = some (.lst ys) ∧ ys = (((putM cs ws).take j).map (thr ed)).map V.int) ⟨Same.put f7 (Same.refl _), upd_same, rfl⟩ (lenLine (by rw [List.length_map]; (first | lia | omega)))
        (fun j ys Hd hj ⟨s4, e4, e5⟩ => ⟨SqL.of (s4 _ _ xd6), e4, by rw [e5, List.length_map, List.length_map, List.length_take]; (first | lia | omega)⟩) ?_ ?_
      · rintro j x ys Hd hx ⟨s8, e8, rfl⟩
        obtain ⟨z, hz, rfl⟩ := int_item hx
        refine ⟨⟨.inl rfl, .inr rfl, trivial⟩, tru_if ?_⟩
        refine ⟨_, rfl, _, rfl, _, _, rfl, rfl, .inr ⟨_, rfl, e8, Same.put f7 s8, upd_same, ?_⟩⟩
        rw [List.take_add_one, hz]
        simp [thr]
      rintro ys H7 ⟨s7, e7, rfl⟩
      rw [List.length_map, List.take_of_length_le (Nat.le_refl _)] at e7
      refine ⟨l6, l7, _, _, rfl, rfl, SqL.of (s7 _ _ x6), SqL.of e7, _, rfl, iteFd (by simp) ?_⟩
      exact ⟨_, rfl, Same.trans sc (Same.trans s5 (Same.trans s6 s7))⟩
    · rintro σ Hc ⟨v4, rfl, sc⟩
      have sHc := Same.trans sH4 sc
      refine ⟨_, rfl, c, cs, rfl, SqL.of (sHc _ _ hc), by (first | lia | omega), fun l5 f5 => ?_⟩
      have s5 : Same Hc (upd Hc l5 (setX w l5 (metL cs))) := same_new f5 _
      have x5 : (upd Hc l5 (setX w l5 (metL cs))) l5 = some (setX w l5 (metL cs)) := upd_same
      generalize upd Hc l5 (setX w l5 (metL cs)) = H5 at s5 x5
      refine ⟨l5, _, rfl, x5, ?_, fun l6 ks f6 pm pw => ?_⟩
      · have : (metL cs).length ≤ cs.length := PyProof.Rows.foldl_step_dedup_nil_length_le cs
        (first | lia | omega)
      have so : SrtOf cs ks := ⟨pm, pw⟩
      have lk := so.len
      have s6 : Same H5 (upd H5 l6 (HO.lst (ks.map V.int))) := same_new f6 _
      have x6 : (upd H5 l6 (HO.lst (ks.map V.int))) l6 = some (.lst (ks.map V.int)) := upd_same
      generalize upd H5 l6 (HO.lst (ks.map V.int)) = H6 at s6 x6
      have sH6 := Same.trans sHc (Same.trans s5 s6)
      have xd6 := s6 _ _ (s5 _ _ (sc _ _ xd4))
      refine ⟨_, rfl, ld, rfl, ⟨_, SqL.of xd6⟩, fun l7 f7 => ?_⟩
      refine comp_list (xs := (putM cs ws).map V.int) (fun j ys Hd => Same H6 Hd ∧ Hd l7 = some (.lst ys) ∧ ys = (((putM cs ws).take j).map (stepF ks ss)).map V.int) ⟨Same.put f7 (Same.refl _), upd_same, rfl⟩ (lenLine (by rw [List.length_map]; (first | lia | omega)))
        (fun j ys Hd hj ⟨s4, e4, e5⟩ => ⟨SqL.of (s4 _ _ xd6), e4, by rw [e5, List.length_map, List.length_map, List.length_take]; (first | lia | omega)⟩) ?_ ?_
      · rintro j x ys Hd hx ⟨s8, e8, rfl⟩
        obtain ⟨z, hz, rfl⟩ := int_item hx
        have mz : z ∈ cs := pput.mem_iff.mp (List.mem_of_getElem? hz)
        refine ⟨⟨.inl rfl, .inr rfl, .inr rfl, trivial⟩, tru_if ?_⟩
        have xk := s8 _ _ x6
        have xs := s8 _ _ (sH6 _ _ hd)
        refine ⟨_, rfl, _, rfl, .inl ⟨rfl, _, SqL.of xk⟩, _, rfl, l6, ks, z, rfl, rfl, xk, so.mem.mpr mz, by (first | lia | omega), _, _, rfl, rfl, _, rfl, d, _, rfl, SqL.of xs, fun l9 f9 => ?_⟩
        rw [cut_head]
        have s9 : Same Hd (upd Hd l9 (HO.lst ((ss.take (ks.idxOf z + 1)).map V.int))) := same_new f9 _
        have x9 : (upd Hd l9 (HO.lst ((ss.take (ks.idxOf z + 1)).map V.int))) l9 = some (.lst ((ss.take (ks.idxOf z + 1)).map V.int)) := upd_same
        generalize upd Hd l9 (HO.lst ((ss.take (ks.idxOf z + 1)).map V.int)) = H9 at s9 x9
        refine ⟨l9, _, rfl, SqL.of x9, s9 _ _ e8, Same.put f7 (Same.trans s8 s9), upd_same, ?_⟩
        rw [so.at mz, List.take_add_one, hz]
        simp
      rintro ys H7 ⟨s7, e7, rfl⟩
      rw [List.length_map, List.take_of_length_le (Nat.le_refl _)] at e7
      have sH7 := Same.trans sH6 s7
      refine ⟨_, rfl, _, rfl, _, rfl, c, d, cs, ss, rfl, sH7 _ _ hc, by (first | lia | omega), sH7 _ _ hd, fun ks' l8 H8 so' f8 s8 x8 => ?_⟩
      rw [← so.one so'] at x8
      have sH8 := Same.trans sH7 s8
      refine ⟨v, wide, ws, l8, _, rfl, net.kt (KT.same sH8 (KT.refl _)), ok, by (first | lia | omega), x8, by rw [List.length_map]; exact lc, fun l9 H9 f9 s9 x9 => ?_⟩
      rw [putM_map (step_mono53 s0) _ _ lt] at x9
      refine ⟨_, rfl, l9, l7, _, _, rfl, rfl, SqL.of x9, SqL.of (s9 _ _ (s8 _ _ e7)), ?_⟩
      have : decide (List.map (stepF ks ss) (putM cs ws) = List.map (stepF ks ss) (putM cs ws)) = true := by simp
      simp only [Bool.false_eq_true, if_false, this]
      exact q H9 (Same.trans sH8 s9)
end
section
variable {P : Program} {w : World} {K : PySem.W.Frag} {mg : Str → Option Value} {base : Heap} {f : Addr} {fd : FuncData}
theorem sc_net_right : FnScope ["_law_net_here", "_law_pen_here", "_law_told", "_law_k", "_law_values_here", "_law_unlike"] ["_law_net_here", "_law_pen_here"] (defScope s_net_right) := ⟨rfl, rfl, rfl, by decide +kernel, rfl, by decide +kernel, by decide +kernel⟩
theorem ok_net_right (T : Bn mg) (F : Here K mg "_law_net_right" s_net_right f fd) (C_law_take : Callee P w K mg base "_law_take" 1 ["_law_pen_here", "_law_size"] spTake) (C_law_values : Callee P w K mg base "_law_values" 2 ["_law_pen_here", "_law_wide"] spCounts) (Cput_in_order : Callee P w K mg base "put_in_order" 1 ["net", "values"] spPut) (Cfalls : Callee P w K mg base "falls" 1 ["values"] spFalls)
    (Corders : Callee P w K mg base "orders" 3 ["net"] spOrders) (C_law_row_right : Callee P w K mg base "_law_row_right" 2 ["_law_net_here", "_law_values_here", "_law_steps"] spRowR53) : FnOk P w K mg base CX0 4 f fd ["_law_net_here", "_law_pen_here"] spNetR53 := by
  refine F.fn.ok sc_net_right (fun vs H Q E h => ?_) (fun cdv A outer s H vs Q E hr h => ?_)
  · obtain ⟨v, wide, ws, p, rfl, _⟩ := h
    rfl
  · obtain ⟨v, wide, ws, p, rfl, net, w1, w8, ok, len, pen, q⟩ := h
    obtain ⟨n, t, rs, rfl, hn, ht, hrs⟩ := id net
    replace Corders := Corders.imp orders_u
    refine ⟨_, (pss_cons (ps_set (i := 2) sc_net_right.nd rfl (by first | exact Or.inl rfl | exact Or.inr rfl) (pe_callC Corders (hr.mono (by first | decide | (first | lia | omega))) rfl (pa_cons (pv 0) pa_nil)))
    (pss_cons (ps_for PassesOwn.never rfl  (pi_range1 rfl T.n_range (pa_cons pe_int pa_nil)) (pg_name (i := 3) sc_net_right.nd rfl (by first | exact Or.inl rfl | exact Or.inr rfl))
    (pss_cons (ps_set (i := 4) sc_net_right.nd rfl (by first | exact Or.inl rfl | exact Or.inr rfl) (pe_callC C_law_values (hr.mono (by first | decide | (first | lia | omega))) rfl (pa_cons (pv 1) (pa_cons (pe_ix ix_tup (pv 0) pe_int (fun _ _ => rfl)) pa_nil))))
    (pss_cons (ps_if (pt_not (pt_val (pe_callC C_law_row_right (hr.mono (by first | decide | (first | lia | omega))) rfl (pa_cons (pv 0) (pa_cons (pv 4) (pa_cons (pe_comp ["_law_lane"] [("_law_pen_here", 1)] rfl (pi_range1 rfl T.n_range (pa_cons (pe_ix ix_tup (pv 0) pe_int (fun _ _ => rfl)) pa_nil)) (fun _ _ _ _ _ _ => by exact (pg_name (i := 0) (show List.Nodup (["_law_lane", "_law_pen_here"] : List Str) by decide +kernel) rfl (by first | exact Or.inl rfl | exact Or.inr rfl))) (fun _ _ _ _ _ _ => by exact pts_nil) (fun _ _ _ _ _ _ => by exact (pe_callC C_law_take (hr.mono (by first | decide | (first | lia | omega))) rfl (pa_cons (pv 1) (pa_cons pe_int pa_nil))))) pa_nil))))))
    (pss_one (ps_ret pe_bl))
    pss_nil)
    (pss_one (ps_if (PW.pt (pw_and (pt_cmpR op_eq (pe_ix ix_tup (pv 2) pe_int (fun _ _ => rfl)) pe_str (nomark _)) (pw_and1 (pt_cmpR op_notB (pe_callC Cfalls (hr.mono (by first | decide | (first | lia | omega))) rfl (pa_cons (pe_callC Cput_in_order (hr.mono (by first | decide | (first | lia | omega))) rfl (pa_cons (pv 0) (pa_cons (pv 4) pa_nil))) pa_nil)) pe_bl (nomark _)))))
    (pss_one (ps_ret pe_bl))
    pss_nil)))))
    (pss_cons (ps_if (pt_cmpR op_eq (pe_ix ix_tup (pv 2) pe_int (fun _ _ => rfl)) pe_str (nomark _))
    (pss_one (ps_ret pe_bl))
    pss_nil)
    (pss_cons (ps_setComp (i := 5) sc_net_right.nd rfl (by first | exact Or.inl rfl | exact Or.inr rfl) ["_law_lane"] [("_law_told", 2)] rfl (pi_range1 rfl T.n_range (pa_cons (pe_ix ix_tup (pv 0) pe_int (fun _ _ => rfl)) pa_nil)) (fun _ _ _ _ _ _ => by exact (pg_name (i := 0) (show List.Nodup (["_law_lane", "_law_told"] : List Str) by decide +kernel) rfl (by first | exact Or.inl rfl | exact Or.inr rfl))) (fun _ _ _ _ _ _ => by exact pts_nil) (fun _ _ _ _ _ _ => by exact (pe_op op_add (pe_op op_mul pe_int (pe_ix (ix_listK K rfl) (pe_ix (ix_tupK K rfl) (pv 1) pe_int (fun _ _ => rfl)) (pv 0) (fun _ _ => rfl))) (pv 0))))
    (pss_one (ps_ret (pe_cmpR op_isB (pe_callC Cfalls (hr.mono (by first | decide | (first | lia | omega))) rfl (pa_cons (pe_callC Cput_in_order (hr.mono (by first | decide | (first | lia | omega))) rfl (pa_cons (pv 0) (pa_cons (pv 5) pa_nil))) pa_nil)) pe_bl (nomark _)))))))), ?_⟩
    refine ⟨_, rfl, .ref n, wide, ws, rfl, net, w1, w8, ok, len, fun Tt H1 wd xs s1 xT told => ?_⟩
    obtain ⟨ea, eb, ec, hp⟩ := pen
    have hp1 := s1 _ _ hp
    refine ⟨5, rfl, by decide, by decide, ?_⟩
    refine for_range (n := 5) (fun i σ Hc => ∃ v3 v4, σ = [some (.ref n), some (.ref p), some (.ref Tt), v3, v4, none] ∧ Kp p H1 Hc ∧ Pen Hc p) ⟨none, none, rfl, Kp.refl _ _, ⟨_, _, _, hp1⟩⟩ ?_ ?_
    · rintro i σ Hc hi ⟨v3, v4, rfl, kc, pc⟩
      have hn1 := s1 _ _ hn
      have hnc := Kp.tup kc hp1 hn1
      have xTc := Kp.tup kc hp1 xT
      refine ⟨_, rfl, _, rfl, n, _, _, _, rfl, rfl, SqT.of hnc, rfl, p, wide, rfl, pc, w1, w8, fun lv cs H7 f7 k7 pen7 x7 lc => ?_⟩
      obtain ⟨ga, gb, gc, hpc⟩ := pc
      obtain ⟨fa, fb, fc, hp7⟩ := id pen7
      have nlv : lv ≠ p := Ne.symm (ne_of_none hpc f7)
      have hn7 := Kp.tup k7 hpc hnc
      refine ⟨_, rfl, _, rfl, _, rfl, n, _, _, _, rfl, rfl, SqT.of hn7, rfl, wide, rfl, by (first | lia | omega), by (first | lia | omega), fun l8 f8 => ?_⟩
      have n8 : l8 ≠ p := Ne.symm (ne_of_none hp7 f8)
      refine comp_range (n := wide.toNat) (fun j ys Hd => Kp p H7 Hd ∧ Pen Hd p ∧ Hd l8 = some (.lst ys) ∧ ∃ ss : List Int, ys = ss.map V.int ∧ ss.length = j ∧ ∀ x ∈ ss, 0 ≤ x) ⟨Kp.put f8 (Kp.refl _ _), ⟨fa, fb, fc, (upd_ne (Ne.symm n8)).trans hp7⟩, upd_same, [], rfl, rfl, by simp⟩ (lenLine (by (first | lia | omega)))
        (fun j ys Hd ⟨_, _, e, ss, r, r', _⟩ => ⟨e, by rw [r, List.length_map, r']; exact Nat.le_refl _⟩) ?_ ?_
      · rintro j ys Hd hj ⟨kd, ⟨da, db, dc, hpd⟩, e8, ss, rfl, lss, s0⟩
        refine ⟨⟨.inl rfl, .inr rfl, trivial⟩, tru_if ?_⟩
        refine ⟨_, rfl, p, _, _, _, 3, rfl, hpd, by decide, by decide, fun x a5 b5 c5 x0 x3 => ?_⟩
        have k9 : Kp p H7 (upd Hd p (HO.lst [V.int a5, V.int b5, V.int c5])) := Kp.trans kd Kp.upd
        have h9 : (upd Hd p (HO.lst [V.int a5, V.int b5, V.int c5])) p = some (.lst [V.int a5, V.int b5, V.int c5]) := upd_same
        have e9 : (upd Hd p (HO.lst [V.int a5, V.int b5, V.int c5])) l8 = some (.lst (ss.map V.int)) := (upd_ne n8).trans e8
        generalize upd Hd p (HO.lst [V.int a5, V.int b5, V.int c5]) = H9 at k9 h9 e9
        refine ⟨e9, Kp.put f8 k9, ⟨a5, b5, c5, (upd_ne (Ne.symm n8)).trans h9⟩, upd_same, ss ++ [x], by rw [List.map_append]; rfl, by simp [lss], fun y hy => ?_⟩
        rcases List.mem_append.mp hy with hy | hy
        · exact s0 y hy
        · rw [List.mem_singleton.mp hy]; exact x0
      rintro ys H8 ⟨k8, pen8, e8, ss, rfl, lss, s0⟩
      have kt8 : KT H H8 := KT.kp k8 hp7 (KT.kp k7 hpc (KT.kp kc hp1 (KT.same s1 (KT.refl _))))
      have x8 := k8 _ _ x7 nlv
      refine ⟨.ref n, wide, ws, lv, l8, cs, ss, rfl, net.kt kt8, w1, w8, ok, len, x8, lc, e8, s0, fun H9 s9 => ?_⟩
      refine ⟨_, rfl, iteFd (by decide) ?_⟩
      have k19 : Kp p H1 H9 := Kp.trans kc (Kp.trans k7 (Kp.trans k8 (Kp.same s9)))
      have xT9 := Kp.tup k19 hp1 xT
      have pen9 : Pen H9 p := let ⟨a, b, c, e⟩ := pen8; ⟨a, b, c, s9 _ _ e⟩
      rcases told with ⟨rfl, rfl, all⟩ | ⟨rfl, _, _, rfl, _⟩
      · refine ⟨_, rfl, Tt, _, _, _, rfl, rfl, SqT.of xT9, rfl, rfl, _, rfl, iteTd (by decide) ?_⟩
        refine ⟨_, rfl, _, rfl, .ref n, wide, ws, lv, cs, rfl, net.kt (KT.same s9 kt8), ok, by (first | lia | omega), s9 _ _ x8, lc, fun l10 H10 f10 s10 x10 => ?_⟩
        refine ⟨l10, _, rfl, x10, by rw [putM_len]; (first | lia | omega), fun b H11 s11 hb => ?_⟩
        have bt : b = true := hb.mpr (all_of_bits all lc (wok_lt ok lc))
        subst bt
        refine ⟨_, _, rfl, rfl, _, rfl, iteFd (by decide) ?_⟩
        exact ⟨_, _, rfl, Kp.trans k19 (Kp.same (Same.trans s10 s11)), let ⟨a, b, c, e⟩ := pen9; ⟨a, b, c, s11 _ _ (s10 _ _ e)⟩⟩
      · refine ⟨_, rfl, Tt, _, _, _, rfl, rfl, SqT.of xT9, rfl, rfl, _, rfl, iteFd (by decide) (iteFd (by decide) ?_)⟩
        exact ⟨_, _, rfl, k19, pen9⟩
    · rintro σ Hc ⟨v3, v4, rfl, kc, pc⟩
      have hn1 := s1 _ _ hn
      have hnc := Kp.tup kc hp1 hn1
      have xTc := Kp.tup kc hp1 xT
      have kH : Kp p H Hc := Kp.trans (Kp.same s1) kc
      rcases told with ⟨rfl, rfl, all⟩ | ⟨rfl, l, r, rfl, fl, xl, bits, nf⟩
      · refine ⟨_, rfl, Tt, _, _, _, rfl, rfl, SqT.of xTc, rfl, rfl, _, rfl, iteTd (by decide) ?_⟩
        exact q Hc kH pc
      · refine ⟨_, rfl, Tt, _, _, _, rfl, rfl, SqT.of xTc, rfl, rfl, _, rfl, iteFd (by decide) ?_⟩
        obtain ⟨ga, gb, gc, hpc⟩ := pc
        have nl : l ≠ p := Ne.symm (ne_of_none hp fl)
        have xlc := kc _ _ xl nl
        have lr : r.length = wide.toNat := bits.1
        refine ⟨_, rfl, n, _, _, _, rfl, rfl, SqT.of hnc, rfl, wide, rfl, by (first | lia | omega), by (first | lia | omega), fun l8 f8 => ?_⟩
        refine comp_range (n := wide.toNat) (fun j ys Hd => Same Hc Hd ∧ Hd l8 = some (.lst ys) ∧ ys = ((unlike r).take j).map V.int) ⟨Same.put f8 (Same.refl _), upd_same, rfl⟩ (lenLine (by (first | lia | omega)))
          (fun j ys Hd ⟨_, e, r'⟩ => ⟨e, by rw [r', List.length_map, List.length_take]; (first | lia | omega)⟩) ?_ ?_
        · rintro j ys Hd hj ⟨sd, e8, rfl⟩
          have xTd := sd _ _ xTc
          have xld := sd _ _ xlc
          refine ⟨⟨.inl rfl, .inr rfl, trivial⟩, tru_if ?_⟩
          refine ⟨_, rfl, Tt, _, _, _, rfl, rfl, SqT.of xTd, rfl, _, rfl, l, _, _, _, rfl, rfl, SqL.of xld, atI_int (by (first | lia | omega)) (by (first | lia | omega)), _, _, rfl, rfl, .inl ⟨by decide, by decide⟩, _, rfl, _, _, rfl, rfl, e8, Same.put f8 sd, upd_same, ?_⟩
          have e : (unlike r)[j]? = some (100 * r.getD j 0 + j) := by simp [unlike, show j < r.length by (first | lia | omega)]
          rw [List.take_add_one, e]
          simp
        rintro ys H8 ⟨s8, e8, rfl⟩
        rw [List.take_of_length_le (by rw [unlike_len]; (first | lia | omega))] at e8
        have kt8 : KT H H8 := KT.same s8 (KT.kp kc hp1 (KT.same s1 (KT.refl _)))
        refine ⟨_, rfl, _, rfl, .ref n, wide, ws, l8, _, rfl, net.kt kt8, ok, by (first | lia | omega), e8, by rw [unlike_len]; exact lr, fun l10 H10 f10 s10 x10 => ?_⟩
        refine ⟨l10, _, rfl, x10, by rw [putM_len, unlike_len]; (first | lia | omega), fun b H11 s11 hb => ?_⟩
        have bt : b = false := by
          cases b with
          | false => rfl
          | true => exact absurd (hb.mp rfl) (unlike_not bits (by (first | lia | omega)) (wok_lt ok lr) nf)
        subst bt
        refine ⟨_, _, rfl, rfl, ?_⟩
        have s9 := Same.trans s8 (Same.trans s10 s11)
        exact q H11 (Kp.trans kH (Kp.same s9)) ⟨_, _, _, s9 _ _ hpc⟩
end
section
variable {P : Program} {w : World} {K : PySem.W.Frag} {mg : Str → Option Value} {base : Heap} {f : Addr} {fd : FuncData}
theorem sc_law : FnScope ["_law_script", "_law_k"] ["_law_script"] (defScope s_law) := ⟨rfl, rfl, rfl, by decide +kernel, rfl, by decide +kernel, by decide +kernel⟩
theorem ok_law (T : Bn mg) (F : Here K mg "law" s_law f fd) (C_law_pen : Callee P w K mg base "_law_pen" 1 ["_law_script", "_law_k"] (spPen K)) (C_law_net : Callee P w K mg base "_law_net" 8 ["_law_pen_here"] spNet)
    (C_law_net_right : Callee P w K mg base "_law_net_right" 4 ["_law_net_here", "_law_pen_here"] spNetR53) :
    FnOk P w K mg base CX0 9 f fd ["_law_script"] (spLaw K) := by
  refine F.fn.ok sc_law (fun vs H Q E h => ?_) (fun cdv A outer s H vs Q E hr h => ?_)
  · obtain ⟨a, ns, rfl, _⟩ := h
    rfl
  · obtain ⟨a, ns, rfl, hS, h63, q⟩ := h
    refine ⟨_, (pss_cons (ps_for PassesOwn.never rfl  (pi_range1 rfl T.n_range (pa_cons pe_int pa_nil)) (pg_name (i := 1) sc_law.nd rfl (by first | exact Or.inl rfl | exact Or.inr rfl))
    (pss_one (ps_if (pt_not (pt_val (pe_callC C_law_net_right (hr.mono (by first | decide | (first | lia | omega))) rfl (pa_cons (pe_callC C_law_net (hr.mono (by first | decide | (first | lia | omega))) rfl (pa_cons (pe_callC C_law_pen (hr.mono (by first | decide | (first | lia | omega))) rfl (pa_cons (pv 0) (pa_cons (pe_op op_mul pe_int (pv 1)) pa_nil))) pa_nil)) (pa_cons (pe_callC C_law_pen (hr.mono (by first | decide | (first | lia | omega))) rfl (pa_cons (pv 0) (pa_cons (pe_op op_add (pe_op op_mul pe_int (pv 1)) pe_int) pa_nil))) pa_nil)))))
    (pss_one (ps_ret pe_bl))
    pss_nil)))
    (pss_one (ps_ret pe_bl))), ?_⟩
    refine ⟨2, rfl, by decide, by decide, ?_⟩
    refine for_range (n := 2) (fun i σ Hc => ∃ v1, σ = [some (.ref a), v1] ∧ Same H Hc) ⟨none, rfl, Same.refl H⟩ ?_ ?_
    · rintro i σ Hc hi ⟨v1, rfl, sc⟩
      refine ⟨_, rfl, _, rfl, _, _, rfl, rfl, .inl ⟨by decide, by decide⟩, a, ns, 2 * (0 + (i : Int)), rfl, sc.seq hS, h63, by (first | lia | omega), by (first | lia | omega), fun p pa pb pc fp => ?_⟩
      refine ⟨p, rfl, ⟨_, _, _, upd_same⟩, fun v wide ws H1 k1 pn1 net w1 w8 ok len => ?_⟩
      have s1 : Same Hc H1 := Kp.fresh fp k1
      have sH1 := Same.trans sc s1
      refine ⟨_, rfl, _, rfl, _, _, rfl, rfl, .inl ⟨by decide, by decide⟩, _, _, rfl, rfl, a, ns, 2 * (0 + (i : Int)) + 1, rfl, sH1.seq hS, h63, by (first | lia | omega), by (first | lia | omega), fun p2 ga gb gc fp2 => ?_⟩
      have s2 : Same H1 (upd H1 p2 (HO.lst [V.int ga, V.int gb, V.int gc])) := same_new fp2 _
      have x2 : (upd H1 p2 (HO.lst [V.int ga, V.int gb, V.int gc])) p2 = some (.lst [V.int ga, V.int gb, V.int gc]) := upd_same
      generalize upd H1 p2 (HO.lst [V.int ga, V.int gb, V.int gc]) = H2 at s2 x2
      refine ⟨v, wide, ws, p2, rfl, net.kt (KT.same s2 (KT.refl _)), w1, w8, ok, by (first | lia | omega), ⟨_, _, _, x2⟩, fun H3 k3 pn3 => ?_⟩
      refine ⟨_, rfl, iteFd (by decide) ?_⟩
      exact ⟨_, rfl, Kp.sameOf k3 (Same.trans sH1 s2) ((Same.trans sc s1).free fp2)⟩
    · rintro σ Hc ⟨v1, rfl, sc⟩
      exact q Hc
end
end Ep
namespace Ep
open PySem L2 PySem.SeqAt
theorem us1 {us : List Value} (h : us.length = 1) : ∃ a, us = [a] := by
  cases us with
  | nil => cases h
  | cons a r => cases r with
    | nil => exact ⟨a, rfl⟩
    | cons b r => simp at h
theorem us2 {us : List Value} (h : us.length = 2) : ∃ a b, us = [a, b] := by
  cases us with
  | nil => cases h
  | cons x r =>
    obtain ⟨a, rfl⟩ := us1 (us := r) (by simpa using h)
    exact ⟨x, a, rfl⟩
theorem us3 {us : List Value} (h : us.length = 3) : ∃ a b c, us = [a, b, c] := by
  cases us with
  | nil => cases h
  | cons x r =>
    obtain ⟨a, b, rfl⟩ := us2 (us := r) (by simpa using h)
    exact ⟨x, a, b, rfl⟩
theorem us4 {us : List Value} (h : us.length = 4) : ∃ a b c d, us = [a, b, c, d] := by
  cases us with
  | nil => cases h
  | cons x r =>
    obtain ⟨a, b, c, rfl⟩ := us3 (us := r) (by simpa using h)
    exact ⟨x, a, b, c, rfl⟩
theorem us5 {us : List Value} (h : us.length = 5) : ∃ a b c d e, us = [a, b, c, d, e] := by
  cases us with
  | nil => cases h
  | cons x r =>
    obtain ⟨a, b, c, d, rfl⟩ := us4 (us := r) (by simpa using h)
    exact ⟨x, a, b, c, d, rfl⟩
theorem us6 {us : List Value} (h : us.length = 6) : ∃ a b c d e f, us = [a, b, c, d, e, f] := by
  cases us with
  | nil => cases h
  | cons x r =>
    obtain ⟨a, b, c, d, e, rfl⟩ := us5 (us := r) (by simpa using h)
    exact ⟨x, a, b, c, d, e, rfl⟩
theorem us7 {us : List Value} (h : us.length = 7) : ∃ a b c d e f g, us = [a, b, c, d, e, f, g] := by
  cases us with
  | nil => cases h
  | cons x r =>
    obtain ⟨a, b, c, d, e, f, rfl⟩ := us6 (us := r) (by simpa using h)
    exact ⟨x, a, b, c, d, e, f, rfl⟩
theorem all_mk {l : PySem.W.OpenLaw} {w : World} {K : PySem.W.Frag} {h : Heap} {mg : Str → Option Value} {fa : Addr} (X : K.In h) (G : h.Ns mainGlobals mg) (hfa : mg "law" = some (.ref fa))
    {f1 : Addr} {od1 an1 : Option Addr} {sl1 : Array (Option Value)} {oc1 kV1 dc1 pm1 cd1 ct1 : Value}
    (a1 : PySem.W.nsIn K mainGlobals "_law_take" = some (some (.ref f1))) (l1 : K.lookup f1 = some ⟨oc1, od1, .func (PySem.W.fnOf "_law_take" "_law_take" (defArgs s_take) (defBody s_take) (defScope s_take) .none kV1 dc1 pm1 an1 cd1 ct1), sl1⟩) (c1 : PySem.W.codeIn K cd1 "_law_take" = true) (k1 : PySem.W.keepIn K (.ref f1) = true)
    {f2 : Addr} {od2 an2 : Option Addr} {sl2 : Array (Option Value)} {oc2 kV2 dc2 pm2 cd2 ct2 : Value}
    (a2 : PySem.W.nsIn K mainGlobals "_law_pen" = some (some (.ref f2))) (l2 : K.lookup f2 = some ⟨oc2, od2, .func (PySem.W.fnOf "_law_pen" "_law_pen" (defArgs s_pen) (defBody s_pen) (defScope s_pen) .none kV2 dc2 pm2 an2 cd2 ct2), sl2⟩) (c2 : PySem.W.codeIn K cd2 "_law_pen" = true) (k2 : PySem.W.keepIn K (.ref f2) = true)
    {f3 : Addr} {od3 an3 : Option Addr} {sl3 : Array (Option Value)} {oc3 kV3 dc3 pm3 cd3 ct3 : Value}
    (a3 : PySem.W.nsIn K mainGlobals "_law_wickets" = some (some (.ref f3))) (l3 : K.lookup f3 = some ⟨oc3, od3, .func (PySem.W.fnOf "_law_wickets" "_law_wickets" (defArgs s_wickets) (defBody s_wickets) (defScope s_wickets) .none kV3 dc3 pm3 an3 cd3 ct3), sl3⟩) (c3 : PySem.W.codeIn K cd3 "_law_wickets" = true) (k3 : PySem.W.keepIn K (.ref f3) = true)
    {f4 : Addr} {od4 an4 : Option Addr} {sl4 : Array (Option Value)} {oc4 kV4 dc4 pm4 cd4 ct4 : Value}
    (a4 : PySem.W.nsIn K mainGlobals "_law_lifted" = some (some (.ref f4))) (l4 : K.lookup f4 = some ⟨oc4, od4, .func (PySem.W.fnOf "_law_lifted" "_law_lifted" (defArgs s_lifted) (defBody s_lifted) (defScope s_lifted) .none kV4 dc4 pm4 an4 cd4 ct4), sl4⟩) (c4 : PySem.W.codeIn K cd4 "_law_lifted" = true) (k4 : PySem.W.keepIn K (.ref f4) = true)
    {f5 : Addr} {od5 an5 : Option Addr} {sl5 : Array (Option Value)} {oc5 kV5 dc5 pm5 cd5 ct5 : Value}
    (a5 : PySem.W.nsIn K mainGlobals "_law_folded" = some (some (.ref f5))) (l5 : K.lookup f5 = some ⟨oc5, od5, .func (PySem.W.fnOf "_law_folded" "_law_folded" (defArgs s_folded) (defBody s_folded) (defScope s_folded) .none kV5 dc5 pm5 an5 cd5 ct5), sl5⟩) (c5 : PySem.W.codeIn K cd5 "_law_folded" = true) (k5 : PySem.W.keepIn K (.ref f5) = true)
    {f6 : Addr} {od6 an6 : Option Addr} {sl6 : Array (Option Value)} {oc6 kV6 dc6 pm6 cd6 ct6 : Value}
    (a6 : PySem.W.nsIn K mainGlobals "_law_block" = some (some (.ref f6))) (l6 : K.lookup f6 = some ⟨oc6, od6, .func (PySem.W.fnOf "_law_block" "_law_block" (defArgs s_block) (defBody s_block) (defScope s_block) .none kV6 dc6 pm6 an6 cd6 ct6), sl6⟩) (c6 : PySem.W.codeIn K cd6 "_law_block" = true) (k6 : PySem.W.keepIn K (.ref f6) = true)
    {f7 : Addr} {od7 an7 : Option Addr} {sl7 : Array (Option Value)} {oc7 kV7 dc7 pm7 cd7 ct7 : Value}
    (a7 : PySem.W.nsIn K mainGlobals "_law_brick" = some (some (.ref f7))) (l7 : K.lookup f7 = some ⟨oc7, od7, .func (PySem.W.fnOf "_law_brick" "_law_brick" (defArgs s_brick) (defBody s_brick) (defScope s_brick) .none kV7 dc7 pm7 an7 cd7 ct7), sl7⟩) (c7 : PySem.W.codeIn K cd7 "_law_brick" = true) (k7 : PySem.W.keepIn K (.ref f7) = true)
    {f8 : Addr} {od8 an8 : Option Addr} {sl8 : Array (Option Value)} {oc8 kV8 dc8 pm8 cd8 ct8 : Value}
    (a8 : PySem.W.nsIn K mainGlobals "_law_rounds" = some (some (.ref f8))) (l8 : K.lookup f8 = some ⟨oc8, od8, .func (PySem.W.fnOf "_law_rounds" "_law_rounds" (defArgs s_rounds) (defBody s_rounds) (defScope s_rounds) .none kV8 dc8 pm8 an8 cd8 ct8), sl8⟩) (c8 : PySem.W.codeIn K cd8 "_law_rounds" = true) (k8 : PySem.W.keepIn K (.ref f8) = true)
    {f9 : Addr} {od9 an9 : Option Addr} {sl9 : Array (Option Value)} {oc9 kV9 dc9 pm9 cd9 ct9 : Value}
    (a9 : PySem.W.nsIn K mainGlobals "_law_bent" = some (some (.ref f9))) (l9 : K.lookup f9 = some ⟨oc9, od9, .func (PySem.W.fnOf "_law_bent" "_law_bent" (defArgs s_bent) (defBody s_bent) (defScope s_bent) .none kV9 dc9 pm9 an9 cd9 ct9), sl9⟩) (c9 : PySem.W.codeIn K cd9 "_law_bent" = true) (k9 : PySem.W.keepIn K (.ref f9) = true)
    {f10 : Addr} {od10 an10 : Option Addr} {sl10 : Array (Option Value)} {oc10 kV10 dc10 pm10 cd10 ct10 : Value}
    (a10 : PySem.W.nsIn K mainGlobals "_law_net" = some (some (.ref f10))) (l10 : K.lookup f10 = some ⟨oc10, od10, .func (PySem.W.fnOf "_law_net" "_law_net" (defArgs s_net) (defBody s_net) (defScope s_net) .none kV10 dc10 pm10 an10 cd10 ct10), sl10⟩) (c10 : PySem.W.codeIn K cd10 "_law_net" = true) (k10 : PySem.W.keepIn K (.ref f10) = true)
    {f11 : Addr} {od11 an11 : Option Addr} {sl11 : Array (Option Value)} {oc11 kV11 dc11 pm11 cd11 ct11 : Value}
    (a11 : PySem.W.nsIn K mainGlobals "longer_rows" = some (some (.ref f11))) (l11 : K.lookup f11 = some ⟨oc11, od11, .func (PySem.W.fnOf "longer_rows" "longer_rows" (defArgs s_longer_rows) (defBody s_longer_rows) (defScope s_longer_rows) .none kV11 dc11 pm11 an11 cd11 ct11), sl11⟩) (c11 : PySem.W.codeIn K cd11 "longer_rows" = true) (k11 : PySem.W.keepIn K (.ref f11) = true)
    {f12 : Addr} {od12 an12 : Option Addr} {sl12 : Array (Option Value)} {oc12 kV12 dc12 pm12 cd12 ct12 : Value}
    (a12 : PySem.W.nsIn K mainGlobals "rows_of" = some (some (.ref f12))) (l12 : K.lookup f12 = some ⟨oc12, od12, .func (PySem.W.fnOf "rows_of" "rows_of" (defArgs s_rows_of) (defBody s_rows_of) (defScope s_rows_of) .none kV12 dc12 pm12 an12 cd12 ct12), sl12⟩) (c12 : PySem.W.codeIn K cd12 "rows_of" = true) (k12 : PySem.W.keepIn K (.ref f12) = true)
    {f13 : Addr} {od13 an13 : Option Addr} {sl13 : Array (Option Value)} {oc13 kV13 dc13 pm13 cd13 ct13 : Value}
    (a13 : PySem.W.nsIn K mainGlobals "put_in_order" = some (some (.ref f13))) (l13 : K.lookup f13 = some ⟨oc13, od13, .func (PySem.W.fnOf "put_in_order" "put_in_order" (defArgs s_put_in_order) (defBody s_put_in_order) (defScope s_put_in_order) .none kV13 dc13 pm13 an13 cd13 ct13), sl13⟩) (c13 : PySem.W.codeIn K cd13 "put_in_order" = true) (k13 : PySem.W.keepIn K (.ref f13) = true)
    {f14 : Addr} {od14 an14 : Option Addr} {sl14 : Array (Option Value)} {oc14 kV14 dc14 pm14 cd14 ct14 : Value}
    (a14 : PySem.W.nsIn K mainGlobals "falls" = some (some (.ref f14))) (l14 : K.lookup f14 = some ⟨oc14, od14, .func (PySem.W.fnOf "falls" "falls" (defArgs s_falls) (defBody s_falls) (defScope s_falls) .none kV14 dc14 pm14 an14 cd14 ct14), sl14⟩) (c14 : PySem.W.codeIn K cd14 "falls" = true) (k14 : PySem.W.keepIn K (.ref f14) = true)
    {f15 : Addr} {od15 an15 : Option Addr} {sl15 : Array (Option Value)} {oc15 kV15 dc15 pm15 cd15 ct15 : Value}
    (a15 : PySem.W.nsIn K mainGlobals "orders" = some (some (.ref f15))) (l15 : K.lookup f15 = some ⟨oc15, od15, .func (PySem.W.fnOf "orders" "orders" (defArgs s_orders) (defBody s_orders) (defScope s_orders) .none kV15 dc15 pm15 an15 cd15 ct15), sl15⟩) (c15 : PySem.W.codeIn K cd15 "orders" = true) (k15 : PySem.W.keepIn K (.ref f15) = true)
    {f16 : Addr} {od16 an16 : Option Addr} {sl16 : Array (Option Value)} {oc16 kV16 dc16 pm16 cd16 ct16 : Value}
    (a16 : PySem.W.nsIn K mainGlobals "_law_values" = some (some (.ref f16))) (l16 : K.lookup f16 = some ⟨oc16, od16, .func (PySem.W.fnOf "_law_values" "_law_values" (defArgs s_values) (defBody s_values) (defScope s_values) .none kV16 dc16 pm16 an16 cd16 ct16), sl16⟩) (c16 : PySem.W.codeIn K cd16 "_law_values" = true) (k16 : PySem.W.keepIn K (.ref f16) = true)
    {f17 : Addr} {od17 an17 : Option Addr} {sl17 : Array (Option Value)} {oc17 kV17 dc17 pm17 cd17 ct17 : Value}
    (a17 : PySem.W.nsIn K mainGlobals "_law_mapped" = some (some (.ref f17))) (l17 : K.lookup f17 = some ⟨oc17, od17, .func (PySem.W.fnOf "_law_mapped" "_law_mapped" (defArgs s_mapped) (defBody s_mapped) (defScope s_mapped) .none kV17 dc17 pm17 an17 cd17 ct17), sl17⟩) (c17 : PySem.W.codeIn K cd17 "_law_mapped" = true) (k17 : PySem.W.keepIn K (.ref f17) = true)
    {f18 : Addr} {od18 an18 : Option Addr} {sl18 : Array (Option Value)} {oc18 kV18 dc18 pm18 cd18 ct18 : Value}
    (a18 : PySem.W.nsIn K mainGlobals "_law_row_right" = some (some (.ref f18))) (l18 : K.lookup f18 = some ⟨oc18, od18, .func (PySem.W.fnOf "_law_row_right" "_law_row_right" (defArgs s_row_right) (defBody s_row_right) (defScope s_row_right) .none kV18 dc18 pm18 an18 cd18 ct18), sl18⟩) (c18 : PySem.W.codeIn K cd18 "_law_row_right" = true) (k18 : PySem.W.keepIn K (.ref f18) = true)
    {f19 : Addr} {od19 an19 : Option Addr} {sl19 : Array (Option Value)} {oc19 kV19 dc19 pm19 cd19 ct19 : Value}
    (a19 : PySem.W.nsIn K mainGlobals "_law_net_right" = some (some (.ref f19))) (l19 : K.lookup f19 = some ⟨oc19, od19, .func (PySem.W.fnOf "_law_net_right" "_law_net_right" (defArgs s_net_right) (defBody s_net_right) (defScope s_net_right) .none kV19 dc19 pm19 an19 cd19 ct19), sl19⟩) (c19 : PySem.W.codeIn K cd19 "_law_net_right" = true) (k19 : PySem.W.keepIn K (.ref f19) = true)
    {f20 : Addr} {od20 an20 : Option Addr} {sl20 : Array (Option Value)} {oc20 kV20 dc20 pm20 cd20 ct20 : Value}
    (a20 : PySem.W.nsIn K mainGlobals "law" = some (some (.ref f20))) (l20 : K.lookup f20 = some ⟨oc20, od20, .func (PySem.W.fnOf "law" "law" (defArgs s_law) (defBody s_law) (defScope s_law) .none kV20 dc20 pm20 an20 cd20 ct20), sl20⟩) (c20 : PySem.W.codeIn K cd20 "law" = true) (k20 : PySem.W.keepIn K (.ref f20) = true)
    (z1 : PySem.W.nsIn K mainGlobals "len" = some none) (z2 : PySem.W.nsIn K mainGlobals "max" = some none) (z3 : PySem.W.nsIn K mainGlobals "min" = some none) (z4 : PySem.W.nsIn K mainGlobals "int" = some none) (z5 : PySem.W.nsIn K mainGlobals "bool" = some none) (z6 : PySem.W.nsIn K mainGlobals "list" = some none) (z7 : PySem.W.nsIn K mainGlobals "tuple" = some none) (z8 : PySem.W.nsIn K mainGlobals "str" = some none) (z9 : PySem.W.nsIn K mainGlobals "dict" = some none) (z10 : PySem.W.nsIn K mainGlobals "range" = some none) (z11 : PySem.W.nsIn K mainGlobals "isinstance" = some none) (z12 : PySem.W.nsIn K mainGlobals "all" = some none) (z13 : PySem.W.nsIn K mainGlobals "any" = some none) (z14 : PySem.W.nsIn K mainGlobals "enumerate" = some none) (z15 : PySem.W.nsIn K mainGlobals "sum" = some none) (z16 : PySem.W.nsIn K mainGlobals "abs" = some none) (z17 : PySem.W.nsIn K mainGlobals "sorted" = some none) (z18 : PySem.W.nsIn K mainGlobals "reversed" = some none) (z19 : PySem.W.nsIn K mainGlobals "zip" = some none) (z20 : PySem.W.nsIn K mainGlobals "ord" = some none) (z21 : PySem.W.nsIn K mainGlobals "repr" = some none) (z22 : PySem.W.nsIn K mainGlobals "set" = some none) (z23 : PySem.W.nsIn K mainGlobals "divmod" = some none) (z24 : PySem.W.nsIn K mainGlobals "ValueError" = some none) (z25 : PySem.W.nsIn K mainGlobals "KeyError" = some none) :
    ∃ fd : FuncData, (∀ (s : Shared) (v : Value), BindsTo s fd ⟨[v], []⟩ [("_law_script", v)]) ∧ ∀ base : Heap, K.In base → base.Ns mainGlobals mg → FnOk l.prog w K mg base CX0 9 fa fd ["_law_script"] (spLaw K) := by
  have e := hfa.symm.trans (PySem.W.mg_of X G a20)
  cases e
  have H_take : Here K mg "_law_take" s_take _ _ := ⟨fun_mk l1 c1 k1, PySem.W.mg_of X G a1⟩
  have H_pen : Here K mg "_law_pen" s_pen _ _ := ⟨fun_mk l2 c2 k2, PySem.W.mg_of X G a2⟩
  have H_wickets : Here K mg "_law_wickets" s_wickets _ _ := ⟨fun_mk l3 c3 k3, PySem.W.mg_of X G a3⟩
  have H_lifted : Here K mg "_law_lifted" s_lifted _ _ := ⟨fun_mk l4 c4 k4, PySem.W.mg_of X G a4⟩
  have H_folded : Here K mg "_law_folded" s_folded _ _ := ⟨fun_mk l5 c5 k5, PySem.W.mg_of X G a5⟩
  have H_block : Here K mg "_law_block" s_block _ _ := ⟨fun_mk l6 c6 k6, PySem.W.mg_of X G a6⟩
  have H_brick : Here K mg "_law_brick" s_brick _ _ := ⟨fun_mk l7 c7 k7, PySem.W.mg_of X G a7⟩
  have H_rounds : Here K mg "_law_rounds" s_rounds _ _ := ⟨fun_mk l8 c8 k8, PySem.W.mg_of X G a8⟩
  have H_bent : Here K mg "_law_bent" s_bent _ _ := ⟨fun_mk l9 c9 k9, PySem.W.mg_of X G a9⟩
  have H_net : Here K mg "_law_net" s_net _ _ := ⟨fun_mk l10 c10 k10, PySem.W.mg_of X G a10⟩
  have H_longer_rows : Here K mg "longer_rows" s_longer_rows _ _ := ⟨fun_mk l11 c11 k11, PySem.W.mg_of X G a11⟩
  have H_rows_of : Here K mg "rows_of" s_rows_of _ _ := ⟨fun_mk l12 c12 k12, PySem.W.mg_of X G a12⟩
  have H_put_in_order : Here K mg "put_in_order" s_put_in_order _ _ := ⟨fun_mk l13 c13 k13, PySem.W.mg_of X G a13⟩
  have H_falls : Here K mg "falls" s_falls _ _ := ⟨fun_mk l14 c14 k14, PySem.W.mg_of X G a14⟩
  have H_orders : Here K mg "orders" s_orders _ _ := ⟨fun_mk l15 c15 k15, PySem.W.mg_of X G a15⟩
  have H_values : Here K mg "_law_values" s_values _ _ := ⟨fun_mk l16 c16 k16, PySem.W.mg_of X G a16⟩
  have H_mapped : Here K mg "_law_mapped" s_mapped _ _ := ⟨fun_mk l17 c17 k17, PySem.W.mg_of X G a17⟩
  have H_row_right : Here K mg "_law_row_right" s_row_right _ _ := ⟨fun_mk l18 c18 k18, PySem.W.mg_of X G a18⟩
  have H_net_right : Here K mg "_law_net_right" s_net_right _ _ := ⟨fun_mk l19 c19 k19, PySem.W.mg_of X G a19⟩
  have H_law : Here K mg "law" s_law _ _ := ⟨fun_mk l20 c20 k20, PySem.W.mg_of X G a20⟩
  have T : Bn mg := ⟨PySem.W.mg_none_of X G z1, PySem.W.mg_none_of X G z2, PySem.W.mg_none_of X G z3, PySem.W.mg_none_of X G z4, PySem.W.mg_none_of X G z5, PySem.W.mg_none_of X G z6, PySem.W.mg_none_of X G z7, PySem.W.mg_none_of X G z8, PySem.W.mg_none_of X G z9, PySem.W.mg_none_of X G z10, PySem.W.mg_none_of X G z11, PySem.W.mg_none_of X G z12, PySem.W.mg_none_of X G z13, PySem.W.mg_none_of X G z14, PySem.W.mg_none_of X G z15, PySem.W.mg_none_of X G z16, PySem.W.mg_none_of X G z17, PySem.W.mg_none_of X G z18, PySem.W.mg_none_of X G z19, PySem.W.mg_none_of X G z20, PySem.W.mg_none_of X G z21, PySem.W.mg_none_of X G z22, PySem.W.mg_none_of X G z23, PySem.W.mg_none_of X G z24, PySem.W.mg_none_of X G z25⟩
  refine ⟨PySem.W.fnOf "law" "law" (defArgs s_law) (defBody s_law) (defScope s_law) .none kV20 dc20 pm20 an20 cd20 ct20, fun s v => .of_eq rfl, fun base _ _ => ?_⟩
  have C_law_take : Callee l.prog w K mg base "_law_take" 1 ["_law_pen_here", "_law_size"] spTake := H_take.callee (ok_take H_take) (fun _ _ _ _ _ _ u h=>by obtain⟨x0,x1,rfl⟩:=us2 h;rfl)
  have C_law_pen : Callee l.prog w K mg base "_law_pen" 1 ["_law_script", "_law_k"] (spPen K) := H_pen.callee (ok_pen T H_pen) (fun _ _ _ _ _ _ u h=>by obtain⟨x0,x1,rfl⟩:=us2 h;rfl)
  have C_law_wickets : Callee l.prog w K mg base "_law_wickets" 2 ["_law_pen_here", "_law_wide", "_law_many"] spWickets := H_wickets.callee (ok_wickets T H_wickets C_law_take) (fun _ _ _ _ _ _ u h=>by obtain⟨x0,x1,x2,rfl⟩:=us3 h;rfl)
  have C_law_lifted : Callee l.prog w K mg base "_law_lifted" 1 ["_law_wickets_here", "_law_by"] spLifted := H_lifted.callee (ok_lifted H_lifted) (fun _ _ _ _ _ _ u h=>by obtain⟨x0,x1,rfl⟩:=us2 h;rfl)
  have R_folded : ∀ n : Nat, Callee l.prog w K mg base "_law_folded" (n + 1) ["_law_wide"] (spBuilt n) := fun n => by
      induction n with
      | zero => exact H_folded.callee ok_folded0 (fun _ _ _ _ _ _ u h=>by obtain⟨x0,rfl⟩:=us1 h;rfl)
      | succ n ih => exact H_folded.callee (ok_folded1 T H_folded C_law_lifted ih) (fun _ _ _ _ _ _ u h=>by obtain⟨x0,rfl⟩:=us1 h;rfl)
  have C_law_folded : Callee l.prog w K mg base "_law_folded" 6 ["_law_wide"] (spBuilt 4) := (R_folded 4).mono (by decide)
  have R_block : ∀ n : Nat, Callee l.prog w K mg base "_law_block" (n + 1) ["_law_wide"] (spBuilt n) := fun n => by
      induction n with
      | zero => exact H_block.callee ok_block0 (fun _ _ _ _ _ _ u h=>by obtain⟨x0,rfl⟩:=us1 h;rfl)
      | succ n ih => exact H_block.callee (ok_block1 T H_block C_law_lifted ih) (fun _ _ _ _ _ _ u h=>by obtain⟨x0,rfl⟩:=us1 h;rfl)
  have C_law_block : Callee l.prog w K mg base "_law_block" 6 ["_law_wide"] (spBuilt 4) := (R_block 4).mono (by decide)
  have C_law_brick : Callee l.prog w K mg base "_law_brick" 1 ["_law_wide"] spBrick := H_brick.callee (ok_brick T H_brick) (fun _ _ _ _ _ _ u h=>by obtain⟨x0,rfl⟩:=us1 h;rfl)
  have C_law_rounds : Callee l.prog w K mg base "_law_rounds" 7 ["_law_wide"] spRounds := H_rounds.callee (ok_rounds H_rounds C_law_block) (fun _ _ _ _ _ _ u h=>by obtain⟨x0,rfl⟩:=us1 h;rfl)
  have C_law_bent : Callee l.prog w K mg base "_law_bent" 3 ["_law_pen_here", "_law_wide", "_law_wickets_here"] spBent := H_bent.callee (ok_bent T H_bent C_law_take C_law_wickets) (fun _ _ _ _ _ _ u h=>by obtain⟨x0,x1,x2,rfl⟩:=us3 h;rfl)
  have C_law_net : Callee l.prog w K mg base "_law_net" 8 ["_law_pen_here"] spNet := H_net.callee (ok_net T H_net C_law_take C_law_wickets C_law_folded C_law_rounds C_law_brick C_law_bent) (fun _ _ _ _ _ _ u h=>by obtain⟨x0,rfl⟩:=us1 h;rfl)
  have Clonger_rows : Callee l.prog w K mg base "longer_rows" 1 ["rows", "numbers"] spLonger := H_longer_rows.callee (ok_longer_rows T H_longer_rows) (fun _ _ _ _ _ _ u h=>by obtain⟨x0,x1,rfl⟩:=us2 h;rfl)
  have Crows_of : Callee l.prog w K mg base "rows_of" 2 ["choices"] spRowsOf := H_rows_of.callee (ok_rows_of T H_rows_of Clonger_rows) (fun _ _ _ _ _ _ u h=>by obtain⟨x0,rfl⟩:=us1 h;rfl)
  have Cput_in_order : Callee l.prog w K mg base "put_in_order" 1 ["net", "values"] spPut := H_put_in_order.callee (ok_put_in_order T H_put_in_order) (fun _ _ _ _ _ _ u h=>by obtain⟨x0,x1,rfl⟩:=us2 h;rfl)
  have Cfalls : Callee l.prog w K mg base "falls" 1 ["values"] spFalls := H_falls.callee (ok_falls T H_falls) (fun _ _ _ _ _ _ u h=>by obtain⟨x0,rfl⟩:=us1 h;rfl)
  have Corders : Callee l.prog w K mg base "orders" 3 ["net"] spOrders := H_orders.callee (ok_orders T H_orders Crows_of Cput_in_order Cfalls) (fun _ _ _ _ _ _ u h=>by obtain⟨x0,rfl⟩:=us1 h;rfl)
  have C_law_values : Callee l.prog w K mg base "_law_values" 2 ["_law_pen_here", "_law_wide"] spCounts := H_values.callee (ok_values T H_values C_law_take) (fun _ _ _ _ _ _ u h=>by obtain⟨x0,x1,rfl⟩:=us2 h;rfl)
  have C_law_mapped : Callee l.prog w K mg base "_law_mapped" 1 ["_law_values_here", "_law_steps"] spMap := H_mapped.callee (ok_mapped T H_mapped) (fun _ _ _ _ _ _ u h=>by obtain⟨x0,x1,rfl⟩:=us2 h;rfl)
  have C_law_row_right : Callee l.prog w K mg base "_law_row_right" 2 ["_law_net_here", "_law_values_here", "_law_steps"] spRowR53 := H_row_right.callee (ok_row_right T H_row_right Cput_in_order C_law_mapped) (fun _ _ _ _ _ _ u h=>by obtain⟨x0,x1,x2,rfl⟩:=us3 h;rfl)
  have C_law_net_right : Callee l.prog w K mg base "_law_net_right" 4 ["_law_net_here", "_law_pen_here"] spNetR53 := H_net_right.callee (ok_net_right T H_net_right C_law_take C_law_values Cput_in_order Cfalls Corders C_law_row_right) (fun _ _ _ _ _ _ u h=>by obtain⟨x0,x1,rfl⟩:=us2 h;rfl)
  exact ok_law T H_law C_law_pen C_law_net C_law_net_right
theorem walk {l : PySem.W.OpenLaw} {q : Program} {loose : List Str} {XP : (Str → Option Value) → Heap → Prop} {YP : World → Heap → Prop} {d : DefRec} {K : Params → PySem.W.Frag} (hn : l.most = some 63) (hdf : d.params.defaults = [])
    (hY : ∀ (w : World) (h : Heap), YP w h → (K w.params).In h)
    (F : ∀ (w : World) (mg : Str → Option Value) (fa : Addr) (h : Heap), (K w.params).In h → h.Ns mainGlobals mg → mg d.name = some (.ref fa) →
      ∃ fd : FuncData, (∀ (s : Shared) (u : Value), BindsTo s fd ⟨[u], []⟩ [("_law_script", u)]) ∧ ∀ base : Heap, (K w.params).In base → base.Ns mainGlobals mg → FnOk l.prog w (K w.params) mg base CX0 9 fa fd ["_law_script"] (spLaw (K w.params))) :
    PySem.W.WalkO q loose XP YP l.row.toRowW d [] (fun f vs => PySem.call f vs) :=
  L2.walk_of (n := 63) (k := 9) (x := "_law_script") (CX := fun _ => CX0) (sp := fun w => spLaw (K w.params)) hn (by decide) hdf ⟨rfl, by decide, by decide, rfl⟩ hY F (fun _ _ a ns hl _ hS => ⟨a, ns, rfl, hS, hl, fun _ => rfl⟩) fun _ _ _ _ _ z => z
end Ep
open PySem PySem.W PyProof.Rows
set_option maxRecDepth 100000 in
set_option maxHeartbeats 0 in
theorem PySem.Challenge.cw_evenpass_k53_whole_each_row_by_its_thres_holds : PySem.Challenge.rw_evenpass_k53_whole_each_row_by_its_thres.Holds := by
  w_on; o_law; k_head; (case hw => w_witness2)
  k_fill
  refine Ep.walk (l := PySem.Challenge.rw_evenpass_k53_whole_each_row_by_its_thres) rfl rfl (fun w h Y => PySem.W.kIn_of Y) ?F
  case F =>
    intro w mg fa h KX G hmg
    refine' Ep.all_mk KX G hmg  ?a1 ?l1 ?c1 ?k1 ?a2 ?l2 ?c2 ?k2 ?a3 ?l3 ?c3 ?k3 ?a4 ?l4 ?c4 ?k4 ?a5 ?l5 ?c5 ?k5 ?a6 ?l6 ?c6 ?k6 ?a7 ?l7 ?c7 ?k7 ?a8 ?l8 ?c8 ?k8 ?a9 ?l9 ?c9 ?k9 ?a10 ?l10 ?c10 ?k10 ?a11 ?l11 ?c11 ?k11 ?a12 ?l12 ?c12 ?k12 ?a13 ?l13 ?c13 ?k13 ?a14 ?l14 ?c14 ?k14 ?a15 ?l15 ?c15 ?k15 ?a16 ?l16 ?c16 ?k16 ?a17 ?l17 ?c17 ?k17 ?a18 ?l18 ?c18 ?k18 ?a19 ?l19 ?c19 ?k19 ?a20 ?l20 ?c20 ?k20 ?z1 ?z2 ?z3 ?z4 ?z5 ?z6 ?z7 ?z8 ?z9 ?z10 ?z11 ?z12 ?z13 ?z14 ?z15 ?z16 ?z17 ?z18 ?z19 ?z20 ?z21 ?z22 ?z23 ?z24 ?z25
    (case a1 => k_is); (case l1 => k_is); (case c1 => k_is); (case k1 => k_is)
    (case a2 => k_is); (case l2 => k_is); (case c2 => k_is); (case k2 => k_is)
    (case a3 => k_is); (case l3 => k_is); (case c3 => k_is); (case k3 => k_is)
    (case a4 => k_is); (case l4 => k_is); (case c4 => k_is); (case k4 => k_is)
    (case a5 => k_is); (case l5 => k_is); (case c5 => k_is); (case k5 => k_is)
    (case a6 => k_is); (case l6 => k_is); (case c6 => k_is); (case k6 => k_is)
    (case a7 => k_is); (case l7 => k_is); (case c7 => k_is); (case k7 => k_is)
    (case a8 => k_is); (case l8 => k_is); (case c8 => k_is); (case k8 => k_is)
    (case a9 => k_is); (case l9 => k_is); (case c9 => k_is); (case k9 => k_is)
    (case a10 => k_is); (case l10 => k_is); (case c10 => k_is); (case k10 => k_is)
    (case a11 => k_is); (case l11 => k_is); (case c11 => k_is); (case k11 => k_is)
    (case a12 => k_is); (case l12 => k_is); (case c12 => k_is); (case k12 => k_is)
    (case a13 => k_is); (case l13 => k_is); (case c13 => k_is); (case k13 => k_is)
    (case a14 => k_is); (case l14 => k_is); (case c14 => k_is); (case k14 => k_is)
    (case a15 => k_is); (case l15 => k_is); (case c15 => k_is); (case k15 => k_is)
    (case a16 => k_is); (case l16 => k_is); (case c16 => k_is); (case k16 => k_is)
    (case a17 => k_is); (case l17 => k_is); (case c17 => k_is); (case k17 => k_is)
    (case a18 => k_is); (case l18 => k_is); (case c18 => k_is); (case k18 => k_is)
    (case a19 => k_is); (case l19 => k_is); (case c19 => k_is); (case k19 => k_is)
    (case a20 => k_is); (case l20 => k_is); (case c20 => k_is); (case k20 => k_is)
    (case z1 => k_is)
    (case z2 => k_is)
    (case z3 => k_is)
    (case z4 => k_is)
    (case z5 => k_is)
    (case z6 => k_is)
    (case z7 => k_is)
    (case z8 => k_is)
    (case z9 => k_is)
    (case z10 => k_is)
    (case z11 => k_is)
    (case z12 => k_is)
    (case z13 => k_is)
    (case z14 => k_is)
    (case z15 => k_is)
    (case z16 => k_is)
    (case z17 => k_is)
    (case z18 => k_is)
    (case z19 => k_is)
    (case z20 => k_is)
    (case z21 => k_is)
    (case z22 => k_is)
    (case z23 => k_is)
    (case z24 => k_is)
    (case z25 => k_is)
