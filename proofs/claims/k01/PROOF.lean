import PyProof.Rows.All
import Wide.All
import OpenK.AllK
import Wide.FinOn
import Lean
import PyProof.EqAt
import PyProof.EqKinds
import PyProof.TupleCall
import KE.KRevSl
import KE.KTryMore
import PySem.Challenge.RW_evenpass_k01_nets_made
set_option Elab.async false
set_option linter.all false
set_option maxRecDepth 100000
set_option maxHeartbeats 4000000

namespace L2
open PySem PySem.Spec PyProof.Rows

abbrev Key := Sum Int Str
def keyIs : Key → Value → Bool
  | .inl k, v => Value.isInt k v
  | .inr x, v => Value.isStrOf x v
def keyH (w : World) : Key → Int
  | .inl k => hashInt k
  | .inr x => hashStr w x
theorem keyIs_shape : ∀ {k : Key} {v : Value}, keyIs k v = true → (∃ i t, k = Sum.inl i ∧ v = Value.int i t) ∨ (∃ x t, k = Sum.inr x ∧ v = Value.str x t)
  | .inl i, v, h => by
    obtain ⟨t, e⟩ := Value.isInt_shape (k := i) (v := v) h
    exact .inl ⟨i, t, rfl, e⟩
  | .inr x, v, h => by
    obtain ⟨t, e⟩ := Value.isStrOf_shape (x := x) (v := v) h
    exact .inr ⟨x, t, rfl, e⟩
theorem keyIs_int (i : Int) (t : Tok) : keyIs (.inl i) (.int i t) = true := by simp [keyIs, Value.isInt]
theorem key_ll (a b : Int) : decide ((Sum.inl a : Key) = Sum.inl b) = (a == b) := by
  by_cases e : a = b
  · subst e; simp
  · have h : ¬ (Sum.inl a : Key) = Sum.inl b := fun q => e (Sum.inl.inj q)
    rw [decide_eq_false h]
    exact (beq_eq_false_iff_ne.mpr e).symm
theorem key_rr (a b : Str) : decide ((Sum.inr a : Key) = Sum.inr b) = decide (a = b) := by
  by_cases e : a = b
  · subst e; simp
  · have h : ¬ (Sum.inr a : Key) = Sum.inr b := fun q => e (Sum.inr.inj q)
    rw [decide_eq_false h, decide_eq_false e]
theorem key_lr (a : Int) (b : Str) : decide ((Sum.inl a : Key) = Sum.inr b) = false := decide_eq_false (fun q => nomatch q)
theorem key_rl (a : Str) (b : Int) : decide ((Sum.inr a : Key) = Sum.inl b) = false := decide_eq_false (fun q => nomatch q)

def mixKind (prog : Program) (w : World) : PySem.KeyKind prog w Key where
  is := keyIs
  hash := keyH w
  inj := fun v a b ha hb => by
    rcases keyIs_shape ha with ⟨i, t, rfl, rfl⟩ | ⟨x, t, rfl, rfl⟩
    · rcases keyIs_shape hb with ⟨j, u, rfl, e⟩ | ⟨y, u, rfl, e⟩
      · injection e with e1 _; rw [e1]
      · exact nomatch e
    · rcases keyIs_shape hb with ⟨j, u, rfl, e⟩ | ⟨y, u, rfl, e⟩
      · exact nomatch e
      · injection e with e1 _; rw [e1]
  byValue := fun k v h => by
    rcases keyIs_shape h with ⟨i, t, rfl, rfl⟩ | ⟨x, t, rfl, rfl⟩ <;> rfl
  pyHash := fun hv h => by
    rcases keyIs_shape hv with ⟨i, t, rfl, rfl⟩ | ⟨x, t, rfl, rfl⟩
    · exact wpAny_pyHash_int h
    · exact wpAny_pyHash_str h
  eqBool := fun hu hv h => by
    rcases keyIs_shape hu with ⟨i, t, rfl, rfl⟩ | ⟨x, t, rfl, rfl⟩
    · rcases keyIs_shape hv with ⟨j, u, rfl, rfl⟩ | ⟨y, u, rfl, rfl⟩
      · rw [key_ll] at h; exact wpAny_eqBool_int h
      · rw [key_lr] at h; exact SeqAt.EqAt.int_str i t y u _ _ _ _ h
    · rcases keyIs_shape hv with ⟨j, u, rfl, rfl⟩ | ⟨y, u, rfl, rfl⟩
      · rw [key_rl] at h; exact SeqAt.EqAt.str_int x t j u _ _ _ _ h
      · rw [key_rr] at h; exact wpAny_eqBool_str h
  «strs» := fun k x t v h => by
    rcases keyIs_shape h with ⟨i, u, rfl, e⟩ | ⟨y, u, rfl, e⟩
    · exact nomatch e
    · injection e with e1 _
      subst e1
      cases v <;> rfl

end L2

namespace L2
open PySem PySem.Spec PyProof.Rows

inductive V where
  | non | bl (b : Bool) | int (i : Int) | str (x : Str) | byt (b : Array UInt8) | flt (b : UInt64) | ref (a : Addr) | ty (n : String)
  deriving DecidableEq

def RelV : V → Value → Prop
  | .non, u => u = Value.none
  | .bl b, u => u = Value.bool b
  | .int i, u => ∃ t, u = Value.int i t
  | .str x, u => ∃ t, u = Value.str x t
  | .byt b, u => ∃ t, u = Value.bytes b t
  | .flt b, u => ∃ t, u = Value.float b t
  | .ref a, u => u = Value.ref a
  | .ty n, u => u = Value.type n

abbrev Vals : List V → List Value → Prop := Paired RelV
theorem Vals.length {xs : List V} {us : List Value} (r : Vals xs us) : xs.length = us.length := Paired.length r
theorem Vals.get : ∀ {xs : List V} {us : List Value} {i : Nat} {x : V}, Vals xs us → xs[i]? = some x → ∃ u, us[i]? = some u ∧ RelV x u
  | _, _, _, _, .nil, e => by simp at e
  | _, _, 0, _, .cons r _, e => by simp at e; subst e; exact ⟨_, rfl, r⟩
  | _, _, i + 1, x, .cons _ t, e => by
    obtain ⟨u, h1, h2⟩ := Vals.get (i := i) (x := x) t (by simpa using e)
    exact ⟨u, by simpa using h1, h2⟩
theorem Vals.set {x : V} {u : Value} (r : RelV x u) : ∀ {xs : List V} {us : List Value} (i : Nat), Vals xs us → Vals (xs.set i x) (us.set i u)
  | _, _, _, .nil => .nil
  | _, _, 0, .cons _ t => .cons r t
  | _, _, i + 1, .cons q t => .cons q (Vals.set r i t)
theorem Vals.append : ∀ {xs ys : List V} {us ws : List Value}, Vals xs us → Vals ys ws → Vals (xs ++ ys) (us ++ ws)
  | _, _, _, _, .nil, s => s
  | _, _, _, _, .cons r t, s => .cons r (Vals.append t s)
theorem Vals.take : ∀ {xs : List V} {us : List Value} (n : Nat), Vals xs us → Vals (xs.take n) (us.take n)
  | _, _, 0, _ => .nil
  | _, _, _ + 1, .nil => .nil
  | _, _, n + 1, .cons r t => .cons r (Vals.take n t)
theorem Vals.drop : ∀ {xs : List V} {us : List Value} (n : Nat), Vals xs us → Vals (xs.drop n) (us.drop n)
  | _, _, 0, r => r
  | _, _, _ + 1, .nil => .nil
  | _, _, n + 1, .cons _ t => Vals.drop n t
def RelO : Option V → Option Value → Prop
  | some v, some u => RelV v u
  | none, none => True
  | _, _ => False
def KV {κ : Type} : List (κ × V) → List (κ × Value) → Prop := Paired fun (p : κ × V) (q : κ × Value) => p.1 = q.1 ∧ RelV p.2 q.2

def kV : Key → V
  | .inl i => .int i
  | .inr x => .str x

inductive HO where
    | lst (xs : List V)
    | tup (xs : List V)
    | dK (kvs : List (Key × V)) | dT (kvs : List (List Key × V))
    | set (S : Int → Bool) (n : Nat)
    | ins (C dx : Addr) (fs : List (Str × V))
    | own (x : Addr)
    | xd (fs : List (Str × V))
    | met (f x : Addr)
    | rng (lo hi : Int)
    | frz (o : Obj) (u : HO)
    | tbl (ps : Array Value)
    | ext (φ : Heap → Prop)

abbrev Hp := Addr → Option HO
def upd (H : Hp) (a : Addr) (o : HO) : Hp := fun b => if b = a then some o else H b
theorem upd_same {H : Hp} {a : Addr} {o : HO} : upd H a o a = some o := by unfold upd; rw [if_pos rfl]
theorem upd_ne {H : Hp} {a b : Addr} {o : HO} (h : b ≠ a) : upd H a o b = H b := by unfold upd; rw [if_neg h]
theorem ne_of {H : Hp} {a b : Addr} {o u : HO} (h : H a = some o) (h' : H b = some u) (d : o ≠ u) : a ≠ b := by
  intro e; subst e; rw [h] at h'; exact d (Option.some.inj h')
theorem ne_of_none {H : Hp} {a b : Addr} {o : HO} (h : H a = some o) (h' : H b = none) : a ≠ b := by
  intro e; subst e; rw [h] at h'; cases h'

section
variable (P : Program) (w : World)
def ObjOk (H : Hp) (h : Heap) (a : Addr) : HO → Prop
  | .lst xs => xs.length ≤ sizeLine ∧ ∃ (its : List Value) (n : Nat), Vals xs its ∧ h.get? a = some { cls := .type "list", data := .seq its.toArray n }
  | .tup xs => xs.length ≤ sizeLine ∧ ∃ its : List Value, Vals xs its ∧ IsTup h a its.toArray
  | .dK kvs => kvs.length ≤ sizeLine ∧ (a == sysModules) = false ∧ ∃ vs, KV kvs vs ∧ h.DictOf (mixKind P w) a vs
  | .dT kvs => kvs.length ≤ sizeLine ∧ (a == sysModules) = false ∧ ∃ xs : List (List Key × Addr × Value),
      Paired (fun (p : List Key × V) (q : List Key × Addr × Value) => p.1 = q.1 ∧ H q.2.1 = some (.tup (p.1.map kV)) ∧ RelV p.2 q.2.2) kvs xs ∧
      ∃ o es ep, h.get? a = some o ∧ o.ExactDict ∧ o.data = .dict es ep ∧ es.toList = xs.map (entryOfKey (tupleKind (mixKind P w))) ∧ (xs.map (·.1)).Nodup
  | .set S n => h.SetOf (intKind P w) a S n
  | .ins C dx fs => H dx = some (.own a) ∧ fs.length ≤ 1000 ∧ dx ≠ a ∧ h.get? a = some (PySem.W.instObj C dx) ∧
      ∃ mA, h.Ns1 dx mA ∧ (∀ f, RelO (fs.lookup f) (mA f)) ∧ PySem.Within mA (fs.map (·.1))
  | .own _ => ∃ o, h.get? a = some o
  | .xd fs => ∃ mA, h.Ns1 a mA ∧ ∀ f, RelO (fs.lookup f) (mA f)
  | .rng lo hi => ∃ t u v, h.get? a = some { cls := .type "range", data := .fields #[.int lo t, .int hi u, .int 1 v] }
  | .frz o u => h.get? a = some o ∧ ObjOk H h a u
  | .tbl ps => h.get? a = some { cls := .none, data := .fields ps }
  | .met f x => h.get? a = some (PySem.W.methodObj (.ref f) (.ref x))
  | .ext φ => φ h ∧ (∃ o, h.get? a = some o) ∧ ∀ h1 h2 : Heap, φ h1 → (∀ o, h1.get? a = some o → h2.get? a = some o) → φ h2
def HOk (H : Hp) (h : Heap) : Prop := ∀ a o, H a = some o → ObjOk P w H h a o
end

section
variable {P : Program} {w : World} {H H' : Hp} {h h' : Heap} {a : Addr} {o : HO}
theorem ObjOk.lt (x : ObjOk P w H h a o) : a < h.objs.size := by
  cases o with
  | lst xs => obtain ⟨_, _, _, _, e⟩ := x; exact Heap.lt_size e
  | tup xs => obtain ⟨_, _, _, p⟩ := x; exact p.lt
  | dK kvs => obtain ⟨_, _, _, _, o, _, _, e, _⟩ := x; exact Heap.lt_size e
  | dT kvs => obtain ⟨_, _, _, _, o, _, _, e, _⟩ := x; exact Heap.lt_size e
  | set S n => obtain ⟨o, _, _, _, e, _⟩ := x; exact Heap.lt_size e
  | ins C dx fs => obtain ⟨_, _, _, e, _⟩ := x; exact Heap.lt_size e
  | own y => obtain ⟨_, e⟩ := x; exact Heap.lt_size e
  | xd fs => obtain ⟨_, ⟨_, _, _, e, _⟩, _⟩ := x; exact Heap.lt_size e
  | rng lo hi => obtain ⟨_, _, _, e⟩ := x; exact Heap.lt_size e
  | frz ob u => obtain ⟨e, _⟩ := x; exact Heap.lt_size e
  | tbl ps => exact Heap.lt_size (show h.get? a = some _ from x)
  | met f y => exact Heap.lt_size (show h.get? a = some _ from x)
  | ext φ => obtain ⟨_, ⟨_, e⟩, _⟩ := x; exact Heap.lt_size e
theorem Paired.mapP {α β : Type} {F G : α → β → Prop} : ∀ {l₁ : List α} {l₂ : List β}, Paired F l₁ l₂ → (∀ a b, F a b → G a b) → Paired G l₁ l₂
  | _, _, .nil, _ => .nil
  | _, _, .cons r t, f => .cons (f _ _ r) (Paired.mapP t f)
theorem ObjOk.stay (x : ObjOk P w H h a o) (k : ∀ b u, (b = a ∨ H b = some (.own a)) → h.get? b = some u → h'.get? b = some u)
    (ho : ∀ b, H b = some (.own a) → H' b = some (.own a)) (ht : ∀ b xs, H b = some (.tup xs) → H' b = some (.tup xs)) : ObjOk P w H' h' a o := by
  induction o with
  | lst xs => obtain ⟨z, its, n, r, e⟩ := x; exact ⟨z, its, n, r, k _ _ (.inl rfl) e⟩
  | tup xs => obtain ⟨z, its, r, ob, e, c⟩ := x; exact ⟨z, its, r, ob, k _ _ (.inl rfl) e, c⟩
  | dK kvs => obtain ⟨z, y, vs, r, ob, es, ep, e, c⟩ := x; exact ⟨z, y, vs, r, ob, es, ep, k _ _ (.inl rfl) e, c⟩
  | dT kvs =>
    obtain ⟨z, y, xs, r, ob, es, ep, e, c⟩ := x
    exact ⟨z, y, xs, Paired.mapP r fun p q z => ⟨z.1, ht _ _ z.2.1, z.2.2⟩, ob, es, ep, k _ _ (.inl rfl) e, c⟩
  | set S n => obtain ⟨ob, es, ep, t, e, c⟩ := x; exact ⟨ob, es, ep, t, k _ _ (.inl rfl) e, c⟩
  | ins C dx fs =>
    obtain ⟨d, z, ne, e, mA, ⟨od, es, ep, e2, c⟩, r⟩ := x
    exact ⟨ho _ d, z, ne, k _ _ (.inl rfl) e, mA, ⟨od, es, ep, k _ _ (.inr d) e2, c⟩, r⟩
  | own y => obtain ⟨ob, e⟩ := x; exact ⟨ob, k _ _ (.inl rfl) e⟩
  | xd fs => obtain ⟨mA, ⟨od, es, ep, e, c⟩, r⟩ := x; exact ⟨mA, ⟨od, es, ep, k _ _ (.inl rfl) e, c⟩, r⟩
  | rng lo hi => obtain ⟨t, u, v, e⟩ := x; exact ⟨t, u, v, k _ _ (.inl rfl) e⟩
  | frz ob u ih => obtain ⟨e, q⟩ := x; exact ⟨k _ _ (.inl rfl) e, ih q⟩
  | tbl ps =>
    have e : h.get? a = some { cls := .none, data := .fields ps } := x
    show h'.get? a = some { cls := .none, data := .fields ps }
    exact k a _ (.inl rfl) e
  | met f y =>
    have e : h.get? a = some (PySem.W.methodObj (.ref f) (.ref y)) := x
    show h'.get? a = some (PySem.W.methodObj (.ref f) (.ref y))
    exact k a _ (.inl rfl) e
  | ext φ => obtain ⟨p, ⟨o, e⟩, st⟩ := x; exact ⟨st _ _ p fun o q => k _ _ (.inl rfl) q, ⟨o, k _ _ (.inl rfl) e⟩, st⟩
theorem HOk.lt (x : HOk P w H h) (e : H a = some o) : a < h.objs.size := (x a o e).lt
theorem HOk.fresh (x : HOk P w H h) (e : h.objs.size ≤ a) : H a = none := by
  cases q : H a with
  | none => rfl
  | some u => exact absurd (Nat.lt_of_lt_of_le (x.lt q) e) (Nat.lt_irrefl _)
theorem HOk.kept (x : HOk P w H h) (k : ∀ b u, h.get? b = some u → h'.get? b = some u) : HOk P w H h' := fun a o e =>
  (x a o e).stay (fun b u _ q => k b u q) (fun _ q => q) fun _ _ q => q
theorem HOk.laid (x : HOk P w H h) (k : ∀ b u, h.get? b = some u → h'.get? b = some u) (hp : h.objs.size ≤ a) (new : ObjOk P w (upd H a o) h' a o) : HOk P w (upd H a o) h' := fun b u e => by
  have hn := x.fresh hp
  by_cases hb : b = a
  · subst hb; rw [upd_same] at e; cases e; exact new
  · rw [upd_ne hb] at e
    exact (x b u e).stay (fun c v _ q => k c v q) (fun c q => by rw [upd_ne (ne_of_none q hn)]; exact q) fun c xs q => by rw [upd_ne (ne_of_none q hn)]; exact q
end

def Rd (H : Hp) (a : Addr) (u : HO) : Prop := H a = some u ∨ ∃ o, H a = some (.frz o u)
theorem Rd.ok {P : Program} {w : World} {H : Hp} {h : Heap} {a : Addr} {u : HO} (r : Rd H a u) (x : HOk P w H h) : ObjOk P w H h a u := by
  rcases r with r | ⟨o, r⟩
  · exact x a u r
  · obtain ⟨_, q⟩ := x a _ r
    exact q
def Mut : Option HO → Prop
  | some (.lst _) => True
  | some (.dK _) => True
  | some (.dT _) => True
  | some (.set _ _) => True
  | some (.ins _ _ _) => True
  | some (.ext _) => True
  | _ => False
section
variable {P : Program} {w : World} {H : Hp} {h h' : Heap} {x e : Addr} {o' : HO}
theorem HOk.write (ok : HOk P w H h) (mu : Mut (H x)) (he : e = x ∨ H e = some (.own x)) (k : ∀ b u, b ≠ e → h.get? b = some u → h'.get? b = some u) (heo : ∃ u, h'.get? e = some u)
    (new : ObjOk P w (upd H x o') h' x o') : HOk P w (upd H x o') h' := fun b u q => by
  have nown : ∀ c y, H c = some (.own y) → c ≠ x := fun c y r z => by subst z; rw [r] at mu; exact mu
  have ntup : ∀ c xs, H c = some (.tup xs) → c ≠ x := fun c xs r z => by subst z; rw [r] at mu; exact mu
  by_cases hb : b = x
  · subst hb; rw [upd_same] at q; cases q; exact new
  · rw [upd_ne hb] at q
    by_cases hbe : b = e
    · have q' : H b = some (.own x) := by
        rcases he with z | z
        · exact absurd (hbe.trans z) hb
        · rw [hbe]; exact z
      rw [q] at q'; cases q'
      obtain ⟨v, hv⟩ := heo
      exact ⟨v, by rw [hbe]; exact hv⟩
    · refine (ok b u q).stay (fun c v hc r => k c v ?_ r) (fun c r => by rw [upd_ne (nown c b r)]; exact r) fun c xs r => by rw [upd_ne (ntup c xs r)]; exact r
      rcases hc with rfl | hc
      · exact hbe
      · rintro rfl
        rcases he with z | z
        · exact nown c b hc z
        · rw [hc] at z; cases z; exact hb rfl
end

structure Un (fs ex : List Addr) (H H' : Hp) (h h' : Heap) : Prop where
  keep : ∀ b o, h.get? b = some o → H b = none → b ∉ fs → b ∉ ex → h'.get? b = some o
  slot : ∀ b o, h.get? b = some o → H b = none → b ∈ fs → b ∉ ex → ∃ sl, h'.get? b = some { o with slots := sl }
  free : ∀ b o, h.get? b = some o → H b = none → b ∉ ex → H' b = none
  there : ∀ b o, h.get? b = some o → b ∉ ex → ∃ o', h'.get? b = some o'
  tups : ∀ b xs, H b = some (.tup xs) → H' b = some (.tup xs)
  frzs : ∀ b o u, H b = some (.frz o u) → H' b = some (.frz o u)
  tbls : ∀ b ps, H b = some (.tbl ps) → ∃ more, H' b = some (.tbl (ps ++ more))
section
variable {fs fs' ex ex' : List Addr} {H H1 H2 : Hp} {h h1 h2 h' : Heap} {a x e : Addr} {o : HO}
theorem Un.any (u : Un fs ex H H1 h h1) {b : Addr} {ob : Obj} (q : h.get? b = some ob) (n : H b = none) (hx : b ∉ ex) : ∃ sl, h1.get? b = some { ob with slots := sl } := by
  by_cases hb : b ∈ fs
  · exact u.slot b ob q n hb hx
  · exact ⟨ob.slots, u.keep b ob q n hb hx⟩
theorem Un.kept (k : ∀ b u, h.get? b = some u → h'.get? b = some u) : Un fs ex H H h h' :=
  ⟨fun b ob q _ _ _ => k b ob q, fun b ob q _ _ _ => ⟨ob.slots, k b ob q⟩, fun _ _ _ n _ => n, fun b ob q _ => ⟨ob, k b ob q⟩, fun _ _ q => q, fun _ _ _ q => q, fun _ ps q => ⟨#[], by rw [q]; simp⟩⟩
theorem Un.refl : Un fs ex H H h h := Un.kept fun _ _ q => q
theorem Un.laid (k : ∀ b u, h.get? b = some u → h'.get? b = some u) (hp : h.objs.size ≤ a) (hn : H a = none) : Un fs ex H (upd H a o) h h' where
  keep := fun b u q _ _ _ => k b u q
  slot := fun b u q _ _ _ => ⟨u.slots, k b u q⟩
  free := fun b u q n _ => by rw [upd_ne (Nat.ne_of_lt (Nat.lt_of_lt_of_le (Heap.lt_size q) hp))]; exact n
  there := fun b u q _ => ⟨u, k b u q⟩
  tups := fun b xs q => by rw [upd_ne (ne_of_none q hn)]; exact q
  frzs := fun b u xs q => by rw [upd_ne (ne_of_none q hn)]; exact q
  tbls := fun b ps q => ⟨#[], by rw [upd_ne (ne_of_none q hn), q]; simp⟩
theorem Un.write (mu : Mut (H x)) (he : e = x ∨ H e = some (.own x)) (k : ∀ b u, b ≠ e → h.get? b = some u → h'.get? b = some u) (heo : ∃ u, h'.get? e = some u) : Un fs ex H (upd H x o) h h' := by
  have hx : ∀ b, H b = none → b ≠ x := fun b n z => by subst z; rw [n] at mu; exact mu
  have hb : ∀ b, H b = none → b ≠ e := fun b n z => by
    subst z
    rcases he with r | r
    · exact hx b n r
    · rw [n] at r; cases r
  have hm : ∀ b u, H b = some u → ¬ Mut (some u) → b ≠ x := fun b u q nm z => by subst z; rw [q] at mu; exact nm mu
  refine ⟨fun b u q n _ _ => k b u (hb b n) q, fun b u q n _ _ => ⟨u.slots, k b u (hb b n) q⟩, fun b u q n _ => by rw [upd_ne (hx b n)]; exact n, fun b u q _ => ?_,
    fun b xs q => by rw [upd_ne (hm b _ q fun z => z)]; exact q, fun b u xs q => by rw [upd_ne (hm b _ q fun z => z)]; exact q, fun b ps q => ⟨#[], by rw [upd_ne (hm b _ q fun z => z), q]; simp⟩⟩
  by_cases hbe : b = e
  · subst hbe; exact heo
  · exact ⟨u, k b u hbe q⟩
theorem Un.mono (u : Un fs ex H H1 h h1) (hs : ∀ b ∈ fs, b ∈ fs') (hx : ∀ b ∈ ex, b ∈ ex') : Un fs' ex' H H1 h h1 :=
  ⟨fun b ob q n hb he => u.keep b ob q n (fun z => hb (hs b z)) fun z => he (hx b z), fun _ _ q n _ he => u.any q n fun z => he (hx _ z), fun b ob q n he => u.free b ob q n fun z => he (hx b z), fun b ob q he => u.there b ob q fun z => he (hx b z), u.tups, u.frzs, u.tbls⟩
end

def trk (h : Heap) (H : Hp) : List Addr := (List.range h.objs.size).filter fun a => (H a).isSome
def hidT (h : Heap) (H : Hp) : Heap := PySem.W.hideAll h (trk h H)
theorem hidT_size (h : Heap) (H : Hp) : (hidT h H).objs.size = h.objs.size := PySem.W.hideAll_size _ _
theorem hidT_get {h : Heap} {H : Hp} {b : Addr} {o : Obj} (e : h.get? b = some o) (n : H b = none) : (hidT h H).get? b = some o :=
  PySem.W.hideAll_get _ e fun hm => by
    have q : (H b).isSome = true := (List.mem_filter.mp hm).2
    rw [n] at q; simp at q
theorem of_hidT {h : Heap} {H : Hp} {b : Addr} {o : Obj} (e : (hidT h H).get? b = some o) : h.get? b = some o ∧ H b = none := by
  have e' : h.get? b = some o := PySem.W.of_hideAll (trk h H) e
  refine ⟨e', ?_⟩
  cases q : H b with
  | none => rfl
  | some x =>
    have hm : b ∈ trk h H := List.mem_filter.mpr ⟨List.mem_range.mpr (Heap.lt_size e'), by simp [q]⟩
    have z : (hidT h H).get? b = none := PySem.W.hideAll_none (trk h H) hm
    rw [z] at e; cases e

def allNews (g h : Heap) (L : Addr) : List (Addr × Obj) := (List.range h.objs.size).filterMap fun a => if a = L ∨ (g.get? a).isSome = true then none else (h.get? a).map fun o => (a, o)
def rest (g h : Heap) (L d : Addr) : List (Addr × Obj) := (allNews g h L).filter fun p => decide (p.1 ≠ d)
end L2

namespace L2
open PySem PySem.Spec PyProof.Rows

structure Mod (K : PySem.W.Frag) (mg : Str → Option Value) (base : Heap) : Prop where
  kin : K.In base
  glob : base.Ns mainGlobals mg
  blt : ∃ mb, base.Ns builtinsNs mb ∧ ∀ x : Str, x ≠ "__name__" → mb x = bootBuiltins x
  nolimit : base.NoLimit

structure Cx where
  prog : Program
  w : World
  K : PySem.W.Frag
  mg : Str → Option Value
  base : Heap
  A : Around
  N : List Str
  s₀ : Shared
  H₀ : Hp
  env : Env
  outer : List Env
  stack : List Env
  ex : List Addr
  fn : Str → Bool
  calm : Bool
  pn : List (Addr × Obj)
  xe : Value → Shared → Prop
def frs (l : List Env) : List Addr := l.filterMap (·.frame)
abbrev Cx.fs (X : Cx) : List Addr := frs X.outer

def Vis (sc : Scope) (x : Str) : Prop := sc.names.lookup x = some .local ∨ sc.names.lookup x = some .cell ∨ sc.names.lookup x = some .free
def Loc (sc : Scope) (x : Str) : Prop := sc.names.lookup x = some .local ∨ sc.names.lookup x = some .cell
def Look (env : Env) (h : Heap) (m : Str → Option Value) (x : Str) (u : Value) : Prop :=
  (env.kindOf x = some .local ∧ m x = some u) ∨ ((env.kindOf x = some .cell ∨ env.kindOf x = some .free) ∧ ∃ c, env.cells.lookup x = some c ∧ h.IsCell c (some u))

structure Cx.Ok (X : Cx) : Prop where
  mod : Mod X.K X.mg X.base
  kind : X.env.scope.kind = .function
  glob : X.env.globals = mainGlobals
  blt : X.env.builtins = builtinsNs
  above : X.s₀.heap.objs.size ≤ X.env.locals
  inj : ∀ x y c, X.env.cells.lookup x = some c → X.env.cells.lookup y = some c → x = y
  has : ∀ x, (X.env.kindOf x = some .cell ∨ X.env.kindOf x = some .free) → ∃ c, X.env.cells.lookup x = some c
  cab : ∀ x c, X.fn x = true → X.env.cells.lookup x = some c → X.s₀.heap.objs.size ≤ c
  hd : X.calm = true → X.A.handled = none
  frames : X.A.frames = some X.stack
  stk : X.stack = X.outer ∨ (X.stack = X.env :: X.outer ∧ X.env.frame = some X.env.locals)
  exf : ∀ b ∈ X.ex, b ≠ X.env.locals ∧ ∀ x c, X.env.cells.lookup x = some c → c ≠ b
  bs : ∀ b o, X.base.get? b = some o → X.s₀.heap.get? b = some o ∧ X.H₀ b = none
  bsz : X.base.objs.size ≤ X.s₀.heap.objs.size
  noex : ∀ b o, X.base.get? b = some o → b ∉ X.ex
  exfs : ∀ b ∈ X.ex, b ∉ X.fs
  funs : X.s₀.heap.FunFrames X.base X.outer
  frf : ∀ b ∈ X.fs, X.H₀ b = none

structure Inv (X : Cx) (pins : List (Addr × Obj)) (σ : List (Option V)) (H : Hp) (s : Shared) : Prop where
  ok : X.Ok
  os : s.os = X.s₀.os
  bare : AllBare s.gens
  base : Un X.fs X.ex X.H₀ H X.s₀.heap s.heap
  loc : ∃ m, s.heap.Ns X.env.locals m ∧ ∀ (i : Nat) (x : Str) (v : V), X.N[i]? = some x → σ[i]? = some (some v) → Vis X.env.scope x → ∃ u, RelV v u ∧ Look X.env s.heap m x u
  cell : ∀ x c, X.env.cells.lookup x = some c → ∃ v, s.heap.IsCell c v
  free : H X.env.locals = none
  freeC : ∀ x c, X.env.cells.lookup x = some c → H c = none
  pin : ∀ p ∈ X.pn ++ pins, s.heap.get? p.1 = some p.2 ∧ H p.1 = none ∧ p.1 ≠ X.env.locals ∧ p.1 ∉ X.fs ∧ ∀ v, p.2.data ≠ .cell v
  hok : HOk X.prog X.w H s.heap
  len : σ.length = X.N.length

section
variable {X : Cx} {pins : List (Addr × Obj)} {σ : List (Option V)} {H H' : Hp} {s : Shared} {h' : Heap}

theorem Cx.Ok.nofr (ok : X.Ok) {b : Addr} {o : Obj} (e : X.base.get? b = some o) : b ∉ X.fs := fun hb => by
  have := (ok.funs.mem hb).1
  rw [e] at this; cases this
theorem Inv.bs (I : Inv X pins σ H s) : ∀ b o, X.base.get? b = some o → s.heap.get? b = some o ∧ H b = none := fun b o e =>
  ⟨I.base.keep b o (I.ok.bs b o e).1 (I.ok.bs b o e).2 (I.ok.nofr e) (I.ok.noex b o e), I.base.free b o (I.ok.bs b o e).1 (I.ok.bs b o e).2 (I.ok.noex b o e)⟩
theorem Inv.bk (I : Inv X pins σ H s) : ∀ b o, X.base.get? b = some o → s.heap.get? b = some o := fun b o e => (I.bs b o e).1
theorem Inv.mod (I : Inv X pins σ H s) : Mod X.K X.mg X.base := I.ok.mod
theorem Inv.kIn (I : Inv X pins σ H s) : X.K.In s.heap := I.ok.mod.kin.keeps I.bk
theorem Inv.fr (I : Inv X pins σ H s) : ∃ m, Fr X.base X.env.locals s.heap m :=
  let ⟨m, hn, _⟩ := I.loc
  ⟨m, hn, I.bk, Nat.le_trans I.ok.bsz I.ok.above⟩
theorem Inv.lt (I : Inv X pins σ H s) : X.env.locals < s.heap.objs.size := let ⟨_, hn, _⟩ := I.loc; hn.lt
theorem Inv.sz (I : Inv X pins σ H s) : X.s₀.heap.objs.size ≤ s.heap.objs.size := Nat.le_trans I.ok.above (Nat.le_of_lt I.lt)
theorem Inv.nofs (I : Inv X pins σ H s) {a : Addr} (h : s.heap.objs.size ≤ a) : a ∉ X.fs := fun hb => by
  obtain ⟨_, o, ho, _⟩ := I.ok.funs.mem hb
  exact absurd (Nat.lt_of_lt_of_le (Heap.lt_size ho) (Nat.le_trans I.sz h)) (Nat.lt_irrefl _)
theorem Inv.cne (I : Inv X pins σ H s) : ∀ x c, X.env.cells.lookup x = some c → c ≠ X.env.locals := fun x c e z => by
  obtain ⟨v, o, ho, hd⟩ := I.cell x c e
  obtain ⟨m, ⟨o', es, ep, ho', hd', _⟩, _⟩ := I.loc
  rw [z, ho'] at ho; cases ho; rw [hd'] at hd; cases hd
theorem Inv.funs (I : Inv X pins σ H s) : s.heap.FunFrames X.base X.outer := by
  have all : ∀ (l : List Env), (∀ b ∈ frs l, b ∈ X.fs) → X.s₀.heap.FunFrames X.base l → s.heap.FunFrames X.base l := by
    intro l
    induction l with
    | nil => intro _ _; trivial
    | cons env r ih =>
      intro hs hl
      obtain ⟨hk, ⟨L, o, hf, hn, ho, hd⟩, hr⟩ := hl
      have hL : L ∈ X.fs := hs L (by unfold frs; rw [List.filterMap_cons, hf]; exact List.mem_cons_self)
      obtain ⟨sl, e⟩ := I.base.slot L o ho (I.ok.frf L hL) hL fun z => I.ok.exfs L z hL
      exact ⟨hk, ⟨L, _, hf, hn, e, hd⟩, ih (fun b hb => hs b (by unfold frs; rw [List.filterMap_cons, hf]; exact List.mem_cons_of_mem _ hb)) hr⟩
  exact all X.outer (fun _ hb => hb) I.ok.funs

theorem Inv.stack (I : Inv X pins σ H s) : s.heap.FunFrames X.base X.stack := by
  rcases I.ok.stk with e | ⟨e, hf⟩
  · rw [e]; exact I.funs
  · rw [e]
    obtain ⟨m, hn, _⟩ := I.loc
    refine .cons (by rw [I.ok.kind]; decide) hf hn ?_ I.funs
    exact Heap.get?_none_of_le (Nat.le_trans I.ok.bsz I.ok.above)
theorem Inv.stkSub (I : Inv X pins σ H s) : ∀ b ∈ frs X.stack, b ∈ X.env.locals :: X.fs := fun b hb => by
  rcases I.ok.stk with e | ⟨e, hf⟩
  · rw [e] at hb; exact List.mem_cons_of_mem _ hb
  · rw [e] at hb
    unfold frs at hb
    rw [List.filterMap_cons, hf] at hb
    exact hb
theorem Inv.stkFree (I : Inv X pins σ H s) : ∀ b ∈ frs X.stack, H b = none := fun b hb => by
  rcases List.mem_cons.mp (I.stkSub b hb) with e | hb
  · rw [e]; exact I.free
  · obtain ⟨_, o, ho, _⟩ := I.ok.funs.mem hb
    exact I.base.free b o ho (I.ok.frf b hb) fun z => I.ok.exfs b z hb

theorem Inv.step {g' : Array GenState} {t' : Nat} {d' : Drawn} {ch : List Addr} (I : Inv X pins σ H s)
    (hch : ∀ b ∈ ch, (b ∈ X.ex ∨ X.s₀.heap.objs.size ≤ b) ∧ b ≠ X.env.locals ∧ (∀ x c, X.env.cells.lookup x = some c → c ≠ b) ∧ ∀ p ∈ X.pn ++ pins, p.1 ≠ b)
    (keep : ∀ b o, b ≠ X.env.locals → b ∉ X.fs → b ∉ ch → s.heap.get? b = some o → H b = none → h'.get? b = some o)
    (slot : ∀ b o, b ≠ X.env.locals → b ∈ X.fs → b ∉ ch → s.heap.get? b = some o → H b = none → ∃ sl, h'.get? b = some { o with slots := sl }) (free : ∀ b o, b ∉ ch → s.heap.get? b = some o → H b = none → H' b = none)
    (there : ∀ b o, b ∉ ch → s.heap.get? b = some o → ∃ o', h'.get? b = some o')
    (tups : ∀ b xs, H b = some (.tup xs) → H' b = some (.tup xs)) (frzs : ∀ b o u, H b = some (.frz o u) → H' b = some (.frz o u)) (tbls : ∀ b ps, H b = some (.tbl ps) → ∃ more, H' b = some (.tbl (ps ++ more)))
    (ns : ∀ m, s.heap.Ns X.env.locals m → h'.Ns X.env.locals m) (hok : HOk X.prog X.w H' h') (hg : AllBare g') :
    Inv X pins σ H' { s with heap := h', gens := g', drawn := d', toks := t' } := by
  have neL : ∀ b o, X.s₀.heap.get? b = some o → b ≠ X.env.locals := fun b o e => Nat.ne_of_lt (Nat.lt_of_lt_of_le (Heap.lt_size e) I.ok.above)
  have neC : ∀ b o, X.s₀.heap.get? b = some o → b ∉ X.ex → b ∉ ch := fun b o e hx hb => by
    rcases (hch b hb).1 with z | z
    · exact hx z
    · exact absurd (Nat.lt_of_lt_of_le (Heap.lt_size e) z) (Nat.lt_irrefl _)
  have cellK : ∀ x c, X.env.cells.lookup x = some c → ∀ v, s.heap.IsCell c v → h'.IsCell c v := fun x c e v ⟨o, ho, hd⟩ => by
    have nch : c ∉ ch := fun z => (hch c z).2.2.1 x c e rfl
    by_cases hc : c ∈ X.fs
    · obtain ⟨sl, q⟩ := slot c o (I.cne x c e) hc nch ho (I.freeC x c e)
      exact ⟨_, q, hd⟩
    · exact ⟨o, keep c o (I.cne x c e) hc nch ho (I.freeC x c e), hd⟩
  refine ⟨I.ok, I.os, hg, ⟨fun b o e n hb hx => ?_, fun b o e n hb hx => ?_, fun b o e n hx => ?_, fun b o e hx => ?_, fun b xs e => tups b xs (I.base.tups b xs e), fun b o xs e => frzs b o xs (I.base.frzs b o xs e), fun b ps e => ?_⟩, ?_, fun x c e => ?_, ?_, fun x c e => ?_, fun p hp => ?_, hok, I.len⟩
  · exact keep b o (neL b o e) hb (neC b o e hx) (I.base.keep b o e n hb hx) (I.base.free b o e n hx)
  · obtain ⟨sl, e1⟩ := I.base.slot b o e n hb hx
    obtain ⟨sl', e2⟩ := slot b _ (neL b o e) hb (neC b o e hx) e1 (I.base.free b o e n hx)
    exact ⟨sl', e2⟩
  · obtain ⟨o', e1⟩ := I.base.there b o e hx
    exact free b o' (neC b o e hx) e1 (I.base.free b o e n hx)
  · obtain ⟨o', e1⟩ := I.base.there b o e hx
    exact there b o' (neC b o e hx) e1
  · obtain ⟨m1, e1⟩ := I.base.tbls b ps e
    obtain ⟨m2, e2⟩ := tbls b _ e1
    exact ⟨m1 ++ m2, by rw [e2, Array.append_assoc]⟩
  · obtain ⟨m, hn, hl⟩ := I.loc
    refine ⟨m, ns m hn, fun i x v e1 e2 e3 => ?_⟩
    obtain ⟨u, r, l⟩ := hl i x v e1 e2 e3
    refine ⟨u, r, ?_⟩
    rcases l with l | ⟨k, c, e, z⟩
    · exact .inl l
    · exact .inr ⟨k, c, e, cellK x c e _ z⟩
  · obtain ⟨v, z⟩ := I.cell x c e
    exact ⟨v, cellK x c e v z⟩
  · obtain ⟨m, ⟨o, _, _, ho, _⟩, _⟩ := I.loc
    exact free _ o (fun z => (hch _ z).2.1 rfl) ho I.free
  · obtain ⟨v, o, ho, hd⟩ := I.cell x c e
    exact free c o (fun z => (hch c z).2.2.1 x c e rfl) ho (I.freeC x c e)
  · obtain ⟨e, n, ne, nf, d⟩ := I.pin p hp
    have nch : p.1 ∉ ch := fun z => (hch p.1 z).2.2.2 p hp rfl
    exact ⟨keep p.1 p.2 ne nf nch e n, free p.1 p.2 nch e n, ne, nf, d⟩
theorem Inv.un {t' : Nat} (I : Inv X pins σ H s) (u : Un X.fs [] H H' s.heap h') (hok : HOk X.prog X.w H' h') : Inv X pins σ H' { s with heap := h', toks := t' } := by
  obtain ⟨m, ⟨o, es, ep, ho, r⟩, _⟩ := id I.loc
  obtain ⟨sl, hL⟩ := u.any ho I.free (by simp)
  exact I.step (g' := s.gens) (d' := s.drawn) (ch := []) (fun _ z => nomatch z) (fun b o _ hb _ e n => u.keep b o e n hb (by simp)) (fun b o _ hb _ e n => u.slot b o e n hb (by simp)) (fun b o _ e n => u.free b o e n (by simp)) (fun b o _ e => u.there b o e (by simp)) u.tups u.frzs u.tbls (fun m' hm => by
    obtain ⟨o', es', ep', ho', r'⟩ := hm
    rw [ho] at ho'; cases ho'
    exact ⟨_, es', ep', hL, r'⟩) hok I.bare
theorem Inv.call {g' : Array GenState} {t' : Nat} {d' : Drawn} {ch : List Addr} (I : Inv X pins σ H s) (u : Un (frs X.stack) ch H H' s.heap h') (hok : HOk X.prog X.w H' h') (hg : AllBare g')
    (hch : ∀ b ∈ ch, (b ∈ X.ex ∨ X.s₀.heap.objs.size ≤ b) ∧ b ≠ X.env.locals ∧ (∀ x c, X.env.cells.lookup x = some c → c ≠ b) ∧ ∀ p ∈ X.pn ++ pins, p.1 ≠ b) :
    Inv X pins σ H' { s with heap := h', gens := g', drawn := d', toks := t' } := by
  obtain ⟨m, ⟨o, es, ep, ho, r⟩, _⟩ := id I.loc
  obtain ⟨sl, hL⟩ := u.any ho I.free fun z => (hch _ z).2.1 rfl
  exact I.step (ch := ch) hch (fun b o hL hb hc e n => u.keep b o e n (fun z => (List.mem_cons.mp (I.stkSub b z)).elim hL hb) hc) (fun b o _ _ hc e n => u.any e n hc) (fun b o hc e n => u.free b o e n hc) (fun b o hc e => u.there b o e hc) u.tups u.frzs u.tbls (fun m' hm => by
    obtain ⟨o', es', ep', ho', r'⟩ := hm
    rw [ho] at ho'; cases ho'
    exact ⟨_, es', ep', hL, r'⟩) hok hg
theorem Inv.turned {t' : Nat} {it : Addr} (I : Inv X pins σ H s) (k : ∀ b o, b ≠ it → s.heap.get? b = some o → h'.get? b = some o) (hn : H it = none) (hL : it ≠ X.env.locals)
    (h1 : it ∈ X.ex ∨ X.s₀.heap.objs.size ≤ it) (h2 : ∀ x c, X.env.cells.lookup x = some c → c ≠ it) (h3 : ∀ p ∈ X.pn ++ pins, p.1 ≠ it) : Inv X pins σ H { s with heap := h', toks := t' } := by
  have nit : ∀ b u, H b = some u → b ≠ it := fun b u e z => by rw [z, hn] at e; cases e
  refine I.step (g' := s.gens) (d' := s.drawn) (ch := [it]) (fun b hb => ?_) (fun b o _ _ hc e _ => k b o (fun z => hc (by simp [z])) e) (fun b o _ _ hc e _ => ⟨o.slots, k b o (fun z => hc (by simp [z])) e⟩) (fun _ _ _ _ n => n)
    (fun b o hc e => ⟨o, k b o (fun z => hc (by simp [z])) e⟩) (fun _ _ e => e) (fun _ _ _ e => e) (fun b ps e => ⟨#[], by rw [e]; simp⟩) (fun m hm => ?_) (fun b u e => ?_) I.bare
  · have e : b = it := by simpa using hb
    subst e
    exact ⟨h1, hL, h2, h3⟩
  · obtain ⟨o, es, ep, ho, r⟩ := hm
    exact ⟨o, es, ep, k _ o (Ne.symm hL) ho, r⟩
  · refine (I.hok b u e).stay (fun c v hc q => k c v ?_ q) (fun _ q => q) fun _ _ q => q
    rcases hc with z | z
    · rw [z]; exact nit b u e
    · exact nit c _ z
theorem Inv.tok (I : Inv X pins σ H s) (t : Nat) : Inv X pins σ H { s with toks := t } := I.un (h' := s.heap) (t' := t) Un.refl I.hok
theorem Inv.kept {t' : Nat} (I : Inv X pins σ H s) (k : ∀ b u, s.heap.get? b = some u → h'.get? b = some u) : Inv X pins σ H { s with heap := h', toks := t' } := I.un (Un.kept k) (I.hok.kept k)
theorem Inv.laid {a : Addr} {o : HO} {t' : Nat} (I : Inv X pins σ H s) (k : ∀ b u, s.heap.get? b = some u → h'.get? b = some u) (hp : s.heap.objs.size ≤ a) (new : ObjOk X.prog X.w (upd H a o) h' a o) :
    Inv X pins σ (upd H a o) { s with heap := h', toks := t' } := I.un (Un.laid k hp (I.hok.fresh hp)) (I.hok.laid k hp new)
theorem Inv.write {x e : Addr} {o : HO} {t' : Nat} (I : Inv X pins σ H s) (mu : Mut (H x)) (he : e = x ∨ H e = some (.own x)) (k : ∀ b u, b ≠ e → s.heap.get? b = some u → h'.get? b = some u) (heo : ∃ u, h'.get? e = some u)
    (new : ObjOk X.prog X.w (upd H x o) h' x o) : Inv X pins σ (upd H x o) { s with heap := h', toks := t' } := I.un (Un.write mu he k heo) (I.hok.write mu he k heo new)
theorem Inv.weak {σ' : List (Option V)} (I : Inv X pins σ H s) (hl : σ'.length = σ.length) (w : ∀ (i : Nat) v, σ'[i]? = some (some v) → σ[i]? = some (some v)) : Inv X pins σ' H s :=
  ⟨I.ok, I.os, I.bare, I.base, let ⟨m, hn, hl'⟩ := I.loc; ⟨m, hn, fun i x v e1 e2 e3 => hl' i x v e1 (w i v e2) e3⟩, I.cell, I.free, I.freeC, I.pin, I.hok, hl.trans I.len⟩
theorem Inv.pins_of {pins' : List (Addr × Obj)} (I : Inv X pins σ H s) (h : ∀ p ∈ pins', s.heap.get? p.1 = some p.2 ∧ H p.1 = none ∧ p.1 ≠ X.env.locals ∧ p.1 ∉ X.fs ∧ ∀ v, p.2.data ≠ .cell v) : Inv X pins' σ H s :=
  ⟨I.ok, I.os, I.bare, I.base, I.loc, I.cell, I.free, I.freeC, fun p hp => (List.mem_append.mp hp).elim (fun z => I.pin p (List.mem_append_left _ z)) (h p), I.hok, I.len⟩

theorem nodup_ix {N : List Str} (hN : N.Nodup) {i j : Nat} {x : Str} (a : N[i]? = some x) (b : N[j]? = some x) : i = j := by
  obtain ⟨h1, e1⟩ := List.getElem?_eq_some_iff.mp a
  obtain ⟨h2, e2⟩ := List.getElem?_eq_some_iff.mp b
  exact (List.getElem_inj hN).mp (e1.trans e2.symm)

theorem store_ok2 {M : Model} {A : Around} {E : Value → Shared → Prop} {i : Nat} {x : Str} {v : V} {u : Value} {Q : Unit → Shared → Prop} (I : Inv X pins σ H s) (hN : X.N.Nodup) (hi : X.N[i]? = some x) (hx : Loc X.env.scope x) (r : RelV v u)
    (h : ∀ s', Inv X pins (σ.set i (some v)) H s' → (∃ a, Heap.SameBut a s.heap s'.heap ∧ (a = X.env.locals ∨ X.env.cells.lookup x = some a)) → Q () s') (hf : X.fn x = true ∨ X.env.scope.names.lookup x = some .local := by first | exact .inl rfl | exact .inr rfl | assumption) : wpAny M A (storeName X.env x u) Q E s := by
  obtain ⟨m, hn, hl⟩ := id I.loc
  have hcls : (X.env.scope.kind == .class || (X.env.scope.kind == .module && X.env.locals != X.env.globals)) = false := by rw [I.ok.kind]; rfl
  have hiσ : i < σ.length := by rw [I.len]; exact (List.getElem?_eq_some_iff.mp hi).1
  have cne := I.cne
  have tracked : ∀ {a : Addr} {h' : Heap}, (∃ o, s.heap.get? a = some o ∧ H a = none) → Heap.SameBut a s.heap h' → HOk X.prog X.w H h' := fun {a h'} ha hs b ob e => by
    obtain ⟨_, _, hfree⟩ := ha
    refine (I.hok b ob e).stay (fun c w' hc q => (hs.2 c ?_).trans q) (fun _ q => q) fun _ _ q => q
    rintro rfl
    rcases hc with rfl | hc
    · rw [hfree] at e; cases e
    · rw [hfree] at hc; cases hc
  rcases hx with hk | hk
  · refine wpAny_storeName_local hk hn (fun h' hn' hs => ?_) hcls
    obtain ⟨oL, _, _, hoL, _⟩ := id hn
    refine h _ ⟨I.ok, I.os, I.bare, ⟨fun b o e n hb hx => ?_, fun b o e n hb hx => ?_, I.base.free, fun b o e hx => ?_, I.base.tups, I.base.frzs, I.base.tbls⟩, ⟨_, hn', fun j y v' e1 e2 e3 => ?_⟩, fun y c e => ?_, I.free, I.freeC, fun p hp => ?_, tracked ⟨oL, hoL, I.free⟩ hs, by simpa using I.len⟩ ⟨_, hs, .inl rfl⟩
    · exact (hs.2 b (Nat.ne_of_lt (Nat.lt_of_lt_of_le (Heap.lt_size e) I.ok.above))).trans (I.base.keep b o e n hb hx)
    · obtain ⟨sl, e1⟩ := I.base.slot b o e n hb hx
      exact ⟨sl, (hs.2 b (Nat.ne_of_lt (Nat.lt_of_lt_of_le (Heap.lt_size e) I.ok.above))).trans e1⟩
    · obtain ⟨o', e1⟩ := I.base.there b o e hx
      exact ⟨o', (hs.2 b (Nat.ne_of_lt (Nat.lt_of_lt_of_le (Heap.lt_size e) I.ok.above))).trans e1⟩
    · by_cases hj : j = i
      · subst hj
        rw [hi] at e1; cases e1
        rw [List.getElem?_set_self hiσ] at e2
        cases e2
        exact ⟨u, r, .inl ⟨hk, by simp⟩⟩
      · rw [List.getElem?_set_ne (Ne.symm hj)] at e2
        obtain ⟨u', r', q⟩ := hl j y v' e1 e2 e3
        refine ⟨u', r', ?_⟩
        rcases q with ⟨k, e⟩ | ⟨k, c, e, z⟩
        · refine .inl ⟨k, ?_⟩
          have : y ≠ x := fun e => hj (nodup_ix hN e1 (e ▸ hi))
          simp [this, e]
        · exact .inr ⟨k, c, e, z.sameBut hs (cne y c e)⟩
    · obtain ⟨w', z⟩ := I.cell y c e
      exact ⟨w', z.sameBut hs (cne y c e)⟩
    · obtain ⟨e, n, ne, nf, d⟩ := I.pin p hp
      exact ⟨(hs.2 p.1 ne).trans e, n, ne, nf, d⟩
  · have hfn : X.fn x = true := by
      rcases hf with z | z
      · exact z
      · rw [z] at hk; cases hk
    obtain ⟨c, hc⟩ := I.ok.has x (.inl hk)
    obtain ⟨w', z⟩ := I.cell x c hc
    refine wpAny_storeName_cell I.ok.kind hk hc z (fun h' hc' hs => ?_)
    obtain ⟨oc, hoc, hocd⟩ := id z
    refine h { s with heap := h' } ⟨I.ok, I.os, I.bare, ⟨fun b o e n hb hx => ?_, fun b o e n hb hx => ?_, I.base.free, fun b o e hx => ?_, I.base.tups, I.base.frzs, I.base.tbls⟩, ⟨m, hn.sameBut hs (Ne.symm (cne x c hc)), fun j y v' e1 e2 e3 => ?_⟩, fun y c' e => ?_, I.free, I.freeC, fun p hp => ?_, tracked ⟨oc, hoc, I.freeC x c hc⟩ hs, by simpa using I.len⟩ ⟨c, hs, .inr hc⟩
    · exact (hs.2 b (Nat.ne_of_lt (Nat.lt_of_lt_of_le (Heap.lt_size e) (I.ok.cab x c hfn hc)))).trans (I.base.keep b o e n hb hx)
    · obtain ⟨sl, e1⟩ := I.base.slot b o e n hb hx
      exact ⟨sl, (hs.2 b (Nat.ne_of_lt (Nat.lt_of_lt_of_le (Heap.lt_size e) (I.ok.cab x c hfn hc)))).trans e1⟩
    · obtain ⟨o', e1⟩ := I.base.there b o e hx
      exact ⟨o', (hs.2 b (Nat.ne_of_lt (Nat.lt_of_lt_of_le (Heap.lt_size e) (I.ok.cab x c hfn hc)))).trans e1⟩
    · by_cases hj : j = i
      · subst hj
        rw [hi] at e1; cases e1
        rw [List.getElem?_set_self hiσ] at e2
        cases e2
        exact ⟨u, r, .inr ⟨.inl hk, c, hc, hc'⟩⟩
      · rw [List.getElem?_set_ne (Ne.symm hj)] at e2
        obtain ⟨u', r', q⟩ := hl j y v' e1 e2 e3
        refine ⟨u', r', ?_⟩
        rcases q with q | ⟨k, c', e, z'⟩
        · exact .inl q
        · refine .inr ⟨k, c', e, z'.sameBut hs ?_⟩
          rintro rfl
          exact hj (nodup_ix hN e1 (I.ok.inj _ _ _ e hc ▸ hi))
    · by_cases hcc : c' = c
      · subst hcc; exact ⟨_, hc'⟩
      · obtain ⟨w2, z2⟩ := I.cell y c' e
        exact ⟨w2, z2.sameBut hs hcc⟩
    · obtain ⟨e, n, ne, nf, d⟩ := I.pin p hp
      refine ⟨(hs.2 p.1 ?_).trans e, n, ne, nf, d⟩
      intro q
      rw [q, hoc] at e
      have q' : oc = p.2 := Option.some.inj e
      exact d w' (by rw [← q']; exact hocd)
theorem store_ok {M : Model} {A : Around} {E : Value → Shared → Prop} {i : Nat} {x : Str} {v : V} {u : Value} {Q : Unit → Shared → Prop} (I : Inv X pins σ H s) (hN : X.N.Nodup) (hi : X.N[i]? = some x) (hx : Loc X.env.scope x) (r : RelV v u)
    (h : ∀ s', Inv X pins (σ.set i (some v)) H s' → Q () s') (hf : X.fn x = true ∨ X.env.scope.names.lookup x = some .local := by first | exact .inl rfl | exact .inr rfl | assumption) : wpAny M A (storeName X.env x u) Q E s :=
  store_ok2 I hN hi hx r (fun s' I' _ => h s' I') hf
theorem Inv.call' {s' : Shared} {ch : List Addr} (I : Inv X pins σ H s) (ho : s'.os = s.os) (u : Un (frs X.stack) ch H H' s.heap s'.heap) (hok : HOk X.prog X.w H' s'.heap) (hg : AllBare s'.gens)
    (hch : ∀ b ∈ ch, (b ∈ X.ex ∨ X.s₀.heap.objs.size ≤ b) ∧ b ≠ X.env.locals ∧ (∀ x c, X.env.cells.lookup x = some c → c ≠ b) ∧ ∀ p ∈ X.pn ++ pins, p.1 ≠ b) : Inv X pins σ H' s' := by
  obtain ⟨h', g', d', t', o'⟩ := s'
  have e : o' = s.os := ho
  subst e
  exact I.call (g' := g') (t' := t') (d' := d') u hok hg hch
end

abbrev XK := Value → Option Addr → Hp → Prop
abbrev St := List (Option V)
abbrev VK := V → Hp → Prop
abbrev TE := St → Hp → VK → Prop
abbrev TT := St → Hp → (Bool → Hp → Prop) → Prop
abbrev TA := St → Hp → (List V → Hp → Prop) → Prop
structure Ends where
  nx : St → Hp → Prop
  rt : VK
  bk : St → Hp → Prop := fun _ _ => False
  ct : St → Hp → Prop := fun _ _ => False
abbrev TS := Ends → St → Hp → Prop

def EP (X : Cx) (pins : List (Addr × Obj)) (σ : St) (Q : VK) (u : Value) (s' : Shared) : Prop := ∃ v H', Inv X pins σ H' s' ∧ RelV v u ∧ Q v H'
def TP (X : Cx) (pins : List (Addr × Obj)) (σ : St) (Q : Bool → Hp → Prop) (b : Bool) (s' : Shared) : Prop := ∃ H', Inv X pins σ H' s' ∧ Q b H'
def AP (X : Cx) (pins : List (Addr × Obj)) (σ : St) (Q : List V → Hp → Prop) (us : List Value) (s' : Shared) : Prop := ∃ vs H', Inv X pins σ H' s' ∧ Vals vs us ∧ Q vs H'
def SP (X : Cx) (pins : List (Addr × Obj)) (D : Ends) (f : Flow) (s' : Shared) : Prop :=
  match f with
  | .next => ∃ σ' H', Inv X pins σ' H' s' ∧ D.nx σ' H'
  | .brk => ∃ σ' H', Inv X pins σ' H' s' ∧ D.bk σ' H'
  | .cont => ∃ σ' H', Inv X pins σ' H' s' ∧ D.ct σ' H'
  | .ret u => ∃ v σ' H', Inv X pins σ' H' s' ∧ RelV v u ∧ D.rt v H'

def PE (X : Cx) (e : Expr) (t : TE) : Prop :=
  ∀ (pins : List (Addr × Obj)) (s : Shared) (σ : St) (H : Hp) (Q : VK), Inv X pins σ H s → t σ H Q → wpAny (model X.prog X.w) X.A (eval e X.env) (EP X pins σ Q) X.xe s
def PT (X : Cx) (e : Expr) (t : TT) : Prop :=
  ∀ (pins : List (Addr × Obj)) (s : Shared) (σ : St) (H : Hp) (Q : Bool → Hp → Prop), Inv X pins σ H s → t σ H Q → wpAny (model X.prog X.w) X.A (isTrue e X.env (eval e X.env)) (TP X pins σ Q) X.xe s
def PW (X : Cx) (e : Expr) (t : TT) : Prop :=
  ∀ (whole : Sem Value) (pins : List (Addr × Obj)) (s : Shared) (σ : St) (H : Hp) (Q : Bool → Hp → Prop), Inv X pins σ H s → t σ H Q → wpAny (model X.prog X.w) X.A (isTrue e X.env whole) (TP X pins σ Q) X.xe s
theorem PW.pt {X : Cx} {e : Expr} {t : TT} (h : PW X e t) : PT X e t := h _
def PA (X : Cx) (es : List Expr) (t : TA) : Prop :=
  ∀ (pos : Pos) (pins : List (Addr × Obj)) (s : Shared) (σ : St) (H : Hp) (Q : List V → Hp → Prop), Inv X pins σ H s → t σ H Q → wpAny (model X.prog X.w) X.A (spliced (backTo pos (starEach es X.env))) (AP X pins σ Q) X.xe s
def PS (X : Cx) (st : Stmt) (t : TS) : Prop :=
  ∀ (pins : List (Addr × Obj)) (s : Shared) (σ : St) (H : Hp) (D : Ends), Inv X pins σ H s → t D σ H → wpAny (model X.prog X.w) X.A (exec st X.env) (SP X pins D) X.xe s
def PSs (X : Cx) (st : List Stmt) (t : TS) : Prop :=
  ∀ (pins : List (Addr × Obj)) (s : Shared) (σ : St) (H : Hp) (D : Ends), Inv X pins σ H s → t D σ H → wpAny (model X.prog X.w) X.A (execs st X.env) (SP X pins D) X.xe s
theorem thn {α : Type} {t : Sem α} {Q Q' : α → Shared → Prop} {M : Model} {A : Around} {E : Value → Shared → Prop} {s : Shared} (h : wpAny M A t Q E s) (hQ : ∀ a s, Q a s → Q' a s) : wpAny M A t Q' E s := wpAny_mono h hQ fun _ _ x => x
end L2

namespace L2
open PySem PySem.Spec PyProof.Rows
section
variable {X : Cx}

inductive TVar (i : Nat) (σ : St) (H : Hp) (Q : VK) : Prop
  | mk (v : V) (e : σ[i]? = some (some v)) (q : Q v H) : TVar i σ H Q
def tVar (i : Nat) : TE := TVar i
def tC (v : V) : TE := fun _ H Q => Q v H
theorem pe_var {i : Nat} {x : Str} {pos : Pos} (hN : X.N[i]? = some x) (hv : Vis X.env.scope x) (hd : (x == ("__debug__" : Str)) = false := by decide) (hcd : (x == ("__classdict__" : Str)) = false := by decide) : PE X (.Name x pos) (tVar i) := by
  intro pins s σ H Q I h
  obtain ⟨v, e, h⟩ := h
  obtain ⟨m, hn, hl⟩ := I.loc
  obtain ⟨u, r, l⟩ := hl i x v hN e hv
  have fin : EP X pins σ Q u s := ⟨v, H, I, r, h⟩
  rcases l with ⟨hk, hm⟩ | ⟨hk, c, hc, hcell⟩
  · exact wpAny_Name (wpAny_loadName_local I.ok.kind hk hn hm fin) hd
  · rcases hk with hk | hk
    · exact wpAny_Name (wpAny_loadName_cell I.ok.kind hk hc hcell fin) hd
    · exact wpAny_Name (wpAny_loadName_free I.ok.kind hk hc hcell fin hcd) hd
theorem pe_int {i j pos} : PE X (.Constant (.int i) j pos) (tC (.int i)) := fun _ _ _ H _ I h => wpAny_Constant_int ⟨.int i, H, I.tok _, ⟨_, rfl⟩, h⟩
theorem pe_bl {b j pos} : PE X (.Constant (.bool b) j pos) (tC (.bl b)) := fun _ _ _ H _ I h => Constant_bool ⟨.bl b, H, I, rfl, h⟩
theorem pe_non {j pos} : PE X (.Constant .none j pos) (tC .non) := fun _ _ _ H _ I h => Constant_none ⟨.non, H, I, rfl, h⟩
theorem pe_str {x j pos} : PE X (.Constant (.str x) j pos) (tC (.str x)) := fun _ _ _ H _ I h => Calls.Constant_str ⟨.str x, H, I.tok _, ⟨_, rfl⟩, h⟩

def Gl (X : Cx) (x : Str) : Prop := X.env.kindOf x = some .globalImplicit
theorem ld_glob {E : Value → Shared → Prop} {pins : List (Addr × Obj)} {s : Shared} {σ : St} {H : Hp} {x : Str} {u : Value} {pos : Pos} {Q : Value → Shared → Prop} (I : Inv X pins σ H s) (hg : Gl X x) (hm : X.mg x = some u) (h : Q u s)
    (hd : (x == ("__debug__" : Str)) = false := by decide) : wpAny (model X.prog X.w) X.A (eval (.Name x pos) X.env) Q E s :=
  Calls.Name_function_global I.ok.kind hg (Calls.loadGlobal_global (by rw [I.ok.glob]; exact I.mod.glob.keeps I.bk) hm h) hd
theorem ld_blt {E : Value → Shared → Prop} {pins : List (Addr × Obj)} {s : Shared} {σ : St} {H : Hp} {x : Str} {u : Value} {pos : Pos} {Q : Value → Shared → Prop} (I : Inv X pins σ H s) (hg : Gl X x) (hm : X.mg x = none) (hv : bootBuiltins x = some u) (h : Q u s)
    (hn : x ≠ "__name__" := by decide) (hd : (x == ("__debug__" : Str)) = false := by decide) : wpAny (model X.prog X.w) X.A (eval (.Name x pos) X.env) Q E s := by
  obtain ⟨mb, h1, h2⟩ := I.mod.blt
  exact Calls.Name_function_global I.ok.kind hg (Calls.loadGlobal_builtin (by rw [I.ok.glob]; exact I.mod.glob.keeps I.bk) hm (by rw [I.ok.blt]; exact h1.keeps I.bk) ((h2 x hn).trans hv) h) hd
theorem pe_glob {x : Str} {v : V} {u : Value} {pos : Pos} (hg : Gl X x) (hm : X.mg x = some u) (r : RelV v u) (hd : (x == ("__debug__" : Str)) = false := by decide) : PE X (.Name x pos) (tC v) :=
  fun _ _ _ H _ I h => ld_glob I hg hm ⟨v, H, I, r, h⟩ hd
theorem pe_bltn {x : Str} {v : V} {u : Value} {pos : Pos} (hg : Gl X x) (hm : X.mg x = none) (hv : bootBuiltins x = some u) (r : RelV v u) (hn : x ≠ "__name__" := by decide) (hd : (x == ("__debug__" : Str)) = false := by decide) : PE X (.Name x pos) (tC v) :=
  fun _ _ _ H _ I h => ld_blt I hg hm hv ⟨v, H, I, r, h⟩ hn hd

inductive OfBl (x : V) (H : Hp) (Q : Bool → Hp → Prop) : Prop
  | mk (c : Bool) (e : x = .bl c) (q : Q c H) : OfBl x H Q
inductive OfI (x : V) (H : Hp) (Q : Int → Hp → Prop) : Prop
  | mk (i : Int) (e : x = .int i) (q : Q i H) : OfI x H Q
inductive NewOb (n : Nat) (o : HO) (H : Hp) (Q : VK) : Prop
  | mk (l : n ≤ sizeLine) (q : ∀ p, H p = none → Q (.ref p) (upd H p o)) : NewOb n o H Q
variable {a b : Expr} {ta tb : TE} {pos : Pos}
def tB (t : TE) : TT := fun σ H Q => t σ H fun x H1 => OfBl x H1 Q
theorem pt_val {e : Expr} {t : TE} (h : PE X e t) (he : ∀ whole, isTrue e X.env whole = (do let v ← whole; standAt e.pos; holding [v] (truthy v)) := by intro _; rfl) : PT X e (tB t) := by
  intro pins s σ H Q I hw
  refine isTrue_plain (thn (h pins s σ H _ I hw) fun v s1 ⟨x, H1, I1, r1, q1⟩ => ?_) (he _)
  obtain ⟨d, rfl, q⟩ := q1
  cases r1
  exact wpAny_truthy_bool ⟨H1, I1, q⟩

variable {tA tB' : TT} {rest : List Expr}
def tAnd (t u : TT) : TT := fun σ H Q => t σ H fun c H1 => if c = true then u σ H1 Q else Q false H1
def tOr (t u : TT) : TT := fun σ H Q => t σ H fun c H1 => if c = true then Q true H1 else u σ H1 Q
def tNot (t : TT) : TT := fun σ H Q => t σ H fun c H1 => Q (!c) H1
theorem pw_and1 (ha : PT X a tA) : PW X (.BoolOp .And [a] pos) tA := by
  intro wh pins s σ H Q I h
  refine isTrue_and (thn (ha pins s σ H Q I h) fun c s1 e => ?_)
  cases c with
  | true => exact isTrue_and_nil e
  | false => exact e
theorem pw_or1 (ha : PT X a tA) : PW X (.BoolOp .Or [a] pos) tA := by
  intro wh pins s σ H Q I h
  refine isTrue_or (thn (ha pins s σ H Q I h) fun c s1 e => ?_)
  cases c with
  | false => exact isTrue_or_nil e
  | true => exact e
theorem pw_and (ha : PT X a tA) (hb : PW X (.BoolOp .And (b :: rest) pos) tB') : PW X (.BoolOp .And (a :: b :: rest) pos) (tAnd tA tB') := by
  intro wh pins s σ H Q I h
  refine isTrue_and (thn (ha pins s σ H _ I h) fun c s1 ⟨H1, I1, q1⟩ => ?_)
  cases c with
  | true => exact hb wh pins s1 σ H1 Q I1 q1
  | false => exact ⟨H1, I1, q1⟩
theorem pw_or (ha : PT X a tA) (hb : PW X (.BoolOp .Or (b :: rest) pos) tB') : PW X (.BoolOp .Or (a :: b :: rest) pos) (tOr tA tB') := by
  intro wh pins s σ H Q I h
  refine isTrue_or (thn (ha pins s σ H _ I h) fun c s1 ⟨H1, I1, q1⟩ => ?_)
  cases c with
  | true => exact ⟨H1, I1, q1⟩
  | false => exact hb wh pins s1 σ H1 Q I1 q1
theorem pt_not (ha : PT X a tA) : PT X (.UnaryOp .Not a pos) (tNot tA) := by
  intro pins s σ H Q I h
  exact isTrue_not (ha pins s σ H (fun c H1 => Q (!c) H1) I h)
def tAndV (ta tb : TE) : TE := fun σ H Q => ta σ H fun x H1 => OfBl x H1 fun c H1 => if c = true then tb σ H1 Q else Q (.bl false) H1
def tOrV (ta tb : TE) : TE := fun σ H Q => ta σ H fun x H1 => OfBl x H1 fun c H1 => if c = true then Q (.bl true) H1 else tb σ H1 Q
def tNotV (ta : TE) : TE := fun σ H Q => ta σ H fun x H1 => OfBl x H1 fun c H1 => Q (.bl (!c)) H1
theorem pe_one {op} {t : TE} (h : PE X a t) : PE X (.BoolOp op [a] pos) t := fun pins s σ H Q I hw => BoolOp_one (h pins s σ H Q I hw)
theorem pe_and (ha : PE X a ta) (hb : PE X (.BoolOp .And (b :: rest) pos) tb) : PE X (.BoolOp .And (a :: b :: rest) pos) (tAndV ta tb) := by
  intro pins s σ H Q I h
  refine BoolOp_and (thn (ha pins s σ H _ I h) fun v s1 ⟨x, H1, I1, r1, q1⟩ => ?_)
  obtain ⟨c, rfl, q1⟩ := q1
  cases r1
  refine wpAny_truthy_bool ?_
  cases c with
  | true => exact hb pins s1 σ H1 Q I1 q1
  | false => exact ⟨.bl false, H1, I1, rfl, q1⟩
theorem pe_or (ha : PE X a ta) (hb : PE X (.BoolOp .Or (b :: rest) pos) tb) : PE X (.BoolOp .Or (a :: b :: rest) pos) (tOrV ta tb) := by
  intro pins s σ H Q I h
  refine BoolOp_or (thn (ha pins s σ H _ I h) fun v s1 ⟨x, H1, I1, r1, q1⟩ => ?_)
  obtain ⟨c, rfl, q1⟩ := q1
  cases r1
  refine wpAny_truthy_bool ?_
  cases c with
  | false => exact hb pins s1 σ H1 Q I1 q1
  | true => exact ⟨.bl true, H1, I1, rfl, q1⟩
theorem pe_not (ha : PE X a ta) : PE X (.UnaryOp .Not a pos) (tNotV ta) := by
  intro pins s σ H Q I h
  refine UnaryOp_ (thn (ha pins s σ H _ I h) fun v s1 ⟨x, H1, I1, r1, q1⟩ => ?_)
  obtain ⟨c, rfl, q1⟩ := q1
  cases r1
  exact not_of (wpAny_truthy_bool ⟨.bl (!c), H1, I1, rfl, q1⟩)
end
end L2

namespace L2
open PySem PySem.Spec PyProof.Rows

def SqL (K : PySem.W.Frag) (H : Hp) (a : Addr) (xs : List V) : Prop :=
  Rd H a (.lst xs) ∨
    ∃ (o : Obj) (its : Array Value) (n : Nat), K.lookup a = some o ∧ o.cls = .type "list" ∧ o.dict = none ∧ o.data = .seq its n ∧ its.size ≤ sizeLine ∧ Vals xs its.toList
def SqT (K : PySem.W.Frag) (H : Hp) (a : Addr) (xs : List V) : Prop :=
  Rd H a (.tup xs) ∨
    ∃ (o : Obj) (its : Array Value) (n : Nat), K.lookup a = some o ∧ o.cls = .type "tuple" ∧ o.data = .seq its n ∧ its.size ≤ sizeLine ∧ Vals xs its.toList
def absV : Value → Option V
  | .none => some .non
  | .bool b => some (.bl b)
  | .int i _ => some (.int i)
  | .str x _ => some (.str x)
  | .bytes b _ => some (.byt b)
  | .float b _ => some (.flt b)
  | .ref a => some (.ref a)
  | .type n => some (.ty n)
  | _ => none
theorem RelV.abs {x : V} {u : Value} (r : RelV x u) : absV u = some x := by
  cases x with
  | non => cases r; rfl
  | bl _ => cases r; rfl
  | int _ => obtain ⟨t, rfl⟩ := r; rfl
  | str _ => obtain ⟨t, rfl⟩ := r; rfl
  | byt _ => obtain ⟨t, rfl⟩ := r; rfl
  | flt _ => obtain ⟨t, rfl⟩ := r; rfl
  | ref _ => cases r; rfl
  | ty _ => cases r; rfl
theorem RelV.inj {x y : V} {u : Value} (r : RelV x u) (q : RelV y u) : x = y := Option.some.inj (r.abs.symm.trans q.abs)
theorem Vals.inj : ∀ {xs ys : List V} {us : List Value}, Vals xs us → Vals ys us → xs = ys
  | _, _, _, .nil, .nil => rfl
  | _, _, _, .cons r t, .cons r' t' => by rw [r.inj r', Vals.inj t t']
section
variable {X : Cx} {pins : List (Addr × Obj)} {σ : St} {H : Hp} {s : Shared} {a : Addr} {xs ys : List V}
theorem SqL.of {K : PySem.W.Frag} (h : H a = some (.lst xs)) : SqL K H a xs := .inl (.inl h)
theorem SqT.of {K : PySem.W.Frag} (h : H a = some (.tup xs)) : SqT K H a xs := .inl (.inl h)
theorem Inv.list (I : Inv X pins σ H s) (h : SqL X.K H a xs) : ∃ its : List Value, Vals xs its ∧ PlainL s.heap a its.toArray ∧ xs.length ≤ sizeLine := by
  rcases h with h | ⟨o, its, n, hk, hc, hd, hs, hz, r⟩
  · obtain ⟨z, its, n, r, e⟩ := h.ok I.hok
    exact ⟨its, r, ⟨_, n, e, rfl, rfl, rfl⟩, z⟩
  · refine ⟨its.toList, r, ⟨o, n, I.kIn a o hk, hc, hd, by simpa using hs⟩, ?_⟩
    have e := r.length
    simp only [Array.length_toList] at e
    (first | lia | omega)
theorem Inv.tuple (I : Inv X pins σ H s) (h : SqT X.K H a xs) : ∃ its : List Value, Vals xs its ∧ IsTup s.heap a its.toArray ∧ xs.length ≤ sizeLine := by
  rcases h with h | ⟨o, its, n, hk, hc, hs, hz, r⟩
  · obtain ⟨z, its, r, p⟩ := h.ok I.hok
    exact ⟨its, r, p, z⟩
  · refine ⟨its.toList, r, ⟨o, I.kIn a o hk, hc, n, by simpa using hs⟩, ?_⟩
    have e := r.length
    simp only [Array.length_toList] at e
    (first | lia | omega)
theorem Inv.list_inj (I : Inv X pins σ H s) (h : SqL X.K H a xs) (h' : SqL X.K H a ys) : xs = ys := by
  obtain ⟨its, r, ⟨o, n, e, _, _, d⟩, _⟩ := I.list h
  obtain ⟨its', r', ⟨o', n', e', _, _, d'⟩, _⟩ := I.list h'
  rw [e] at e'; cases e'
  rw [d] at d'
  injection d' with d1 _
  have : its = its' := by simpa using congrArg Array.toList d1
  subst this
  exact r.inj r'
theorem Inv.tuple_inj (I : Inv X pins σ H s) (h : SqT X.K H a xs) (h' : SqT X.K H a ys) : xs = ys := by
  obtain ⟨its, r, ⟨o, e, _, n, d⟩, _⟩ := I.tuple h
  obtain ⟨its', r', ⟨o', e', _, n', d'⟩, _⟩ := I.tuple h'
  rw [e] at e'; cases e'
  rw [d] at d'
  injection d' with d1 _
  have : its = its' := by simpa using congrArg Array.toList d1
  subst this
  exact r.inj r'
end

abbrev Cx.wish (X : Cx) (E : Value → Shared → Prop) : Cx := { X with xe := E }
abbrev Cx.nox (X : Cx) : Cx := X.wish fun _ _ => False
theorem Cx.Ok.wish {X : Cx} (ok : X.Ok) (E : Value → Shared → Prop) : (X.wish E).Ok :=
  ⟨ok.mod, ok.kind, ok.glob, ok.blt, ok.above, ok.inj, ok.has, ok.cab, ok.hd, ok.frames, ok.stk, ok.exf, ok.bs, ok.bsz, ok.noex, ok.exfs, ok.funs, ok.frf⟩
theorem Cx.Ok.unwish {X : Cx} {E : Value → Shared → Prop} (ok : (X.wish E).Ok) : X.Ok :=
  ⟨ok.mod, ok.kind, ok.glob, ok.blt, ok.above, ok.inj, ok.has, ok.cab, ok.hd, ok.frames, ok.stk, ok.exf, ok.bs, ok.bsz, ok.noex, ok.exfs, ok.funs, ok.frf⟩
section
variable {X : Cx} {pins : List (Addr × Obj)} {σ : St} {H : Hp} {s : Shared} {E : Value → Shared → Prop}
theorem Inv.wish (I : Inv X pins σ H s) (E : Value → Shared → Prop) : Inv (X.wish E) pins σ H s := ⟨I.ok.wish E, I.os, I.bare, I.base, I.loc, I.cell, I.free, I.freeC, I.pin, I.hok, I.len⟩
theorem Inv.unwish (I : Inv (X.wish E) pins σ H s) : Inv X pins σ H s := ⟨I.ok.unwish, I.os, I.bare, I.base, I.loc, I.cell, I.free, I.freeC, I.pin, I.hok, I.len⟩
theorem SP.unwish {D : Ends} {f : Flow} {s' : Shared} (h : SP (X.wish E) pins D f s') : SP X pins D f s' := by
  cases f with
  | next => obtain ⟨σ', H', I, q⟩ := h; exact ⟨σ', H', I.unwish, q⟩
  | brk => obtain ⟨σ', H', I, q⟩ := h; exact ⟨σ', H', I.unwish, q⟩
  | cont => obtain ⟨σ', H', I, q⟩ := h; exact ⟨σ', H', I.unwish, q⟩
  | ret u => obtain ⟨v, σ', H', I, r, q⟩ := h; exact ⟨v, σ', H', I.unwish, r, q⟩
theorem PSs.nox {st : List Stmt} {t : TS} (h : PSs X.nox st t) : PSs X st t := fun pins s σ H D I hw =>
  wpAny_mono (h pins s σ H D (I.wish _) hw) (fun _ _ q => q.unwish) fun _ _ z => False.elim z
end

section
variable {X : Cx} {st : Stmt} {rest : List Stmt} {t u : TS} {e : Expr} {te : TE} {pos : Pos}
def tNext : TS := fun D σ H => D.nx σ H
def tSeq (t u : TS) : TS := fun D σ H => t { D with nx := u D } σ H
theorem pss_nil : PSs X [] tNext := fun _ _ σ H _ I h => wpAny_execs_nil ⟨σ, H, I, h⟩
theorem pss_cons (h1 : PS X st t) (h2 : PSs X rest u) : PSs X (st :: rest) (tSeq t u) := by
  intro pins s σ H D I h
  refine wpAny_execs_cons (thn (h1 pins s σ H { D with nx := u D } I h) fun f s1 q => ?_)
  cases f with
  | next =>
    obtain ⟨σ', H', I', q⟩ := q
    exact h2 pins s1 σ' H' D I' q
  | ret v => exact q
  | brk => exact q
  | cont => exact q
theorem pss_one (h1 : PS X st t) : PSs X [st] t := by
  intro pins s σ H D I h
  refine wpAny_execs_cons (thn (h1 pins s σ H D I h) fun f s1 q => ?_)
  cases f with
  | next => exact wpAny_execs_nil q
  | ret v => exact q
  | brk => exact q
  | cont => exact q
theorem Inv.quiet {pins : List (Addr × Obj)} {σ : St} {H : Hp} {s : Shared} (I : Inv X pins σ H s) : interactive X.env = false := by simp [interactive, I.ok.kind]
def tDrop (te : TE) : TS := fun D σ H => te σ H fun _ H1 => D.nx σ H1
theorem ps_expr (he : PE X e te) (hs : swapsWith e none pos.line X.env = pure false := by rfl) : PS X (.Expr e pos) (tDrop te) := by
  intro pins s σ H D I h
  exact wpAny_Expr_any (thn (he pins s σ H _ I h) fun v s1 ⟨x, H1, I1, r1, q1⟩ => ⟨σ, H1, I1, q1⟩) I.quiet hs
def tRet (te : TE) : TS := fun D σ H => te σ H D.rt
theorem ps_ret (he : PE X e te) : PS X (.Return (some e) pos) (tRet te) := by
  intro pins s σ H D I h
  exact wpAny_Return_some (thn (he pins s σ H _ I h) fun v s1 ⟨x, H1, I1, r1, q1⟩ => ⟨x, σ, H1, I1, r1, q1⟩)
def tIfS (c : TT) (t u : TS) : TS := fun D σ H => c σ H fun b H1 => if b = true then t D σ H1 else u D σ H1
theorem ps_if {c : Expr} {a b : List Stmt} {tc : TT} (hc : PT X c tc) (ha : PSs X a t) (hb : PSs X b u) : PS X (.If c a b pos) (tIfS tc t u) := by
  intro pins s σ H D I h
  refine wpAny_If (thn (hc pins s σ H _ I h) fun d s1 ⟨H1, I1, q1⟩ => ?_)
  cases d with
  | true => exact ha pins s1 σ H1 D I1 q1
  | false => exact hb pins s1 σ H1 D I1 q1
end

abbrev TG := V → St → Hp → (St → Hp → Prop) → Prop
def PG (X : Cx) (target : Expr) (t : TG) : Prop :=
  ∀ (pins : List (Addr × Obj)) (s : Shared) (σ : St) (H : Hp) (v : V) (u : Value) (Q : St → Hp → Prop), Inv X pins σ H s → RelV v u → t v σ H Q →
    wpAny (model X.prog X.w) X.A (assign target X.env u) (fun _ s' => ∃ σ' H', Inv X pins σ' H' s' ∧ Q σ' H') X.xe s
abbrev TSet := V → V → V → Hp → (Hp → Prop) → Prop
def PSet (X : Cx) (t : TSet) : Prop :=
  ∀ (pins : List (Addr × Obj)) (s : Shared) (σ : St) (H : Hp) (o i v : V) (ov iv u : Value) (Q : Hp → Prop), Inv X pins σ H s → RelV o ov → RelV i iv → RelV v u → t o i v H Q →
    wpAny (model X.prog X.w) X.A (setItem ov iv u) (fun _ s' => ∃ H', Inv X pins σ H' s' ∧ Q H') X.xe s
section
variable {X : Cx} {pos : Pos}
def gName (i : Nat) : TG := fun v σ H Q => Q (σ.set i (some v)) H
theorem pg_name {i : Nat} {x : Str} (hN : X.N.Nodup) (hi : X.N[i]? = some x) (hx : Loc X.env.scope x) (hf : X.fn x = true ∨ X.env.scope.names.lookup x = some .local := by first | exact .inl rfl | exact .inr rfl | assumption) : PG X (.Name x pos) (gName i) := by
  intro pins s σ H v u Q I r h
  exact wpAny_assign_Name (store_ok I hN hi hx r (fun s' I' => ⟨_, H, I', h⟩) hf)
def gSub (to ti : TE) (t : TSet) : TG := fun v σ H Q => to σ H fun o H1 => ti σ H1 fun i H2 => t o i v H2 fun H3 => Q σ H3
theorem pg_sub {o i : Expr} {to ti : TE} {t : TSet} (ho : PE X o to) (hi : PE X i ti) (hs : PSet X t)
    (ha : ∀ v, assign (.Subscript o i pos) X.env v = (do
      let ov ← holding [v] (eval o X.env)
      let iv ← holding [v, ov] (eval i X.env)
      standAt pos
      holding [v, ov, iv] (setItem ov iv v)
      release [v, ov, iv] []) := by intro _; rfl) : PG X (.Subscript o i pos) (gSub to ti t) := by
  intro pins s σ H v u Q I r h
  rw [ha]
  refine wpAny_bind (wpAny_holding (thn (ho pins s σ H _ I h) fun ov s1 ⟨x, H1, I1, r1, q1⟩ => ?_))
  refine wpAny_bind (wpAny_holding (thn (hi pins s1 σ H1 _ I1 q1) fun iv s2 ⟨y, H2, I2, r2, q2⟩ => ?_))
  refine wpAny_bind (wpAny_standAt (wpAny_bind (wpAny_holding (thn (hs pins s2 σ H2 x y v ov iv u _ I2 r1 r2 r q2) fun _ s3 ⟨H3, I3, q3⟩ => ?_))))
  exact wpAny_release ⟨σ, H3, I3, q3⟩
def tAsg (te : TE) (g : TG) : TS := fun D σ H => te σ H fun x H1 => g x σ H1 D.nx
theorem ps_asg {tg e : Expr} {te : TE} {g : TG} (he : PE X e te) (hg : PG X tg g) (hs : swapsWithSole [tg] e pos.line X.env = pure false := by rfl) (hw : swappedStores [tg] e X.env = pure none := by rfl)
    (h1 : (assignEach [tg] X.env).map (·.2) = [assign tg X.env] := by rfl) : PS X (.Assign [tg] e pos) (tAsg te g) := by
  intro pins s σ H D I h
  refine wpAny_Assign_stores (thn (he pins s σ H _ I h) fun v s1 ⟨x, H1, I1, r1, q1⟩ => ?_) hs hw
  rw [h1]
  exact thn (hg pins s1 σ H1 x v _ I1 r1 q1) fun _ s2 q => q
theorem ps_set {i : Nat} {x : Str} {e : Expr} {te : TE} {pos' : Pos} (hN : X.N.Nodup) (hi : X.N[i]? = some x) (hx : Loc X.env.scope x) (he : PE X e te) (hs : swapsWith e (some (.Name x pos')) pos.line X.env = pure false := by rfl) (hf : X.fn x = true ∨ X.env.scope.names.lookup x = some .local := by first | exact .inl rfl | exact .inr rfl | assumption) :
    PS X (.Assign [.Name x pos'] e pos) (tAsg te (gName i)) := by
  intro pins s σ H D I h
  refine wpAny_Assign_Name (thn (he pins s σ H _ I h) fun v s1 ⟨y, H1, I1, r1, q1⟩ => ?_) hs
  exact store_ok I1 hN hi hx r1 (fun s2 I2 => ⟨_, H1, I2, q1⟩) hf
end

section
variable {X : Cx} {pos : Pos}
end

structure It where
  go : Nat → Hp → Prop
  yld : Nat → Hp → V → Hp → Prop
  stop : Nat → Hp → Prop
def FpOk (X : Cx) (pins : List (Addr × Obj)) (H : Hp) (b : Addr) : Prop :=
  H b = none ∧ b ≠ X.env.locals ∧ b ∉ X.fs ∧ (b ∈ X.ex ∨ X.s₀.heap.objs.size ≤ b) ∧ (∀ x c, X.env.cells.lookup x = some c → c ≠ b) ∧ ∀ p ∈ X.pn ++ pins, p.1 ≠ b
theorem Inv.fpOk {X : Cx} {pins : List (Addr × Obj)} {σ : St} {H H' : Hp} {s : Shared} {b : Addr} (I : Inv X pins σ H s) (hb : s.heap.objs.size ≤ b) (hn : H' b = none) : FpOk X pins H' b := by
  refine ⟨hn, Nat.ne_of_gt (Nat.lt_of_lt_of_le I.lt hb), I.nofs hb, .inr (Nat.le_trans I.sz hb), fun x c e z => ?_, fun p hp z => ?_⟩
  · obtain ⟨v, q⟩ := I.cell x c e
    exact absurd (Nat.lt_of_lt_of_le q.lt (by rw [z]; exact hb)) (Nat.lt_irrefl _)
  · exact absurd (Nat.lt_of_lt_of_le (Heap.lt_size (I.pin p hp).1) (by rw [z]; exact hb)) (Nat.lt_irrefl _)
structure Turn (P : Program) (w : World) (K : PySem.W.Frag) (tg : Expr) (J : It) (fp : List Addr) (it : Addr) (tn : Nat → Heap → Prop) : Prop where
  mem : it ∈ fp
  obj : ∀ i h, tn i h → ∀ b ∈ fp, ∃ o, h.get? b = some o ∧ ∀ v, o.data ≠ .cell v
  keep : ∀ i h h', tn i h → (∀ b ∈ fp, ∀ o, h.get? b = some o → h'.get? b = some o) → tn i h'
  item : ∀ (X : Cx), X.prog = P → X.w = w → X.K = K → X.calm = true → ∀ (i : Nat) (pins : List (Addr × Obj)) (s : Shared) (σ : St) (H : Hp) (E : Value → Shared → Prop), Inv X pins σ H s → (∀ b ∈ fp, FpOk X pins H b) → tn i s.heap → J.go i H →
    wpAny (model P w) X.A (pyNext (.ref it)) (fun r s1 => ∃ u, r = some u ∧
      wpAny (model P w) X.A (letOwnedTupleGo tg (.ref it) u) (fun _ s2 => ∃ x H', Inv X pins σ H' s2 ∧ RelV x u ∧ J.yld i H x H' ∧ tn (i + 1) s2.heap ∧ ∀ b ∈ fp, H' b = none) E s1) E s
  done : ∀ (X : Cx), X.prog = P → X.w = w → X.K = K → X.calm = true → ∀ (i : Nat) (pins : List (Addr × Obj)) (s : Shared) (σ : St) (H : Hp) (E : Value → Shared → Prop), Inv X pins σ H s → (∀ b ∈ fp, FpOk X pins H b) → tn i s.heap → J.stop i H →
    wpAny (model P w) X.A (pyNext (.ref it)) (fun r s1 => r = none ∧ Inv X pins σ H s1) E s
  self : ∀ (A : Around) (i : Nat) (s : Shared) (Q : Value → Shared → Prop) (E : Value → Shared → Prop), tn i s.heap → Q (.ref it) s → wpAny (model P w) A (pyIter (.ref it)) Q E s
abbrev TI := St → Hp → (It → Hp → Prop) → Prop
def PIE (X : Cx) (pins : List (Addr × Obj)) (σ : St) (tg : Expr) (R : It → Hp → Prop) (itv : Value) (s2 : Shared) : Prop :=
  ∃ (it : Addr) (fp : List Addr) (tn : Nat → Heap → Prop) (J : It) (H' : Hp), itv = .ref it ∧ Inv X pins σ H' s2 ∧ Turn X.prog X.w X.K tg J fp it tn ∧ tn 0 s2.heap ∧ (∀ b ∈ fp, FpOk X pins H' b) ∧ R J H'
def PI (X : Cx) (tg iter : Expr) (wi : TI) : Prop :=
  ∀ (pins : List (Addr × Obj)) (s : Shared) (σ : St) (H : Hp) (R : It → Hp → Prop), Inv X pins σ H s → wi σ H R →
    wpAny (model X.prog X.w) X.A (eval iter X.env) (fun v s1 => wpAny (model X.prog X.w) X.A (pyIter v) (PIE X pins σ tg R) X.xe s1) X.xe s

theorem go_of {M : Model} {A : Around} {E : Value → Shared → Prop} {s : Shared} {tg : Expr} {it : Addr} {u : Value} {o : Obj} {n : String} {vs : Array Value} {Q : Unit → Shared → Prop} (ho : s.heap.get? it = some o) (hc : o.cls = .type n) (hd : o.data = .fields vs)
    (hn : ["enumerate", "zip", "dict_itemiterator", "dict_reverseitemiterator", "odict_iterator", "itertools.zip_longest", "itertools.pairwise"].contains n = false) (hQ : Q () s) : wpAny M A (letOwnedTupleGo tg (.ref it) u) Q E s := by
  unfold letOwnedTupleGo
  cases tg <;> first
    | exact wpAny_pure hQ
    | (cases u <;> first
        | exact wpAny_pure hQ
        | (refine wpAny_bind (wpAny_load ho ?_)
           rw [hc, hd]
           show wpAny M A (if (["enumerate", "zip", "dict_itemiterator", "dict_reverseitemiterator", "odict_iterator", "itertools.zip_longest", "itertools.pairwise"].contains n && vs[0]? == some (rawInt _)) = true then _ else _) Q E s
           rw [if_neg (by intro h; rw [hn, Bool.false_and] at h; cases h)]
           exact wpAny_pure hQ))

def Itl (K : PySem.W.Frag) (a : Addr) : It :=
  ⟨fun i H => ∃ xs x, SqL K H a xs ∧ xs[i]? = some x, fun i H x H' => H' = H ∧ ∀ xs, SqL K H a xs → xs[i]? = some x, fun i H => ∃ xs, SqL K H a xs ∧ xs.length ≤ i⟩
def Itt (K : PySem.W.Frag) (a : Addr) : It :=
  ⟨fun i H => ∃ xs x, SqT K H a xs ∧ xs[i]? = some x, fun i H x H' => H' = H ∧ ∀ xs, SqT K H a xs → xs[i]? = some x, fun i H => ∃ xs, SqT K H a xs ∧ xs.length ≤ i⟩
def Itr (lo : Int) (n : Nat) : It := ⟨fun i _ => i < n, fun i H x H' => H' = H ∧ x = .int (lo + i), fun i _ => n ≤ i⟩
theorem turn_list {P : Program} {w : World} {K : PySem.W.Frag} {tg : Expr} (a it : Addr) : Turn P w K tg (Itl K a) [it] it (fun i h => h.IsListIter it a i) where
  mem := by simp
  obj := fun i h st b hb => by
    have e : b = it := by simpa using hb
    subst e
    obtain ⟨o, e, c, d⟩ := st
    exact ⟨o, e, fun v z => by rw [d] at z; cases z⟩
  keep := fun i h h' st k => st.at fun o e => k it (by simp) o e
  item := by
    intro X hP hw hK hc i pins s σ H E I hf st hg
    subst hP hw hK
    obtain ⟨xs, x, hq, hx⟩ := hg
    obtain ⟨its, rv, p, hz⟩ := I.list hq
    obtain ⟨u, hu, ru⟩ := rv.get hx
    obtain ⟨f0, f1, f2, f3, f4, f5⟩ := hf it (by simp)
    refine wpAny_pyNext_list_item st p.isList (x := u) (by simpa using hu) fun h' st' sb => ?_
    have I1 : Inv X pins σ H { s with heap := h' } := I.turned (t' := s.toks) (fun b o hb e => (sb.2 b hb).trans e) f0 f1 f3 f4 f5
    obtain ⟨o, e, c, d⟩ := id st'
    exact ⟨u, rfl, go_of (s := { s with heap := h' }) e c d (by decide) ⟨x, H, I1, ru, ⟨rfl, fun ys hy => by rw [I.list_inj hy hq]; exact hx⟩, st', fun b hb => (hf b hb).1⟩⟩
  done := by
    intro X hP hw hK hc i pins s σ H E I hf st hg
    subst hP hw hK
    obtain ⟨xs, hq, hx⟩ := hg
    obtain ⟨its, rv, p, hz⟩ := I.list hq
    obtain ⟨f0, f1, f2, f3, f4, f5⟩ := hf it (by simp)
    have hl := rv.length
    exact wpAny_pyNext_list_end (I.ok.hd hc) st p.isList (by simp; (first | lia | omega)) fun h' eb => ⟨rfl, I.turned (t' := s.toks) (fun b o hb e => eb b o hb e) f0 f1 f3 f4 f5⟩
  self := fun _ _ _ _ _ st h => wpAny_pyIter_listiter st h
theorem turn_tuple {P : Program} {w : World} {K : PySem.W.Frag} {tg : Expr} (a it : Addr) : Turn P w K tg (Itt K a) [it] it (fun i h => h.IsTupleIter it a i) where
  mem := by simp
  obj := fun i h st b hb => by
    have e : b = it := by simpa using hb
    subst e
    obtain ⟨o, e, c, d⟩ := st
    exact ⟨o, e, fun v z => by rw [d] at z; cases z⟩
  keep := fun i h h' st k => st.at fun o e => k it (by simp) o e
  item := by
    intro X hP hw hK hc i pins s σ H E I hf st hg
    subst hP hw hK
    obtain ⟨xs, x, hq, hx⟩ := hg
    obtain ⟨its, rv, p, hz⟩ := I.tuple hq
    obtain ⟨u, hu, ru⟩ := rv.get hx
    obtain ⟨f0, f1, f2, f3, f4, f5⟩ := hf it (by simp)
    refine wpAny_pyNext_tuple_item st (show s.heap.IsTuple a its.toArray from p) (x := u) (by simpa using hu) fun h' st' sb => ?_
    have I1 : Inv X pins σ H { s with heap := h' } := I.turned (t' := s.toks) (fun b o hb e => (sb.2 b hb).trans e) f0 f1 f3 f4 f5
    obtain ⟨o, e, c, d⟩ := id st'
    exact ⟨u, rfl, go_of (s := { s with heap := h' }) e c d (by decide) ⟨x, H, I1, ru, ⟨rfl, fun ys hy => by rw [I.tuple_inj hy hq]; exact hx⟩, st', fun b hb => (hf b hb).1⟩⟩
  done := by
    intro X hP hw hK hc i pins s σ H E I hf st hg
    subst hP hw hK
    obtain ⟨xs, hq, hx⟩ := hg
    obtain ⟨its, rv, p, hz⟩ := I.tuple hq
    obtain ⟨f0, f1, f2, f3, f4, f5⟩ := hf it (by simp)
    have hl := rv.length
    exact wpAny_pyNext_tuple_end (I.ok.hd hc) st (show s.heap.IsTuple a its.toArray from p) (by simp; (first | lia | omega)) fun h' eb => ⟨rfl, I.turned (t' := s.toks) (fun b o hb e => eb b o hb e) f0 f1 f3 f4 f5⟩
  self := fun _ _ _ _ _ st h => wpAny_pyIter_tupleiter st h
theorem turn_range {P : Program} {w : World} {K : PySem.W.Frag} {tg : Expr} (it : Addr) (lo : Int) (n : Nat) : Turn P w K tg (Itr lo n) [it] it (fun i h => IsRangeIter h it (lo + (i : Nat) * 1) ((n : Int) - (i : Nat)) 1) where
  mem := by simp
  obj := fun i h st b hb => by
    have e : b = it := by simpa using hb
    subst e
    exact ⟨_, st, fun v z => by
      have z' : Data.fields _ = Data.cell v := z
      cases z'⟩
  keep := fun i h h' st k => k it (by simp) _ st
  item := by
    intro X hP hw hK hc i pins s σ H E I hf st hg
    subst hP hw hK
    obtain ⟨f0, f1, f2, f3, f4, f5⟩ := hf it (by simp)
    have W := Walks.range (prog := X.prog) (w := X.w) (I.ok.hd hc) it lo 1 n
    refine W.item i s _ _ hg st fun v h' tk hv st' kk => ?_
    obtain ⟨t, rfl⟩ := hv
    have I1 : Inv X pins σ H { s with heap := h', toks := tk } := I.turned (fun b o hb e => kk b o (by simpa using hb) e) f0 f1 f3 f4 f5
    refine ⟨_, rfl, go_of (s := { s with heap := h', toks := tk }) (n := "range_iterator") st' rfl rfl (by decide) ⟨.int (lo + i), H, I1, ⟨t, ?_⟩, ⟨rfl, rfl⟩, st', fun b hb => (hf b hb).1⟩⟩
    rw [Int.mul_one]
  done := by
    intro X hP hw hK hc i pins s σ H E I hf st hg
    subst hP hw hK
    obtain ⟨f0, f1, f2, f3, f4, f5⟩ := hf it (by simp)
    exact wpAny_pyNext_range_end (I.ok.hd hc) st (by have : n ≤ i := hg; (first | lia | omega)) fun h' eb => ⟨rfl, I.turned (t' := s.toks) (fun b o hb e => eb b o hb e) f0 f1 f3 f4 f5⟩
  self := fun _ _ _ _ _ st h => wpAny_pyIter_rangeiter st h
end L2

namespace L2
open PySem PySem.Spec PyProof.Rows
section
variable {X : Cx} {tg : Expr}
def iList (K : PySem.W.Frag) (tl : TE) : TI := fun σ H R => tl σ H fun x H1 => ∃ a, x = .ref a ∧ (∃ xs, SqL K H1 a xs) ∧ R (Itl K a) H1
def iTup (K : PySem.W.Frag) (tl : TE) : TI := fun σ H R => tl σ H fun x H1 => ∃ a, x = .ref a ∧ (∃ xs, SqT K H1 a xs) ∧ R (Itt K a) H1
theorem pi_list {l : Expr} {tl : TE} (hl : PE X l tl) : PI X tg l (iList X.K tl) := by
  intro pins s σ H R I h
  refine thn (hl pins s σ H _ I h) fun v s1 ⟨x, H1, I1, r1, q1⟩ => ?_
  obtain ⟨a, e, ⟨xs, hq⟩, q⟩ := q1
  subst e
  cases r1
  obtain ⟨its, rv, p, hz⟩ := I1.list hq
  refine wpAny_pyIter_list p.isList ?_
  refine ⟨s1.heap.objs.size, [s1.heap.objs.size], _, _, H1, rfl, I1.kept (t' := s1.toks) fun b o e => Heap.get?_push_of_some _ e, turn_list a _, ⟨_, Heap.get?_push_size _ rfl, rfl, rfl⟩, fun b hb => ?_, q⟩
  have e : b = s1.heap.objs.size := by simpa using hb
  subst e
  exact I1.fpOk (Nat.le_refl _) (I1.hok.fresh (Nat.le_refl _))
theorem pi_tup {l : Expr} {tl : TE} (hl : PE X l tl) : PI X tg l (iTup X.K tl) := by
  intro pins s σ H R I h
  refine thn (hl pins s σ H _ I h) fun v s1 ⟨x, H1, I1, r1, q1⟩ => ?_
  obtain ⟨a, e, ⟨xs, hq⟩, q⟩ := q1
  subst e
  cases r1
  obtain ⟨its, rv, p, hz⟩ := I1.tuple hq
  refine wpAny_pyIter_tuple (show s1.heap.IsTuple a its.toArray from p) ?_
  refine ⟨s1.heap.objs.size, [s1.heap.objs.size], _, _, H1, rfl, I1.kept (t' := s1.toks) fun b o e => Heap.get?_push_of_some _ e, turn_tuple a _, ⟨_, Heap.get?_push_size _ rfl, rfl, rfl⟩, fun b hb => ?_, q⟩
  have e : b = s1.heap.objs.size := by simpa using hb
  subst e
  exact I1.fpOk (Nat.le_refl _) (I1.hok.fresh (Nat.le_refl _))
theorem range_it {pins : List (Addr × Obj)} {σ : St} {H : Hp} {s : Shared} {R : It → Hp → Prop} {E : Value → Shared → Prop} {lo hi : Int} {t u v : Tok} {tk : Nat} (I : Inv X pins σ H s) (h1 : -(2 ^ 62) ≤ lo) (h2 : lo < 2 ^ 62) (h3 : -(2 ^ 62) ≤ hi) (h4 : hi < 2 ^ 62)
    (q : R (Itr lo (hi - lo).toNat) H) : wpAny (model X.prog X.w) X.A (pyIter (.ref s.heap.objs.size)) (PIE X pins σ tg R) E { s with heap := s.heap.push { cls := .type "range", data := .fields #[.int lo t, .int hi u, .int 1 v] }, toks := tk } := by
  refine wpAny_pyIter_range (IsRange.new ..) (small_one h1 h2 h3 h4) ?_
  have I1 : Inv X pins σ H { s with heap := s.heap.push { cls := .type "range", data := .fields #[.int lo t, .int hi u, .int 1 v] }, toks := tk } := I.kept fun b o e => Heap.get?_push_of_some _ e
  refine ⟨(s.heap.push { cls := .type "range", data := .fields #[.int lo t, .int hi u, .int 1 v] }).objs.size, [(s.heap.push { cls := .type "range", data := .fields #[.int lo t, .int hi u, .int 1 v] }).objs.size], _, _, H, rfl,
    I1.kept (t' := tk) fun b o e => Heap.get?_push_of_some _ e, turn_range _ lo (hi - lo).toNat, ?_, fun b hb => ?_, q⟩
  · have e1 : lo + ((0 : Nat) : Int) * 1 = lo := by simp
    have e2 : (((hi - lo).toNat : Nat) : Int) - ((0 : Nat) : Int) = Builtin.Range.rangeSize lo hi 1 := by rw [rangeSize_one]; split <;> (first | lia | omega)
    show IsRangeIter _ _ (lo + ((0 : Nat) : Int) * 1) ((((hi - lo).toNat : Nat) : Int) - ((0 : Nat) : Int)) 1
    rw [e1, e2]
    exact Heap.get?_push_size _ rfl
  · have e : b = (s.heap.push { cls := .type "range", data := .fields #[.int lo t, .int hi u, .int 1 v] }).objs.size := by simpa using hb
    subst e
    exact I1.fpOk (Nat.le_refl _) (I1.hok.fresh (Nat.le_refl _))
def iRng1 (ta : TA) : TI := fun σ H R => ta σ H fun vs H1 => ∃ j : Int, vs = [.int j] ∧ -(2 ^ 62) ≤ j ∧ j < 2 ^ 62 ∧ R (Itr 0 j.toNat) H1
theorem pi_range1 {a : Expr} {ta : TA} {p pos : Pos} (hg : Gl X "range") (hm : X.mg "range" = none) (ha : PA X [a] ta) (hs : starEach [a] X.env = [(false, eval a X.env)] := by rfl) : PI X tg (.Call (.Name "range" p) [a] [] pos) (iRng1 ta) := by
  intro pins s σ H R I h
  refine Call_ (ld_blt I hg hm boot_range (PyProof.Rows.callWith_type1 (thn (ha pos pins s σ H _ I h) fun us s1 ⟨vs, H1, I1, r1, q1⟩ => ?_) hs rfl))
  obtain ⟨j, e, q1, q2, q⟩ := q1
  subst e
  cases r1 with
  | cons r rr =>
    cases rr
    obtain ⟨t, rfl⟩ := r
    exact call_range_1 (range_it I1 (by (first | lia | omega)) (by (first | lia | omega)) q1 q2 (by simpa using q))
def tFor (wi : TI) (g : TG) (tb : TS) : TS := fun D σ H => wi σ H fun J H1 => ∃ W : Nat → Nat → St → Hp → Prop, (∃ m, W 0 m σ H1) ∧ ∀ i m σ H, W i m σ H →
  (J.stop i H ∧ D.nx σ H) ∨ (J.go i H ∧ ∃ N : St → Hp → Prop, (∀ σ' H', N σ' H' → ∃ m', m' < m ∧ W (i + 1) m' σ' H') ∧ ∀ x H', J.yld i H x H' → g x σ H' fun σ2 H2 => tb { D with nx := N, ct := N, bk := D.nx } σ2 H2)
def pinsAt (fp : List Addr) (h : Heap) : List (Addr × Obj) := fp.filterMap fun b => (h.get? b).map fun o => (b, o)
theorem mem_pinsAt {fp : List Addr} {h : Heap} {b : Addr} {o : Obj} (hb : b ∈ fp) (e : h.get? b = some o) : (b, o) ∈ pinsAt fp h := List.mem_filterMap.mpr ⟨b, hb, by rw [e]; rfl⟩
theorem of_pinsAt {fp : List Addr} {h : Heap} {p : Addr × Obj} (hp : p ∈ pinsAt fp h) : p.1 ∈ fp ∧ h.get? p.1 = some p.2 := by
  obtain ⟨b, hb, e⟩ := List.mem_filterMap.mp hp
  cases q : h.get? b with
  | none => rw [q] at e; cases e
  | some o =>
    rw [q] at e
    have e' : (b, o) = p := Option.some.inj e
    subst e'
    exact ⟨hb, q⟩
theorem Inv.pinned {pins : List (Addr × Obj)} {σ : St} {H : Hp} {s : Shared} {fp : List Addr} (I : Inv X pins σ H s) (hf : ∀ b ∈ fp, FpOk X pins H b) (ho : ∀ b ∈ fp, ∃ o, s.heap.get? b = some o ∧ ∀ v, o.data ≠ .cell v) : Inv X (pins ++ pinsAt fp s.heap) σ H s :=
  I.pins_of fun p hp => (List.mem_append.mp hp).elim (fun z => I.pin p (List.mem_append_right _ z)) fun z => by
    obtain ⟨hb, e⟩ := of_pinsAt z
    obtain ⟨f0, f1, f2, _⟩ := hf p.1 hb
    obtain ⟨o, e', d⟩ := ho p.1 hb
    rw [e] at e'; cases e'
    exact ⟨e, f0, f1, f2, d⟩
theorem Inv.unpinned {pins pl : List (Addr × Obj)} {σ : St} {H : Hp} {s : Shared} (I : Inv X (pins ++ pl) σ H s) : Inv X pins σ H s := I.pins_of fun p hp => I.pin p (List.mem_append_right _ (List.mem_append_left _ hp))
theorem ps_for {iter : Expr} {body : List Stmt} {wi : TI} {g : TG} {tb : TS} {pos : Pos} (hp : PassesOwn (model X.prog X.w) X.A X.env X.xe) (hc : X.calm = true) (hi : PI X tg iter wi) (hg : PG X tg g) (hb : PSs X body tb)
    (hs : ∀ x, foldedSetIterable iter X.env x = pure x := by intro _; rfl) : PS X (.For tg iter body [] pos) (tFor wi g tb) := by
  intro pins s σ H D I h
  refine wpAny_For (thn (hi pins s σ H _ I h) fun v s1 h1 => thn h1 fun itv s2 h2 => ?_) hs
  obtain ⟨it, fp, tn, J, H2, e, I2, T, st2, f2, W, ⟨m0, w0⟩, turn⟩ := h2
  subst e
  -- what stays true of the iterator's objects through the loop
  have stat : ∀ {H' : Hp}, (∀ b ∈ fp, H' b = none) → ∀ b ∈ fp, FpOk X pins H' b := fun hn b hb => ⟨hn b hb, (f2 b hb).2⟩
  refine codeAny_forLoop_any (fun n s' => ∃ i σ' H', Inv X pins σ' H' s' ∧ tn i s'.heap ∧ (∀ b ∈ fp, H' b = none) ∧ W i n σ' H') ?_ m0 ⟨0, σ, H2, I2, st2, fun b hb => (f2 b hb).1, w0⟩
  rintro n s3 ⟨i, σ3, H3, I3, st3, fr3, w3⟩
  rcases turn i n σ3 H3 w3 with ⟨stop, qn⟩ | ⟨go, N, hN, step⟩
  · refine wpAny_passesOwn hp (thn (T.done X rfl rfl rfl hc i pins s3 σ3 H3 X.xe I3 (stat fr3) st3 stop) fun r s4 ⟨hr, I4⟩ => ?_)
    subst hr
    exact wpAny_execs_nil ⟨σ3, H3, I4, qn⟩
  · refine wpAny_passesOwn hp (thn (T.item X rfl rfl rfl hc i pins s3 σ3 H3 X.xe I3 (stat fr3) st3 go) fun r s4 ⟨u, hr, h4⟩ => ?_)
    subst hr
    refine wpAny_passesOwn hp (thn h4 fun _ s5 ⟨x, H5, I5, r5, y5, st5, fr5⟩ => ?_)
    have I5' := I5.pinned (stat fr5) (T.obj _ _ st5)
    refine wpAny_passesOwn hp (thn (hg _ s5 σ3 H5 x u _ I5' r5 (step x H5 y5)) fun _ s6 ⟨σ6, H6, I6, q6⟩ => ?_)
    refine wpAny_passesOwn hp (thn (hb _ s6 σ6 H6 _ I6 q6) fun f s7 q7 => ?_)
    have again : ∀ {σ7 : St} {H7 : Hp}, Inv X (pins ++ pinsAt fp s5.heap) σ7 H7 s7 → N σ7 H7 → ∃ m, m < n ∧ ∃ i σ' H', Inv X pins σ' H' s7 ∧ tn i s7.heap ∧ (∀ b ∈ fp, H' b = none) ∧ W i m σ' H' := fun {σ7 H7} I7 n7 => by
      obtain ⟨m', hm, w7⟩ := hN σ7 H7 n7
      refine ⟨m', hm, i + 1, σ7, H7, I7.unpinned, T.keep _ _ _ st5 fun b hb o e => (I7.pin (b, o) (List.mem_append_right _ (List.mem_append_right _ (mem_pinsAt hb e)))).1, fun b hb => ?_, w7⟩
      obtain ⟨o, e, d⟩ := T.obj _ _ st5 b hb
      exact (I7.pin (b, o) (List.mem_append_right _ (List.mem_append_right _ (mem_pinsAt hb e)))).2.1
    cases f with
    | next => obtain ⟨σ7, H7, I7, n7⟩ := q7; exact again I7 n7
    | cont => obtain ⟨σ7, H7, I7, n7⟩ := q7; exact again I7 n7
    | brk => obtain ⟨σ7, H7, I7, q7⟩ := q7; exact ⟨σ7, H7, I7.unpinned, q7⟩
    | ret v => obtain ⟨x7, σ7, H7, I7, r7, q7⟩ := q7; exact ⟨x7, σ7, H7, I7.unpinned, r7, q7⟩
end

theorem for_list {K : PySem.W.Frag} {a : Addr} {xs : List V} {g : TG} {tb : TS} {D : Ends} {σ : St} {H : Hp} (Pv : Nat → St → Hp → Prop) (h0 : Pv 0 σ H) (hl : ∀ i σ H, i ≤ xs.length → Pv i σ H → SqL K H a xs)
    (hs : ∀ i x σ H, xs[i]? = some x → Pv i σ H → g x σ H fun σ2 H2 => tb { D with nx := Pv (i + 1), ct := Pv (i + 1), bk := D.nx } σ2 H2) (hd : ∀ σ H, Pv xs.length σ H → D.nx σ H) :
    ∃ W : Nat → Nat → St → Hp → Prop, (∃ m, W 0 m σ H) ∧ ∀ i m σ H, W i m σ H →
      ((Itl K a).stop i H ∧ D.nx σ H) ∨ ((Itl K a).go i H ∧ ∃ N : St → Hp → Prop, (∀ σ' H', N σ' H' → ∃ m', m' < m ∧ W (i + 1) m' σ' H') ∧ ∀ x H', (Itl K a).yld i H x H' → g x σ H' fun σ2 H2 => tb { D with nx := N, ct := N, bk := D.nx } σ2 H2) := by
  refine ⟨fun i m σ H => m = xs.length - i ∧ i ≤ xs.length ∧ Pv i σ H, ⟨xs.length, by simp, Nat.zero_le _, h0⟩, ?_⟩
  rintro i m σ H ⟨rfl, hi, p⟩
  have q := hl i σ H hi p
  by_cases hlt : i < xs.length
  · refine .inr ⟨⟨xs, xs[i], q, by simp [hlt]⟩, Pv (i + 1), fun σ' H' p' => ⟨xs.length - (i + 1), by (first | lia | omega), rfl, hlt, p'⟩, fun x H' y => ?_⟩
    obtain ⟨e, y⟩ := y
    subst e
    exact hs i x σ _ (y xs q) p
  · have e : i = xs.length := by (first | lia | omega)
    subst e
    exact .inl ⟨⟨xs, q, Nat.le_refl _⟩, hd σ H p⟩
theorem for_range {lo : Int} {n : Nat} {g : TG} {tb : TS} {D : Ends} {σ : St} {H : Hp} (Pv : Nat → St → Hp → Prop) (h0 : Pv 0 σ H)
    (hs : ∀ i σ H, i < n → Pv i σ H → g (.int (lo + i)) σ H fun σ2 H2 => tb { D with nx := Pv (i + 1), ct := Pv (i + 1), bk := D.nx } σ2 H2) (hd : ∀ σ H, Pv n σ H → D.nx σ H) :
    ∃ W : Nat → Nat → St → Hp → Prop, (∃ m, W 0 m σ H) ∧ ∀ i m σ H, W i m σ H →
      ((Itr lo n).stop i H ∧ D.nx σ H) ∨ ((Itr lo n).go i H ∧ ∃ N : St → Hp → Prop, (∀ σ' H', N σ' H' → ∃ m', m' < m ∧ W (i + 1) m' σ' H') ∧ ∀ x H', (Itr lo n).yld i H x H' → g x σ H' fun σ2 H2 => tb { D with nx := N, ct := N, bk := D.nx } σ2 H2) := by
  refine ⟨fun i m σ H => m = n - i ∧ i ≤ n ∧ Pv i σ H, ⟨n, by simp, Nat.zero_le _, h0⟩, ?_⟩
  rintro i m σ H ⟨rfl, hi, p⟩
  by_cases hlt : i < n
  · refine .inr ⟨hlt, Pv (i + 1), fun σ' H' p' => ⟨n - (i + 1), by (first | lia | omega), rfl, hlt, p'⟩, fun x H' y => ?_⟩
    obtain ⟨e, y⟩ := y
    subst e y
    exact hs i σ _ hlt p
  · have e : i = n := by (first | lia | omega)
    subst e
    exact .inl ⟨Nat.le_refl _, hd σ H p⟩
end L2

namespace L2
open PySem PySem.Spec PyProof.Rows

abbrev R2 := V → V → Hp → VK → Prop
def OpR (X : Cx) (f : Value → Value → Sem Value) (r : R2) : Prop :=
  ∀ (pins : List (Addr × Obj)) (s : Shared) (σ : St) (H : Hp) (x y : V) (v u : Value) (Q : VK), Inv X pins σ H s → RelV x v → RelV y u → r x y H Q →
    wpAny (model X.prog X.w) X.A (f v u) (EP X pins σ Q) X.xe s
def UnR (X : Cx) (f : Value → Sem Value) (r : V → Hp → VK → Prop) : Prop :=
  ∀ (pins : List (Addr × Obj)) (s : Shared) (σ : St) (H : Hp) (x : V) (v : Value) (Q : VK), Inv X pins σ H s → RelV x v → r x H Q →
    wpAny (model X.prog X.w) X.A (f v) (EP X pins σ Q) X.xe s
def CallR (X : Cx) (f : Value) (r : List V → Hp → VK → Prop) : Prop :=
  ∀ (pins : List (Addr × Obj)) (s : Shared) (σ : St) (H : Hp) (xs : List V) (us : List Value) (Q : VK), Inv X pins σ H s → Vals xs us → r xs H Q →
    wpAny (model X.prog X.w) X.A (call f us) (EP X pins σ Q) X.xe s
def tOp (r : R2) (ta tb : TE) : TE := fun σ H Q => ta σ H fun x H1 => tb σ H1 fun y H2 => r x y H2 Q
def tUn (r : V → Hp → VK → Prop) (ta : TE) : TE := fun σ H Q => ta σ H fun x H1 => r x H1 Q
inductive RIP (C : Int → Int → Prop) (g : Int → Int → V) (x : V) (y : V) (H : Hp) (Q : VK) : Prop
  | mk (i : _) (j : _) (h1 : x = .int i) (h2 : y = .int j) (h3 : C i j) (h4 : Q (g i j) H) : RIP C g x y H Q
def rI (C : Int → Int → Prop) (g : Int → Int → V) : R2 := fun x y H Q => RIP C g x y H Q
inductive RI0P (g : Int → Int → V) (x : V) (y : V) (H : Hp) (Q : VK) : Prop
  | mk (i : _) (j : _) (h1 : x = .int i) (h2 : y = .int j) (h3 : Q (g i j) H) : RI0P g x y H Q
def rI0 (g : Int → Int → V) : R2 := fun x y H Q => RI0P g x y H Q
inductive RUP (g : Int → V) (x : V) (H : Hp) (Q : VK) : Prop
  | mk (i : _) (h1 : x = .int i) (h2 : Q (g i) H) : RUP g x H Q
def rU (g : Int → V) : V → Hp → VK → Prop := fun x H Q => RUP g x H Q

section
variable {X : Cx} {a b c : Expr} {ta tb tc : TE} {pos : Pos}

theorem binT (ha : PE X a ta) (hb : PE X b tb) {pins : List (Addr × Obj)} {s : Shared} {σ : St} {H : Hp} {R : V → V → Hp → Prop} (I : Inv X pins σ H s)
    (h : ta σ H fun x H1 => tb σ H1 fun y H2 => R x y H2) {Q : Value → Shared → Prop} {f : Value → Value → Sem Value}
    (hf : ∀ v u s2 x y H2, Inv X pins σ H2 s2 → RelV x v → RelV y u → R x y H2 → wpAny (model X.prog X.w) X.A (f v u) Q X.xe s2) :
    wpAny (model X.prog X.w) X.A (eval a X.env) (fun v s₁ => wpAny (model X.prog X.w) X.A (eval b X.env) (fun u s₂ => wpAny (model X.prog X.w) X.A (f v u) Q X.xe s₂) X.xe s₁) X.xe s := by
  refine thn (ha pins s σ H _ I h) fun v s1 ⟨x, H1, I1, r1, q1⟩ => ?_
  refine thn (hb pins s1 σ H1 _ I1 q1) fun u s2 ⟨y, H2, I2, r2, q2⟩ => ?_
  exact hf v u s2 x y H2 I2 r1 r2 q2

theorem pe_op {op : Operator} {r : R2} (ho : OpR X (binaryOp op) r) (ha : PE X a ta) (hb : PE X b tb) : PE X (.BinOp a op b pos) (tOp r ta tb) := by
  intro pins s σ H Q I h
  exact wpAny_BinOp (binT ha hb I h fun v u s2 x y H2 I2 rx ry q => ho pins s2 σ H2 x y v u Q I2 rx ry q)
theorem pe_un {op : UnaryOp} {r : V → Hp → VK → Prop} (ho : UnR X (unaryOp op) r) (ha : PE X a ta) : PE X (.UnaryOp op a pos) (tUn r ta) := by
  intro pins s σ H Q I h
  exact UnaryOp_ (thn (ha pins s σ H _ I h) fun v s1 ⟨x, H1, I1, r1, q1⟩ => ho pins s1 σ H1 x v Q I1 r1 q1)
theorem opI {f : Value → Value → Sem Value} {C : Int → Int → Prop} {g : Int → Int → Int}
    (rule : ∀ (i j : Int) (t u : Tok) (s : Shared) (Q : Value → Shared → Prop) (E : Value → Shared → Prop), C i j → Q (.int (g i j) s.toks) { s with toks := s.toks + 1 } → wpAny (model X.prog X.w) X.A (f (.int i t) (.int j u)) Q E s) :
    OpR X f (rI C fun i j => .int (g i j)) := by
  intro pins s σ H x y v u Q I rx ry h
  obtain ⟨i, j, rfl, rfl, hc, q⟩ := h
  obtain ⟨t, rfl⟩ := rx
  obtain ⟨t', rfl⟩ := ry
  exact rule i j t t' s _ _ hc ⟨.int (g i j), H, I.tok _, ⟨_, rfl⟩, q⟩
theorem opI0 {f : Value → Value → Sem Value} {g : Int → Int → Int}
    (rule : ∀ (i j : Int) (t u : Tok) (s : Shared) (Q : Value → Shared → Prop) (E : Value → Shared → Prop), Q (.int (g i j) s.toks) { s with toks := s.toks + 1 } → wpAny (model X.prog X.w) X.A (f (.int i t) (.int j u)) Q E s) :
    OpR X f (rI0 fun i j => .int (g i j)) := by
  intro pins s σ H x y v u Q I rx ry h
  obtain ⟨i, j, rfl, rfl, q⟩ := h
  obtain ⟨t, rfl⟩ := rx
  obtain ⟨t', rfl⟩ := ry
  exact rule i j t t' s _ _ ⟨.int (g i j), H, I.tok _, ⟨_, rfl⟩, q⟩
theorem opB0 {f : Value → Value → Sem Value} {g : Int → Int → Bool}
    (rule : ∀ (i j : Int) (t u : Tok) (s : Shared) (Q : Value → Shared → Prop) (E : Value → Shared → Prop), Q (.bool (g i j)) s → wpAny (model X.prog X.w) X.A (f (.int i t) (.int j u)) Q E s) :
    OpR X f (rI0 fun i j => .bl (g i j)) := by
  intro pins s σ H x y v u Q I rx ry h
  obtain ⟨i, j, rfl, rfl, q⟩ := h
  obtain ⟨t, rfl⟩ := rx
  obtain ⟨t', rfl⟩ := ry
  exact rule i j t t' s _ _ ⟨.bl (g i j), H, I, rfl, q⟩

def CPow (i j : Int) : Prop := 0 ≤ j ∧ j ≤ 1000000 ∧ i.natAbs < 2 ^ 64
def CMul (i j : Int) : Prop := (-(2 ^ 64) < i ∧ i < 2 ^ 64) ∨ (-(2 ^ 64) < j ∧ j < 2 ^ 64)
theorem CMul.ok {i j : Int} (h : CMul i j) : IntMulOk i j := by
  rcases h with ⟨h1, h2⟩ | ⟨h1, h2⟩
  · exact .of_left (intBits_le_64 h1 h2)
  · exact .of_right (intBits_le_64 h1 h2)
theorem op_add : OpR X (binaryOp .Add) (rI0 fun i j => .int (i + j)) := opI0 fun _ _ _ _ _ _ _ q => add_int q
theorem op_sub : OpR X (binaryOp .Sub) (rI0 fun i j => .int (i - j)) := opI0 fun _ _ _ _ _ _ _ q => sub_int q
theorem op_mul : OpR X (binaryOp .Mult) (rI CMul fun i j => .int (i * j)) := opI fun _ _ _ _ _ _ _ hc q => mul_int q hc.ok
theorem op_mod : OpR X (binaryOp .Mod) (rI (fun _ j => 0 < j) fun i j => .int (i % j)) := opI fun i j _ _ _ _ _ hc q => by
  have h1 : (0 : Int) < j := hc
  exact mod_int' (by (first | lia | omega)) (by rw [Int.fmod_eq_emod_of_nonneg i (by (first | lia | omega))]; exact q)
theorem op_pow : OpR X (binaryOp .Pow) (rI CPow fun i j => .int (i ^ j.toNat)) := opI fun _ _ _ _ _ _ _ hc q => pow_int_small hc.1 hc.2.1 hc.2.2 q
theorem unI {f : Value → Sem Value} {g : Int → Int}
    (rule : ∀ (i : Int) (t : Tok) (s : Shared) (Q : Value → Shared → Prop) (E : Value → Shared → Prop), Q (.int (g i) s.toks) { s with toks := s.toks + 1 } → wpAny (model X.prog X.w) X.A (f (.int i t)) Q E s) :
    UnR X f (rU fun i => .int (g i)) := by
  intro pins s σ H x v Q I rx h
  obtain ⟨i, rfl, q⟩ := h
  obtain ⟨t, rfl⟩ := rx
  exact rule i t s _ _ ⟨.int (g i), H, I.tok _, ⟨_, rfl⟩, q⟩
theorem un_neg : UnR X (unaryOp .USub) (rU fun i => .int (-i)) := unI fun _ _ _ _ _ q => neg_int q
end

def scal : V → V → Bool
  | .non, .non => true | .non, .int _ => true | .int _, .non => true | .non, .bl _ => true | .bl _, .non => true | .non, .str _ => true | .str _, .non => true
  | .int _, .int _ => true | .bl _, .bl _ => true | .str _, .str _ => true | .byt _, .byt _ => true
  | .int _, .str _ => true | .str _, .int _ => true | .bl _, .str _ => true | .str _, .bl _ => true
  | _, _ => false
inductive REqP (x : V) (y : V) (H : Hp) (Q : VK) : Prop
  | mk  (h1 : scal x y = true) (h2 : Q (.bl (decide (x = y))) H) : REqP x y H Q
inductive RNeP (x : V) (y : V) (H : Hp) (Q : VK) : Prop
  | mk  (h1 : scal x y = true) (h2 : Q (.bl (!decide (x = y))) H) : RNeP x y H Q
def rNe : R2 := fun x y H Q => RNeP  x y H Q

theorem dec_int {i j : Int} : decide (V.int i = V.int j) = (i == j) := by
  rw [Bool.eq_iff_iff]
  simp
theorem dec_bl {i j : Bool} : decide (V.bl i = V.bl j) = (i == j) := by
  rw [Bool.eq_iff_iff]
  simp
theorem dec_str {i j : Str} : decide (V.str i = V.str j) = (i == j) := by
  rw [Bool.eq_iff_iff]
  simp
theorem dec_byt {i j : Array UInt8} : decide (V.byt i = V.byt j) = (i.toList == j.toList) := by
  rw [Bool.eq_iff_iff]
  cases i
  cases j
  simp

section
variable {X : Cx} {a b c : Expr} {ta tb tc : TE} {pos : Pos}
theorem fin_bl {pins : List (Addr × Obj)} {σ : St} {H : Hp} {s : Shared} {Q : VK} {k k' : Bool} (I : Inv X pins σ H s) (q : Q (.bl k) H) (e : k = k') : EP X pins σ Q (.bool k') s := by
  subst e
  exact ⟨.bl k, H, I, rfl, q⟩
theorem op_ne : OpR X (compareOp .NotEq) rNe := by
  intro pins s σ H x y v u Q I rx ry h
  obtain ⟨hs, q⟩ := h
  cases x with
  | non =>
    cases rx
    cases y with
    | non => cases ry; exact PySem.EqNone.ne_none_none (fin_bl I q (by simp))
    | bl j => cases ry; exact PySem.EqNone.ne_none_bool (fin_bl I q (by simp))
    | int j => obtain ⟨t', rfl⟩ := ry; exact PySem.EqNone.ne_none_int (fin_bl I q (by simp))
    | str j => obtain ⟨t', rfl⟩ := ry; exact PySem.EqNone.ne_none_str (fin_bl I q (by simp))
    | _ => exact absurd (show false = true from hs) Bool.false_ne_true
  | bl i =>
    cases rx
    cases y with
    | non => cases ry; exact PySem.EqNone.ne_bool_none (fin_bl I q (by simp))
    | bl j => cases ry; exact ne_bool (fin_bl I q (congrArg not dec_bl))
    | str j => obtain ⟨t', rfl⟩ := ry; exact PySem.EqMixed.ne_bool_str (fin_bl I q (by simp))
    | _ => exact absurd (show false = true from hs) Bool.false_ne_true
  | int i =>
    obtain ⟨t, rfl⟩ := rx
    cases y with
    | non => cases ry; exact PySem.EqNone.ne_int_none (fin_bl I q (by simp))
    | int j => obtain ⟨t', rfl⟩ := ry; exact ne_int (fin_bl I q (congrArg not dec_int))
    | str j => obtain ⟨t', rfl⟩ := ry; exact PySem.EqMixed.ne_int_str (fin_bl I q (by simp))
    | _ => exact absurd (show false = true from hs) Bool.false_ne_true
  | str i =>
    obtain ⟨t, rfl⟩ := rx
    cases y with
    | non => cases ry; exact PySem.EqNone.ne_str_none (fin_bl I q (by simp))
    | bl j => cases ry; exact PySem.EqMixed.ne_str_bool (fin_bl I q (by simp))
    | int j => obtain ⟨t', rfl⟩ := ry; exact PySem.EqMixed.ne_str_int (fin_bl I q (by simp))
    | str j => obtain ⟨t', rfl⟩ := ry; exact ne_str (fin_bl I q (congrArg not dec_str))
    | _ => exact absurd (show false = true from hs) Bool.false_ne_true
  | byt i =>
    obtain ⟨t, rfl⟩ := rx
    cases y with
    | byt j => obtain ⟨t', rfl⟩ := ry; exact PySem.W.ne_bytes (fin_bl I q (congrArg not dec_byt))
    | _ => exact absurd (show false = true from hs) Bool.false_ne_true
  | _ => cases y <;> exact absurd (show false = true from hs) Bool.false_ne_true

theorem op_lt : OpR X (compareOp .Lt) (rI0 fun i j => .bl (decide (i < j))) := opB0 fun _ _ _ _ _ _ _ q => lt_int q
theorem op_le : OpR X (compareOp .LtE) (rI0 fun i j => .bl (decide (i ≤ j))) := opB0 fun _ _ _ _ _ _ _ q => le_int q
theorem op_gt : OpR X (compareOp .Gt) (rI0 fun i j => .bl (decide (j < i))) := opB0 fun _ _ _ _ _ _ _ q => gt_int q
theorem op_ge : OpR X (compareOp .GtE) (rI0 fun i j => .bl (decide (j ≤ i))) := opB0 fun _ _ _ _ _ _ _ q => ge_int q
theorem op_isN : OpR X (compareOp .Is) (fun x y H Q => y = .non ∧ Q (.bl (decide (x = .non))) H) := by
  intro pins s σ H x y v u Q I rx ry h
  obtain ⟨rfl, q⟩ := h
  cases ry
  refine is_none_gen (fin_bl I q ?_)
  cases x <;> first
    | (cases rx; rfl)
    | (obtain ⟨t, rfl⟩ := rx; rfl)
theorem nomark (b : Expr) {op : CmpOp} (h : op ≠ .In := by decide) (h2 : op ≠ .NotIn := by decide) : behindInMarks op b = false := by
  have e1 : (op == CmpOp.In) = false := by cases op <;> first | rfl | exact absurd rfl h
  have e2 : (op == CmpOp.NotIn) = false := by cases op <;> first | rfl | exact absurd rfl h2
  cases b <;> simp [behindInMarks, e1, e2]
theorem pe_cmpR {op : CmpOp} {r : R2} (ho : OpR X (compareOp op) r) (ha : PE X a ta) (hb : PE X b tb) (hm : behindInMarks op b = false) : PE X (.Compare a [op] [b] pos) (tOp r ta tb) := by
  intro pins s σ H Q I h
  exact wpAny_Compare1 (binT ha hb I h fun v u s2 x y H2 I2 rx ry q => ho pins s2 σ H2 x y v u Q I2 rx ry q) hm
def tTest (t : TE) : TT := fun σ H Q => t σ H fun x H' => OfBl x H' Q
theorem pt_cmpR {op : CmpOp} {r : R2} (ho : OpR X (compareOp op) r) (ha : PE X a ta) (hb : PE X b tb) (hm : behindInMarks op b = false) : PT X (.Compare a [op] [b] pos) (tTest (tOp r ta tb)) := by
  intro pins s σ H Q I h
  refine wpAny_isTrue_Compare1 (thn (ha pins s σ H _ I h) fun v s1 ⟨x, H1, I1, r1, q1⟩ => thn (hb pins s1 σ H1 _ I1 q1) fun u s2 ⟨y, H2, I2, r2, q2⟩ =>
    thn (ho pins s2 σ H2 x y v u _ I2 r1 r2 q2) fun c s3 ⟨z, H3, I3, r3, k, e, q3⟩ => ?_) hm
  subst e
  cases r3
  exact wpAny_truthy_bool ⟨H3, I3, q3⟩
def tChain (r r' : R2) (ta tb tc : TE) : TE := fun σ H Q => ta σ H fun x H1 => tb σ H1 fun y H2 => r x y H2 fun z H3 => ∃ k, z = .bl k ∧
  (if k = true then tc σ H3 fun w' H4 => r' y w' H4 Q else Q (.bl false) H3)
theorem pe_chain {op op' : CmpOp} {r r' : R2} (ho : OpR X (compareOp op) r) (ho' : OpR X (compareOp op') r') (ha : PE X a ta) (hb : PE X b tb) (hc : PE X c tc)
    (hm : lastMarks [op, op'] [b, c] = false := by with_unfolding_all rfl) : PE X (.Compare a [op, op'] [b, c] pos) (tChain r r' ta tb tc) := by
  intro pins s σ H Q I h
  refine Compare_chain (thn (ha pins s σ H _ I h) fun v s1 ⟨x, H1, I1, r1, q1⟩ => chain_link (thn (hb pins s1 σ H1 _ I1 q1) fun u s2 ⟨y, H2, I2, r2, q2⟩ =>
    thn (ho pins s2 σ H2 x y v u _ I2 r1 r2 q2) fun d s3 ⟨z, H3, I3, r3, k, e, q3⟩ => ?_)) hm
  subst e
  cases r3
  refine wpAny_truthy_bool ?_
  cases k with
  | false => exact ite_ff ⟨.bl false, H3, I3, rfl, q3⟩
  | true => exact ite_tt (chain_last (thn (hc pins s3 σ H3 _ I3 q3) fun w' s4 ⟨z', H4, I4, r4, q4⟩ => ho' pins s4 σ H4 y z' u w' Q I4 r2 r4 q4))
theorem pt_chain {op op' : CmpOp} {r r' : R2} (ho : OpR X (compareOp op) r) (ho' : OpR X (compareOp op') r') (ha : PE X a ta) (hb : PE X b tb) (hc : PE X c tc)
    (hm : lastMarks [op, op'] [b, c] = false := by with_unfolding_all rfl) : PT X (.Compare a [op, op'] [b, c] pos) (tTest (tChain r r' ta tb tc)) := by
  intro pins s σ H Q I h
  refine isTrue_chain (thn (ha pins s σ H _ I h) fun v s1 ⟨x, H1, I1, r1, q1⟩ => test_link (thn (hb pins s1 σ H1 _ I1 q1) fun u s2 ⟨y, H2, I2, r2, q2⟩ =>
    thn (ho pins s2 σ H2 x y v u _ I2 r1 r2 q2) fun d s3 ⟨z, H3, I3, r3, k, e, q3⟩ => ?_)) hm
  subst e
  cases r3
  refine wpAny_truthy_bool ?_
  cases k with
  | false =>
    obtain ⟨k', e', q'⟩ := q3
    cases e'
    exact ite_ff ⟨H3, I3, q'⟩
  | true =>
    refine ite_tt (test_last (thn (hc pins s3 σ H3 _ I3 q3) fun w' s4 ⟨z', H4, I4, r4, q4⟩ => thn (ho' pins s4 σ H4 y z' u w' _ I4 r2 r4 q4) fun d' s5 ⟨z2, H5, I5, r5, k2, e2, q5⟩ => ?_))
    subst e2
    cases r5
    exact wpAny_truthy_bool ⟨H5, I5, q5⟩

theorem line63 : (sizeLine : Nat) < 2 ^ 63 := by rw [sizeLine_eq]; decide
theorem vals1 {x : V} {us : List Value} (r : Vals [x] us) : ∃ u, us = [u] ∧ RelV x u := by
  cases r with
  | cons r1 r2 => cases r2; exact ⟨_, rfl, r1⟩
theorem call_int1 : CallR X (.type "int") (fun xs H Q => (∃ i, xs = [.int i] ∧ Q (.int i) H) ∨ ∃ k, xs = [.bl k] ∧ Q (.int (if k then 1 else 0)) H) := by
  intro pins s σ H xs us Q I r h
  rcases h with ⟨i, rfl, q⟩ | ⟨k, rfl, q⟩
  · obtain ⟨u, rfl, t, rfl⟩ := vals1 r
    exact call_int_int ⟨.int i, H, I, ⟨_, rfl⟩, q⟩
  · obtain ⟨u, rfl, r1⟩ := vals1 r
    cases r1
    exact call_int_bool ⟨.int (if k then 1 else 0), H, I.tok _, ⟨_, rfl⟩, q⟩
end
end L2

namespace L2
open PySem PySem.Spec PyProof.Rows

structure ObjM (h : Heap) (x dx C : Addr) (mA : Str → Option Value) : Prop where
  obj : h.get? x = some (PySem.W.instObj C dx)
  ns : h.Ns1 dx mA
  ne : dx ≠ x

theorem lookIn_ns {h : Heap} {dx : Addr} {mA : Str → Option Value} (n : h.Ns1 dx mA) : ∃ od, h.get? dx = some od ∧ ∀ name, PySem.W.lookIn name od = some (mA name) := by
  obtain ⟨o, es, ep, ho, hd, hk, _, hm⟩ := n
  refine ⟨o, ho, fun name => ?_⟩
  have e := hm name
  unfold nsFind findBy at e
  rw [← Array.find?_toList] at e
  unfold PySem.W.lookIn
  rw [hd]
  dsimp only
  split
  · rename_i y q
    rw [q] at e
    exact congrArg some e
  · rename_i q
    rw [q] at e
    have a : es.toList.any (·.refKey) = false := by
      rw [List.any_eq_false]
      intro y hy
      obtain ⟨z, t, hkey⟩ := hk y (Array.mem_toList_iff.mp hy)
      simp [DictEntry.refKey, hkey]
    have a' : ¬ es.toList.any (·.refKey) = true := by rw [a]; exact Bool.false_ne_true
    rw [if_neg a']
    exact congrArg some e

theorem ObjM.look {h : Heap} {x dx C : Addr} {mA : Str → Option Value} (I : ObjM h x dx C mA) : ∃ od, PySem.W.InstAt h x (PySem.W.instObj C dx) C (some od) ∧ ∀ name, PySem.W.lookIn name od = some (mA name) :=
  let ⟨od, ho, hl⟩ := lookIn_ns I.ns
  ⟨od, ⟨I.obj, rfl, rfl, ho⟩, hl⟩

section
variable {prog : Program} {w : World} {A : Around} {E : Value → Shared → Prop} {s : Shared} {K : PySem.W.Frag} {x dx C f : Addr} {mA : Str → Option Value} {name : Str} {v : Value}

end

section
variable {P : Program} {w : World} {H H' : Hp} {h h' : Heap} {a C dx : Addr} {fs fs' : List (Str × V)}
theorem ins_get (hok : HOk P w H h) (e : H a = some (.ins C dx fs)) : ∃ mA, ObjM h a dx C mA ∧ (∀ f, RelO (fs.lookup f) (mA f)) ∧ PySem.Within mA (fs.map (·.1)) ∧ fs.length ≤ 1000 ∧ H dx = some (.own a) := by
  obtain ⟨d, z, ne, ob, mA, n, r, q⟩ := (show ObjOk P w H h a (.ins C dx fs) from hok a _ e)
  exact ⟨mA, ⟨ob, n, ne⟩, r, q, z, d⟩
end

structure Cls (K : PySem.W.Frag) (C : Addr) : Prop where
  pg : PySem.W.plainGet K C Str.empty = true
  hd : PySem.W.hasDictIn K C = true
  po : PySem.W.plainOver K C = true
  sa : PySem.W.findIn K (.ref C) "__setattr__" = some (some (.builtin "object.__setattr__"))
theorem Cls.get {K : PySem.W.Frag} {C : Addr} (c : Cls K C) (f : Str) : PySem.W.plainGet K C f = true := c.pg
section
variable {X : Cx} {pins : List (Addr × Obj)} {σ : St} {H : Hp} {s : Shared} {a C dx : Addr} {fs : List (Str × V)} {f : Str} {v : V} {A : Around} {E : Value → Shared → Prop}

end

section
variable {X : Cx} {o e value : Expr} {f : Str} {pos pos' tpos : Pos} {ta tv : TE}
end

section
variable {X : Cx} {pins : List (Addr × Obj)} {σ : St} {H : Hp} {s : Shared} {A : Around} {E : Value → Shared → Prop} {Q : Value → Shared → Prop} {c : Value} {b : Bool}
inductive TyOf (K : PySem.W.Frag) (H : Hp) : V → Value → Prop where
  | non : TyOf K H .non (.type "NoneType")
  | bl (x : Bool) : TyOf K H (.bl x) (.type "bool")
  | int (i : Int) : TyOf K H (.int i) (.type "int")
  | str (x : Str) : TyOf K H (.str x) (.type "str")
  | flt (x : UInt64) : TyOf K H (.flt x) (.type "float")
  | lst {a : Addr} {xs : List V} (e : H a = some (.lst xs)) : TyOf K H (.ref a) (.type "list")
  | frz {a : Addr} {o : Obj} {xs : List V} (e : H a = some (.frz o (.lst xs))) : TyOf K H (.ref a) (.type "list")
  | tup {a : Addr} {xs : List V} (e : H a = some (.tup xs)) : TyOf K H (.ref a) (.type "tuple")
  | dK {a : Addr} {kvs : List (Key × V)} (e : H a = some (.dK kvs)) : TyOf K H (.ref a) (.type "dict")
  | dT {a : Addr} {kvs : List (List Key × V)} (e : H a = some (.dT kvs)) : TyOf K H (.ref a) (.type "dict")
  | ins {a C dx : Addr} {fs : List (Str × V)} (e : H a = some (.ins C dx fs)) (cl : Cls K C) (ha : PySem.W.findIn K (.ref C) "__class__" = some (some (.builtin "object.__class__")))
      (hn : PySem.W.specialIn K (.builtin "object.__class__") "__get__" = some (some (.builtin "getset_descriptor.__get__"))) (htk : PySem.W.takesIn K (.builtin "object.__class__") = some true)
      (hm : PySem.W.mroIn K C (.type "object") = some true) : TyOf K H (.ref a) (.ref C)
theorem isinst_ok {x : V} {u t : Value} (I : Inv X pins σ H s) (rx : RelV x u) (ty : TyOf X.K H x t) (e : PySem.W.kitOne X.K t c = some b) (h : ∀ tk, Q (.bool b) { s with toks := tk }) :
    wpAny (model X.prog X.w) A (call (.builtin "isinstance") [u, c]) Q E s := by
  cases ty with
  | non => cases (show u = Value.none from rx); exact PySem.W.kia_one PySem.W.kitx_none I.kIn True.intro e (fun z => nomatch z) h
  | bl y => cases (show u = Value.bool y from rx); exact PySem.W.kia_one PySem.W.kitx_bool I.kIn True.intro e (fun z => nomatch z) h
  | int i => obtain ⟨t, q⟩ := (show ∃ t, u = Value.int i t from rx); cases q; exact PySem.W.kia_one PySem.W.kitx_int I.kIn True.intro e (fun z => nomatch z) h
  | str y => obtain ⟨t, q⟩ := (show ∃ t, u = Value.str y t from rx); cases q; exact PySem.W.kia_one PySem.W.kitx_str I.kIn True.intro e (fun z => nomatch z) h
  | flt y => obtain ⟨t, q⟩ := (show ∃ t, u = Value.float y t from rx); cases q; exact PySem.W.kia_one PySem.W.kitx_float I.kIn True.intro e (fun z => nomatch z) h
  | @lst a xs ea =>
    cases (show u = Value.ref a from rx)
    obtain ⟨_, _, n, _, h1⟩ := (show ObjOk X.prog X.w H s.heap a (.lst xs) from I.hok a _ ea)
    exact PySem.W.kia_one PySem.W.kitx_list I.kIn ⟨_, h1, rfl⟩ e (fun z => nomatch z) h
  | @frz a ob xs ea =>
    cases (show u = Value.ref a from rx)
    obtain ⟨_, _, _, n, _, h1⟩ := (show ObjOk X.prog X.w H s.heap a (.frz ob (.lst xs)) from I.hok a _ ea)
    exact PySem.W.kia_one PySem.W.kitx_list I.kIn ⟨_, h1, rfl⟩ e (fun z => nomatch z) h
  | @tup a xs ea =>
    cases (show u = Value.ref a from rx)
    obtain ⟨_, _, _, p⟩ := (show ObjOk X.prog X.w H s.heap a (.tup xs) from I.hok a _ ea)
    obtain ⟨o, h1, h2, _⟩ := p
    exact PySem.W.kia_one PySem.W.kitx_tuple I.kIn ⟨o, h1, h2⟩ e (fun z => nomatch z) h
  | @dK a kvs ea =>
    cases (show u = Value.ref a from rx)
    obtain ⟨_, _, vs, _, p⟩ := (show ObjOk X.prog X.w H s.heap a (.dK kvs) from I.hok a _ ea)
    obtain ⟨o, es, ep, h1, h2, _⟩ := p
    exact PySem.W.kia_one PySem.W.kitx_dict I.kIn ⟨o, h1, h2.1⟩ e (fun z => nomatch z) h
  | @dT a kvs ea =>
    cases (show u = Value.ref a from rx)
    obtain ⟨_, _, xs, _, o, es, ep, h1, h2, _⟩ := (show ObjOk X.prog X.w H s.heap a (.dT kvs) from I.hok a _ ea)
    exact PySem.W.kia_one PySem.W.kitx_dict I.kIn ⟨o, h1, h2.1⟩ e (fun z => nomatch z) h
  | @ins a C dx fs ea cl ha hn htk hm =>
    cases (show u = Value.ref a from rx)
    obtain ⟨mA, O, _⟩ := ins_get I.hok ea
    obtain ⟨od, J, _⟩ := O.look
    exact PySem.W.kia_one (PySem.W.kitx_own (cl.get _) cl.hd ha hn htk hm) I.kIn J e (fun z => nomatch z) h
end
end L2

namespace L2
open PySem PySem.Spec PyProof.Rows

structure Room (k : Nat) (A : Around) : Prop where
  hd : A.handled = none
  dp : A.depth + 3 * k + 5 < recursionLimit
  un : A.units + 16 * k + 200 < cLine
  gd : A.guards = some []
theorem Room.mono {j k : Nat} {A : Around} (r : Room k A) (h : j ≤ k) : Room j A := ⟨r.hd, by have := r.dp; (first | lia | omega), by have := r.un; (first | lia | omega), r.gd⟩
theorem Room.deeper {k : Nat} {A : Around} (r : Room (k + 1) A) (env : Env) : Room k (A.deeper env) :=
  ⟨r.hd, by have := r.dp; show A.depth + 1 + 3 * k + 5 < _; (first | lia | omega), by have := r.un; show A.units + 3 + 16 * k + 200 < _; (first | lia | omega), r.gd⟩
theorem Room.depth {k : Nat} {A : Around} (r : Room k A) : A.depth < recursionLimit := by have := r.dp; (first | lia | omega)
theorem Room.units {k : Nat} {A : Around} (r : Room k A) : A.units + 64 < cLine := by have := r.un; (first | lia | omega)
def tNil : TA := fun _ H Q => Q [] H
def tCons (ta : TE) (tr : TA) : TA := fun σ H Q => ta σ H fun x H1 => tr σ H1 fun xs H2 => Q (x :: xs) H2
section
variable {X : Cx} {e : Expr} {es : List Expr} {te : TE} {t : TA} {pos : Pos}
theorem pa_nil : PA X [] tNil := fun _ _ _ _ H Q I h => Calls.spliced_nil ⟨[], H, I, .nil, h⟩
theorem pa_cons (ha : PE X e te) (hr : PA X es t) (hs : starEach (e :: es) X.env = (false, eval e X.env) :: starEach es X.env := by rfl) : PA X (e :: es) (tCons te t) := by
  intro pos pins s σ H Q I h
  rw [hs]
  show wpAny _ _ (spliced ((false, eval e X.env) :: backTo pos (starEach es X.env))) _ _ s
  refine Calls.spliced_cons (thn (ha pins s σ H _ I h) fun u s1 ⟨x, H1, I1, r1, q1⟩ => ?_)
  exact thn (hr pos pins s1 σ H1 _ I1 q1) fun us s2 ⟨xs, H2, I2, r2, q2⟩ => ⟨x :: xs, H2, I2, .cons r1 r2, q2⟩

def tTup (t : TA) : TE := fun σ H Q => t σ H fun xs H1 => NewOb xs.length (.tup xs) H1 Q
def tLst (t : TA) : TE := fun σ H Q => t σ H fun xs H1 => NewOb xs.length (.lst xs) H1 Q
theorem pe_tup {x1} (h : PA X es t) : PE X (.Tuple es x1 pos) (tTup t) := by
  intro pins s σ H Q I hq
  refine wpAny_Tuple_spliced (thn (h pos pins s σ H _ I hq) fun us s1 ⟨xs, H1, I1, r, z, q⟩ => ⟨by rw [← r.length]; exact z, ?_⟩)
  have hf : H1 s1.heap.objs.size = none := I1.hok.fresh (Nat.le_refl _)
  refine ⟨.ref s1.heap.objs.size, upd H1 s1.heap.objs.size (.tup xs), I1.laid (t' := s1.toks) (fun b u e => Heap.get?_push_of_some _ e) (Nat.le_refl _) ?_, rfl, q _ hf⟩
  exact ⟨z, us, r, ⟨_, Heap.get?_push_size _ rfl, rfl, _, rfl⟩⟩
theorem pe_lst (h : PA X es t) : PE X (.List es pos) (tLst t) := by
  intro pins s σ H Q I hq
  refine wpAny_List_spliced (thn (h pos pins s σ H _ I hq) fun us s1 ⟨xs, H1, I1, r, z, q⟩ => ⟨by rw [← r.length]; exact z, ?_⟩)
  have hf : H1 s1.heap.objs.size = none := I1.hok.fresh (Nat.le_refl _)
  refine ⟨.ref s1.heap.objs.size, upd H1 s1.heap.objs.size (.lst xs), I1.laid (t' := s1.toks) (fun b u e => Heap.get?_push_of_some _ e) (Nat.le_refl _) ?_, rfl, q _ hf⟩
  exact ⟨z, us, 0, r, Heap.get?_push_size _ rfl⟩
end

abbrev Sp := List V → Hp → VK → XK → Prop
abbrev CXT := List Env → Hp → Shared → XK → Value → Shared → Prop

structure Env0 (P : Program) (w : World) (K : PySem.W.Frag) (mg : Str → Option Value) (base : Heap) (A : Around) (outer : List Env) (s : Shared) (H : Hp) : Prop where
  frames : A.frames = some outer
  mod : Mod K mg base
  bs : ∀ b o, base.get? b = some o → s.heap.get? b = some o ∧ H b = none
  bsz : base.objs.size ≤ s.heap.objs.size
  funs : s.heap.FunFrames base outer
  frf : ∀ b ∈ frs outer, H b = none
  hok : HOk P w H s.heap
  bare : AllBare s.gens
def CE (outer : List Env) (P : Program) (w : World) (H : Hp) (s : Shared) (Q : VK) (u : Value) (s' : Shared) : Prop :=
  ∃ v H', s'.os = s.os ∧ AllBare s'.gens ∧ Un (frs outer) [] H H' s.heap s'.heap ∧ HOk P w H' s'.heap ∧ RelV v u ∧ Q v H'
def CR (CX : CXT) (outer : List Env) (P : Program) (w : World) (H : Hp) (s : Shared) (Q : VK) (E : XK) (r : Result) (s' : Shared) : Prop :=
  match r with
  | .ok (.ret u) => CE outer P w H s Q u s'
  | .ok _ => False
  | .error e => CX outer H s E e s'
structure FnOk (P : Program) (w : World) (K : PySem.W.Frag) (mg : Str → Option Value) (base : Heap) (CX : CXT) (k : Nat) (f : Addr) (fd : FuncData) (ps : List Str) (sp : Sp) : Prop where
  len : ∀ vs H Q E, sp vs H Q E → vs.length = ps.length
  run : ∀ (A : Around) (outer : List Env) (s : Shared) (H : Hp) (args : Args) (us : List Value) (vs : List V) (Q : VK) (E : XK), Room k A → Env0 P w K mg base A outer s H → BindsTo s fd args (ps.zip us) → Vals vs us → sp vs H Q E →
    codeAny (model P w) A (.call (.ref f) args) (CR CX outer P w H s Q E) s
theorem FnOk.imp {P : Program} {w : World} {K : PySem.W.Frag} {mg : Str → Option Value} {base : Heap} {CX : CXT} {k : Nat} {f : Addr} {fd : FuncData} {ps : List Str} {sp sp' : Sp} (F : FnOk P w K mg base CX k f fd ps sp)
    (h : ∀ vs H Q E, sp' vs H Q E → sp vs H Q E) : FnOk P w K mg base CX k f fd ps sp' :=
  ⟨fun vs H Q E q => F.len vs H Q E (h _ _ _ _ q), fun A outer s H args us vs Q E hr he hb hv hs => F.run A outer s H args us vs Q E hr he hb hv (h _ _ _ _ hs)⟩

section
variable {X : Cx} {pins : List (Addr × Obj)} {σ : St} {H : Hp} {s s' : Shared}
theorem Inv.env0 (I : Inv X pins σ H s) : Env0 X.prog X.w X.K X.mg X.base X.A X.stack s H :=
  ⟨I.ok.frames, I.ok.mod, I.bs, Nat.le_trans I.ok.bsz I.sz, I.stack, I.stkFree, I.hok, I.bare⟩
theorem Inv.after {Q : VK} {u : Value} (I : Inv X pins σ H s) (h : CE X.stack X.prog X.w H s Q u s') : EP X pins σ Q u s' := by
  obtain ⟨v, H', os, bare, un, hok, r, q⟩ := h
  obtain ⟨hh, g, d, t, os'⟩ := s'
  obtain rfl : os' = s.os := os
  exact ⟨v, H', I.call (h' := hh) (g' := g) (d' := d) (t' := t) (ch := []) un hok bare (fun b z => absurd z (by simp)), r, q⟩
end

def tCall (sp : Sp) (dvs : List V) (E : XK) (t : TA) : TE := fun σ H Q => t σ H fun vs H1 => sp (vs ++ dvs) H1 Q E
def Binds (K : PySem.W.Frag) (fd : FuncData) (ps : List Str) (ds : List Value) : Prop :=
  ∀ (s : Shared) (us : List Value), K.In s.heap → (us ++ ds).length = ps.length → BindsTo s fd ⟨us, []⟩ (ps.zip (us ++ ds))
theorem Binds.all {K : PySem.W.Frag} {fd : FuncData} {ps : List Str} (h : ∀ us : List Value, us.length = ps.length → bindArgs fd ⟨us, []⟩ = pure (ps.zip us)) : Binds K fd ps [] := fun s us _ hl => by
  rw [List.append_nil] at hl ⊢
  exact .of_eq (h us hl)

def Passes (CX : CXT) (X : Cx) (E : XK) : Prop := ∀ (pins : List (Addr × Obj)) (σ : St) (H : Hp) (s : Shared) (e : Value) (s' : Shared), Inv X pins σ H s → CX X.stack H s E e s' → X.xe e s'

section
variable {X : Cx} {CX : CXT} {k : Nat} {f C : Addr} {fd : FuncData} {ps : List Str} {sp : Sp} {dvs : List V} {ds : List Value} {E : XK} {x m : Str} {p pos apos : Pos} {e o : Expr} {es : List Expr} {ta : TE} {t : TA}

theorem run_fn {pins : List (Addr × Obj)} {σ : St} {H : Hp} {s : Shared} {Q : VK} {us : List Value} {vs : List V} (F : FnOk X.prog X.w X.K X.mg X.base CX k f fd ps sp) (hr : Room k X.A) (hb : Binds X.K fd ps ds) (hd : Vals dvs ds) (hx : Passes CX X E)
    (I : Inv X pins σ H s) (r : Vals vs us) (h : sp (vs ++ dvs) H Q E) : wpAny (model X.prog X.w) X.A (call (.ref f) us) (EP X pins σ Q) X.xe s := by
  have r2 : Vals (vs ++ dvs) (us ++ ds) := r.append hd
  have hl : (us ++ ds).length = ps.length := by rw [← r2.length]; exact F.len _ _ _ _ h
  refine wpAny_call (codeAny_mono (F.run X.A X.stack s H ⟨us, []⟩ (us ++ ds) (vs ++ dvs) Q E hr I.env0 (hb s us I.kIn hl) r2 h) fun r s' hq => ?_)
  cases r with
  | error e => exact hx pins σ H s e s' I hq
  | ok fl =>
    cases fl with
    | ret u => exact I.after hq
    | next => exact False.elim hq
    | brk => exact False.elim hq
    | cont => exact False.elim hq

theorem pe_call (F : FnOk X.prog X.w X.K X.mg X.base CX k f fd ps sp) (hr : Room k X.A) (hg : Gl X x) (hm : X.mg x = some (.ref f)) (hk : PySem.W.keepIn X.K (.ref f) = true) (hb : Binds X.K fd ps ds) (hd : Vals dvs ds) (hx : Passes CX X E)
    (ha : PA X (e :: es) t) (hdb : (x == ("__debug__" : Str)) = false := by decide) (he : starEach (e :: es) X.env = (false, eval e X.env) :: starEach es X.env := by rfl) (hpl : (backTo pos (starEach es X.env)).any (·.1) = false := by rfl) :
    PE X (.Call (.Name x p) (e :: es) [] pos) (tCall sp dvs E t) := by
  intro pins s σ H Q I h
  refine wpAny_Call_Name_kw (ld_glob I hg hm ?_ hdb)
  refine PySem.W.callWith_K (h₀ := X.base) I.ok.mod.kin hk (thn (ha pos pins s σ H _ I h) fun us s1 ⟨vs, H1, I1, r, q⟩ => ⟨I1.kIn, ?_⟩) he hpl
  exact run_fn F hr hb hd hx I1 r q
end

section
variable {X : Cx} {CX : CXT} {k : Nat} {f C : Addr} {fd : FuncData} {ps ks : List Str} {sp : Sp} {E : XK} {x m : Str} {p pos apos kpos : Pos} {e o : Expr} {es : List Expr} {kws : List Keyword} {te ta : TE} {t tk : TA} {nm : Option Str}
variable {g : List Value → List Value → List Value} {gV : List V → List V → List V}
end

structure FnScope (N P : List Str) (sc : Scope) : Prop where
  kind : sc.kind = .function
  co : sc.isCoroutine = false
  gen : sc.isGenerator = false
  nd : N.Nodup
  pre : N.take P.length = P
  par : ∀ x ∈ P, sc.names.lookup x = some .local ∨ sc.names.lookup x = some .cell
  nofree : ∀ y ∈ sc.names, y.2 ≠ .free

theorem bindL_out {kindOf : Str → Option NameKind} {x : Str} : ∀ {binds : List (Str × Value)} {m : Str → Option Value}, (∀ v, (x, v) ∉ binds) → bindL kindOf binds m x = m x
  | [], _, _ => rfl
  | (n, v) :: r, m, h => by
    unfold bindL
    rw [bindL_out fun w hw => h w (List.mem_cons_of_mem _ hw)]
    split
    · have : x ≠ n := by rintro rfl; exact h v List.mem_cons_self
      simp [this]
    · rfl
theorem bindC_out {kindOf : Str → Option NameKind} {x : Str} : ∀ {binds : List (Str × Value)} {m : Str → Option Value}, (∀ v, (x, v) ∉ binds) → bindC kindOf binds m x = m x
  | [], _, _ => rfl
  | (n, v) :: r, m, h => by
    unfold bindC
    rw [bindC_out fun w hw => h w (List.mem_cons_of_mem _ hw)]
    split
    · rfl
    · have : x ≠ n := by rintro rfl; exact h v List.mem_cons_self
      simp [this]
theorem bindL_get {kindOf : Str → Option NameKind} {x : Str} {v : Value} : ∀ {P : List Str} {vs : List Value} {i : Nat} {m : Str → Option Value}, P.Nodup → P[i]? = some x → vs[i]? = some v → kindOf x = some .local →
    bindL kindOf (P.zip vs) m x = some v
  | [], _, _, _, _, h, _, _ => by simp at h
  | _ :: _, [], _, _, _, _, h, _ => by simp at h
  | p :: P, w :: vs, 0, m, nd, h1, h2, hk => by
    simp at h1 h2; subst h1; subst h2
    show bindL kindOf ((p, w) :: P.zip vs) m p = _
    unfold bindL
    rw [bindL_out fun v hv => (List.nodup_cons.mp nd).1 (List.of_mem_zip hv).1, if_pos hk]
    simp
  | p :: P, w :: vs, i + 1, m, nd, h1, h2, hk => by
    show bindL kindOf ((p, w) :: P.zip vs) m x = _
    unfold bindL
    exact bindL_get (i := i) (List.nodup_cons.mp nd).2 (by simpa using h1) (by simpa using h2) hk
theorem bindC_get {kindOf : Str → Option NameKind} {x : Str} {v : Value} : ∀ {P : List Str} {vs : List Value} {i : Nat} {m : Str → Option Value}, P.Nodup → P[i]? = some x → vs[i]? = some v → kindOf x ≠ some .local →
    bindC kindOf (P.zip vs) m x = some v
  | [], _, _, _, _, h, _, _ => by simp at h
  | _ :: _, [], _, _, _, _, h, _ => by simp at h
  | p :: P, w :: vs, 0, m, nd, h1, h2, hk => by
    simp at h1 h2; subst h1; subst h2
    show bindC kindOf ((p, w) :: P.zip vs) m p = _
    unfold bindC
    rw [bindC_out fun v hv => (List.nodup_cons.mp nd).1 (List.of_mem_zip hv).1, if_neg hk]
    simp
  | p :: P, w :: vs, i + 1, m, nd, h1, h2, hk => by
    show bindC kindOf ((p, w) :: P.zip vs) m x = _
    unfold bindC
    exact bindC_get (i := i) (List.nodup_cons.mp nd).2 (by simpa using h1) (by simpa using h2) hk

def start (N : List Str) (vs : List V) : St := vs.map some ++ List.replicate (N.length - vs.length) none

def cxOf (CX : CXT) (P : Program) (w : World) (K : PySem.W.Frag) (mg : Str → Option Value) (base : Heap) (N : List Str) (qual : Str) (scope : Scope) (f : Addr) (cd : Value) (A : Around) (outer : List Env) (s : Shared) (H : Hp) (E : XK) : Cx where
  prog := P
  w := w
  K := K
  mg := mg
  base := base
  A := A.deeper (envOfC qual scope s.heap.objs.size f cd)
  N := N
  s₀ := s
  H₀ := H
  env := envOfC qual scope s.heap.objs.size f cd
  outer := outer
  stack := envOfC qual scope s.heap.objs.size f cd :: outer
  ex := []
  calm := true
  fn := fun _ => true
  pn := []
  xe := fun e s' => wpAny (model P w) (A.deeper (envOfC qual scope s.heap.objs.size f cd)) (leaving (envOfC qual scope s.heap.objs.size f cd) e) (fun _ s'' => CX outer H s E e s'') (fun e' s'' => CX outer H s E e' s'') s'

theorem cell_has {sc : Scope} {n : Nat} {x : Str} (h : sc.names.lookup x = some .cell) : ∃ c, (cellsFrom n sc.names []).lookup x = some c := by
  have q := PySem.W.cellsFrom_some sc.names n [] (.inl h)
  exact Option.isSome_iff_exists.mp q

theorem inv_start {CX : CXT} {P : Program} {w : World} {K : PySem.W.Frag} {mg : Str → Option Value} {base : Heap} {N ps : List Str} {qual : Str} {scope : Scope} {f : Addr} {cd : Value} {A : Around} {outer : List Env} {s s1 : Shared} {H : Hp} {E : XK} {us : List Value} {vs : List V}
    (S : FnScope N ps scope) (hd : A.handled = none) (e0 : Env0 P w K mg base A outer s H) (hl : vs.length = ps.length) (r : Vals vs us)
    (x : InCallC s s.heap.objs.size (bindL (envOfC qual scope s.heap.objs.size f cd).kindOf (ps.zip us) fun _ => none) (cellsFrom (s.heap.objs.size + 1) scope.names []) (bindC (envOfC qual scope s.heap.objs.size f cd).kindOf (ps.zip us) fun _ => none) s1) :
    Inv (cxOf CX P w K mg base N qual scope f cd A outer s H E) [] (start N vs) H s1 := by
  have hpl : ps.length ≤ N.length := by have := congrArg List.length S.pre; rw [List.length_take] at this; (first | lia | omega)
  obtain ⟨h1, tk, rfl, hk⟩ := x.done
  have noA : ∀ b : Addr, b ∉ (cxOf CX P w K mg base N qual scope f cd A outer s H E).ex := fun b z => absurd (show b ∈ ([] : List Addr) from z) (by simp)
  refine ⟨⟨e0.mod, S.kind, rfl, rfl, Nat.le_refl _, fun y z c h1 h2 => ?_, fun y hy => ?_, fun y c _ h => ?_, fun _ => hd, Around.frames_deeper e0.frames, .inr ⟨rfl, rfl⟩, fun b z => absurd z (noA b), e0.bs, e0.bsz, fun b _ _ => noA b, fun b z => absurd z (noA b), e0.funs, e0.frf⟩,
    rfl, e0.bare, Un.kept hk, ⟨_, x.toInCall.ns, fun i y v h1 h2 h3 => ?_⟩, fun y c h => ⟨_, x.cell y c h⟩, e0.hok.fresh (Nat.le_refl _), fun y c h => ?_, fun p hp => absurd (show p ∈ ([] : List (Addr × Obj)) from hp) (by simp), e0.hok.kept hk, ?_⟩
  · exact name_of_addr x.apart (PySem.mem_of_lookup h1) (PySem.mem_of_lookup h2)
  · have hy : scope.names.lookup y = some .cell ∨ scope.names.lookup y = some .free := hy
    rcases hy with hy | hy
    · exact cell_has hy
    · exact absurd rfl (S.nofree _ (PySem.mem_of_lookup hy))
  · exact Nat.le_of_lt (x.above y c (PySem.mem_of_lookup h))
  · have hi : i < vs.length := by
      unfold start at h2
      by_cases hi : i < vs.length
      · exact hi
      · rw [List.getElem?_append_right (by simpa using hi)] at h2
        rw [List.getElem?_replicate] at h2
        split at h2 <;> cases h2
    have ha : vs[i]? = some v := by
      unfold start at h2
      rw [List.getElem?_append_left (by simpa using hi), List.getElem?_map] at h2
      cases e : vs[i]? with
      | none => rw [e] at h2; cases h2
      | some a => rw [e] at h2; cases h2; rfl
    obtain ⟨u, hu, rv⟩ := r.get ha
    have hp : ps[i]? = some y := by
      rw [← S.pre, List.getElem?_take_of_lt (by (first | lia | omega))]; exact h1
    have ndP : ps.Nodup := by rw [← S.pre]; exact S.nd.sublist (List.take_sublist _ _)
    refine ⟨u, rv, ?_⟩
    rcases S.par y (List.mem_of_getElem? hp) with k | k
    · exact .inl ⟨k, bindL_get ndP hp hu k⟩
    · obtain ⟨c, e⟩ := cell_has (n := s.heap.objs.size + 1) k
      refine .inr ⟨.inl k, c, e, ?_⟩
      have q := x.cell y c e
      rw [bindC_get ndP hp hu (by show scope.names.lookup y ≠ _; rw [k]; decide)] at q
      exact q
  · exact e0.hok.fresh (Nat.le_of_lt (x.above y c (PySem.mem_of_lookup h)))
  · unfold start
    show _ = N.length
    rw [List.length_append, List.length_map, List.length_replicate]
    (first | lia | omega)

theorem fn_of {CX : CXT} {P : Program} {w : World} {K : PySem.W.Frag} {mg : Str → Option Value} {base : Heap} {k : Nat} {f : Addr} {name qual : Str} {params : Arguments} {body : List Stmt} {scope : Scope} {dV kV doc pm cdv ct oc : Value} {an od : Option Addr}
    {osl : Array (Option Value)} {N ps : List Str} {sp : Sp} (lk : K.lookup f = some ⟨oc, od, .func (PySem.W.fnOf name qual params body scope dV kV doc pm an cdv ct), osl⟩) (hcd : PySem.W.codeIn K cdv qual = true) (S : FnScope N ps scope)
    (len : ∀ vs H Q E, sp vs H Q E → vs.length = ps.length)
    (hbody : ∀ (A : Around) (outer : List Env) (s : Shared) (H : Hp) (vs : List V) (Q : VK) (E : XK), Room k (A.deeper (envOfC qual scope s.heap.objs.size f cdv)) → sp vs H Q E →
      ∃ t, PSs (cxOf CX P w K mg base N qual scope f cdv A outer s H E) body t ∧ t { nx := fun _ H' => Q .non H', rt := Q } (start N vs) H) :
    FnOk P w K mg base CX (k + 1) f (PySem.W.fnOf name qual params body scope dV kV doc pm an cdv ct) ps sp := by
  refine ⟨len, fun A outer s H args us vs Q E hr e0 hb r hsp => ?_⟩
  have hl := len _ _ _ _ hsp
  have KX : K.In s.heap := e0.mod.kin.keeps fun b o e => (e0.bs b o e).1
  have lim : s.heap.NoLimit := e0.mod.nolimit.keeps fun b o e => (e0.bs b o e).1
  have hkind : ∀ y ∈ ps.zip us, scope.names.lookup y.1 = some .local ∨ (scope.names.lookup y.1 = some .cell ∧ ((cellsFrom (s.heap.objs.size + 1) scope.names []).lookup y.1).isSome = true) := fun ⟨n, v⟩ hy => by
    rcases S.par n (List.of_mem_zip hy).1 with q | q
    · exact .inl q
    · exact .inr ⟨q, PySem.W.cellsFrom_some _ _ _ (.inl q)⟩
  refine codeAny_call_function hr.depth (KX _ _ lk) rfl S.co S.gen rfl (PySem.W.codeRec_of KX hcd) (hb _ _ _ _ ?_)
  refine wpAny_newFunctionEnv_cells S.kind hkind fun env he s1 x => ?_
  subst he
  refine ⟨lim.keeps x.toInCall.keep, codeAny_func ?_⟩
  obtain ⟨t, ht, hq⟩ := hbody A outer s H vs Q E (hr.deeper _) hsp
  have I : Inv (cxOf CX P w K mg base N qual scope f cdv A outer s H E) [] (start N vs) H s1 := inv_start S hr.hd e0 hl r x
  refine wpAny_mono (ht [] s1 (start N vs) H _ I hq) (fun fl s' hs => ?_) fun e s' hs => hs
  have fin : ∀ {σ' : St} {H' : Hp} {v : V} {u : Value}, Inv (cxOf CX P w K mg base N qual scope f cdv A outer s H E) [] σ' H' s' → RelV v u → Q v H' → CE outer P w H s Q u s' :=
    fun {σ' H' v u} J rv q => ⟨v, H', J.os, J.bare, J.base, J.hok, rv, q⟩
  cases fl with
  | ret u =>
    obtain ⟨v, σ', H', J, rv, q⟩ := hs
    exact fin J rv q
  | next =>
    obtain ⟨σ', H', J, q⟩ := hs
    exact fin (v := V.non) (u := Value.none) J rfl q
  | brk =>
    obtain ⟨_, _, _, q⟩ := hs
    exact False.elim q
  | cont =>
    obtain ⟨_, _, _, q⟩ := hs
    exact False.elim q
end L2

namespace L2
open PySem PySem.Spec PyProof.Rows
section
variable {X : Cx} {x : Str} {p pos : Pos} {e : Expr} {es : List Expr} {t : TA} {id T : String} {r : List V → Hp → VK → Prop}

def tCB (r : List V → Hp → VK → Prop) (t : TA) : TE := fun σ H Q => t σ H fun vs H1 => r vs H1 Q
theorem pe_callB (hc : CallR X (.builtin id) r) (hg : Gl X x) (hm : X.mg x = none) (hv : bootBuiltins x = some (.builtin id)) (ha : PA X (e :: es) t) (hn : x ≠ "__name__" := by decide) (hdb : (x == ("__debug__" : Str)) = false := by decide)
    (he : starEach (e :: es) X.env = (false, eval e X.env) :: starEach es X.env := by rfl) (hpl : (backTo pos (starEach es X.env)).any (·.1) = false := by rfl) : PE X (.Call (.Name x p) (e :: es) [] pos) (tCB r t) := by
  intro pins s σ H Q I h
  refine wpAny_Call_Name_kw (ld_blt I hg hm hv ?_ hn hdb)
  exact PyProof.Rows.callWith_builtin1 (thn (ha pos pins s σ H _ I h) fun us s1 ⟨vs, H1, I1, r1, q1⟩ => hc pins s1 σ H1 vs us Q I1 r1 q1) he hpl
theorem pe_callTy (hc : CallR X (.type T) r) (hg : Gl X x) (hm : X.mg x = none) (hv : bootBuiltins x = some (.type T)) (ha : PA X (e :: es) t) (hn : x ≠ "__name__" := by decide) (hdb : (x == ("__debug__" : Str)) = false := by decide)
    (he : starEach (e :: es) X.env = (false, eval e X.env) :: starEach es X.env := by rfl) (hpl : (backTo pos (starEach es X.env)).any (·.1) = false := by rfl) : PE X (.Call (.Name x p) (e :: es) [] pos) (tCB r t) := by
  intro pins s σ H Q I h
  refine wpAny_Call_Name_kw (ld_blt I hg hm hv ?_ hn hdb)
  exact PyProof.Rows.callWith_type1 (thn (ha pos pins s σ H _ I h) fun us s1 ⟨vs, H1, I1, r1, q1⟩ => hc pins s1 σ H1 vs us Q I1 r1 q1) he hpl
end
end L2

namespace HT
open PySem PyProof.Rows

section
open PySem.SeqAt
open PySem.AutoSeq1 (wpAny_loadPart')
open PySem.MeetsSeq PySem.MeetsSeq2 PySem.MeetsSeq3

end

section
variable {prog : Program} {w : World} {A : Around} {E : Value → Shared → Prop} {s : Shared}

theorem cat_tup {t b : Addr} {vs ws : List Value} {Q : Value → Shared → Prop} (ht : IsTup s.heap t vs.toArray) (hb : IsTup s.heap b ws.toArray) (hv : vs ≠ [])
    (h1 : ws = [] → Q (.ref t) s) (h2 : ws ≠ [] → Q (.ref s.heap.objs.size) { s with heap := s.heap.push { cls := .type "tuple", data := .seq (vs ++ ws).toArray } })
    (hsz : vs.length + ws.length ≤ sizeLine) : wpAny (model prog w) A (binaryOp .Add (.ref t) (.ref b)) Q E s := by
  obtain ⟨⟨cls, dd, data, sl⟩, ho, hc, n, hd⟩ := id ht
  obtain ⟨⟨cls2, dd2, data2, sl2⟩, ho2, hc2, n2, hd2⟩ := id hb
  simp only at hc hd hc2 hd2
  subst hc hd hc2 hd2
  have e : vs.toArray ++ ws.toArray = (vs ++ ws).toArray := by simp
  by_cases hw : ws = []
  · exact concat_meets ⟨_, ho, rfl⟩ ⟨_, ho2, rfl⟩ noFill_tuple_add seq_tuple_add PySem.F.slot_tuple_add PySem.F.entry_tuple_add (PySem.F.args_tuple_add_2 _ _)
      (tuple_addW1 t b vs.toArray ws.toArray n n2 dd dd2 sl sl2 (by simpa using hv) (by simp [hw])) ⟨ho, ho2, h1 hw⟩
  · refine concat_meets ⟨_, ho, rfl⟩ ⟨_, ho2, rfl⟩ noFill_tuple_add seq_tuple_add PySem.F.slot_tuple_add PySem.F.entry_tuple_add (PySem.F.args_tuple_add_2 _ _)
      (tuple_addW2 t b vs.toArray ws.toArray n n2 dd dd2 sl sl2 (by simpa using hv) (by simpa using hw) (by rw [List.size_toArray, List.size_toArray]; exact hsz)) ⟨ho, ho2, ?_⟩
    rw [e]
    exact h2 hw

def sIx (n d : Nat) : Option Int → Nat
  | none => d
  | some v => if v < 0 then (v + (n : Int)).toNat else min v.toNat n
theorem sIx_none (n d : Nat) : sIx n d none = d := rfl
theorem sIx_nat (n d k : Nat) : sIx n d (some (k : Int)) = min k n := by
  show (if (k : Int) < 0 then ((k : Int) + (n : Int)).toNat else min (k : Int).toNat n) = min k n
  rw [if_neg (by (first | lia | omega)), Int.toNat_natCast]
end
end HT

namespace L2
open PySem PySem.Spec PyProof.Rows

abbrev TO := St → Hp → (Option Int → Hp → Prop) → Prop
def PO (X : Cx) (e : Option Expr) (t : TO) : Prop :=
  ∀ (pins : List (Addr × Obj)) (s : Shared) (σ : St) (H : Hp) (Q : Option Int → Hp → Prop), Inv X pins σ H s → t σ H Q →
    wpAny (model X.prog X.w) X.A (evalPart e X.env) (fun u s' => ∃ o H', Inv X pins σ H' s' ∧ IsPart u o ∧ Q o H') X.xe s
def tNoPart : TO := fun _ H Q => Q none H
def tPart (t : TE) : TO := fun σ H Q => t σ H fun x H1 => OfI x H1 fun i H1 => Q (some i) H1

section
variable {X : Cx} {e : Expr} {te : TE} {lo hi : Option Expr} {tl th : TO} {pos p2 : Pos}

theorem po_none : PO X none tNoPart := by
  intro pins s σ H Q I h
  rw [evalPart_none]
  exact wpAny_pure ⟨none, H, I, .none, h⟩
theorem po_some (h : PE X e te) : PO X (some e) (tPart te) := by
  intro pins s σ H Q I hw
  rw [evalPart_some]
  refine thn (h pins s σ H _ I hw) fun u s1 ⟨x, H1, I1, r1, q1⟩ => ?_
  obtain ⟨i, rfl, q⟩ := q1
  obtain ⟨t, rfl⟩ := r1
  exact ⟨some i, H1, I1, .int i t, q⟩

def SlR (X : Cx) (r : V → Option Int → Option Int → Hp → VK → Prop) : Prop :=
  ∀ (pins : List (Addr × Obj)) (s : Shared) (σ : St) (H : Hp) (x : V) (v vl vu : Value) (lo hi : Option Int) (sl : Addr) (Q : VK), Inv X pins σ H s → RelV x v → s.heap.IsSliceOf sl vl vu .none → IsPart vl lo → IsPart vu hi → r x lo hi H Q →
    ∃ T id, typeLookup (.type T) "__getitem__" = pure (some (.builtin id)) ∧ s.TypeIs v T ∧ wpAny (model X.prog X.w) X.A (getItem v (.ref sl)) (EP X pins σ Q) X.xe s
def tSl (r : V → Option Int → Option Int → Hp → VK → Prop) (te : TE) (tl th : TO) : TE := fun σ H Q => te σ H fun x H1 => tl σ H1 fun l H2 => th σ H2 fun u H3 => r x l u H3 Q
theorem pe_slice {r : V → Option Int → Option Int → Hp → VK → Prop} (hr : SlR X r) (he : PE X e te) (hl : PO X lo tl) (hu : PO X hi th) : PE X (.Subscript e (.Slice lo hi none p2) pos) (tSl r te tl th) := by
  intro pins s σ H Q I h
  refine Subscript_ (thn (he pins s σ H _ I h) fun v s1 ⟨x, H1, I1, r1, q1⟩ => ?_)
  refine wpAny_Slice (thn (hl pins s1 σ H1 _ I1 q1) fun vl s2 ⟨l, H2, I2, pl, q2⟩ => thn (hu pins s2 σ H2 _ I2 q2) fun vu s3 ⟨u, H3, I3, pu, q3⟩ => ?_)
  rw [evalPart_none]
  refine wpAny_pure ?_
  have I4 : Inv X pins σ H3 { s3 with heap := s3.heap.push { cls := .type "slice", data := .fields #[vl, vu, .none] } } := I3.kept (t' := s3.toks) fun b ob q => Heap.get?_push_of_some _ q
  obtain ⟨T, id, hT, ht, hg⟩ := hr pins { s3 with heap := s3.heap.push { cls := .type "slice", data := .fields #[vl, vu, .none] } } σ H3 x v vl vu l u s3.heap.objs.size Q I4 r1 (Heap.IsSliceOf.new ..) pl pu q3
  show wpAny (model X.prog X.w) X.A (subscriptTail e (.Slice lo hi none p2) v (.ref s3.heap.objs.size)) (EP X pins σ Q) X.xe { s3 with heap := s3.heap.push { cls := .type "slice", data := .fields #[vl, vu, .none] } }
  exact tail_any (ops := [.ref s3.heap.objs.size, v]) ht hT hg (by with_unfolding_all rfl)

def cutV (xs : List V) (lo hi : Option Int) : List V := (xs.drop (HT.sIx xs.length 0 lo)).take (HT.sIx xs.length xs.length hi - HT.sIx xs.length 0 lo)
theorem cutV_length (xs : List V) (lo hi : Option Int) : (cutV xs lo hi).length ≤ xs.length := by
  unfold cutV
  rw [List.length_take, List.length_drop]
  (first | lia | omega)
def rCatT (K : PySem.W.Frag) : R2 := fun x y H Q => ∃ a b xs ys, x = .ref a ∧ y = .ref b ∧ SqT K H a xs ∧ SqT K H b ys ∧ xs ≠ [] ∧ xs.length + ys.length ≤ sizeLine ∧
  (ys = [] → Q (.ref a) H) ∧ (ys ≠ [] → ∀ p, H p = none → Q (.ref p) (upd H p (.tup (xs ++ ys))))
theorem Vals.nil_iff {xs : List V} {us : List Value} (r : Vals xs us) : us = [] ↔ xs = [] := by
  cases r with
  | nil => simp
  | cons _ _ => simp
theorem op_catT : OpR X (binaryOp .Add) (rCatT X.K) := by
  intro pins s σ H x y v u Q I rx ry h
  obtain ⟨a, b, xs, ys, rfl, rfl, ha, hb, hx, hz, q1, q2⟩ := h
  cases rx
  cases ry
  obtain ⟨its, r1, p1, _⟩ := I.tuple ha
  obtain ⟨its2, r2, p2, _⟩ := I.tuple hb
  refine HT.cat_tup p1 p2 (fun z => hx (r1.nil_iff.mp z)) (fun z => ⟨.ref a, H, I, rfl, q1 (r2.nil_iff.mp z)⟩) (fun z => ?_) (by rw [← r1.length, ← r2.length]; exact hz)
  refine ⟨.ref s.heap.objs.size, _, I.laid (t' := s.toks) (o := .tup (xs ++ ys)) (fun b ob q => Heap.get?_push_of_some _ q) (Nat.le_refl _) ?_, rfl, q2 (fun w => z (r2.nil_iff.mpr w)) _ (I.hok.fresh (Nat.le_refl _))⟩
  exact ⟨by rw [List.length_append]; exact hz, _, r1.append r2, IsTup.new _ _⟩
end
end L2

namespace L2
open PySem PySem.Spec PyProof.Rows

def ixN (n : Nat) (i : Int) : Option Nat := if 0 ≤ i then (if i < n then some i.toNat else none) else if -(n : Int) ≤ i then some (i + n).toNat else none
def atI {α : Type} (xs : List α) (i : Int) : Option α := (ixN xs.length i).bind fun j => xs[j]?
theorem ixN_seq {n : Nat} {i : Int} {j : Nat} (h : ixN n i = some j) : seqIndex? i n = some j ∧ j < n ∧ -(n : Int) ≤ i ∧ i < n := by
  unfold ixN at h
  by_cases h0 : 0 ≤ i
  · rw [if_pos h0] at h
    by_cases h1 : i < n
    · rw [if_pos h1] at h
      have e : i.toNat = j := Option.some.inj h
      exact ⟨by rw [seqIndex_of h0 h1, e], by (first | lia | omega), by (first | lia | omega), h1⟩
    · rw [if_neg h1] at h; cases h
  · rw [if_neg h0] at h
    by_cases h1 : -(n : Int) ≤ i
    · rw [if_pos h1] at h
      have e : (i + n).toNat = j := Option.some.inj h
      exact ⟨by rw [seqIndex_neg (by (first | lia | omega)) h1, e], by (first | lia | omega), h1, by (first | lia | omega)⟩
    · rw [if_neg h1] at h; cases h
theorem atI_get {α : Type} {xs : List α} {i : Int} {v : α} (h : atI xs i = some v) : ∃ j, seqIndex? i xs.length = some j ∧ xs[j]? = some v ∧ j < xs.length ∧ -(xs.length : Int) ≤ i ∧ i < xs.length := by
  unfold atI at h
  cases e : ixN xs.length i with
  | none => rw [e] at h; cases h
  | some j =>
    rw [e] at h
    obtain ⟨h1, h2, h3, h4⟩ := ixN_seq e
    exact ⟨j, h1, h, h2, h3, h4⟩
theorem atI_nat {α : Type} {xs : List α} {j : Nat} {v : α} (h : xs[j]? = some v) : atI xs (j : Int) = some v := by
  have hj : j < xs.length := (List.getElem?_eq_some_iff.mp h).1
  have e : ixN xs.length (j : Int) = some j := by
    unfold ixN
    rw [if_pos (by (first | lia | omega)), if_pos (by (first | lia | omega))]; simp
  unfold atI; rw [e]; exact h
def PlainIx (b : Expr) : Prop := ∀ o i, subscripted b false o i = operate [o, i] (getItem o i)
def IxR (X : Cx) (r : R2) : Prop :=
  ∀ (value slice : Expr) (pins : List (Addr × Obj)) (s : Shared) (σ : St) (H : Hp) (x y : V) (v u : Value) (Q : VK), Inv X pins σ H s → RelV x v → RelV y u → r x y H Q →
    subscripted slice false v u = operate [v, u] (getItem v u) → wpAny (model X.prog X.w) X.A (subscriptTail value slice v u) (EP X pins σ Q) X.xe s
def MtR (X : Cx) (id : String) (r : V → List V → Hp → VK → Prop) : Prop :=
  ∀ (pins : List (Addr × Obj)) (s : Shared) (σ : St) (H : Hp) (x : V) (xs : List V) (v : Value) (us : List Value) (Q : VK), Inv X pins σ H s → RelV x v → Vals xs us → r x xs H Q →
    wpAny (model X.prog X.w) X.A (call (.builtin id) (v :: us)) (EP X pins σ Q) X.xe s
section
variable {X : Cx} {a b : Expr} {ta tb : TE} {pos : Pos}
theorem pe_ix {r : R2} (hr : IxR X r) (ha : PE X a ta) (hb : PE X b tb) (hs : PlainIx b) : PE X (.Subscript a b pos) (tOp r ta tb) := by
  intro pins s σ H Q I h
  exact Subscript_ (binT ha hb I h fun v u s2 x y H2 I2 rx ry q => hr a b pins s2 σ H2 x y v u Q I2 rx ry q (hs _ _))

inductive RIxLP (K : PySem.W.Frag) (x : V) (y : V) (H : Hp) (Q : VK) : Prop
  | mk (p : _) (xs : _) (i : _) (v : _) (h1 : x = .ref p) (h2 : y = .int i) (h3 : SqL K H p xs) (h4 : atI xs i = some v) (h5 : Q v H) : RIxLP K x y H Q
def rIxL (K : PySem.W.Frag) : R2 := fun x y H Q => RIxLP K x y H Q
inductive RIxTP (K : PySem.W.Frag) (x : V) (y : V) (H : Hp) (Q : VK) : Prop
  | mk (p : _) (xs : _) (i : _) (v : _) (h1 : x = .ref p) (h2 : y = .int i) (h3 : SqT K H p xs) (h4 : atI xs i = some v) (h5 : Q v H) : RIxTP K x y H Q
def rIxT (K : PySem.W.Frag) : R2 := fun x y H Q => RIxTP K x y H Q
theorem ix_list : IxR X (rIxL X.K) := by
  intro value slice pins s σ H x y v u Q I rx ry h hs
  obtain ⟨p, xs, i, z, rfl, rfl, hq, he, q⟩ := h
  cases rx
  obtain ⟨t, rfl⟩ := ry
  obtain ⟨its, r, pl, hz⟩ := I.list hq
  obtain ⟨j, h1, h2, h3, h4, h5⟩ := atI_get he
  obtain ⟨w, ew, rw'⟩ := r.get h2
  have hl := r.length
  have hn := line63
  have fin : EP X pins σ Q w s := ⟨z, H, I, rw', q⟩
  by_cases h0 : 0 ≤ i
  · have hj : i.toNat = j := by
      rw [seqIndex_of h0 h5] at h1
      exact Option.some.inj h1
    exact item_listR pl.isList h0 (by (first | lia | omega)) (by rw [hj]; simpa using ew) fin hs
  · have hj : (i + (its.toArray.size : Int)).toNat = j := by
      rw [seqIndex_neg (by (first | lia | omega)) h4] at h1
      rw [List.size_toArray, ← hl]
      exact Option.some.inj h1
    exact subscriptTail_builtinR (x := w) pl.isList.typeIs slot_list_getitem.lookup
      (wpAny_getItem_list_neg (Q := fun r s' => r = w ∧ EP X pins σ Q r s') pl.isList (by (first | lia | omega)) (by rw [List.size_toArray] <;> (first | lia | omega)) (by (first | lia | omega)) (by rw [hj]; simpa using ew) ⟨rfl, fin⟩) hs
theorem ix_tup : IxR X (rIxT X.K) := by
  intro value slice pins s σ H x y v u Q I rx ry h hs
  obtain ⟨p, xs, i, z, rfl, rfl, hq, he, q⟩ := h
  cases rx
  obtain ⟨t, rfl⟩ := ry
  obtain ⟨its, r, pl, hz⟩ := I.tuple hq
  obtain ⟨j, h1, h2, h3, h4, h5⟩ := atI_get he
  obtain ⟨w, ew, rw'⟩ := r.get h2
  have hl := r.length
  have hn := line63
  have fin : EP X pins σ Q w s := ⟨z, H, I, rw', q⟩
  exact subscriptTail_builtinR (x := w) pl.typeIs slot_tuple_getitem.lookup
    (getItem_tuple (j := j) (Q := fun r s' => r = w ∧ EP X pins σ Q r s') pl (by (first | lia | omega)) (by (first | lia | omega)) (by rw [List.size_toArray, ← hl]; exact h1) (by simpa using ew) ⟨rfl, fin⟩) hs
theorem mapSeq_set (its : List Value) (n j : Nat) (u : Value) : Obj.mapSeq (·.setIfInBounds j u) { cls := .type "list", data := .seq its.toArray n } = { cls := .type "list", data := .seq (its.set j u).toArray n } := by
  simp [Obj.mapSeq]
theorem Inv.lst {pins : List (Addr × Obj)} {σ : St} {H : Hp} {s : Shared} {p : Addr} {xs : List V} (I : Inv X pins σ H s) (h : H p = some (.lst xs)) :
    ∃ (its : List Value) (n : Nat), Vals xs its ∧ s.heap.get? p = some { cls := .type "list", data := .seq its.toArray n } ∧ xs.length ≤ sizeLine := by
  obtain ⟨z, its, n, r, e⟩ := I.hok p _ h
  exact ⟨its, n, r, e, z⟩
theorem Inv.lstUpd {pins : List (Addr × Obj)} {σ : St} {H : Hp} {s : Shared} {p : Addr} {xs ys : List V} {its its' : List Value} {n n' : Nat} {f : Obj → Obj} (I : Inv X pins σ H s) (h : H p = some (.lst xs))
    (ho : s.heap.get? p = some { cls := .type "list", data := .seq its.toArray n }) (hf : f { cls := .type "list", data := .seq its.toArray n } = { cls := .type "list", data := .seq its'.toArray n' }) (r : Vals ys its') (hz : ys.length ≤ sizeLine) (t : Nat) :
    Inv X pins σ (upd H p (.lst ys)) { s with heap := s.heap.update p f, toks := t } := by
  have e : (s.heap.update p f).get? p = some { cls := .type "list", data := .seq its'.toArray n' } := by
    rw [Heap.get?_update_self f ho (by rw [hf] <;> rfl), hf]
  refine I.write (x := p) (e := p) (by rw [h]; trivial) (.inl rfl) (fun b u hb q => (Heap.get?_update_other _ _ (Ne.symm hb)).trans q) ⟨_, e⟩ ?_
  exact ⟨hz, its', n', r, e⟩
inductive RSetLP (o : V) (i : V) (v : V) (H : Hp) (Q : Hp → Prop) : Prop
  | mk (p : _) (xs : _) (k : _) (j : _) (h1 : o = .ref p) (h2 : i = .int k) (h3 : H p = some (.lst xs)) (h4 : ixN xs.length k = some j) (h5 : Q (upd H p (.lst (xs.set j v)))) : RSetLP o i v H Q
def rSetL : V → V → V → Hp → (Hp → Prop) → Prop := fun o i v H Q => RSetLP  o i v H Q
theorem set_list : PSet X rSetL := by
  intro pins s σ H o i v ov iv u Q I ro ri rv h
  obtain ⟨p, xs, k, j, rfl, rfl, hp, hj, q⟩ := h
  cases ro
  obtain ⟨t, rfl⟩ := ri
  obtain ⟨its, n, r, ho, hz⟩ := I.lst hp
  obtain ⟨h1, h2, h3, h4⟩ := ixN_seq hj
  have hl := r.length
  have hn := line63
  have I' : Inv X pins σ (upd H p (.lst (xs.set j v))) { s with heap := s.heap.update p (Obj.mapSeq (·.setIfInBounds j u)) } :=
    I.lstUpd hp ho (mapSeq_set its n j u) (r.set rv j) (by rw [List.length_set]; exact hz) s.toks
  by_cases h0 : 0 ≤ k
  · have hk : k.toNat = j := by
      rw [seqIndex_of h0 h4] at h1
      exact Option.some.inj h1
    exact PySem.W.ki_setAt ho h0 (by (first | lia | omega)) (by rw [List.size_toArray, ← hl]; exact h4) (by rw [hk]; exact ⟨_, I', q⟩)
  · have hk : (k + (its.toArray.size : Int)).toNat = j := by
      rw [seqIndex_neg (by (first | lia | omega)) h3] at h1
      rw [List.size_toArray, ← hl]
      exact Option.some.inj h1
    exact PySem.W.ki_setBack ho (by (first | lia | omega)) (by rw [List.size_toArray, ← hl]; exact h3) (by (first | lia | omega)) (by rw [hk]; exact ⟨_, I', q⟩)

theorem slice_bounds (lo hi : Option Int) (n : Nat) : (sliceBounds lo hi none n).1 = ((HT.sIx n 0 lo : Nat) : Int) ∧ (sliceBounds lo hi none n).2.1 = ((HT.sIx n n hi : Nat) : Int) ∧ (sliceBounds lo hi none n).2.2 = 1 := by
  refine ⟨?_, ?_, rfl⟩
  · cases lo with
    | none => simp [sliceBounds, HT.sIx]
    | some i =>
      simp only [sliceBounds, HT.sIx, Option.getD_none, show (1 : Int) > 0 by decide, if_true]
      by_cases h : i < 0
      · simp only [h, if_true] <;> (first | lia | omega)
      · simp only [h, if_false] <;> (first | lia | omega)
  · cases hi with
    | none => simp [sliceBounds, HT.sIx]
    | some i =>
      simp only [sliceBounds, HT.sIx, Option.getD_none, show (1 : Int) > 0 by decide, if_true]
      by_cases h : i < 0
      · simp only [h, if_true] <;> (first | lia | omega)
      · simp only [h, if_false] <;> (first | lia | omega)
theorem slicePick_cut (its : List Value) (lo hi : Option Int) : slicePick its.toArray lo hi none = ((its.drop (HT.sIx its.length 0 lo)).take (HT.sIx its.length its.length hi - HT.sIx its.length 0 lo)).toArray := by
  obtain ⟨h1, h2, h3⟩ := slice_bounds lo hi its.toArray.size
  unfold slicePick
  rw [h1, h2, h3]
  simp only [sliceRange_one, pick_run, List.size_toArray] <;> rfl
inductive RSlLP (K : PySem.W.Frag) (x : V) (lo : Option Int) (hi : Option Int) (H : Hp) (Q : VK) : Prop
  | mk (a : _) (xs : _) (h1 : x = .ref a) (h2 : SqL K H a xs) (h3 : ∀ p, H p = none → Q (.ref p) (upd H p (.lst (cutV xs lo hi)))) : RSlLP K x lo hi H Q
def rSlL (K : PySem.W.Frag) : V → Option Int → Option Int → Hp → VK → Prop := fun x lo hi H Q => RSlLP K x lo hi H Q
theorem sl_list : SlR X (rSlL X.K) := by
  intro pins s σ H x v vl vu lo hi sl Q I rx hs pl pu h
  obtain ⟨a, xs, rfl, hx, q⟩ := h
  cases rx
  obtain ⟨its, r, ht, hz⟩ := I.list hx
  have hlen := r.length
  refine ⟨"list", _, slot_list_getitem.lookup, ht.isList.typeIs, ?_⟩
  refine wpAny_getItem_list_slice ht.isList hs pl pu .none (by simp) ?_ (by rw [List.size_toArray] <;> (first | lia | omega))
  rw [slicePick_cut, ← hlen]
  refine ⟨.ref s.heap.objs.size, _, I.laid (t' := s.toks) (o := .lst (cutV xs lo hi)) (fun b ob q => Heap.get?_push_of_some _ q) (Nat.le_refl _) ?_, rfl, q _ (I.hok.fresh (Nat.le_refl _))⟩
  exact ⟨Nat.le_trans (cutV_length xs lo hi) hz, _, 0, (r.drop (HT.sIx xs.length 0 lo)).take (HT.sIx xs.length xs.length hi - HT.sIx xs.length 0 lo), Heap.get?_push_size _ rfl⟩

inductive P_call_len_seq (K : PySem.W.Frag) (xs : List V) (H : Hp) (Q : VK) : Prop
  | mk (p : _) (ys : _) (h1 : xs = [.ref p]) (h2 : (SqL K H p ys ∨ SqT K H p ys)) (h3 : Q (.int ys.length) H) : P_call_len_seq K xs H Q
theorem call_len_seq : CallR X (.builtin "len") (P_call_len_seq X.K) := by
  intro pins s σ H xs us Q I r h
  obtain ⟨p, ys, rfl, hq, q⟩ := h
  obtain ⟨u, rfl, rx⟩ := vals1 r
  cases rx
  have hn := line63
  rcases hq with hq | hq
  · obtain ⟨its, r', pl, hz⟩ := I.list hq
    have hlen := r'.length
    exact Calls.call_len_list pl.isList (by simp only [List.size_toArray] <;> (first | lia | omega)) ⟨.int ys.length, H, I.tok _, ⟨s.toks + 1, by rw [List.size_toArray, hlen]⟩, q⟩
  · obtain ⟨its, r', pl, hz⟩ := I.tuple hq
    have hlen := r'.length
    exact len_tuple pl (by simp only [List.size_toArray] <;> (first | lia | omega)) ⟨.int ys.length, H, I.tok _, ⟨s.toks + 1, by rw [List.size_toArray, hlen]⟩, q⟩
inductive P_call_list_of (K : PySem.W.Frag) (xs : List V) (H : Hp) (Q : VK) : Prop
  | mk (p : _) (ys : _) (h1 : xs = [.ref p]) (h2 : (SqL K H p ys ∨ SqT K H p ys)) (h3 : ∀ l, H l = none → Q (.ref l) (upd H l (.lst ys))) : P_call_list_of K xs H Q
theorem call_list_of : CallR X (.type "list") (P_call_list_of X.K) := by
  intro pins s σ H xs us Q I r h
  obtain ⟨p, ys, rfl, hq, q⟩ := h
  obtain ⟨u, rfl, rx⟩ := vals1 r
  cases rx
  have fin : ∀ (its : List Value), Vals ys its → ys.length ≤ sizeLine → ∀ (h' : Heap) (c' : Nat), (∀ b o', s.heap.get? b = some o' → h'.get? b = some o') →
      h'.get? s.heap.objs.size = some { cls := .type "list", dict := none, data := .seq its.toArray c', slots := #[] } → EP X pins σ Q (.ref s.heap.objs.size) { s with heap := h' } := fun its r' hz h' c' kp e =>
    ⟨.ref s.heap.objs.size, _, I.laid (t' := s.toks) kp (Nat.le_refl _) (show ObjOk X.prog X.w _ h' _ (.lst ys) from ⟨hz, its, c', r', e⟩), rfl, q _ (I.hok.fresh (Nat.le_refl _))⟩
  rcases hq with hq | hq
  · obtain ⟨its, r', pl, hz⟩ := I.list hq
    have hlen := r'.length
    obtain ⟨o, ho, hc, n, hd⟩ := pl.isList
    exact call_list_seq p (.inl rfl) ho hc hd (fun h' c' kp e => fin its r' hz h' c' kp e) (by simp only [List.size_toArray] <;> (first | lia | omega))
  · obtain ⟨its, r', pl, hz⟩ := I.tuple hq
    have hlen := r'.length
    obtain ⟨o, ho, hc, n, hd⟩ := pl
    exact call_list_seq p (.inr rfl) ho hc hd (fun h' c' kp e => fin its r' hz h' c' kp e) (by simp only [List.size_toArray] <;> (first | lia | omega))
inductive P_call_tuple_of (K : PySem.W.Frag) (xs : List V) (H : Hp) (Q : VK) : Prop
  | mk (p : _) (ys : _) (h1 : xs = [.ref p]) (h2 : ((SqL K H p ys ∧ ∀ l, H l = none → Q (.ref l) (upd H l (.tup ys))) ∨ (SqT K H p ys ∧ Q (.ref p) H))) : P_call_tuple_of K xs H Q
theorem call_tuple_of : CallR X (.type "tuple") (P_call_tuple_of X.K) := by
  intro pins s σ H xs us Q I r h
  obtain ⟨p, ys, rfl, h⟩ := h
  obtain ⟨u, rfl, rx⟩ := vals1 r
  cases rx
  rcases h with ⟨hq, q⟩ | ⟨hq, q⟩
  · obtain ⟨its, r', pl, hz⟩ := I.list hq
    have hlen := r'.length
    refine call_tuple_list pl.isList (fun h' kp => ?_) (by simp only [List.size_toArray] <;> (first | lia | omega))
    have I1 : Inv X pins σ H { s with heap := h' } := I.kept (t' := s.toks) kp
    have I2 : Inv X pins σ (upd H h'.objs.size (.tup ys)) { s with heap := h'.push { cls := .type "tuple", data := .seq its.toArray } } :=
      I1.laid (t' := s.toks) (fun b o e => Heap.get?_push_of_some _ e) (Nat.le_refl _) (show ObjOk X.prog X.w _ _ _ (.tup ys) from ⟨hz, its, r', IsTup.new _ _⟩)
    exact ⟨.ref h'.objs.size, _, I2, rfl, q _ (I1.hok.fresh (Nat.le_refl _))⟩
  · obtain ⟨its, r', pl, hz⟩ := I.tuple hq
    exact call_tuple_same pl ⟨.ref p, H, I, rfl, q⟩

def tyV (K : PySem.W.Frag) (T : String) (x : V) (H : Hp) : Prop := match x with
  | .str _ => T = "str"
  | .int _ => T = "int"
  | .ref p => (T = "list" ∧ ∃ xs, SqL K H p xs) ∨ (T = "tuple" ∧ ∃ o, K.lookup p = some o ∧ o.cls = .type "tuple" ∧ o.dict = none) ∨
      (T = "dict" ∧ ((∃ kvs, H p = some (.dK kvs)) ∨ ∃ kvs, H p = some (.dT kvs))) ∨ (T = "set" ∧ ∃ S n, H p = some (.set S n))
  | _ => False
theorem tyV_is {pins : List (Addr × Obj)} {σ : St} {H : Hp} {s : Shared} {T : String} {x : V} {v : Value} (I : Inv X pins σ H s) (r : RelV x v) (ty : tyV X.K T x H) :
    s.TypeIs v T ∧ ∀ a, v = .ref a → ∃ ob, s.heap.get? a = some ob ∧ ob.dict = none := by
  cases x with
  | str z =>
    obtain ⟨t, rfl⟩ := r
    cases (show T = "str" from ty)
    exact ⟨typeIs_str s z t, fun _ e => nomatch e⟩
  | int i =>
    obtain ⟨t, rfl⟩ := r
    cases (show T = "int" from ty)
    exact ⟨typeIs_int s i t, fun _ e => nomatch e⟩
  | ref p =>
    cases r
    rcases ty with ⟨rfl, xs, hq⟩ | ⟨rfl, o, hk, hc, hd⟩ | ⟨rfl, hk⟩ | ⟨rfl, S, n, hk⟩
    · obtain ⟨its, _, pl, _⟩ := I.list hq
      refine ⟨pl.isList.typeIs, fun a e => ?_⟩
      cases e
      obtain ⟨o, n, e, c, hd, _⟩ := pl
      exact ⟨o, e, hd⟩
    · refine ⟨⟨o, I.kIn p o hk, hc⟩, fun a e => ?_⟩
      cases e
      exact ⟨o, I.kIn _ o hk, hd⟩
    · have z : ∃ o, s.heap.get? p = some o ∧ o.ExactDict := by
        rcases hk with ⟨kvs, hk⟩ | ⟨kvs, hk⟩
        · obtain ⟨_, _, _, _, o, _, _, e, ex, _⟩ := I.hok p _ hk
          exact ⟨o, e, ex⟩
        · obtain ⟨_, _, _, _, o, _, _, e, ex, _⟩ := I.hok p _ hk
          exact ⟨o, e, ex⟩
      obtain ⟨o, e, ex⟩ := z
      refine ⟨⟨o, e, ex.1⟩, fun a e2 => ?_⟩
      cases e2
      exact ⟨o, e, ex.2.1⟩
    · obtain ⟨o, _, _, _, e, ex, _⟩ := I.hok p _ hk
      refine ⟨⟨o, e, ex.1⟩, fun a e2 => ?_⟩
      cases e2
      exact ⟨o, e, ex.2.1⟩
  | _ => exact False.elim ty
def tBM (K : PySem.W.Frag) (T : String) (r : V → List V → Hp → VK → Prop) (to : TE) (t : TA) : TE := fun σ H Q => to σ H fun x H1 => tyV K T x H1 ∧ t σ H1 fun xs H2 => r x xs H2 Q
variable {o e : Expr} {es : List Expr} {to : TE} {t : TA} {name : Str} {apos cpos : Pos} {T id : String} {r : V → List V → Hp → VK → Prop}
theorem pe_bm (pa : PlainAttrs T) (slot : Slot T name id) (hty : typeOf (.builtin id) = pure (.type "method_descriptor")) (hm : MtR X id r) (ho : PE X o to) (ha : PA X (e :: es) t)
    (hbase : attributeBase o name X.env (eval o X.env) = eval o X.env := by rfl)
    (hfew : ((backTo cpos (starEach (e :: es) X.env)).all (fun x => !x.1) && (backToKw cpos (keywordEach [] X.env)).all (fun x => x.1.isSome)
      && decide ((e :: es).length + ([] : List Keyword).length + (if ([] : List Keyword).isEmpty then 0 else 1) < 30)) = true := by rfl)
    (hline : (apos.endLine == cpos.line) = true := by rfl) (hs : starEach (e :: es) X.env = (false, eval e X.env) :: starEach es X.env := by rfl) (hplain : (backTo cpos (starEach es X.env)).any (·.1) = false := by rfl) :
    PE X (.Call (.Attribute o name apos) (e :: es) [] cpos) (tBM X.K T r to t) := by
  intro pins s σ H Q I h
  refine wpAny_Call_method_late hbase hfew hline rfl (thn (ho pins s σ H _ I h) fun v s1 ⟨x, H1, I1, r1, ty, q1⟩ => ?_)
  obtain ⟨h1, h2⟩ := tyV_is I1 r1 ty
  refine ⟨T, id, pa, slot, hty, h1, h2, ?_⟩
  have hA := ha cpos pins s1 σ H1 _ I1 q1
  rw [hs] at hA ⊢
  refine Calls.callWith_builtin (by show (false || (backTo cpos (starEach es X.env)).any (·.1)) = false; rw [hplain] <;> rfl) (Calls.evalArgs_plain ?_)
  exact thn hA fun us s2 ⟨vs, H2, I2, r2, q2⟩ => hm pins s2 σ H2 x vs v us Q I2 r1 r2 q2
/- xs.append(e), list.index on a module's tuple .. are MtR facts of 06m -/
end
end L2

namespace L2
open PySem PySem.Spec PyProof.Rows

def MtM (X : Cx) (id : String) (r : V → List V → Hp → VK → Prop) : Prop :=
  ∀ (pins : List (Addr × Obj)) (s : Shared) (σ : St) (H : Hp) (x : V) (xs : List V) (v : Value) (us : List Value) (Q : VK), Inv X pins σ H s → RelV x v → Vals xs us → r x xs H Q →
    wpAny (model X.prog X.w) X.A (call (.builtin id) (v :: us)) (EP X pins σ Q) X.xe s

theorem Vals.one : ∀ {x : V} {us : List Value}, Vals [x] us → ∃ u, us = [u] ∧ RelV x u
  | _, _, .cons r .nil => ⟨_, rfl, r⟩
theorem Vals.two : ∀ {x y : V} {us : List Value}, Vals [x, y] us → ∃ u v, us = [u, v] ∧ RelV x u ∧ RelV y v
  | _, _, _, .cons r (.cons q .nil) => ⟨_, _, rfl, r, q⟩
theorem Vals.rep {xs : List V} {us : List Value} (h : Vals xs us) : ∀ k : Nat, Vals (List.replicate k xs).flatten (List.replicate k us).flatten
  | 0 => .nil
  | k + 1 => by
    rw [List.replicate_succ, List.replicate_succ, List.flatten_cons, List.flatten_cons]
    exact Vals.append h (Vals.rep h k)
theorem foldl_rep (its : List Value) : ∀ (k : Nat) (acc : List Value),
    List.foldl (fun x1 x2 => x1 ++ x2) acc.toArray (List.replicate k its.toArray) = (acc ++ (List.replicate k its).flatten).toArray
  | 0, acc => by simp
  | k + 1, acc => by
    have e : acc.toArray ++ its.toArray = (acc ++ its).toArray := by simp
    have e2 : (acc ++ its) ++ (List.replicate k its).flatten = acc ++ (List.replicate (k + 1) its).flatten := by
      rw [List.replicate_succ, List.flatten_cons, List.append_assoc]
    rw [← e2, ← foldl_rep its k (acc ++ its), ← e, List.replicate_succ, List.foldl_cons]

section
variable {X : Cx} {pins : List (Addr × Obj)} {σ : St} {H : Hp} {s : Shared} {l b : Addr} {xs ys zs : List V}

theorem Inv.lset {its its' : List Value} {n : Nat} {f : Array Value → Array Value} {t' : Nat} (I : Inv X pins σ H s) (hH : H l = some (.lst xs))
    (e : s.heap.get? l = some { cls := .type "list", data := .seq its.toArray n }) (hf : f its.toArray = its'.toArray) (hv : Vals ys its') (hz : ys.length ≤ sizeLine) :
    Inv X pins σ (upd H l (.lst ys)) { s with heap := s.heap.update l (Obj.mapSeq f), toks := t' } := by
  have q := PySem.IsL.update e f
  rw [hf] at q
  refine I.write (x := l) (e := l) (by rw [hH]; exact trivial) (.inl rfl) (fun b' u hb hu => (Heap.get?_update_other s.heap (Obj.mapSeq f) (Ne.symm hb)).trans hu) ⟨_, q⟩ ?_
  exact ⟨hz, its', _, hv, q⟩
theorem Inv.lnew {its : List Value} {t' : Nat} (I : Inv X pins σ H s) (hv : Vals ys its) (hz : ys.length ≤ sizeLine) :
    Inv X pins σ (upd H s.heap.objs.size (.lst ys)) { s with heap := s.heap.push { cls := .type "list", data := .seq its.toArray }, toks := t' } :=
  I.laid (fun _ _ q => Heap.get?_push_of_some _ q) (Nat.le_refl _) ⟨hz, its, 0, hv, Heap.get?_push_size _ rfl⟩
theorem Inv.fresh (I : Inv X pins σ H s) : H s.heap.objs.size = none := I.hok.fresh (Nat.le_refl _)
theorem Inv.lstM (I : Inv X pins σ H s) (hH : H l = some (.lst xs)) : xs.length ≤ sizeLine ∧ ∃ (its : List Value) (n : Nat), Vals xs its ∧ xs.length = its.length ∧ s.heap.get? l = some { cls := .type "list", data := .seq its.toArray n } := by
  obtain ⟨z, its, n, r, e⟩ := I.hok l _ hH
  exact ⟨z, its, n, r, r.length, e⟩

theorem notLongL {n : Nat} (h : n ≤ sizeLine) : Builtin.List.listTooLong n = false := by
  unfold Builtin.List.listTooLong
  exact decide_eq_false (by (first | lia | omega))
end

section
variable {X : Cx}

inductive RAppendP (x : V) (vs : List V) (H : Hp) (Q : VK) : Prop
  | mk (l : _) (xs : _) (y : _) (h1 : x = .ref l) (h2 : vs = [y]) (h3 : H l = some (.lst xs)) (h4 : xs.length < sizeLine) (h5 : Q .non (upd H l (.lst (xs ++ [y])))) : RAppendP x vs H Q
def rAppend : V → List V → Hp → VK → Prop := fun x vs H Q => RAppendP  x vs H Q
theorem mt_append : MtM X "list.append" rAppend := by
  intro pins s σ H x vs v us Q I rx rv h
  obtain ⟨l, xs, y, rfl, rfl, hH, hz, q⟩ := h
  cases rx
  obtain ⟨u, rfl, ru⟩ := rv.one
  obtain ⟨z, its, n, r, hl, e⟩ := I.lstM hH
  refine call_meets F.slot_list_append ⟨_, e, rfl⟩ F.entry_list_append (F.args_list_append_2 _ _) (PySem.list_append l its.toArray n u (by rw [List.size_toArray]; (first | lia | omega))) ⟨e, ?_⟩
  refine ⟨.non, _, I.lset (its' := its ++ [u]) hH e (by simp) (r.append (.cons ru .nil)) ?_, rfl, q⟩
  rw [List.length_append, List.length_singleton]
  (first | lia | omega)

inductive RCatP (x : V) (y : V) (H : Hp) (Q : VK) : Prop
  | mk (l : _) (b : _) (xs : _) (zs : _) (h1 : x = .ref l) (h2 : y = .ref b) (h3 : H l = some (.lst xs)) (h4 : H b = some (.lst zs)) (h5 : xs.length + zs.length ≤ sizeLine) (h6 : ∀ p, H p = none → Q (.ref p) (upd H p (.lst (xs ++ zs)))) : RCatP x y H Q
def rCat : R2 := fun x y H Q => RCatP  x y H Q
theorem op_cat : OpR X (binaryOp .Add) rCat := by
  intro pins s σ H x y v u Q I rx ry h
  obtain ⟨l, b, xs, zs, rfl, rfl, hH, hB, hz, q⟩ := h
  cases rx
  cases ry
  obtain ⟨z, its, n, r, hl, e⟩ := I.lstM hH
  obtain ⟨z2, its2, n2, r2, hl2, e2⟩ := I.lstM hB
  refine PySem.P.add_list e e2 ?_ (by rw [List.size_toArray, List.size_toArray]; (first | lia | omega))
  have ea : its.toArray ++ its2.toArray = (its ++ its2).toArray := by simp
  rw [ea]
  exact ⟨.ref _, _, I.lnew (t' := s.toks) (r.append r2) (by rw [List.length_append]; (first | lia | omega)), rfl, q _ I.fresh⟩
inductive RRepP (x : V) (y : V) (H : Hp) (Q : VK) : Prop
  | mk (l : _) (k : _) (xs : _) (h1 : x = .ref l) (h2 : y = .int k) (h3 : H l = some (.lst xs)) (h4 : -(2 ^ 63) ≤ k) (h5 : k < 2 ^ 63) (h6 : xs.length * k.toNat ≤ sizeLine) (h7 : ∀ p, H p = none → Q (.ref p) (upd H p (.lst (List.replicate k.toNat xs).flatten))) : RRepP x y H Q
def rRep : R2 := fun x y H Q => RRepP  x y H Q
theorem len_rep {α : Type} (xs : List α) (k : Nat) : (List.replicate k xs).flatten.length = k * xs.length := by
  induction k with
  | zero => simp
  | succ k ih => rw [List.replicate_succ, List.flatten_cons, List.length_append, ih, Nat.succ_mul, Nat.add_comm]
theorem op_rep : OpR X (binaryOp .Mult) rRep := by
  intro pins s σ H x y v u Q I rx ry h
  obtain ⟨l, k, xs, rfl, rfl, hH, h1, h2, hz, q⟩ := h
  cases rx
  obtain ⟨t, rfl⟩ := ry
  obtain ⟨z, its, n, r, hl, e⟩ := I.lstM hH
  have hlen : its.toArray.size * k.toNat ≤ sizeLine := by rw [List.size_toArray, ← hl]; exact hz
  have hcap : ¬ its.toArray.size * k.toNat > (2 ^ 63 - 1) / 8 := by
    have : (sizeLine : Nat) ≤ (2 ^ 63 - 1) / 8 := by decide
    (first | lia | omega)
  have hfit : ¬ (!Builtin.List.listFitsIndex k) = true := by
    rw [fitsIndex_both h1 h2]
    exact Bool.false_ne_true
  have hlong : ¬ Builtin.List.listTooLong (its.toArray.size * k.toNat) = true := by
    rw [notLongL hlen]
    exact Bool.false_ne_true
  have hnew : List.foldl (fun x1 x2 => x1 ++ x2) #[] (List.replicate (if its.toArray.isEmpty = true then 0 else k.toNat) its.toArray) = (List.replicate k.toNat its).flatten.toArray := by
    have f0 : ∀ m : Nat, List.foldl (fun x1 x2 => x1 ++ x2) #[] (List.replicate m its.toArray) = (List.replicate m its).flatten.toArray := fun m => by
      have := foldl_rep its m []
      rw [List.nil_append] at this
      exact this
    rw [f0]
    cases its with
    | nil => simp
    | cons a r' => rw [if_neg (by simp)]
  refine wpAny_binaryOp_repeat_ref (T := "list") (U := "int") (by decide) ⟨_, e, rfl⟩ (fun s' => typeIs_int s' k t) noFill_list_mul F.fills_int_mul F.slot_int_rmul repeat_list F.slot_int_index.lookup
    (call_meets F.slot_int_rmul (typeIs_int s k t) F.entry_int_rmul (F.args_int_rmul_2 _ _) (int___rmul___int_list k t l its.toArray n)
      ⟨e, rfl, ⟨_, e, rfl⟩, call_meets F.slot_list_mul ⟨_, e, rfl⟩ F.entry_list_mul (F.args_list_mul_2 _ _) (AutoListH.list___mul___list_int_3 l its.toArray n k t hfit hcap hlong) ⟨e, ?_⟩⟩)
  rw [hnew]
  exact ⟨.ref _, _, I.lnew (t' := s.toks) (r.rep k.toNat) (by rw [len_rep, Nat.mul_comm]; exact hz), rfl, q _ I.fresh⟩

end

section
variable {prog : Program} {w : World} {A : Around} {E : Value → Shared → Prop} {s : Shared}
end

section
variable {X : Cx}
end
end L2

namespace Att
open PySem PySem.W PySem.Calls PyProof.Rows

theorem ints_of_wellAll {P : Params} {h : Heap} : ∀ (ns : List Int) (vs : List Value), WellAll P h vs (ns.map WData.int) → IntsAre vs ns := by
  intro ns
  induction ns with
  | nil =>
    intro vs w
    rw [List.map_nil] at w
    cases w
    exact .nil
  | cons n ns ih =>
    intro vs w
    rw [List.map_cons] at w
    cases w with
    | cons a b =>
      cases a
      exact .cons _ _ (ih _ b)

theorem script_of {l : OpenLaw} {n : Nat} (hn : l.most = some n) {P : Params} {h : Heap} {args : List WData} {vals : List Value}
    (hpre : l.row.toRowW.claim.pre args = true) (hwl : WellAll P h vals args) :
    ∃ a vs ns, vals = [Value.ref a] ∧ args = [WData.list (ns.map WData.int)] ∧ h.get? a = some { cls := .type "list", data := .seq vs.toArray } ∧ IntsAre vs ns ∧ ns.length ≤ n := by
  have hsh : WShape.hasAll [] args [.list .int] = true := (pre_splitW hpre).1
  have hc : l.pre.holds [] { args := args } = true := (pre_splitW hpre).2
  obtain ⟨d, r, rfl, h1, h2⟩ := hasAllW_cons hsh
  obtain rfl := hasAllW_nil h2
  obtain ⟨xs, rfl, h3⟩ := hasW_list h1
  obtain ⟨ns, rfl⟩ := items_int h3
  have hlen : ns.length ≤ n := by
    unfold OpenLaw.pre at hc
    have h4 : (WTm.not (.lt (.lit (.int (n : Int))) (.len (.arg 0)))).holds [] { args := [.list (ns.map .int)] } = true := by
      have h4 := (holds_andW hc).1
      rw [hn] at h4
      exact h4
    have h5 := condW_of h4 (w_not (w_lt w_lit (w_len_list (w_arg rfl))))
    rw [List.length_map] at h5
    refine Nat.le_of_not_lt fun q => ?_
    have q' : (n : Int) < ((ns.length : Nat) : Int) := by (first | lia | omega)
    first
      | (rw [decide_eq_true q'] at h5; exact absurd h5 (by decide))
      | (simp at h5; (first | lia | omega))
  cases hwl with
  | cons w1 w2 =>
    cases w2
    cases w1 with
    | list ho hall => exact ⟨_, _, ns, rfl, rfl, ho, ints_of_wellAll ns _ hall, hlen⟩

theorem post_true (l : OpenLaw) (args : List WData) : l.row.toRowW.claim.post args (.bool true) args = true :=
  postW_of (r := l.row.toRowW) (X := (true == true))
    (show WShape.has [] (.bool true) .bool = true by first | rfl | decide | simp [WShape.has, WShape.arms, WShape.armsAll])
    (show (WTm.eq .res (.lit (.bool true))).value [] { args := args, res := some (.bool true), after := args } = some (.bool (true == true)) from w_eq_bool (w_res rfl) w_lit) rfl

theorem attach_call {l : OpenLaw} {n : Nat} {q : Program} {loose : List Str} {XP : (Str → Option Value) → Heap → Prop} {YP : World → Heap → Prop} {d : DefRec}
    (hn : l.most = some n) (hdf : d.params.defaults = [])
    (call : ∀ (w : World) (s₀ s₁ : Shared) (mg mb : Str → Option Value) (fa : Addr) (o : Obj) (pm cd doc : Value) (a : Addr) (vs : List Value) (ns : List Int),
      Ground q loose [] XP w s₀ mg mb s₁.heap → YP w s₁.heap →
      s₁.heap.get? fa = some o → o.data = .func (docDef d.name d.params d.body d.scope pm cd doc) → s₁.heap.CodeRec cd d.name → mg d.name = some (.ref fa) →
      s₁.heap.get? a = some { cls := .type "list", data := .seq vs.toArray } → IntsAre vs ns → ns.length ≤ n → s₁.gens = #[] →
      codeAny (model l.prog w) callerA (.call (.ref fa) ⟨[.ref a], []⟩) (fun r s' => r = .ok (.ret (.bool true)) ∧ OldK s₁.heap s'.heap ∧ s'.os = s₁.os ∧ AllBare s'.gens) s₁) :
    WalkO q loose XP YP l.row.toRowW d [] (fun f vs => PySem.call f vs) := by
  intro w s₀ s₁ mg mb G Y fa o pm cd doc dV kV ho hd hcd hD hmg hg args vals as hpre hlay hrd hwl hlo
  obtain rfl : dV = .none := Dflts.none hD hdf
  obtain rfl : kV = .none := Dflts.noKw hD
  obtain ⟨a, vs, ns, rfl, rfl, hobj, hints, hlen⟩ := script_of hn hpre hwl
  refine enter_call (codeAny_mono (call w s₀ s₁ mg mb fa o pm cd doc a vs ns G Y ho (fd_plain hd) hcd hmg hobj hints hlen hg) fun r s' hq => ?_)
  obtain ⟨rfl, h2, h3, h4⟩ := hq
  exact ⟨.inl ⟨.bool true, .bool true, [], rfl, fun _ => rfl, .bool true, post_true l _, fun _ => ⟨List.Pairwise.nil, fun _ hm => (nomatch hm)⟩⟩, h2, h3, h4⟩

section
variable {prog : Program} {w : World} {A : Around} {E : Value → Shared → Prop} {s : Shared} {K : Frag}

def ledger (h : Heap) (L d : Addr) : List (Addr × Obj) := (List.range h.objs.size).filterMap fun a => if a = L ∨ a = d then none else (h.get? a).map fun o => (a, o)
end
end Att

namespace L2
open PySem PySem.Spec PyProof.Rows

theorem vals_ints : ∀ {vs : List Value} {ns : List Int}, IntsAre vs ns → Vals (ns.map V.int) vs
  | _, _, .nil => .nil
  | _, _, .cons n t h => .cons ⟨t, rfl⟩ (vals_ints h)

def Only (H : Hp) : Prop := ∀ b, H b = none ∨ ∃ o xs, H b = some (.frz o (.lst xs))

theorem law_call {P : Program} {w : World} {K : PySem.W.Frag} {mg mb : Str → Option Value} {CX : CXT} {k : Nat} {fa a : Addr} {fd : FuncData} {x : Str} {sp : Sp} {s₁ : Shared} {vs : List Value} {ns : List Int}
    (KX : K.In s₁.heap) (hns : s₁.heap.Ns mainGlobals mg) (hb : s₁.heap.Ns builtinsNs mb) (hbb : ∀ x : Str, x ≠ "__name__" → mb x = bootBuiltins x) (hlim : s₁.heap.NoLimit) (hg : s₁.gens = #[])
    (ha : s₁.heap.get? a = some { cls := .type "list", data := .seq vs.toArray }) (hi : IntsAre vs ns) (hl : ns.length ≤ sizeLine) (hr : Room k callerA)
    (F : ∀ base : Heap, K.In base → base.Ns mainGlobals mg → FnOk P w K mg base CX k fa fd [x] sp) (hbind : ∀ (s : Shared) (u : Value), BindsTo s fd ⟨[u], []⟩ [(x, u)])
    (hsp : ∀ H : Hp, Only H → SqL K H a (ns.map V.int) → sp [.ref a] H (fun v _ => v = .bl true) fun _ _ _ => False)
    (hCX : ∀ H e s', CX [] H s₁ (fun _ _ _ => False) e s' → False) :
    codeAny (model P w) callerA (.call (.ref fa) ⟨[.ref a], []⟩) (fun r s' => r = .ok (.ret (.bool true)) ∧ OldK s₁.heap s'.heap ∧ s'.os = s₁.os ∧ AllBare s'.gens) s₁ := by
  have rv := vals_ints hi
  have lenV := hi.length
  -- from an abstract heap in which nothing but the script may be tracked
  have core : ∀ H : Hp, Only H → SqL K H a (ns.map V.int) → HOk P w H s₁.heap → (∀ b, H b ≠ none → b = a) → (H a ≠ none → K.lookup a = none) →
      codeAny (model P w) callerA (.call (.ref fa) ⟨[.ref a], []⟩) (fun r s' => r = .ok (.ret (.bool true)) ∧ OldK s₁.heap s'.heap ∧ s'.os = s₁.os ∧ AllBare s'.gens) s₁ := by
    intro H hO hS hok hA hK
    have base_of : ∀ {b : Addr} {o : Obj}, s₁.heap.get? b = some o → H b = none → (hidT s₁.heap H).get? b = some o := fun e n => hidT_get e n
    have noA : ∀ {b : Addr} {o : Obj} {es : Array DictEntry} {ep : Nat}, s₁.heap.get? b = some o → o.data = .dict es ep → H b = none := fun {b o es ep} e d => by
      cases q : H b with
      | none => rfl
      | some u =>
        have e' : b = a := hA b (by rw [q]; simp)
        subst e'
        rw [ha] at e; cases e
        have d' : Data.seq vs.toArray _ = Data.dict es ep := d
        cases d'
    have nsK : ∀ {b : Addr} {m : Str → Option Value}, s₁.heap.Ns b m → (hidT s₁.heap H).Ns b m := fun {b m} ⟨o, es, ep, e, d, r⟩ => ⟨o, es, ep, base_of e (noA e d), d, r⟩
    have hKb : K.In (hidT s₁.heap H) := fun b o e => base_of (KX b o e) (by
      cases q : H b with
      | none => rfl
      | some u =>
        have e' : b = a := hA b (by rw [q]; simp)
        subst e'
        rw [hK (by rw [q]; simp)] at e; cases e)
    have hM : Mod K mg (hidT s₁.heap H) := ⟨hKb, nsK hns, ⟨mb, nsK hb, hbb⟩, let ⟨mc, h1, h2⟩ := hlim; ⟨mc, nsK h1, h2⟩⟩
    have e0 : Env0 P w K mg (hidT s₁.heap H) callerA [] s₁ H := ⟨rfl, hM, fun b o e => of_hidT e, Nat.le_of_eq (hidT_size _ _), trivial, fun b hb => absurd (show b ∈ ([] : List Addr) from hb) (by simp), hok, .of_eq hg⟩
    refine codeAny_mono ((F _ hKb (nsK hns)).run callerA [] s₁ H ⟨[.ref a], []⟩ [.ref a] [.ref a] _ _ hr e0 (hbind s₁ (.ref a)) (.cons rfl .nil) (hsp H hO hS)) fun r s' h => ?_
    cases r with
    | error e => exact (hCX H e s' h).elim
    | ok fl =>
      cases fl with
      | next => exact False.elim h
      | brk => exact False.elim h
      | cont => exact False.elim h
      | ret u =>
        obtain ⟨v, H', os, bare, un, hok', r', q⟩ := h
        have q' : v = .bl true := q
        subst q'
        obtain rfl : u = Value.bool true := r'
        refine ⟨rfl, OldK.of_keep fun b o e => ?_, os, bare⟩
        cases q : H b with
        | none => exact un.keep b o e q (by intro z; exact absurd (show b ∈ ([] : List Addr) from z) (by simp)) (by simp)
        | some u =>
          rcases hO b with z | ⟨ob, xs, z⟩
          · rw [q] at z; cases z
          · have z2 := un.frzs b ob _ z
            obtain ⟨e1, _⟩ := hok b _ z
            obtain ⟨e2, _⟩ := hok' b _ z2
            rw [e] at e1; cases e1
            exact e2
  cases hk : K.lookup a with
  | some o =>
    -- the script is one of the module's own objects
    have e := KX a o hk
    rw [ha] at e
    cases e
    refine core (fun _ => none) (fun _ => .inl rfl) (.inr ⟨_, vs.toArray, _, hk, rfl, rfl, rfl, by rw [List.size_toArray, lenV]; exact hl, by simpa using rv⟩) (fun b u z => by have z' : (none : Option HO) = some u := z; cases z') (fun b z => absurd rfl z) fun z => absurd rfl z
  | none =>
    refine core (fun b => if b = a then some (.frz { cls := .type "list", data := .seq vs.toArray } (.lst (ns.map V.int))) else none) (fun b => ?_) (.inl (.inr ⟨{ cls := .type "list", data := .seq vs.toArray }, if_pos rfl⟩)) (fun b u z => ?_) (fun b z => ?_) fun _ => hk
    · by_cases hb : b = a
      · exact .inr ⟨_, _, if_pos hb⟩
      · exact .inl (if_neg hb)
    · by_cases hb : b = a
      · have z' := (if_pos hb).symm.trans z
        cases z'
        subst hb
        exact ⟨ha, by rw [List.length_map]; exact hl, vs, _, rv, ha⟩
      · have z' := (if_neg hb).symm.trans z
        cases z'
    · by_cases hb : b = a
      · exact hb
      · exact absurd (if_neg hb) z
end L2

namespace L2
open PySem PySem.Spec PyProof.Rows

theorem walk_of {l : PySem.W.OpenLaw} {n k : Nat} {q : Program} {loose : List Str} {XP : (Str → Option Value) → Heap → Prop} {YP : World → Heap → Prop} {d : DefRec} {K : Params → PySem.W.Frag} {CX : World → CXT} {sp : World → Sp} {x : Str}
    (hn : l.most = some n) (hn2 : n ≤ sizeLine) (hdf : d.params.defaults = []) (hr : Room k callerA)
    (hY : ∀ (w : World) (h : Heap), YP w h → (K w.params).In h)
    (F : ∀ (w : World) (mg : Str → Option Value) (fa : Addr) (h : Heap), (K w.params).In h → h.Ns mainGlobals mg → mg d.name = some (.ref fa) →
      ∃ fd : FuncData, (∀ (s : Shared) (u : Value), BindsTo s fd ⟨[u], []⟩ [(x, u)]) ∧
        ∀ base : Heap, (K w.params).In base → base.Ns mainGlobals mg → FnOk l.prog w (K w.params) mg base (CX w) k fa fd [x] (sp w))
    (hsp : ∀ (w : World) (H : Hp) (a : Addr) (ns : List Int), ns.length ≤ n → Only H → SqL (K w.params) H a (ns.map V.int) → sp w [.ref a] H (fun v _ => v = .bl true) fun _ _ _ => False)
    (hCX : ∀ (w : World) (H : Hp) (s : Shared) (e : Value) (s' : Shared), CX w [] H s (fun _ _ _ => False) e s' → False) :
    PySem.W.WalkO q loose XP YP l.row.toRowW d [] (fun f vs => PySem.call f vs) := by
  refine Att.attach_call hn hdf fun w s₀ s₁ mg mb fa o pm cd doc a vs ns G Y ho hd hcd hmg hobj hints hlen hg => ?_
  have KX := hY w _ Y
  obtain ⟨fd, hb, hF⟩ := F w mg fa _ KX G.T.g hmg
  exact law_call KX G.T.g G.T.b G.T.builtins G.T.nolimit hg hobj hints (Nat.le_trans hlen hn2) hr hF hb (fun H hO hS => hsp w H a ns hlen hO hS) fun H e s' => hCX w H s₁ e s'
end L2

namespace L2
open PySem PySem.Spec PyProof.Rows

def defArgs (s : Stmt) : Arguments := match s with
  | .FunctionDef _ a _ _ _ _ _ _ _ _ => a
  | _ => { posonlyargs := [], args := [], vararg := none, kwonlyargs := [], kw_defaults := [], kwarg := none, defaults := [] }
def defBody (s : Stmt) : List Stmt := match s with
  | .FunctionDef _ _ b _ _ _ _ _ _ _ => b
  | _ => []
def defScope (s : Stmt) : Scope := match s with
  | .FunctionDef _ _ _ _ _ _ sc _ _ _ => sc
  | _ => { kind := .function, names := [], isGenerator := false, isCoroutine := false }

abbrev CX0 : CXT := fun _ _ _ _ _ _ => False
abbrev E0 : XK := fun _ _ _ => False
theorem pass0 {X : Cx} : Passes CX0 X E0 := fun _ _ _ _ _ _ _ h => h.elim

structure Fun (K : PySem.W.Frag) (x qual : Str) (st : Stmt) (f : Addr) (fd : FuncData) : Prop where
  ex : ∃ (oc : Value) (od : Option Addr) (kV doc pm : Value) (an : Option Addr) (cdv ct : Value) (osl : Array (Option Value)),
    fd = PySem.W.fnOf x qual (defArgs st) (defBody st) (defScope st) .none kV doc pm an cdv ct ∧ K.lookup f = some ⟨oc, od, .func fd, osl⟩ ∧ PySem.W.codeIn K cdv qual = true
  kp : PySem.W.keepIn K (.ref f) = true
section
variable {P : Program} {w : World} {K : PySem.W.Frag} {mg : Str → Option Value} {base : Heap}
theorem Fun.ok {x qual : Str} {st : Stmt} {f : Addr} {fd : FuncData} {N ps : List Str} {k : Nat} {sp : Sp} (F : Fun K x qual st f fd) (S : FnScope N ps (defScope st)) (len : ∀ vs H Q E, sp vs H Q E → vs.length = ps.length)
    (hbody : ∀ (cdv : Value) (A : Around) (outer : List Env) (s : Shared) (H : Hp) (vs : List V) (Q : VK) (E : XK), Room k (A.deeper (envOfC qual (defScope st) s.heap.objs.size f cdv)) → sp vs H Q E →
      ∃ t, PSs (cxOf CX0 P w K mg base N qual (defScope st) f cdv A outer s H E).nox (defBody st) t ∧ t { nx := fun _ H' => Q .non H', rt := Q } (start N vs) H) : FnOk P w K mg base CX0 (k + 1) f fd ps sp := by
  obtain ⟨oc, od, kV, doc, pm, an, cdv, ct, osl, rfl, lk, hcd⟩ := F.ex
  refine fn_of lk hcd S len fun A outer s H vs Q E hr hsp => ?_
  obtain ⟨t, h, q⟩ := hbody cdv A outer s H vs Q E hr hsp
  exact ⟨t, h.nox, q⟩
theorem Fun.binds {x qual : Str} {st : Stmt} {f : Addr} {fd : FuncData} {ps : List Str} (F : Fun K x qual st f fd)
    (h : ∀ (kV doc pm : Value) (an : Option Addr) (cdv ct : Value) (us : List Value), us.length = ps.length → bindArgs (PySem.W.fnOf x qual (defArgs st) (defBody st) (defScope st) .none kV doc pm an cdv ct) ⟨us, []⟩ = pure (ps.zip us)) : Binds K fd ps [] := by
  obtain ⟨oc, od, kV, doc, pm, an, cdv, ct, osl, rfl, lk, hcd⟩ := F.ex
  exact .all (h kV doc pm an cdv ct)
theorem fun_mk {x qual : Str} {st : Stmt} {f : Addr} {oc : Value} {od an : Option Addr} {osl : Array (Option Value)} {kV doc pm cdv ct : Value} (l : K.lookup f = some ⟨oc, od, .func (PySem.W.fnOf x qual (defArgs st) (defBody st) (defScope st) .none kV doc pm an cdv ct), osl⟩)
    (c : PySem.W.codeIn K cdv qual = true) (k : PySem.W.keepIn K (.ref f) = true) : Fun K x qual st f (PySem.W.fnOf x qual (defArgs st) (defBody st) (defScope st) .none kV doc pm an cdv ct) := ⟨⟨oc, od, kV, doc, pm, an, cdv, ct, osl, rfl, l, c⟩, k⟩
end
theorem small1000 {n : Nat} (h : n ≤ 1000) : n < sizeLine := Nat.lt_of_le_of_lt h (by decide)

section
variable {X : Cx}
theorem pv (i : Nat) {x : Str} {pos : Pos} (hN : X.N[i]? = some x := by rfl) (hv : Vis X.env.scope x := by first | exact Or.inl rfl | exact Or.inr (Or.inl rfl) | exact Or.inr (Or.inr rfl)) (hd : (x == ("__debug__" : Str)) = false := by decide)
    (hcd : (x == ("__classdict__" : Str)) = false := by decide) : PE X (.Name x pos) (tVar i) := pe_var hN hv hd hcd
end

theorem ite2 {c A B : Prop} [Decidable c] (h1 : c → A) (h2 : ¬ c → B) : if c then A else B := by
  by_cases h : c
  · rw [if_pos h]
    exact h1 h
  · rw [if_neg h]
    exact h2 h
def Same (H H' : Hp) : Prop := ∀ b o, H b = some o → H' b = some o
theorem Same.refl (H : Hp) : Same H H := fun _ _ h => h
theorem Same.trans {H H1 H2 : Hp} (a : Same H H1) (b : Same H1 H2) : Same H H2 := fun c o h => b c o (a c o h)
theorem Same.free {H H' : Hp} (e : Same H H') {l : Addr} (h : H' l = Option.none) : H l = Option.none := by
  cases q : H l with
  | none => rfl
  | some o =>
    rw [e l o q] at h
    cases h
theorem Same.seq {K : PySem.W.Frag} {H H' : Hp} {a : Addr} {xs : List V} (e : Same H H') (h : SqL K H a xs) : SqL K H' a xs := by
  rcases h with (h | ⟨o, h⟩) | h
  · exact .inl (.inl (e _ _ h))
  · exact .inl (.inr ⟨o, e _ _ h⟩)
  · exact .inr h

end L2

namespace L2
open PySem PySem.Spec PyProof.Rows

def clo (env : Env) : List (Str × NameKind) → List (Str × Addr) → List (Str × Addr)
  | [], acc => acc
  | (n, k) :: r, acc => if k == .free then clo env r ((n, (env.cells.lookup n).getD 0) :: acc) else clo env r acc
theorem clo_run {env : Env} {f : Str × NameKind → List (Str × Addr) → Sem (ForInStep (List (Str × Addr)))}
    (hf : ∀ n k acc, f (n, k) acc = if k == .free then (do let a ← cellOf env n; pure (ForInStep.yield ((n, a) :: acc))) else pure (ForInStep.yield acc)) :
    ∀ (names : List (Str × NameKind)) (acc : List (Str × Addr)), (∀ p ∈ names, p.2 = .free → ∃ a, env.cells.lookup p.1 = some a) →
    (forIn names acc f : Sem (List (Str × Addr))) = pure (clo env names acc)
  | [], acc, _ => rfl
  | (n, k) :: r, acc, h => by
    rw [List.forIn_cons, hf]
    unfold clo
    by_cases hk : (k == NameKind.free) = true
    · rw [if_pos hk, if_pos hk]
      obtain ⟨a, ha⟩ := h (n, k) List.mem_cons_self (by simpa using hk)
      have e : cellOf env n = pure a := by
        unfold cellOf
        rw [show env.cells.lookup n = some a from ha]
      rw [e, show env.cells.lookup n = some a from ha]
      simp only [pure_bind]
      exact clo_run hf r _ fun p hp => h p (List.mem_cons_of_mem _ hp)
    · rw [if_neg hk, if_neg hk, pure_bind]
      exact clo_run hf r _ fun p hp => h p (List.mem_cons_of_mem _ hp)
theorem closureFor_clo {env : Env} {scope : Scope} (h : ∀ p ∈ scope.names, p.2 = .free → ∃ a, env.cells.lookup p.1 = some a) : closureFor scope env = pure (clo env scope.names []) := by
  simp only [closureFor]
  rw [clo_run (env := env) (fun n k acc => ?_) scope.names [] h]
  · rfl
  · by_cases hk : (k == NameKind.free) = true
    · simp only [hk, if_true]
    · simp only [hk, if_false]
theorem clo_mem {env : Env} : ∀ {names : List (Str × NameKind)} {acc : List (Str × Addr)}, (∀ p ∈ names, p.2 = .free → ∃ a, env.cells.lookup p.1 = some a) → ∀ p ∈ clo env names acc, p ∈ acc ∨ (env.cells.lookup p.1 = some p.2)
  | [], acc, _, p, hp => .inl hp
  | (n, k) :: r, acc, h, p, hp => by
    unfold clo at hp
    have hr : ∀ p ∈ r, p.2 = .free → ∃ a, env.cells.lookup p.1 = some a := fun p hp => h p (List.mem_cons_of_mem _ hp)
    by_cases hk : (k == NameKind.free) = true
    · rw [if_pos hk] at hp
      obtain ⟨a, ha⟩ := h (n, k) List.mem_cons_self (by simpa using hk)
      rcases clo_mem hr p hp with q | q
      · rcases List.mem_cons.mp q with q | q
        · subst q
          right
          show env.cells.lookup n = some ((env.cells.lookup n).getD 0)
          rw [show env.cells.lookup n = some a from ha]; rfl
        · exact .inl q
      · exact .inr q
    · rw [if_neg hk] at hp
      exact clo_mem hr p hp
theorem clo_acc {env : Env} : ∀ {names : List (Str × NameKind)} {acc : List (Str × Addr)}, ∀ p ∈ acc, p ∈ clo env names acc
  | [], acc, p, hp => hp
  | (n, k) :: r, acc, p, hp => by
    unfold clo
    by_cases hk : (k == NameKind.free) = true
    · rw [if_pos hk]; exact clo_acc p (List.mem_cons_of_mem _ hp)
    · rw [if_neg hk]; exact clo_acc p hp
theorem clo_has {env : Env} : ∀ {names : List (Str × NameKind)} {acc : List (Str × Addr)} {x : Str}, (x, NameKind.free) ∈ names → ∃ a, (x, a) ∈ clo env names acc
  | [], _, _, h => by cases h
  | (n, k) :: r, acc, x, h => by
    unfold clo
    rcases List.mem_cons.mp h with q | q
    · cases q
      rw [if_pos (show (NameKind.free == NameKind.free) = true from rfl)]
      exact ⟨_, clo_acc _ List.mem_cons_self⟩
    · by_cases hk : (k == NameKind.free) = true
      · rw [if_pos hk]; exact clo_has q
      · rw [if_neg hk]; exact clo_has q
theorem look_of_mem {β : Type} : ∀ {l : List (Str × β)} {x : Str} {b : β}, (x, b) ∈ l → ∃ b', l.lookup x = some b'
  | [], _, _, h => by cases h
  | (n, k) :: r, x, b, h => by
    rw [List.lookup_cons]
    cases hx : x == n with
    | true => exact ⟨k, rfl⟩
    | false =>
      rcases List.mem_cons.mp h with q | q
      · cases q; simp at hx
      · exact look_of_mem q
theorem mem_of_look {β : Type} : ∀ {l : List (Str × β)} {x : Str} {b : β}, l.lookup x = some b → (x, b) ∈ l
  | [], _, _, h => by simp at h
  | (n, k) :: r, x, b, h => by
    rw [List.lookup_cons] at h
    cases hx : x == n with
    | true =>
      rw [hx] at h
      have : x = n := by simpa using hx
      subst this
      cases h
      exact List.mem_cons_self
    | false =>
      rw [hx] at h
      exact List.mem_cons_of_mem _ (mem_of_look h)

theorem relabel_lookup {env : Env} {x : Str} : ∀ (names : List (Str × NameKind)),
    (names.map fun (p : Str × NameKind) => match p with | (n, k) => if (k == .free && env.scope.kind == .function && env.kindOf n == some .cell) then (n, NameKind.cell) else (n, k)).lookup x =
      (names.lookup x).map fun k => if (k == .free && env.scope.kind == .function && env.kindOf x == some .cell) then NameKind.cell else k
  | [] => rfl
  | (n, k) :: r => by
    have ih := @relabel_lookup env x r
    rw [List.map_cons]
    show List.lookup x ((if (k == NameKind.free && env.scope.kind == .function && env.kindOf n == some .cell) = true then (n, NameKind.cell) else (n, k)) :: _) = _
    cases hx : x == n with
    | true =>
      have e : x = n := by simpa using hx
      subst e
      by_cases hc : (k == NameKind.free && env.scope.kind == .function && env.kindOf x == some .cell) = true
      · rw [if_pos hc]; simp only [List.lookup_cons, hx, Option.map_some, if_pos hc]
      · rw [if_neg hc]; simp only [List.lookup_cons, hx, Option.map_some, if_neg hc]
    | false =>
      by_cases hc : (k == NameKind.free && env.scope.kind == .function && env.kindOf n == some .cell) = true
      · rw [if_pos hc]; simp only [List.lookup_cons, hx]; exact ih
      · rw [if_neg hc]; simp only [List.lookup_cons, hx]; exact ih
theorem relabel_names {env : Env} {scope : Scope} {x : Str} : (relabel scope env).names.lookup x = (scope.names.lookup x).map fun k => if (k == .free && env.scope.kind == .function && env.kindOf x == some .cell) then NameKind.cell else k :=
  relabel_lookup scope.names

def cxComp (X : Cx) (N' : List Str) (scope : Scope) (cl : List (Str × Addr)) (C : Addr) (s : Shared) (H : Hp) (fp : List Addr) (pn : List (Addr × Obj)) : Cx :=
  { X with N := N', s₀ := s, H₀ := H, env := compEnvC scope cl C X.env, outer := X.stack, stack := X.stack, ex := fp, fn := fun _ => false, pn := pn, xe := fun _ _ => False }

def Wk : St → St → Prop
  | [], [] => True
  | a :: r, b :: q => (a = none ∨ a = b) ∧ Wk r q
  | _, _ => False
theorem Wk.len : ∀ {a b : St}, Wk a b → a.length = b.length
  | [], [], _ => rfl
  | _ :: _, _ :: _, h => by simp [Wk.len h.2]
  | [], _ :: _, h => False.elim h
  | _ :: _, [], h => False.elim h
theorem Wk.get : ∀ {a b : St}, Wk a b → ∀ (i : Nat) v, a[i]? = some (some v) → b[i]? = some (some v)
  | [], [], _, i, v, h => by simp at h
  | x :: r, y :: q, h, 0, v, e => by
    simp at e
    rcases h.1 with z | z
    · rw [z] at e; cases e
    · simp [← z, e]
  | x :: r, y :: q, h, i + 1, v, e => by
    simp at e ⊢
    exact Wk.get h.2 i v e
  | [], _ :: _, h, _, _, _ => False.elim h
  | _ :: _, [], h, _, _, _ => False.elim h

def stC (own : Nat) (caps : List Nat) (σ : St) : St := List.replicate own none ++ caps.map fun j => (σ[j]?).join

def PTs (X : Cx) (ifs : List Expr) (t : TT) : Prop :=
  ∀ (pins : List (Addr × Obj)) (s : Shared) (σ : St) (H : Hp) (Q : Bool → Hp → Prop), Inv X pins σ H s → t σ H Q →
    wpAny (model X.prog X.w) X.A (forIn ifs true fun c r => if r = true then do let ok ← isTrue c X.env (eval c X.env); pure (ForInStep.yield ok) else pure (ForInStep.yield r)) (TP X pins σ Q) X.xe s
def tTru : TT := fun _ H Q => Q true H
theorem tru_if {σ : St} {H : Hp} {A B : Hp → Prop} (h : A H) : tTru σ H (fun b H3 => if b = true then A H3 else B H3) := by
  show if true = true then A H else B H
  rw [if_pos rfl]
  exact h
theorem pts_nil {X : Cx} : PTs X [] tTru := fun _ _ _ H _ I h => wpAny_tests_nil ⟨H, I, h⟩
theorem compLoop_go {prog : Program} {w : World} {A : Around} {R : Result → Shared → Prop} {s : Shared} {elt target iter : Expr} {ifs : List Expr} {scope : Scope} {pos : Pos} {it acc : Value} {env : Env} (I : Nat → Shared → Prop)
    (turn : ∀ n s, I n s → wpAny (model prog w) A (pyNext it) (fun r s₁ => match r with
      | none => R (.ok .next) s₁
      | some v => wpAny (model prog w) A (letOwnedTupleGo target it v) (fun _ s₁' => wpAny (model prog w) A (assign target env v) (fun _ s₂ =>
          wpAny (model prog w) A (forIn ifs true fun c r => if r = true then do let ok ← isTrue c env (eval c env); pure (ForInStep.yield ok) else pure (ForInStep.yield r)) (fun ok s₃ =>
            if ok = true then wpAny (model prog w) A (eval elt env) (fun x s₄ =>
              wpAny (model prog w) A (call (.builtin "list.append") [acc, x]) (fun _ s₅ => ∃ m, m < n ∧ I m s₅) (fun _ _ => False) s₄) (fun _ _ => False) s₃
            else ∃ m, m < n ∧ I m s₃) (fun _ _ => False) s₂) (fun _ _ => False) s₁') (fun _ _ => False) s₁) (fun _ _ => False) s)
    (n : Nat) (h : I n s) :
    codeAny (model prog w) A (.compLoop (.ListComp elt [⟨target, iter, ifs, 0⟩] scope pos) 0 it acc env) R s := by
  refine codeAny_loop rfl I (fun n s hI => ?_) n h
  show wpAny _ A ((compTurn (.ListComp elt [⟨target, iter, ifs, 0⟩] scope pos) 0 it acc env).onRaise (fun x => do noteFrame x env; theTreesLotGoes x)) _ _ s
  refine wpAny_noted ?_
  rw [compTurn_list]
  refine wpAny_bind (wpAny_standAt (wpAny_bind (wpAny_mono (turn n s hI) (fun r s₁ h₁ => ?_) fun _ _ h' => False.elim h')))
  cases r with
  | none => exact wpAny_pure h₁
  | some v =>
    refine wpAny_bind (wpAny_mono h₁ (fun _ s₁' h₁' => ?_) fun _ _ h' => False.elim h')
    refine wpAny_bind (wpAny_mono h₁' (fun _ s₂ h₂ => wpAny_bind (wpAny_mono h₂ (fun ok s₃ h₃ => ?_) fun _ _ h' => False.elim h')) fun _ _ h' => False.elim h')
    cases ok with
    | false => exact wpAny_pure ⟨rfl, h₃⟩
    | true =>
      exact wpAny_bind (wpAny_bind (wpAny_mono h₃ (fun x s₄ h₄ => wpAny_bind (wpAny_mono h₄ (fun _ s₅ h₅ => wpAny_pure (wpAny_pure ⟨rfl, h₅⟩)) fun _ _ h' => False.elim h')) fun _ _ h' => False.elim h'))

def tComp (wi : TI) (own : Nat) (caps : List Nat) (g : TG) (tt : TT) (te : TE) : TE := fun σ H Q => wi σ H fun J H1 => ∀ l, H1 l = none → ∃ W : Nat → Nat → List V → Hp → Prop, (∃ m, W 0 m [] (upd H1 l (.lst []))) ∧
  ∀ i m ys H, W i m ys H → H l = some (.lst ys) ∧ ((J.stop i H ∧ Q (.ref l) H) ∨ (J.go i H ∧ ys.length < sizeLine ∧ ∃ N : List V → Hp → Prop, (∀ ys' H', N ys' H' → ∃ m', m' < m ∧ W (i + 1) m' ys' H') ∧
    ∀ x H', J.yld i H x H' → g x (stC own caps σ) H' fun σ2 H2 => Wk (stC own caps σ) σ2 ∧
    tt σ2 H2 fun b H3 => if b = true then te σ2 H3 fun y H4 => H4 l = some (.lst ys) ∧ N (ys ++ [y]) (upd H4 l (.lst (ys ++ [y]))) else N ys H3))

section
variable {X : Cx} {tg elt iter : Expr} {ifs : List Expr} {scope : Scope} {pos : Pos} {wi : TI} {g : TG} {tt : TT} {te : TE} {ownN : List Str} {caps : List (Str × Nat)}
theorem inv_comp {pins : List (Addr × Obj)} {σ : St} {H : Hp} {s : Shared} {fp : List Addr} {h₁ : Heap}
    (I : Inv X pins σ H s) (hf : ∀ b ∈ fp, FpOk X pins H b) (hfl : ∀ b ∈ fp, b < s.heap.objs.size)
    (hkind : scope.kind = .function) (hcell : ∀ y ∈ scope.names, y.2 ≠ .cell)
    (hfree : ∀ p ∈ scope.names, p.2 = .free → X.env.scope.names.lookup p.1 = some .cell)
    (hcaps : ∀ c ∈ caps, X.N[c.2]? = some c.1 ∧ X.env.scope.names.lookup c.1 = some .cell ∧ scope.names.lookup c.1 = some .free)
    (hn : h₁.Ns s.heap.objs.size (fun _ => none)) (hk : ∀ b o, s.heap.get? b = some o → h₁.get? b = some o) {tk : Nat} :
    Inv (cxComp X (ownN ++ caps.map (·.1)) scope (clo X.env scope.names []) s.heap.objs.size s H fp (X.pn ++ pins)) [] (stC ownN.length (caps.map (·.2)) σ) H { s with heap := h₁, toks := tk } := by
  have has : ∀ p ∈ scope.names, p.2 = .free → ∃ a, X.env.cells.lookup p.1 = some a := fun p hp hfr => I.ok.has p.1 (.inl (hfree p hp hfr))
  have cmem : ∀ {x : Str} {c : Addr}, (clo X.env scope.names []).lookup x = some c → X.env.cells.lookup x = some c := fun {x c} e => by
    rcases clo_mem has _ (mem_of_look e) with q | q
    · cases q
    · exact q
  have clt : ∀ {x : Str} {c : Addr}, X.env.cells.lookup x = some c → c < s.heap.objs.size := fun {x c} e => by
    obtain ⟨v, q⟩ := I.cell x c e
    exact q.lt
  refine ⟨⟨I.ok.mod, ?_, I.ok.glob, I.ok.blt, Nat.le_refl _, fun x y c h1 h2 => I.ok.inj x y c (cmem h1) (cmem h2), fun x hx => ?_, fun x c h => (by cases h), I.ok.hd, I.ok.frames, .inl rfl, fun b hb => ⟨Nat.ne_of_lt (hfl b hb), fun x c e => (hf b hb).2.2.2.2.1 x c (cmem e)⟩,
    fun b o e => I.bs b o e, Nat.le_trans I.ok.bsz I.sz, fun b o e z => ?_, fun b hb z => ?_, I.stack, I.stkFree⟩, rfl, I.bare, Un.kept hk, ⟨_, hn, fun i x v h1 h2 h3 => ?_⟩, fun x c e => ?_, I.hok.fresh (Nat.le_refl _), fun x c e => I.freeC x c (cmem e), fun p hp => ?_, I.hok.kept hk, ?_⟩
  · show (relabel scope X.env).kind = .function
    exact hkind
  · -- a cell for each free name
    have e0 : (relabel scope X.env).names.lookup x = some .cell ∨ (relabel scope X.env).names.lookup x = some .free := hx
    rw [relabel_names] at e0
    have e1 : scope.names.lookup x = some .free := by
      cases q : scope.names.lookup x with
      | none => rw [q] at e0; simp at e0
      | some k =>
        have hk' := hcell _ (mem_of_look q)
        rw [q] at e0
        cases k with
        | free => rfl
        | cell => exact absurd rfl hk'
        | _ => simp at e0
    obtain ⟨a, ha⟩ := clo_has (env := X.env) (acc := []) (mem_of_look e1)
    exact look_of_mem ha
  · -- the base has no iterator of ours
    rcases (hf b z).2.2.2.1 with q | q
    · exact I.ok.noex b o e q
    · exact absurd (Nat.lt_of_lt_of_le (Heap.lt_size e) (Nat.le_trans I.ok.bsz q)) (Nat.lt_irrefl _)
  · rcases List.mem_cons.mp (I.stkSub b z) with q | q
    · exact (hf b hb).2.1 q
    · exact (hf b hb).2.2.1 q
  · -- captured names
    have hi : ownN.length ≤ i := by
      unfold stC at h2
      by_cases hi : ownN.length ≤ i
      · exact hi
      · rw [List.getElem?_append_left (by simp; (first | lia | omega)), List.getElem?_replicate] at h2
        split at h2 <;> cases h2
    have h1' : (ownN ++ caps.map (·.1))[i]? = some x := h1
    unfold stC at h2
    rw [List.getElem?_append_right (by simp; (first | lia | omega)), List.length_replicate, List.getElem?_map, List.getElem?_map] at h2
    rw [List.getElem?_append_right hi, List.getElem?_map] at h1'
    cases hc : caps[i - ownN.length]? with
    | none => rw [hc] at h1'; cases h1'
    | some c =>
      rw [hc] at h1' h2
      have ex : c.1 = x := Option.some.inj h1'
      have ev : (σ[c.2]?).join = some v := Option.some.inj h2
      have ev' : σ[c.2]? = some (some v) := by
        cases q : σ[c.2]? with
        | none => rw [q] at ev; cases ev
        | some z => rw [q] at ev; simp at ev; rw [ev]
      obtain ⟨k1, k2, k3⟩ := hcaps c (List.mem_of_getElem? hc)
      rw [ex] at k1 k2 k3
      obtain ⟨m, hm, hl⟩ := I.loc
      obtain ⟨u, ru, lk⟩ := hl c.2 x v k1 ev' (.inr (.inl k2))
      refine ⟨u, ru, .inr ⟨.inl ?_, ?_⟩⟩
      · show (relabel scope X.env).names.lookup x = some .cell
        rw [relabel_names, k3]
        have e1 : X.env.scope.kind = .function := I.ok.kind
        have e2 : X.env.kindOf x = some .cell := k2
        simp [e1, e2]
      · rcases lk with ⟨z, _⟩ | ⟨_, cc, e1, e2⟩
        · have z' : X.env.scope.names.lookup x = some .local := z
          rw [k2] at z'; cases z'
        · obtain ⟨a, ha⟩ := clo_has (env := X.env) (acc := []) (mem_of_look k3)
          obtain ⟨a', ha'⟩ := look_of_mem ha
          have e3 : a' = cc := Option.some.inj ((cmem ha').symm.trans e1)
          rw [e3] at ha'
          obtain ⟨o, ho, hd⟩ := e2
          exact ⟨cc, ha', o, hk _ _ ho, hd⟩
  · obtain ⟨v, o, ho, hd⟩ := I.cell x c (cmem e)
    exact ⟨v, o, hk _ _ ho, hd⟩
  · have hp' : p ∈ X.pn ++ pins := by
      have : p ∈ (X.pn ++ pins) ++ [] := hp
      simpa using this
    obtain ⟨e, n, ne, nf, d⟩ := I.pin p hp'
    refine ⟨hk _ _ e, n, Nat.ne_of_lt (Heap.lt_size e), fun z => ?_, d⟩
    rcases List.mem_cons.mp (I.stkSub p.1 z) with q | q
    · exact ne q
    · exact nf q
  · show (stC ownN.length (caps.map (·.2)) σ).length = (ownN ++ caps.map (·.1)).length
    unfold stC
    simp

theorem pe_comp (ownN : List Str) (caps : List (Str × Nat)) (hc : X.calm = true) (hi : PI X tg iter wi)
    (hg : ∀ cl C s H fp pn, PG (cxComp X (ownN ++ caps.map (·.1)) scope cl C s H fp pn) tg g)
    (ht : ∀ cl C s H fp pn, PTs (cxComp X (ownN ++ caps.map (·.1)) scope cl C s H fp pn) ifs tt)
    (he : ∀ cl C s H fp pn, PE (cxComp X (ownN ++ caps.map (·.1)) scope cl C s H fp pn) elt te)
    (hkind : scope.kind = .function := by rfl) (hcell : ∀ y ∈ scope.names, y.2 ≠ .cell := by decide)
    (hfr : (scope.names.all fun p => p.2 != .free || X.env.scope.names.lookup p.1 == some .cell) = true := by rfl)
    (hcp : (caps.all fun c => X.N[c.2]? == some c.1 && (X.env.scope.names.lookup c.1 == some .cell && scope.names.lookup c.1 == some .free)) = true := by rfl)
    (hnames : ∀ x ∈ scope.names, x.2 = .local → scope.names.lookup x.1 = some .local := by decide)
    (hs : ∀ x, foldedSetIterable iter X.env x = pure x := by intro _; rfl) :
    PE X (.ListComp elt [⟨tg, iter, ifs, 0⟩] scope pos) (tComp wi ownN.length (caps.map (·.2)) g tt te) := by
  intro pins s σ H Q I h
  have hfree : ∀ p ∈ scope.names, p.2 = .free → X.env.scope.names.lookup p.1 = some .cell := fun p hp e => by
    have z := List.all_eq_true.mp hfr p hp
    rw [e] at z
    simpa using z
  have hcaps : ∀ c ∈ caps, X.N[c.2]? = some c.1 ∧ X.env.scope.names.lookup c.1 = some .cell ∧ scope.names.lookup c.1 = some .free := fun c hc => by
    have z := List.all_eq_true.mp hcp c hc
    simpa using z
  have has : ∀ p ∈ scope.names, p.2 = .free → ∃ a, X.env.cells.lookup p.1 = some a := fun p hp hfr => I.ok.has p.1 (.inl (hfree p hp hfr))
  rw [eval_ListComp]
  refine wpAny_comprehension_free (use := none) rfl hs (closureFor_clo has) hkind hnames (thn (hi pins s σ H _ I h) fun v s1 h1 => thn h1 fun itv s2 h2 => ?_)
  obtain ⟨it, fp, tn, J, H2, rfl, I2, T, st2, f2, red⟩ := h2
  have hf2 : H2 s2.heap.objs.size = none := I2.hok.fresh (Nat.le_refl _)
  obtain ⟨W, ⟨m0, w0⟩, turn⟩ := red s2.heap.objs.size hf2
  refine wpAny_newObj_type ?_
  generalize hac : s2.heap.objs.size = ac at hf2 turn w0 ⊢
  have I3 : Inv X pins σ (upd H2 ac (.lst [])) { s2 with heap := s2.heap.push { cls := .type "list", dict := none, data := .seq ([] : List Value).toArray } } := by
    subst hac
    exact I2.laid (t' := s2.toks) (o := .lst []) (fun b u e => Heap.get?_push_of_some _ e) (Nat.le_refl _) ⟨Nat.zero_le _, [], 0, .nil, Heap.get?_push_size _ rfl⟩
  generalize hs3 : ({ s2 with heap := s2.heap.push { cls := .type "list", dict := none, data := .seq ([] : List Value).toArray } } : Shared) = s3 at I3 ⊢
  have obj2 := T.obj 0 s2.heap st2
  have fne : ∀ b ∈ fp, b ≠ ac := fun b hb z => by
    obtain ⟨o, e, _⟩ := obj2 b hb
    exact absurd (Heap.lt_size e) (by rw [z, hac]; exact Nat.lt_irrefl _)
  have f3 : ∀ b ∈ fp, FpOk X pins (upd H2 ac (.lst [])) b := fun b hb => ⟨by rw [upd_ne (fne b hb)]; exact (f2 b hb).1, (f2 b hb).2⟩
  have st3 : tn 0 s3.heap := T.keep 0 _ _ st2 fun b hb o e => by subst hs3; exact Heap.get?_push_of_some _ e
  have fl3 : ∀ b ∈ fp, b < s3.heap.objs.size := fun b hb => by
    obtain ⟨o, e, _⟩ := T.obj 0 s3.heap st3 b hb
    exact Heap.lt_size e
  have acl : ac < s3.heap.objs.size := by subst hs3; subst hac; simp [Heap.size_push]
  refine wpAny_newFunctionEnv hcell (by intro y hy; simp at hy) (fun h₁ hns₁ hsb₁ => ?_) hkind
  have old : ∀ b o, s3.heap.get? b = some o → h₁.get? b = some o := fun b o e => hsb₁.extBut b o (Nat.ne_of_lt (Heap.lt_size e)) (Heap.get?_push_of_some _ e)
  have I4 := inv_comp (ownN := ownN) (caps := caps) (tk := s3.toks + ([] : List (Str × Value)).length) I3 f3 fl3 hkind hcell hfree hcaps hns₁ old
  have st4 : tn 0 h₁ := T.keep 0 _ _ st3 fun b hb o e => old b o e
  -- behind the block
  have after : ∀ (s5 : Shared) (σ5 : St) (H5 : Hp), Inv (cxComp X (ownN ++ caps.map (·.1)) scope (clo X.env scope.names []) s3.heap.objs.size s3 (upd H2 ac (.lst [])) fp (X.pn ++ pins)) [] σ5 H5 s5 → Q (.ref ac) H5 →
      compPost (model X.prog X.w) X.A X.xe none (EP X pins σ Q) (.ref ac) s3.heap.objs.size (.ok .next) s5 := by
    intro s5 σ5 H5 J5 q
    obtain ⟨m, hm, _⟩ := J5.loc
    refine ⟨m, hm, fun h' hs' => ?_⟩
    have nC : H5 s3.heap.objs.size = none := J5.free
    refine ⟨.ref ac, H5, ?_, rfl, q⟩
    have ub := J5.base
    have u : Un (frs X.stack) fp (upd H2 ac (.lst [])) H5 s3.heap h' :=
      ⟨fun b o e n hb hx => hs'.extBut b o (Nat.ne_of_lt (Heap.lt_size e)) (ub.keep b o e n hb hx), fun b o e n hb hx => by
        obtain ⟨sl, z⟩ := ub.slot b o e n hb hx
        exact ⟨sl, hs'.extBut b _ (Nat.ne_of_lt (Heap.lt_size e)) z⟩, ub.free, fun b o e hx => by
        obtain ⟨o', z⟩ := ub.there b o e hx
        exact ⟨o', hs'.extBut b _ (Nat.ne_of_lt (Heap.lt_size e)) z⟩, ub.tups, ub.frzs, ub.tbls⟩
    refine I3.call' (s' := { s5 with heap := h' }) (ch := fp) J5.os u (fun b u e => ?_) J5.bare (fun b hb => ⟨(f3 b hb).2.2.2.1, (f3 b hb).2.1, (f3 b hb).2.2.2.2.1, (f3 b hb).2.2.2.2.2⟩)
    refine (J5.hok b u e).stay (fun c v hc z => hs'.extBut c v ?_ z) (fun _ z => z) fun _ _ z => z
    rintro rfl
    rcases hc with z' | z'
    · rw [z', e] at nC; cases nC
    · rw [nC] at z'; cases z'
  have loop : ∀ s4 : Shared, s4 = { s3 with heap := h₁, toks := s3.toks + ([] : List (Str × Value)).length } → codeAny (model X.prog X.w) X.A (.compLoop (.ListComp elt [⟨tg, iter, ifs, 0⟩] scope pos) 0 (.ref it) (.ref ac) (compEnvC scope (clo X.env scope.names []) s3.heap.objs.size X.env))
      (compPost (model X.prog X.w) X.A X.xe none (EP X pins σ Q) (.ref ac) s3.heap.objs.size) s4 := by
    rintro s4 rfl
    refine compLoop_go (fun n s' => ∃ i ys H', Inv (cxComp X (ownN ++ caps.map (·.1)) scope (clo X.env scope.names []) s3.heap.objs.size s3 (upd H2 ac (.lst [])) fp (X.pn ++ pins)) [] (stC ownN.length (caps.map (·.2)) σ) H' s' ∧ tn i s'.heap ∧ (∀ b ∈ fp, H' b = none) ∧ W i n ys H') ?_ m0
      ⟨0, [], _, I4, st4, fun b hb => (f3 b hb).1, w0⟩
    rintro n s6 ⟨i, ys, H6, I6, st6, fr6, w6⟩
    obtain ⟨hl6, alt⟩ := turn i n ys H6 w6
    have fpok : ∀ {H' : Hp}, (∀ b ∈ fp, H' b = none) → ∀ b ∈ fp, FpOk (cxComp X (ownN ++ caps.map (·.1)) scope (clo X.env scope.names []) s3.heap.objs.size s3 (upd H2 ac (.lst [])) fp (X.pn ++ pins)) [] H' b := fun {H'} hn b hb =>
      ⟨hn b hb, Nat.ne_of_lt (fl3 b hb), I6.ok.exfs b hb, .inl hb, (I6.ok.exf b hb).2, fun p hp z => (f3 b hb).2.2.2.2.2 p (by
        have hp' : p ∈ (X.pn ++ pins) ++ [] := hp
        simpa using hp') z⟩
    rcases alt with ⟨stop, qn⟩ | ⟨go, hsz, N, hN, step⟩
    · refine thn (T.done (cxComp X (ownN ++ caps.map (·.1)) scope (clo X.env scope.names []) s3.heap.objs.size s3 (upd H2 ac (.lst [])) fp (X.pn ++ pins)) rfl rfl rfl hc i [] s6 _ H6 _ I6 (fpok fr6) st6 stop) fun r s7 ⟨hr, I7⟩ => ?_
      subst hr
      exact after s7 _ H6 I7 qn
    · refine thn (T.item (cxComp X (ownN ++ caps.map (·.1)) scope (clo X.env scope.names []) s3.heap.objs.size s3 (upd H2 ac (.lst [])) fp (X.pn ++ pins)) rfl rfl rfl hc i [] s6 _ H6 _ I6 (fpok fr6) st6 go) fun r s7 ⟨u, hr, h7⟩ => ?_
      subst hr
      refine thn h7 fun _ s8 ⟨x, H8, I8, r8, y8, st8, fr8⟩ => ?_
      have I8' := I8.pinned (fpok fr8) (T.obj _ _ st8)
      have fin : ∀ {σ' : St} {H' : Hp} {s' : Shared}, Inv (cxComp X (ownN ++ caps.map (·.1)) scope (clo X.env scope.names []) s3.heap.objs.size s3 (upd H2 ac (.lst [])) fp (X.pn ++ pins)) ([] ++ pinsAt fp s8.heap) σ' H' s' → tn (i + 1) s'.heap ∧ ∀ b ∈ fp, H' b = none := fun {σ' H' s'} J =>
        ⟨T.keep _ _ _ st8 fun b hb o e => (J.pin (b, o) (List.mem_append_right _ (List.mem_append_right _ (mem_pinsAt hb e)))).1, fun b hb => by
          obtain ⟨o, e, _⟩ := T.obj _ _ st8 b hb
          exact (J.pin (b, o) (List.mem_append_right _ (List.mem_append_right _ (mem_pinsAt hb e)))).2.1⟩
      refine thn (hg _ _ _ _ _ _ _ s8 _ H8 x u _ I8' r8 (step x H8 y8)) fun _ s9 ⟨σ9, H9, I9, wk, q9⟩ => ?_
      refine thn (ht _ _ _ _ _ _ _ s9 σ9 H9 _ I9 q9) fun b s10 ⟨H10, I10, q10⟩ => ?_
      cases b with
      | false =>
        rw [if_neg Bool.false_ne_true] at q10 ⊢
        obtain ⟨m', hm', w'⟩ := hN _ _ q10
        obtain ⟨e1, e2⟩ := fin I10
        exact ⟨m', hm', i + 1, ys, H10, (I10.weak wk.len wk.get).unpinned, e1, e2, w'⟩
      | true =>
        rw [if_pos rfl] at q10 ⊢
        refine thn (he _ _ _ _ _ _ _ s10 σ9 H10 _ I10 q10) fun y s11 ⟨yv, H11, I11, r11, hl11, q11⟩ => ?_
        obtain ⟨m', hm', w'⟩ := hN _ _ q11
        refine thn (mt_append (X := cxComp X (ownN ++ caps.map (·.1)) scope (clo X.env scope.names []) s3.heap.objs.size s3 (upd H2 ac (.lst [])) fp (X.pn ++ pins)) (pinsAt fp s8.heap) s11 σ9 H11 (.ref ac) [yv] (.ref ac) [y] (fun v H' => H' = upd H11 ac (.lst (ys ++ [yv]))) I11 rfl (.cons r11 .nil) ⟨ac, ys, yv, rfl, rfl, hl11, hsz, rfl⟩) fun _ s12 ⟨v12, H12, I12, _, e12⟩ => ?_
        subst e12
        obtain ⟨e1, e2⟩ := fin I12
        exact ⟨m', hm', i + 1, _, _, (I12.weak wk.len wk.get).unpinned, e1, e2, w'⟩
  exact codeAny_compStart_list (loop _ rfl) (T.self _ 0 _ _ _ st4 (loop _ rfl))

theorem comp_list {K : PySem.W.Frag} {a : Addr} {xs : List V} {own : Nat} {caps : List Nat} {g : TG} {tt : TT} {te : TE} {σ : St} {R : Hp → Prop} {l : Addr} {H1 : Hp} (Pv : Nat → List V → Hp → Prop) (h0 : Pv 0 [] (upd H1 l (.lst []))) (hz : xs.length ≤ sizeLine)
    (hl : ∀ i ys H, i ≤ xs.length → Pv i ys H → SqL K H a xs ∧ H l = some (.lst ys) ∧ ys.length ≤ i)
    (hs : ∀ i x ys H, xs[i]? = some x → Pv i ys H → g x (stC own caps σ) H fun σ2 H2 => Wk (stC own caps σ) σ2 ∧
      tt σ2 H2 fun b H3 => if b = true then te σ2 H3 fun y H4 => H4 l = some (.lst ys) ∧ Pv (i + 1) (ys ++ [y]) (upd H4 l (.lst (ys ++ [y]))) else Pv (i + 1) ys H3)
    (hd : ∀ ys H, Pv xs.length ys H → R H) :
    ∃ W : Nat → Nat → List V → Hp → Prop, (∃ m, W 0 m [] (upd H1 l (.lst []))) ∧
      ∀ i m ys H, W i m ys H → H l = some (.lst ys) ∧ (((Itl K a).stop i H ∧ R H) ∨ ((Itl K a).go i H ∧ ys.length < sizeLine ∧ ∃ N : List V → Hp → Prop, (∀ ys' H', N ys' H' → ∃ m', m' < m ∧ W (i + 1) m' ys' H') ∧
        ∀ x H', (Itl K a).yld i H x H' → g x (stC own caps σ) H' fun σ2 H2 => Wk (stC own caps σ) σ2 ∧
        tt σ2 H2 fun b H3 => if b = true then te σ2 H3 fun y H4 => H4 l = some (.lst ys) ∧ N (ys ++ [y]) (upd H4 l (.lst (ys ++ [y]))) else N ys H3)) := by
  refine ⟨fun i m ys H => m = xs.length - i ∧ i ≤ xs.length ∧ Pv i ys H, ⟨xs.length, by simp, Nat.zero_le _, h0⟩, ?_⟩
  rintro i m ys H ⟨rfl, hi, p⟩
  obtain ⟨q, e1, e2⟩ := hl i ys H hi p
  refine ⟨e1, ?_⟩
  by_cases hlt : i < xs.length
  · refine .inr ⟨⟨xs, xs[i], q, by simp [hlt]⟩, by (first | lia | omega), Pv (i + 1), fun ys' H' p' => ⟨xs.length - (i + 1), by (first | lia | omega), rfl, hlt, p'⟩, fun x H' y => ?_⟩
    obtain ⟨e, y⟩ := y
    subst e
    exact hs i x ys _ (y xs q) p
  · have e : i = xs.length := by (first | lia | omega)
    subst e
    exact .inl ⟨⟨xs, q, Nat.le_refl _⟩, hd ys H p⟩
theorem comp_tup {K : PySem.W.Frag} {a : Addr} {xs : List V} {own : Nat} {caps : List Nat} {g : TG} {tt : TT} {te : TE} {σ : St} {R : Hp → Prop} {l : Addr} {H1 : Hp} (Pv : Nat → List V → Hp → Prop) (h0 : Pv 0 [] (upd H1 l (.lst []))) (hz : xs.length ≤ sizeLine)
    (hl : ∀ i ys H, i ≤ xs.length → Pv i ys H → SqT K H a xs ∧ H l = some (.lst ys) ∧ ys.length ≤ i)
    (hs : ∀ i x ys H, xs[i]? = some x → Pv i ys H → g x (stC own caps σ) H fun σ2 H2 => Wk (stC own caps σ) σ2 ∧
      tt σ2 H2 fun b H3 => if b = true then te σ2 H3 fun y H4 => H4 l = some (.lst ys) ∧ Pv (i + 1) (ys ++ [y]) (upd H4 l (.lst (ys ++ [y]))) else Pv (i + 1) ys H3)
    (hd : ∀ ys H, Pv xs.length ys H → R H) :
    ∃ W : Nat → Nat → List V → Hp → Prop, (∃ m, W 0 m [] (upd H1 l (.lst []))) ∧
      ∀ i m ys H, W i m ys H → H l = some (.lst ys) ∧ (((Itt K a).stop i H ∧ R H) ∨ ((Itt K a).go i H ∧ ys.length < sizeLine ∧ ∃ N : List V → Hp → Prop, (∀ ys' H', N ys' H' → ∃ m', m' < m ∧ W (i + 1) m' ys' H') ∧
        ∀ x H', (Itt K a).yld i H x H' → g x (stC own caps σ) H' fun σ2 H2 => Wk (stC own caps σ) σ2 ∧
        tt σ2 H2 fun b H3 => if b = true then te σ2 H3 fun y H4 => H4 l = some (.lst ys) ∧ N (ys ++ [y]) (upd H4 l (.lst (ys ++ [y]))) else N ys H3)) := by
  refine ⟨fun i m ys H => m = xs.length - i ∧ i ≤ xs.length ∧ Pv i ys H, ⟨xs.length, by simp, Nat.zero_le _, h0⟩, ?_⟩
  rintro i m ys H ⟨rfl, hi, p⟩
  obtain ⟨q, e1, e2⟩ := hl i ys H hi p
  refine ⟨e1, ?_⟩
  by_cases hlt : i < xs.length
  · refine .inr ⟨⟨xs, xs[i], q, by simp [hlt]⟩, by (first | lia | omega), Pv (i + 1), fun ys' H' p' => ⟨xs.length - (i + 1), by (first | lia | omega), rfl, hlt, p'⟩, fun x H' y => ?_⟩
    obtain ⟨e, y⟩ := y
    subst e
    exact hs i x ys _ (y xs q) p
  · have e : i = xs.length := by (first | lia | omega)
    subst e
    exact .inl ⟨⟨xs, q, Nat.le_refl _⟩, hd ys H p⟩
end
end L2

namespace L2
open PySem PySem.Spec PyProof.Rows

section
variable {X : Cx}
inductive P_call_isinst (K : PySem.W.Frag) (xs : List V) (H : Hp) (Q : VK) : Prop
  | mk (x : _) (T : _) (t : _) (b : _) (h1 : xs = [x, .ty T]) (h2 : TyOf K H x t) (h3 : PySem.W.kitOne K t (.type T) = some b) (h4 : Q (.bl b) H) : P_call_isinst K xs H Q
theorem call_isinst : CallR X (.builtin "isinstance") (P_call_isinst X.K) := by
  intro pins s σ H xs us Q I r h
  obtain ⟨x, T, t, b, rfl, ty, e, q⟩ := h
  obtain ⟨u, v, rfl, ru, rv⟩ := r.two
  cases rv
  exact isinst_ok I ru ty e fun tk => ⟨.bl b, H, I.tok tk, rfl, q⟩

inductive P_call_allB (K : PySem.W.Frag) (xs : List V) (H : Hp) (Q : VK) : Prop
  | mk (p : Addr) (bs : List Bool) (h1 : xs = [.ref p]) (h2 : SqL K H p (bs.map V.bl)) (h3 : Q (.bl (bs.all id)) H) : P_call_allB K xs H Q
theorem call_allB (hc : X.calm = true) : CallR X (.builtin "all") (P_call_allB X.K) := by
  intro pins s σ H xs us Q I r h
  obtain ⟨p, bs, rfl, hp, q⟩ := h
  obtain ⟨u, rfl, ru⟩ := r.one
  cases ru
  obtain ⟨its, rv, pl, hz⟩ := I.list hp
  have lts : p < s.heap.objs.size := by
    obtain ⟨o, n, e, _⟩ := pl
    exact Heap.lt_size e
  refine call_all_walk (wpAny_pyIter_list pl.isList ?_)
  refine ⟨_, _, _, _, _, _, fun i => bs.getD i true, rfl, Walks.list (A := X.A.in1) (I.ok.hd hc) s.heap.objs.size p (Nat.ne_of_lt lts) its.toArray, ⟨⟨_, Heap.get?_push_size _ rfl, rfl, rfl⟩, ?_⟩, ?_, fun h' tk hk => ?_⟩
  · obtain ⟨o, n, e, c, d, e2⟩ := pl
    exact ⟨o, Heap.get?_push_of_some _ e, c, n, e2⟩
  · intro i v s' Q' E' hP hQ
    have hi : its[i]? = some v := by simpa using hP
    have hl := rv.length
    cases e : bs[i]? with
    | none =>
      have h1 : its.length ≤ i := by
        have := List.getElem?_eq_none_iff.mp e
        rw [← hl, List.length_map]; exact this
      rw [List.getElem?_eq_none_iff.mpr h1] at hi; cases hi
    | some b =>
      have e' : (bs.map V.bl)[i]? = some (.bl b) := by rw [List.getElem?_map, e]; rfl
      obtain ⟨u, hu, ru⟩ := rv.get e'
      rw [hi] at hu; cases hu
      cases ru
      have eg : bs.getD i true = b := by simp [List.getD, e]
      have hQ2 : Q' (bs.getD i true) s' := hQ
      rw [eg] at hQ2
      exact wpAny_truthy_bool hQ2
  · have hl : its.toArray.size = bs.length := by
      have := rv.length
      rw [List.length_map] at this
      simp [this]
    have e : (List.range its.toArray.size).all (fun i => bs.getD i true) = bs.all id := by
      rw [hl]
      clear q hl rv hp hk
      rw [Bool.eq_iff_iff, List.all_eq_true, List.all_eq_true]
      constructor
      · intro h b hb
        obtain ⟨i, hi, rfl⟩ := List.mem_iff_getElem.mp hb
        have := h i (by simpa using hi)
        simpa [List.getD, hi] using this
      · intro h i hi
        have hi' : i < bs.length := by simpa using hi
        have := h bs[i] (List.getElem_mem hi')
        simpa [List.getD, hi'] using this
    refine ⟨.bl (bs.all id), H, ?_, congrArg Value.bool e, q⟩
    · exact I.kept (t' := tk) fun b o e => hk b o (by
        intro z
        have : b = s.heap.objs.size := by simpa using z
        exact absurd (Heap.lt_size e) (by rw [this]; exact Nat.lt_irrefl _)) (Heap.get?_push_of_some _ e)

end
end L2

namespace L2
open PySem PySem.Spec PyProof.Rows

structure Callee (P : Program) (w : World) (K : PySem.W.Frag) (mg : Str → Option Value) (base : Heap) (x : Str) (k : Nat) (ps : List Str) (sp : Sp) : Prop where
  ex : ∃ (f : Addr) (fd : FuncData), FnOk P w K mg base CX0 k f fd ps sp ∧ Binds K fd ps [] ∧ PySem.W.keepIn K (.ref f) = true ∧ mg x = some (.ref f)
theorem pe_callC {X : Cx} {x : Str} {k : Nat} {ps : List Str} {sp : Sp} {e : Expr} {es : List Expr} {t : TA} {p pos : Pos} (C : Callee X.prog X.w X.K X.mg X.base x k ps sp) (hr : Room k X.A) (hg : Gl X x) (ha : PA X (e :: es) t)
    (hdb : (x == ("__debug__" : Str)) = false := by decide) (he : starEach (e :: es) X.env = (false, eval e X.env) :: starEach es X.env := by rfl) (hpl : (backTo pos (starEach es X.env)).any (·.1) = false := by rfl) :
    PE X (.Call (.Name x p) (e :: es) [] pos) (tCall sp [] E0 t) := by
  obtain ⟨f, fd, F, hb, hk, hm⟩ := C.ex
  exact pe_call F hr hg hm hk hb .nil pass0 ha hdb he hpl
structure Here (K : PySem.W.Frag) (mg : Str → Option Value) (x : Str) (st : Stmt) (f : Addr) (fd : FuncData) : Prop where
  fn : Fun K x x st f fd
  at_ : mg x = some (.ref f)
theorem Here.callee {P : Program} {w : World} {K : PySem.W.Frag} {mg : Str → Option Value} {base : Heap} {x : Str} {st : Stmt} {f : Addr} {fd : FuncData} {k : Nat} {ps : List Str} {sp : Sp} (h : Here K mg x st f fd) (F : FnOk P w K mg base CX0 k f fd ps sp)
    (hb : ∀ (kV doc pm : Value) (an : Option Addr) (cdv ct : Value) (us : List Value), us.length = ps.length → bindArgs (PySem.W.fnOf x x (defArgs st) (defBody st) (defScope st) .none kV doc pm an cdv ct) ⟨us, []⟩ = pure (ps.zip us)) : Callee P w K mg base x k ps sp :=
  ⟨f, fd, F, h.fn.binds hb, h.fn.kp, h.at_⟩

theorem boot_intT : bootBuiltins "int" = some (.type "int") := by decide +kernel
theorem boot_listT : bootBuiltins "list" = some (.type "list") := by decide +kernel
theorem boot_tupleT : bootBuiltins "tuple" = some (.type "tuple") := by decide +kernel
theorem boot_isinstance : bootBuiltins "isinstance" = some (.builtin "isinstance") := by decide +kernel
theorem boot_all : bootBuiltins "all" = some (.builtin "all") := by decide +kernel

section
variable {X : Cx} (K : PySem.W.Frag) (hK : X.K = K)
include hK
theorem ix_tupK : IxR X (rIxT K) := by subst hK; exact ix_tup
end

theorem same_new {H : Hp} {p : Addr} (h : H p = none) (o : HO) : Same H (upd H p o) := fun b u q => by rw [upd_ne (ne_of_none q h)]; exact q
def Kp (m : Addr) (H H' : Hp) : Prop := ∀ b o, H b = some o → b ≠ m → H' b = some o
theorem Kp.refl (m : Addr) (H : Hp) : Kp m H H := fun _ _ h _ => h
theorem Kp.trans {m : Addr} {H H1 H2 : Hp} (a : Kp m H H1) (b : Kp m H1 H2) : Kp m H H2 := fun c o h n => b c o (a c o h n) n
theorem Kp.same {m : Addr} {H H' : Hp} (h : Same H H') : Kp m H H' := fun b o e _ => h b o e
theorem Kp.upd {m : Addr} {H : Hp} {o : HO} : Kp m H (upd H m o) := fun b u e n => by rw [upd_ne n]; exact e
theorem Kp.tup {m : Addr} {H H' : Hp} {xs ys : List V} (k : Kp m H H') (hm : H m = some (.lst xs)) {b : Addr} (h : H b = some (.tup ys)) : H' b = some (.tup ys) :=
  k b _ h (ne_of h hm (by intro z; cases z))
def Pen (H : Hp) (p : Addr) : Prop := ∃ a b c : Int, H p = some (.lst [.int a, .int b, .int c])
def Refs (H : Hp) : List V → List (Int × Int) → Prop := Paired fun r w => ∃ t, r = .ref t ∧ H t = some (.tup [.int w.1, .int w.2])
theorem Refs.mono {H H' : Hp} (k : ∀ b xs, H b = some (.tup xs) → H' b = some (.tup xs)) : ∀ {rs : List V} {ws : List (Int × Int)}, Refs H rs ws → Refs H' rs ws
  | _, _, .nil => .nil
  | _, _, .cons ⟨t, e, h⟩ r => .cons ⟨t, e, k t _ h⟩ (Refs.mono k r)
theorem Refs.same {H H' : Hp} (k : Same H H') {rs : List V} {ws : List (Int × Int)} (h : Refs H rs ws) : Refs H' rs ws := h.mono fun b xs e => k b _ e
theorem Refs.kp {m : Addr} {H H' : Hp} {xs : List V} (k : Kp m H H') (hm : H m = some (.lst xs)) {rs : List V} {ws : List (Int × Int)} (h : Refs H rs ws) : Refs H' rs ws := h.mono fun b xs e => k.tup hm e
theorem Refs.len {H : Hp} {rs : List V} {ws : List (Int × Int)} (h : Refs H rs ws) : rs.length = ws.length := Paired.length h
theorem Refs.app {H : Hp} : ∀ {rs qs : List V} {ws us : List (Int × Int)}, Refs H rs ws → Refs H qs us → Refs H (rs ++ qs) (ws ++ us)
  | _, _, _, _, .nil, s => s
  | _, _, _, _, .cons r t, s => .cons r (Refs.app t s)
theorem Refs.get {H : Hp} : ∀ {rs : List V} {ws : List (Int × Int)} {i : Nat} {r : V}, Refs H rs ws → rs[i]? = some r → ∃ w t, ws[i]? = some w ∧ r = .ref t ∧ H t = some (.tup [.int w.1, .int w.2])
  | _, _, _, _, .nil, e => by simp at e
  | _, _, 0, _, .cons ⟨t, e1, h⟩ _, e => by simp at e; subst e; exact ⟨_, t, rfl, e1, h⟩
  | _, _, i + 1, r, .cons _ q, e => by
    obtain ⟨w, t, a, b⟩ := Refs.get (i := i) (r := r) q (by simpa using e)
    exact ⟨w, t, by simpa using a, b⟩
def WsL (H : Hp) (l : Addr) (ws : List (Int × Int)) : Prop := ∃ rs, H l = some (.lst rs) ∧ Refs H rs ws
def WOk (wide : Int) (ws : List (Int × Int)) : Prop := ∀ w ∈ ws, 0 ≤ w.1 ∧ w.1 < wide ∧ 0 ≤ w.2 ∧ w.2 < wide ∧ w.1 ≠ w.2
theorem WOk.nil {wide : Int} : WOk wide [] := fun _ h => nomatch h
theorem WOk.app {wide : Int} {a b : List (Int × Int)} (x : WOk wide a) (y : WOk wide b) : WOk wide (a ++ b) := fun w h => (List.mem_append.mp h).elim (x w) (y w)
theorem WOk.one {wide a b : Int} (h : 0 ≤ a ∧ a < wide ∧ 0 ≤ b ∧ b < wide ∧ a ≠ b) : WOk wide [(a, b)] := fun w hw => by
  have : w = (a, b) := by simpa using hw
  subst this
  exact h
def Net (H : Hp) (v : V) (wide : Int) (ws : List (Int × Int)) : Prop := ∃ n t rs, v = .ref n ∧ H n = some (.tup [.int wide, .ref t]) ∧ H t = some (.tup rs) ∧ Refs H rs ws
theorem Net.mono {H H' : Hp} (k : ∀ b xs, H b = some (.tup xs) → H' b = some (.tup xs)) {v : V} {wide : Int} {ws : List (Int × Int)} (h : Net H v wide ws) : Net H' v wide ws :=
  let ⟨n, t, rs, a, b, c, d⟩ := h
  ⟨n, t, rs, a, k _ _ b, k _ _ c, d.mono k⟩
theorem lenLine {n : Nat} (h : n ≤ 100000) : n ≤ sizeLine := Nat.le_trans h (by rw [sizeLine_eq]; decide)
theorem lenLt {n : Nat} (h : n < 100000) : n < sizeLine := Nat.lt_of_lt_of_le h (by rw [sizeLine_eq]; decide)
end L2

namespace Ep
open PySem L2
structure Bn (mg : Str → Option Value) : Prop where
  n_len : mg "len" = none
  n_max : mg "max" = none
  n_min : mg "min" = none
  n_int : mg "int" = none
  n_bool : mg "bool" = none
  n_list : mg "list" = none
  n_tuple : mg "tuple" = none
  n_str : mg "str" = none
  n_dict : mg "dict" = none
  n_range : mg "range" = none
  n_isinstance : mg "isinstance" = none
  n_all : mg "all" = none
  n_any : mg "any" = none
  n_enumerate : mg "enumerate" = none
  n_sum : mg "sum" = none
  n_abs : mg "abs" = none
  n_sorted : mg "sorted" = none
  n_reversed : mg "reversed" = none
  n_zip : mg "zip" = none
  n_ord : mg "ord" = none
  n_repr : mg "repr" = none
  n_set : mg "set" = none
  n_divmod : mg "divmod" = none
  n_ValueError : mg "ValueError" = none
  n_KeyError : mg "KeyError" = none
def CDivB (i j : Int) : Prop := 0 < j ∧ j < 2 ^ 250
theorem op_fdivB {X : Cx} : OpR X (binaryOp .FloorDiv) (rI CDivB fun i j => .int (i / j)) := opI fun i j _ _ _ _ _ hc q => by
  have h1 : (0 : Int) < j := hc.1
  have h2 : j.natAbs < 2 ^ 250 := by have := hc.2; (first | lia | omega)
  refine PyProof.Rows.floordiv_int (by (first | lia | omega)) (by rw [Int.fdiv_eq_ediv_of_nonneg i (by (first | lia | omega))]; exact q) (.inl (PyProof.noPylong_of_log2 ?_))
  have h3 : j.natAbs.log2 < 250 := (Nat.log2_lt (by (first | lia | omega))).mpr h2
  (first | lia | omega)
theorem _root_.L2.Kp.put {m l : Addr} {H H1 : Hp} {o : HO} (hl : H l = none) (k : Kp m H H1) : Kp m H (upd H1 l o) := fun b u e n => by rw [upd_ne (ne_of_none e hl)]; exact k b u e n
theorem _root_.L2.Same.put {l : Addr} {H H1 : Hp} {o : HO} (hl : H l = none) (k : Same H H1) : Same H (upd H1 l o) := fun b u e => by rw [upd_ne (ne_of_none e hl)]; exact k b u e
theorem atI_int {ns : List Int} {i : Int} (h0 : 0 ≤ i) (h1 : i < ns.length) : atI (ns.map V.int) i = some (.int (ns.getD i.toNat 0)) := by
  obtain ⟨j, rfl⟩ : ∃ j : Nat, i = (j : Int) := ⟨i.toNat, by (first | lia | omega)⟩
  have h2 : j < ns.length := by (first | lia | omega)
  refine atI_nat ?_
  rw [List.getElem?_map, Int.toNat_natCast]
  simp [List.getD, h2]
theorem iteFd {c A B : Prop} [Decidable c] (h : ¬ c) (b : B) : if c then A else B := by rw [if_neg h]; exact b
theorem iteTd {c A B : Prop} [Decidable c] (h : c) (a : A) : if c then A else B := by rw [if_pos h]; exact a
theorem fresh_step {p u : Addr} {H : Hp} {xs : List V} (hp : H p = some (.lst xs)) (fu : H u = none) (o : HO) : Kp p H (upd H u o) ∧ (upd H u o) p = some (.lst xs) ∧ (upd H u o) u = some o ∧ u ≠ p :=
  ⟨Kp.same (same_new fu o), (same_new fu o) _ _ hp, upd_same, Ne.symm (ne_of_none hp fu)⟩
inductive SpPenP (K : PySem.W.Frag) (vs : List V) (H : Hp) (Q : VK) : Prop
  | mk (a : Addr) (ns : List Int) (k : Int) (h1 : vs = [.ref a, .int k]) (h2 : SqL K H a (ns.map V.int)) (h3 : ns.length ≤ 63) (h4 : 0 ≤ k) (h5 : k < 100) (h6 : ∀ (p : Addr) (a' b' c' : Int), H p = none → Q (.ref p) (upd H p (.lst [.int a', .int b', .int c']))) : SpPenP K vs H Q
def spPen (K : PySem.W.Frag) : Sp := fun vs H Q _ => SpPenP K vs H Q
inductive SpTakeP (vs : List V) (H : Hp) (Q : VK) : Prop
  | mk (p : Addr) (a b c n : Int) (h1 : vs = [.ref p, .int n]) (h2 : H p = some (.lst [.int a, .int b, .int c])) (h3 : 0 < n) (h4 : n < 2 ^ 250) (h5 : ∀ (v a' b' c' : Int), 0 ≤ v → v < n → Q (.int v) (upd H p (.lst [.int a', .int b', .int c']))) : SpTakeP vs H Q
def spTake : Sp := fun vs H Q _ => SpTakeP  vs H Q
inductive SpWicketsP (vs : List V) (H : Hp) (Q : VK) : Prop
  | mk (p : Addr) (wide many : Int) (h1 : vs = [.ref p, .int wide, .int many]) (h2 : Pen H p) (h3 : 1 ≤ wide) (h4 : wide ≤ 8) (h5 : 0 ≤ many) (h6 : many ≤ 41) (h7 : ∀ (l : Addr) (ws : List (Int × Int)) (H' : Hp), H l = none → Kp p H H' → Pen H' p → WsL H' l ws → WOk wide ws → (ws.length : Int) ≤ many → Q (.ref l) H') : SpWicketsP vs H Q
def spWickets : Sp := fun vs H Q _ => SpWicketsP  vs H Q
theorem ne1 {H : Hp} {a b : Addr} {o : HO} (n : H b = none) (h : H a = some o) : a ≠ b := ne_of_none h n
theorem ne2 {H : Hp} {a b : Addr} {o : HO} (n : H a = none) (h : H b = some o) : a ≠ b := Ne.symm (ne_of_none h n)
theorem ne3 {H : Hp} {a b : Addr} {xs ys : List V} (h1 : H a = some (.tup xs)) (h2 : H b = some (.lst ys)) : a ≠ b := ne_of h1 h2 (by intro z; cases z)
theorem ne4 {H : Hp} {a b : Addr} {xs ys : List V} (h1 : H a = some (.lst xs)) (h2 : H b = some (.tup ys)) : a ≠ b := ne_of h1 h2 (by intro z; cases z)
theorem free2 {H H' : Hp} {l : Addr} (n : H' l = none) (s : Same H H') : H l = none := s.free n
theorem trans2 {H H1 H2 : Hp} (b : Same H1 H2) (a : Same H H1) : Same H H2 := Same.trans a b
def KT (H H' : Hp) : Prop := ∀ b xs, H b = some (.tup xs) → H' b = some (.tup xs)
theorem KT.refl (H : Hp) : KT H H := fun _ _ h => h
theorem KT.same {G H H' : Hp} (s : Same H H') (k : KT G H) : KT G H' := fun b xs h => s b _ (k b xs h)
theorem KT.lst {G H : Hp} {l : Addr} {o : HO} {ys : List V} (n : H l = some (.lst ys)) (k : KT G H) : KT G (upd H l o) := fun b xs h => by rw [upd_ne (ne3 (k b xs h) n)]; exact k b xs h
theorem KT.kp {G H H' : Hp} {m : Addr} {ys : List V} (q : Kp m H H') (hm : H m = some (.lst ys)) (k : KT G H) : KT G H' := fun b xs h => q b _ (k b xs h) (ne3 (k b xs h) hm)
theorem _root_.L2.Net.kt {H H' : Hp} {v : V} {wide : Int} {ws : List (Int × Int)} (n : Net H v wide ws) (k : KT H H') : Net H' v wide ws := n.mono k
theorem _root_.L2.Refs.kt {H H' : Hp} {rs : List V} {ws : List (Int × Int)} (n : Refs H rs ws) (k : KT H H') : Refs H' rs ws := n.mono k
end Ep

namespace Ep
open PySem L2
def maxI (a b : Int) : Int := if b ≤ a then a else b
def layT (st : List Int × List Int) (w : Int × Int) : List Int × List Int :=
  let layer := 1 + maxI (st.1.getD w.1.toNat 0) (st.1.getD w.2.toNat 0)
  ((st.1.set w.1.toNat layer).set w.2.toNat layer, st.2 ++ [layer])
def layS (wide : Int) (ws : List (Int × Int)) : List Int × List Int := ws.foldl layT (List.replicate wide.toNat 0, [])
def wAt (ws : List (Int × Int)) (j : Nat) : Int × Int := ws.getD j (0, 0)
inductive SpLawP (K : PySem.W.Frag) (vs : List V) (H : Hp) (Q : VK) : Prop
  | mk (a : Addr) (ns : List Int) (h1 : vs = [.ref a]) (h2 : SqL K H a (ns.map V.int)) (h3 : ns.length ≤ 63) (h4 : ∀ H', Q (.bl true) H') : SpLawP K vs H Q
def spLaw (K : PySem.W.Frag) : Sp := fun vs H Q _ => SpLawP K vs H Q
end Ep

namespace L2
open PySem PySem.Spec PyProof.Rows
section
variable {P : Program} {w : World} {A : Around} {s : Shared}
end
section
variable {X : Cx} {elts : List Expr} {kk : Nat} {ps : Pos}
end
end L2

namespace L2
open PySem PySem.Spec PyProof.Rows HT
section
variable {prog : Program} {w : World} {A : Around} {E : Value → Shared → Prop} {s : Shared}
end
section
variable {X : Cx}
def whole (n : Nat) (lo hi : Option Int) : Prop := sIx n 0 lo = 0 ∧ sIx n n hi = n
theorem cut_first {xs : List V} {n : Nat} (h : n ≤ xs.length) : cutV xs none (some (n : Int)) = xs.take n := by
  unfold cutV
  rw [sIx_nat, sIx_none]
  simp [Nat.min_eq_left h]
end
end L2

namespace Ep
open PySem L2
def both (cs : List Int) (w : Int × Int) : Int := cs.getD w.1.toNat 0 + cs.getD w.2.toNat 0
theorem take_snoc {α : Type} {ws : List α} {i : Nat} {w : α} (h : ws[i]? = some w) : ws.take (i + 1) = ws.take i ++ [w] := by rw [List.take_add_one, h]; rfl
end Ep

namespace L2
open PySem PySem.Spec PyProof.Rows
section
variable {prog : Program} {w : World} {A : Around} {s : Shared}
end
section
variable {X : Cx}
end
end L2

namespace L2
open PySem PySem.Spec PyProof.Rows
section
variable {X : Cx} {tg : Expr}
end
end L2

namespace L2
open PySem PySem.Spec PyProof.Rows
section
variable {X : Cx} {elts : List Expr} {kk : Nat} {ps : Pos}
end
end L2

namespace L2
open PySem PySem.Spec PyProof.Rows
section
variable {X : Cx}
end
end L2

namespace Ep
open PySem L2
abbrev LaneOk (wide : Int) (w : Int × Int) : Prop := 0 ≤ w.1 ∧ w.1 < wide ∧ 0 ≤ w.2 ∧ w.2 < wide ∧ w.1 ≠ w.2
end Ep
namespace Ep
open PySem L2
def mxL (L : List Int) : Int := L.foldl maxI 0
def depM (wide : Int) (ws : List (Int × Int)) : Nat := (mxL (layS wide ws).2).toNat
abbrev whole (wide : Int) (ws : List (Int × Int)) : Int := ((2 ^ depM wide ws : Nat) : Int)
def Rows (H : Hp) : List V → List (List Int) → Prop := Paired fun r w => ∃ t, r = .ref t ∧ H t = some (.lst (w.map V.int))
end Ep
namespace Ep
open PySem L2
end Ep

namespace Ep
open PySem L2
end Ep
namespace Ep
open PySem L2
end Ep

namespace L2
open PySem PySem.Spec PyProof.Rows PyProof.V PySem.SeqAt
mutual
inductive Dat (H : Hp) : V → PyData → Prop
  | non : Dat H .non .none
  | bl (b : Bool) : Dat H (.bl b) (.bool b)
  | int (i : Int) : Dat H (.int i) (.int i)
  | str (x : Str) : Dat H (.str x) (.str x)
  | lst {a : Addr} {xs : List V} {ds : List PyData} : H a = some (.lst xs) → Dats H xs ds → Dat H (.ref a) (.list ds)
  | tup {a : Addr} {xs : List V} {ds : List PyData} : H a = some (.tup xs) → Dats H xs ds → Dat H (.ref a) (.tuple ds)
inductive Dats (H : Hp) : List V → List PyData → Prop
  | nil : Dats H [] []
  | cons {v : V} {vs : List V} {d : PyData} {ds : List PyData} : Dat H v d → Dats H vs ds → Dats H (v :: vs) (d :: ds)
end
theorem Dat.reads {X : Cx} {pins : List (Addr × Obj)} {σ : St} {H : Hp} {s : Shared} (I : Inv X pins σ H s) {v : V} {d : PyData} (h : Dat H v d) : ∀ u, RelV v u → ∃ as, Reads s.heap u d as := by
  refine Dat.rec (H := H) (motive_1 := fun v d _ => ∀ u, RelV v u → ∃ as, Reads s.heap u d as) (motive_2 := fun vs ds _ => ∀ us, Vals vs us → ∃ as, ReadsAll s.heap us ds as) ?_ ?_ ?_ ?_ ?_ ?_ ?_ ?_ h
  · intro u r; cases r; exact ⟨_, .none⟩
  · intro b u r; cases r; exact ⟨_, .bool b⟩
  · intro i u r; obtain ⟨t, rfl⟩ := r; exact ⟨_, .int i t⟩
  · intro x u r; obtain ⟨t, rfl⟩ := r; exact ⟨_, .str x t⟩
  · intro a xs ds e _ ih u r
    cases r
    obtain ⟨its, rv, pl, _⟩ := I.list (SqL.of (K := X.K) e)
    obtain ⟨as, ra⟩ := ih its rv
    obtain ⟨o, ho, hc, n, hd⟩ := pl.isList
    exact ⟨_, .list ho hc hd (by simpa using ra)⟩
  · intro a xs ds e _ ih u r
    cases r
    obtain ⟨its, rv, pl, _⟩ := I.tuple (SqT.of (K := X.K) e)
    obtain ⟨as, ra⟩ := ih its rv
    obtain ⟨o, ho, hc, n, hd⟩ := (show s.heap.IsTuple a its.toArray from pl)
    exact ⟨_, .tuple ho hc hd (by simpa using ra)⟩
  · intro us r; cases r; exact ⟨_, .nil⟩
  · intro v vs d ds _ _ ih1 ih2 us r
    cases r with
    | cons r1 r2 =>
      obtain ⟨as, ra⟩ := ih1 _ r1
      obtain ⟨bs, rb⟩ := ih2 _ r2
      exact ⟨_, .cons ra rb⟩
section
variable {X : Cx}
def rEqD (neg : Bool) : R2 := fun x y H Q => ∃ dx dy, Dat H x dx ∧ Dat H y dy ∧ shaped dx = true ∧ shaped dy = true ∧ noMix dx dy = true ∧ Q (.bl (if neg then !same dx dy else same dx dy)) H
theorem op_neD (hu : X.A.units + 64 < cLine) : OpR X (compareOp .NotEq) (rEqD true) := by
  intro pins s σ H x y v u Q I rx ry h
  obtain ⟨dx, dy, d1, d2, s1, s2, nm, q⟩ := h
  obtain ⟨as, r1⟩ := d1.reads I v rx
  obtain ⟨bs, r2⟩ := d2.reads I u ry
  exact ne_dataH_same r1 r2 s1 s2 hu nm ⟨.bl _, H, I, rfl, q⟩
end
end L2

namespace L2
open PySem PySem.Spec PyProof.Rows PyProof.V PySem.SeqAt
section
variable {X : Cx} {a : Expr} {ta : TE} {pos : Pos}
theorem op_isB : OpR X (compareOp .Is) (fun x y H Q => ∃ i j, x = .bl i ∧ y = .bl j ∧ Q (.bl (decide (i = j))) H) := by
  intro pins s σ H x y v u Q I rx ry h
  obtain ⟨i, j, rfl, rfl, q⟩ := h
  cases rx
  cases ry
  refine wpAny_is_plain rfl ⟨.bl (decide (i = j)), H, I, ?_, q⟩
  cases i <;> cases j <;> rfl
theorem op_notB : OpR X (compareOp .IsNot) (fun x y H Q => ∃ i j, x = .bl i ∧ y = .bl j ∧ Q (.bl (!decide (i = j))) H) := by
  intro pins s σ H x y v u Q I rx ry h
  obtain ⟨i, j, rfl, rfl, q⟩ := h
  cases rx
  cases ry
  refine wpAny_isNot_plain rfl ⟨.bl (!decide (i = j)), H, I, ?_, q⟩
  cases i <;> cases j <;> rfl
end
end L2

namespace Ep
open PySem L2 PySem.SeqAt
end Ep

namespace Ep
open PySem L2
end Ep
namespace Ep
open PySem L2
end Ep

namespace Ep
open PySem L2 PySem.SeqAt
end Ep
namespace Ep
open PySem L2
end Ep
namespace Ep
open PySem L2 PySem.SeqAt
end Ep

namespace L2
open PySem PySem.Spec PyProof.Rows
end L2
namespace Ep
open PySem L2 PySem.SeqAt
end Ep

namespace L2
open PySem PySem.Spec PyProof.Rows
section
variable {X : Cx} {C : Addr} {x m : Str} {k : Nat} {ps : List Str} {sp : Sp} {o e : Expr} {es : List Expr} {ta : TE} {t : TA} {p pos apos : Pos}
end
end L2
namespace Ep
open PySem L2 PySem.SeqAt
inductive Place where
  | before (k : Nat) (l : Int)
  | exit (l : Int)
  | out (l n : Int)
def hasL (w : Int × Int) (l : Int) : Bool := decide (l = w.1) || decide (l = w.2)
structure PlS where
  fac : List Int
  tal : List Int
  pla : List Place
  chg : List Int
structure PlL where
  dx : Addr
  lf : Addr
  lt : Addr
  lp : Addr
  lc : Addr
end Ep
namespace L2
open PySem PySem.Spec PyProof.Rows
end L2
namespace Ep
open PySem L2 PySem.SeqAt
end Ep
namespace Ep
open PySem L2 PySem.SeqAt
end Ep
namespace Ep
open PySem L2
end Ep
namespace Ep
open PySem L2 PySem.SeqAt
theorem dats_refs {H : Hp} : ∀ {rs : List V} {ws : List (Int × Int)}, Refs H rs ws → Dats H rs (ws.map fun x => PyData.tuple [.int x.1, .int x.2])
  | _, _, .nil => .nil
  | _, _, .cons ⟨t, e, h⟩ r => by
    subst e
    exact .cons (.tup h (.cons (.int _) (.cons (.int _) .nil))) (dats_refs r)
theorem lay_pairs : ∀ ws : List (Int × Int), PyData.canLayAll0 (ws.map fun x => PyData.tuple [.int x.1, .int x.2]) = true ∧ PyData.depthAll (ws.map fun x => PyData.tuple [.int x.1, .int x.2]) ≤ 5
  | [] => by simp [PyData.canLayAll0, PyData.depthAll]
  | w :: r => by
    obtain ⟨a, b⟩ := lay_pairs r
    constructor
    · simp [PyData.canLayAll0, PyData.canLay0, a]
    · simp only [List.map_cons, PyData.depthAll, PyData.depth]
      (first | lia | omega)
theorem shaped_net (wide : Int) (ws : List (Int × Int)) : shaped (.tuple [.int wide, .tuple (ws.map fun x => .tuple [.int x.1, .int x.2])]) = true := by
  obtain ⟨a, b⟩ := lay_pairs ws
  show (PyData.canLay0 _ && decide (PyData.depth _ ≤ 64)) = true
  rw [Bool.and_eq_true]
  constructor
  · simp only [PyData.canLay0, PyData.canLayAll0, a, Bool.and_true]
  · refine decide_eq_true ?_
    simp only [PyData.depth, PyData.depthAll]
    (first | lia | omega)
theorem mix_pairs : ∀ ws : List (Int × Int), noMixAll (ws.map fun x => PyData.tuple [.int x.1, .int x.2]) (ws.map fun x => PyData.tuple [.int x.1, .int x.2]) = true
  | [] => by simp [noMixAll]
  | w :: r => by simp [noMixAll, noMix, mix_pairs r]
theorem mix_net (wide : Int) (ws : List (Int × Int)) : noMix (.tuple [.int wide, .tuple (ws.map fun x => .tuple [.int x.1, .int x.2])]) (.tuple [.int wide, .tuple (ws.map fun x => .tuple [.int x.1, .int x.2])]) = true := by
  simp only [noMix, noMixAll, mix_pairs ws, Bool.and_true]
end Ep

namespace Ep
open PySem L2 PySem.SeqAt
structure Sts where
  sa : Addr
  a0 : Addr
  a1 : Addr
  a2 : Addr
def z1 (w : Int × Int) (f : Int) : Int := if f = w.1 then 0 else 1
end Ep
namespace Ep
open PySem L2 PySem.SeqAt
theorem Kp.sameOf {G H H' : Hp} {p : Addr} (k : Kp p H H') (s : Same G H) (f : G p = none) : Same G H' := fun b o e => k b o (s b o e) (ne_of_none e f)
end Ep
namespace L2
open PySem
section
variable {X : Cx} (K : PySem.W.Frag) (hK : X.K = K) {tg : Expr}
include hK
end
end L2

namespace Ep
open PySem L2 PySem.SeqAt
def Vf (ws : List (Int × Int)) (e : Int → Int) (P : Nat → Int) : Nat → Int → Int
  | 0, x => e x
  | k + 1, x => if x = (wAt ws k).1 then (P k + 1) / 2 else if x = (wAt ws k).2 then P k / 2 else Vf ws e P k x
def sumC (p : Place → Bool) : List Int → List Place → Int
  | c :: cs, pl :: ps => (if p pl then c else 0) + sumC p cs ps
  | _, _ => 0
def isB (k : Nat) : Place → Bool
  | .before j _ => decide (j = k)
  | _ => false
def isX (l : Int) : Place → Bool
  | .exit x => decide (x = l)
  | _ => false
structure Flow (wide : Int) (ws : List (Int × Int)) (st : PlS) (e : Int → Int) (P : Nat → Int) : Prop where
  fa : ∀ k w, ws[k]? = some w → st.fac.getD k 0 = if P k % 2 = 0 then w.1 else w.2
  pa : ∀ k, k < ws.length → P k = Vf ws e P k (wAt ws k).1 + Vf ws e P k (wAt ws k).2 - sumC (isB k) st.chg st.pla
  ta : ∀ l, 0 ≤ l → l < wide → st.tal.getD l.toNat 0 = Vf ws e P ws.length l - sumC (isX l) st.chg st.pla
def clear (ws : List (Int × Int)) (l : Int) (s k : Nat) : Prop := ∀ j, s ≤ j → j < k → hasL (wAt ws j) l = false
-- one more on lane l from level s on, and its place
end Ep
namespace L2
open PySem PySem.Spec PyProof.Rows
end L2
namespace Ep
open PySem L2 PySem.SeqAt
end Ep
namespace Ep
open PySem L2 PySem.SeqAt
section
variable {C : Addr} {H H' : Hp} {p : Addr} {v : V} {wide : Int} {ws : List (Int × Int)} {L : PlL} {A : Sts} {st : PlS} {en : Addr} {cs : List Int}
end
end Ep

namespace L2
open PySem PySem.Spec PyProof.Rows
variable {X : Cx}
end L2
namespace Ep
open PySem L2 PySem.SeqAt
end Ep
namespace L2
open PySem
theorem seq_gen {a b : TS} {D : Ends} {σ : St} {H : Hp} (h : ∀ N : St → Hp → Prop, (∀ σ H, b D σ H → N σ H) → a { D with nx := N } σ H) : tSeq a b D σ H := h (b D) (fun _ _ z => z)
end L2

namespace L2
open PySem PySem.Spec PyProof.Rows
variable {X : Cx}
end L2
namespace Ep
open PySem L2 PySem.SeqAt
def netD (wide : Int) (ws : List (Int × Int)) : PyData := .tuple [.int wide, .tuple (ws.map fun x => .tuple [.int x.1, .int x.2])]
theorem _root_.L2.Net.dat {H : Hp} {v : V} {wide : Int} {ws : List (Int × Int)} (h : Net H v wide ws) : Dat H v (netD wide ws) := by
  obtain ⟨n, t, rs, rfl, hn, ht, hrs⟩ := h
  exact .tup hn (.cons (.int _) (.cons (.tup ht (dats_refs hrs)) .nil))
end Ep

namespace Ep
open PySem L2 PySem.SeqAt
def meets (w o : Int × Int) : Bool := (o.1 == w.1 || o.1 == w.2) || (o.2 == w.1 || o.2 == w.2)
def lastW (p : Int × Int → Bool) (l : List (Int × Int)) : Option (Int × Int) := l.foldl (fun acc o => if p o then some o else acc) none
def idle (k : List (Int × Int)) (w : Int × Int) : Prop := lastW (meets w) k = some w
instance (k : List (Int × Int)) (w : Int × Int) : Decidable (idle k w) := by unfold idle; infer_instance
end Ep
namespace Ep
open PySem L2 PySem.SeqAt
end Ep

namespace Ep
open PySem L2 PySem.SeqAt
end Ep
namespace Ep
open PySem L2 PySem.SeqAt
end Ep

namespace Ep
open PySem L2 PySem.SeqAt
end Ep

namespace L2
open PySem PySem.Spec PyProof.Rows
theorem ObjOk.ex {P : Program} {w : World} {H : Hp} {h : Heap} {a : Addr} {o : HO} (x : ObjOk P w H h a o) : ∃ ob, h.get? a = some ob := by
  cases o with
  | lst xs => exact let ⟨_, _, _, _, e⟩ := x; ⟨_, e⟩
  | tup xs => exact let ⟨_, _, _, ob, e, _⟩ := x; ⟨ob, e⟩
  | dK kvs => exact let ⟨_, _, _, _, ob, _, _, e, _⟩ := x; ⟨ob, e⟩
  | dT kvs => exact let ⟨_, _, _, _, ob, _, _, e, _⟩ := x; ⟨ob, e⟩
  | set S n => exact let ⟨ob, _, _, _, e, _⟩ := x; ⟨ob, e⟩
  | ins C dx fs => exact let ⟨_, _, _, e, _⟩ := x; ⟨_, e⟩
  | own y => exact x
  | xd fs => exact let ⟨_, ⟨ob, _, _, e, _⟩, _⟩ := x; ⟨ob, e⟩
  | rng lo hi => exact let ⟨_, _, _, e⟩ := x; ⟨_, e⟩
  | frz ob u => exact ⟨ob, x.1⟩
  | tbl ps => exact ⟨_, x⟩
  | met f y => exact ⟨_, x⟩
  | ext φ => exact x.2.1
def CX1 (P : Program) (w : World) : CXT := fun outer H s E e s' => ∃ (ea : Addr) (cls a0 : Value) (B : Heap) (H' : Hp), e = .ref ea ∧ s'.os = s.os ∧ AllBare s'.gens ∧ Un (frs outer) [] H H' s.heap s'.heap ∧ HOk P w H' s'.heap ∧
  Heap.FlyingW B outer ea cls a0 s'.heap ∧ H' ea = none ∧ (∀ b o, s'.heap.get? b = some o → b ∉ frs outer → ((∃ u, s.heap.get? b = some u) ∨ ∃ u, H' b = some u) → B.get? b = some o) ∧ E cls none H'
theorem Un.left {L : Addr} {fs : List Addr} {H₀ H' : Hp} {g h h2 : Heap} (tr : Un (L :: fs) [] H₀ H' g h) (hL : ∀ b o, g.get? b = some o → b ≠ L)
    (k2 : ∀ b o, h.get? b = some o → b ∉ L :: fs → (∃ u, g.get? b = some u) → h2.get? b = some o) (up : ∀ b o, b ∈ fs → h.get? b = some o → ∃ sl, h2.get? b = some { o with slots := sl }) : Un fs [] H₀ H' g h2 := by
  have nm : ∀ {b o}, g.get? b = some o → b ∉ fs → b ∉ L :: fs := fun q n z => by
    rcases List.mem_cons.mp z with z | z
    · exact hL _ _ q z
    · exact n z
  refine ⟨fun b o q n hb hx => k2 b o (tr.keep b o q n (nm q hb) hx) (nm q hb) ⟨o, q⟩, fun b o q n hb hx => ?_, tr.free, fun b o q hx => ?_, tr.tups, tr.frzs, tr.tbls⟩
  · obtain ⟨sl, e⟩ := tr.slot b o q n (List.mem_cons_of_mem _ hb) hx
    obtain ⟨sl', e'⟩ := up b _ hb e
    exact ⟨sl', e'⟩
  · obtain ⟨o', e⟩ := tr.there b o q hx
    by_cases hb : b ∈ fs
    · obtain ⟨sl, e'⟩ := up b o' hb e
      exact ⟨_, e'⟩
    · exact ⟨o', k2 b o' e (nm q hb) ⟨o, q⟩⟩
section
variable {P : Program} {w : World} {K : PySem.W.Frag} {mg : Str → Option Value} {base : Heap} {N : List Str} {qual : Str} {scope : Scope} {f : Addr} {cd : Value} {A : Around} {outer : List Env} {s₀ : Shared} {H₀ : Hp} {E : XK}
  {pins : List (Addr × Obj)} {σ : St} {H : Hp} {s : Shared}
abbrev XC (P : Program) (w : World) (K : PySem.W.Frag) (mg : Str → Option Value) (base : Heap) (N : List Str) (qual : Str) (scope : Scope) (f : Addr) (cd : Value) (A : Around) (outer : List Env) (s₀ : Shared) (H₀ : Hp) (E : XK) : Cx :=
  cxOf (CX1 P w) P w K mg base N qual scope f cd A outer s₀ H₀ E
theorem frame_mem {l : List Env} {env : Env} (he : env ∈ l) {b : Addr} (hb : env.frame = some b) : b ∈ frs l := List.mem_filterMap.mpr ⟨env, he, hb⟩
theorem Inv.notL (I : Inv (XC P w K mg base N qual scope f cd A outer s₀ H₀ E) pins σ H s) : ∀ b o, s₀.heap.get? b = some o → b ≠ s₀.heap.objs.size := fun b o q z => by
  have := Heap.lt_size q
  rw [z] at this
  exact Nat.lt_irrefl _ this
theorem xe_raise (I : Inv (XC P w K mg base N qual scope f cd A outer s₀ H₀ E) pins σ H s) {h' : Heap} {ea : Addr} {cls : Value} {vs : List Value} (hx : Heap.MadeExcOf s.heap h' ea cls vs) (hE : E cls none H) :
    (XC P w K mg base N qual scope f cd A outer s₀ H₀ E).xe (.ref ea) { s with heap := h' } := by
  have hst := I.stack
  have hfr := I.ok.frames
  have mem : ∀ {b : Addr}, b ∈ frs (envOfC qual scope s₀.heap.objs.size f cd :: outer) ↔ b = s₀.heap.objs.size ∨ b ∈ frs outer := fun {b} => by
    show b ∈ s₀.heap.objs.size :: frs outer ↔ _
    exact List.mem_cons
  refine wpAny_leaves_madeW (base := PySem.W.hideAll s.heap (frs (envOfC qual scope s₀.heap.objs.size f cd :: outer))) (h := s.heap) (outer := outer) hfr rfl (fun b o q => PySem.W.of_hideAll _ q)
    (PySem.W.funFrames_hide hst (fun env he b hb => frame_mem he hb)) hx fun h2 t fl tup bt ups => ?_
  have kB : ∀ b o, s.heap.get? b = some o → b ∉ frs (envOfC qual scope s₀.heap.objs.size f cd :: outer) → h2.get? b = some o := fun b o q n => fl.1 _ _ (PySem.W.hideAll_get _ q n)
  have free := I.stkFree
  have trk : ∀ b u, H b = some u → b ∉ frs (envOfC qual scope s₀.heap.objs.size f cd :: outer) := fun b u q z => by
    rw [free b z] at q
    cases q
  refine ⟨ea, cls, .ref t, _, H, rfl, I.os, I.bare, ?_, ?_, fl, ?_, ?_, hE⟩
  · refine Un.left (I.base.mono (fs' := s₀.heap.objs.size :: frs outer) (fun b hb => List.mem_cons_of_mem _ hb) (fun b hb => hb)) I.notL (fun b o q n _ => kB b o q n) fun b o hb q => ?_
    obtain ⟨_, o', ho', hd⟩ := hst.mem (b := b) (mem.mpr (.inr hb))
    rw [q] at ho'
    cases ho'
    exact ups b o (hx.keeps b o q) hd
  · exact fun a o e => (I.hok a o e).stay (fun b u hb q => by
      rcases hb with rfl | hb
      · exact kB b u q (trk b _ e)
      · exact kB b u q (trk b _ hb)) (fun _ q => q) fun _ _ q => q
  · cases e : H ea with
    | none => rfl
    | some u =>
      obtain ⟨ob, z⟩ := (I.hok ea u e).ex
      rw [hx.new] at z
      cases z
  · intro b o q n c
    have key : ∀ ob, s.heap.get? b = some ob → b ∉ frs (envOfC qual scope s₀.heap.objs.size f cd :: outer) → (PySem.W.hideAll s.heap (frs (envOfC qual scope s₀.heap.objs.size f cd :: outer))).get? b = some o := fun ob z nb => by
      have := kB b ob z nb
      rw [q] at this
      cases this
      exact PySem.W.hideAll_get _ z nb
    rcases c with ⟨u, c⟩ | ⟨u, c⟩
    · obtain ⟨ob, z⟩ := I.base.there b u c (List.not_mem_nil (a := b))
      refine key ob z fun hm => ?_
      rcases mem.mp hm with e | e
      · exact I.notL b u c e
      · exact n e
    · obtain ⟨ob, z⟩ := (I.hok b u c).ex
      exact key ob z (trk b u c)
end
theorem Fun.okE {P : Program} {w : World} {K : PySem.W.Frag} {mg : Str → Option Value} {base : Heap} {x qual : Str} {st : Stmt} {f : Addr} {fd : FuncData} {N ps : List Str} {k : Nat} {sp : Sp} (F : Fun K x qual st f fd) (S : FnScope N ps (defScope st)) (len : ∀ vs H Q E, sp vs H Q E → vs.length = ps.length)
    (hbody : ∀ (cdv : Value) (A : Around) (outer : List Env) (s : Shared) (H : Hp) (vs : List V) (Q : VK) (E : XK), Room k (A.deeper (envOfC qual (defScope st) s.heap.objs.size f cdv)) → sp vs H Q E →
      ∃ t, PSs (XC P w K mg base N qual (defScope st) f cdv A outer s H E) (defBody st) t ∧ t { nx := fun _ H' => Q .non H', rt := Q } (start N vs) H) : FnOk P w K mg base (CX1 P w) (k + 1) f fd ps sp := by
  obtain ⟨oc, od, kV, doc, pm, an, cdv, ct, osl, rfl, lk, hcd⟩ := F.ex
  exact fn_of lk hcd S len fun A outer s H vs Q E hr hsp => hbody cdv A outer s H vs Q E hr hsp
structure CalleeE (P : Program) (w : World) (K : PySem.W.Frag) (mg : Str → Option Value) (base : Heap) (x : Str) (k : Nat) (ps : List Str) (sp : Sp) : Prop where
  ex : ∃ (f : Addr) (fd : FuncData), FnOk P w K mg base (CX1 P w) k f fd ps sp ∧ Binds K fd ps [] ∧ PySem.W.keepIn K (.ref f) = true ∧ mg x = some (.ref f)
theorem Here.calleeE {P : Program} {w : World} {K : PySem.W.Frag} {mg : Str → Option Value} {base : Heap} {x : Str} {st : Stmt} {f : Addr} {fd : FuncData} {k : Nat} {ps : List Str} {sp : Sp} (h : Here K mg x st f fd) (F : FnOk P w K mg base (CX1 P w) k f fd ps sp)
    (hb : ∀ (kV doc pm : Value) (an : Option Addr) (cdv ct : Value) (us : List Value), us.length = ps.length → bindArgs (PySem.W.fnOf x x (defArgs st) (defBody st) (defScope st) .none kV doc pm an cdv ct) ⟨us, []⟩ = pure (ps.zip us)) : CalleeE P w K mg base x k ps sp :=
  ⟨f, fd, F, h.fn.binds hb, h.fn.kp, h.at_⟩
end L2

namespace L2
open PySem PySem.Spec PyProof.Rows
structure ExcAt (h : Heap) (C : Addr) (bmB : List Value) (newId : String) : Prop where
  ex : ∃ (bm : List Value) (N : Addr) (nm qn : Str) (bs : List Value) (hd : Bool) (sn : List Str) (sub : List Value) (ab : Bool) (col : Option Bool) (dd : Option Addr) (k0 k1 k2 k3 k5 : Option Value) (mN : Str → Option Value),
    h.get? C = some (excClassObj nm qn C N bs bm hd sn sub ab col dd k0 k1 k2 k3 k5 newId) ∧ h.Ns N mN ∧ mN "__init__" = none ∧ OwnTail h bmB bm
theorem excAt_of {K : PySem.W.Frag} {h : Heap} {C : Addr} {bmB : List Value} {newId : String} (X : K.In h) (q : PySem.W.excIn K C bmB newId = true) : ExcAt h C bmB newId := by
  unfold PySem.W.excIn at q
  split at q
  case h_1 dd cd sl ho =>
    split at q
    case h_1 C' bm k0 k1 k2 k3 n k5 hm hs =>
      simp only [Bool.and_eq_true, beq_iff_eq, Bool.not_eq_true'] at q
      obtain ⟨⟨⟨⟨⟨e1, e2⟩, e3⟩, e4⟩, e5⟩, e6⟩ := q
      subst e1 e2
      cases cd with
      | mk nm bs mro ns qn hd sn sub ab col del =>
        dsimp only at hm e3 e5 e6
        subst hm e3
        have es : sl = #[k0, k1, k2, k3, some (.builtin n), k5] := by
          cases sl with
          | mk l => exact congrArg Array.mk hs
        subst es
        exact ⟨bm, ns, nm, qn, bs, hd, sn, sub, ab, col, dd, k0, k1, k2, k3, k5, _, X _ _ ho, .of_isNs (PySem.W.isNs_of_in X e5), PySem.W.nsMap_none_of_in X e5 e6, PySem.W.tail_of_in X e4⟩
    all_goals cases q
  all_goals cases q
section
variable {P : Program} {w : World} {K : PySem.W.Frag} {mg : Str → Option Value} {base : Heap} {N : List Str} {qual : Str} {scope : Scope} {f : Addr} {cd : Value} {A : Around} {outer : List Env} {s₀ : Shared} {H₀ : Hp} {E : XK}
abbrev veB : List Value := [.type "ValueError", .type "Exception", .type "BaseException", .type "object"]
theorem ps_raise {x : Str} {C : Addr} {e : Expr} {ta : TA} {np cpos pos : Pos} (hq : PySem.W.excIn K C veB "ValueError.__new__" = true) (hg : Gl (XC P w K mg base N qual scope f cd A outer s₀ H₀ E) x) (hm : mg x = some (.ref C))
    (ha : PA (XC P w K mg base N qual scope f cd A outer s₀ H₀ E) [e] ta) (hd : (x == ("__debug__" : Str)) = false := by decide)
    (he : starEach [e] (XC P w K mg base N qual scope f cd A outer s₀ H₀ E).env = [(false, eval e (XC P w K mg base N qual scope f cd A outer s₀ H₀ E).env)] := by rfl) :
    PS (XC P w K mg base N qual scope f cd A outer s₀ H₀ E) (.Raise (some (.Call (.Name x np) [e] [] cpos)) none pos) (fun _ σ H => ta σ H fun vs H1 => vs.length ≤ 1000 ∧ E (.ref C) none H1) := by
  intro pins s σ H D I h
  obtain ⟨bm, N', nm, qn, bs, hdc, sn, sub, ab, col, dd, k0, k1, k2, k3, k5, mN, hC, hN, hni, T⟩ := (excAt_of I.ok.mod.kin hq).ex
  refine wpAny_Raise_call_subT (C := C) (nm := nm) (q := qn) (N := N') (bs := bs) (bm := bm) (hdct := hdc) (sn := sn) (sub := sub) (ab := ab) (col := col) (dd := dd) (k0 := k0) (k1 := k1) (k2 := k2) (k3 := k3) (k5 := k5)
    PySem.F.excBase_ValueError (mN := mN) (T.hasType PySem.F.excBase_ValueError.hasBase) (I.ok.hd rfl) (by rw [he]; rfl) hni (ld_glob I hg hm ⟨rfl, ?_⟩ hd)
  have hA := ha cpos pins s σ H _ I h
  rw [he] at hA ⊢
  refine Calls.evalArgs_plain (thn hA fun us s1 ⟨vs, H1, I1, r, l, q⟩ => ⟨rfl, ?_, I1.bk _ _ hC, hN.keeps I1.bk, T.keeps I1.bk, fun h' ea hx => xe_raise I1 hx q⟩)
  rw [← r.length]
  exact Nat.le_of_lt (small1000 l)
end
def excO (ea : Addr) (cls : Value) : HO := .ext fun h => ∃ o, h.get? ea = some o ∧ o.cls = cls
section
variable {X : Cx} {pins : List (Addr × Obj)} {σ : St} {H H' : Hp} {s s' : Shared} {B h5 : Heap} {ea : Addr} {cls a0 : Value}
theorem landed (I : Inv X pins σ H s) (os : s'.os = s.os) (bare : AllBare s'.gens) (un : Un (frs X.stack) [] H H' s.heap s'.heap) (hok : HOk X.prog X.w H' s'.heap) (fl : Heap.FlyingW B X.stack ea cls a0 s'.heap) (hea : H' ea = none)
    (kB : ∀ b o, s'.heap.get? b = some o → b ∉ frs X.stack → ((∃ u, s.heap.get? b = some u) ∨ ∃ u, H' b = some u) → B.get? b = some o) (fl5 : Heap.FlyingW B X.stack ea cls a0 h5) (up : s'.heap.UpToSlots h5) :
    Inv X pins σ (upd H' ea (excO ea cls)) { s' with heap := h5 } := by
  have nn : ∀ b : Addr, b ∉ ([] : List Addr) := fun b => List.not_mem_nil (a := b)
  have free : ∀ b ∈ frs X.stack, H' b = none := fun b hb => by
    obtain ⟨_, o, ho, _⟩ := I.stack.mem (b := b) hb
    exact un.free b o ho (I.stkFree b hb) (nn b)
  have trk : ∀ b u, H' b = some u → b ∉ frs X.stack := fun b u q z => by
    rw [free b z] at q
    cases q
  have k5 : ∀ b o, s'.heap.get? b = some o → b ∉ frs X.stack → ((∃ u, s.heap.get? b = some u) ∨ ∃ u, H' b = some u) → h5.get? b = some o := fun b o q n c => fl5.1 _ _ (kB b o q n c)
  have nea : ∀ b o, s.heap.get? b = some o → b ≠ ea := fun b o q z => by
    subst z
    obtain ⟨o', e'⟩ := un.there b o q (nn b)
    by_cases hm : b ∈ frs X.stack
    · obtain ⟨_, o2, ho2, hd⟩ := fl.2.2.1.mem (b := b) hm
      obtain ⟨oe, vs, h1, _, h2, _⟩ := fl.first
      rw [ho2] at h1
      cases h1
      exact hd vs h2
    · have := kB b o' e' hm (.inl ⟨o, q⟩)
      rw [fl.2.1] at this
      cases this
  have slo : ∀ b o, b ∈ frs X.stack → s'.heap.get? b = some o → ∃ sl, h5.get? b = some { o with slots := sl } := fun b o hb e => by
    obtain ⟨_, o', ho', hd⟩ := fl.2.2.1.mem (b := b) hb
    rw [e] at ho'
    cases ho'
    exact up b o e hd
  refine I.call' (ch := []) os ⟨fun b o q n hb hx => k5 b o (un.keep b o q n hb hx) hb (.inl ⟨o, q⟩), fun b o q n hb hx => ?_, fun b o q n hx => by rw [upd_ne (nea b o q)]; exact un.free b o q n hx, fun b o q hx => ?_,
    fun b xs q => by rw [upd_ne (ne_of_none (un.tups b xs q) hea)]; exact un.tups b xs q, fun b u xs q => by rw [upd_ne (ne_of_none (un.frzs b u xs q) hea)]; exact un.frzs b u xs q, fun b ps q => ?_⟩ ?_ bare (fun b z => absurd z (nn b))
  · obtain ⟨sl, e⟩ := un.slot b o q n hb hx
    obtain ⟨sl', e'⟩ := slo b _ hb e
    exact ⟨sl', e'⟩
  · obtain ⟨o', e⟩ := un.there b o q hx
    by_cases hb : b ∈ frs X.stack
    · obtain ⟨sl, e'⟩ := slo b o' hb e
      exact ⟨_, e'⟩
    · exact ⟨o', k5 b o' e hb (.inl ⟨o, q⟩)⟩
  · obtain ⟨m, e⟩ := un.tbls b ps q
    exact ⟨m, by rw [upd_ne (ne_of_none e hea)]; exact e⟩
  · intro a o e
    by_cases c : a = ea
    · subst c
      rw [upd_same] at e
      cases e
      obtain ⟨ob, hob, hc⟩ := fl5.there
      exact ⟨⟨ob, hob, hc⟩, ⟨ob, hob⟩, fun h1 h2 ⟨o1, z1, z2⟩ k => ⟨o1, k o1 z1, z2⟩⟩
    · rw [upd_ne c] at e
      have ne : ∀ b u, H' b = some u → b ≠ ea := fun b u q => ne_of_none q hea
      exact (hok a o e).stay (fun b u hb q => by
        rcases hb with rfl | hb
        · exact k5 b u q (trk b _ e) (.inr ⟨_, e⟩)
        · exact k5 b u q (trk b _ hb) (.inr ⟨_, hb⟩)) (fun b q => by rw [upd_ne (ne b _ q)]; exact q) fun b xs q => by rw [upd_ne (ne b _ q)]; exact q
abbrev Cx.inside (X : Cx) (ea : Addr) : Cx := { X with A := X.A.mark (some (.ref ea)), calm := false, xe := fun _ _ => False }
theorem Inv.inside (I : Inv X pins σ H s) (ea : Addr) : Inv (X.inside ea) pins σ H s :=
  ⟨⟨I.ok.mod, I.ok.kind, I.ok.glob, I.ok.blt, I.ok.above, I.ok.inj, I.ok.has, I.ok.cab, (fun z => by cases z), I.ok.frames, I.ok.stk, I.ok.exf, I.ok.bs, I.ok.bsz, I.ok.noex, I.ok.exfs, I.ok.funs, I.ok.frf⟩, I.os, I.bare, I.base, I.loc, I.cell, I.free, I.freeC, I.pin, I.hok, I.len⟩
theorem Inv.outside {ea : Addr} (ok : X.Ok) (I : Inv (X.inside ea) pins σ H s) : Inv X pins σ H s := ⟨ok, I.os, I.bare, I.base, I.loc, I.cell, I.free, I.freeC, I.pin, I.hok, I.len⟩
end
def PX (X : Cx) (e : Expr) (t : St → Hp → VK → XK → Prop) : Prop := ∀ (pins : List (Addr × Obj)) (s : Shared) (σ : St) (H : Hp) (Q : VK) (E : XK) (xe : Value → Shared → Prop), Inv X pins σ H s → t σ H Q E →
  (∀ H1 s1 e s', Inv X pins σ H1 s1 → CX1 X.prog X.w X.stack H1 s1 E e s' → xe e s') → wpAny (model X.prog X.w) X.A (eval e X.env) (EP X pins σ Q) xe s
def PSX (X : Cx) (st : Stmt) (t : Ends → XK → St → Hp → Prop) : Prop := ∀ (pins : List (Addr × Obj)) (s : Shared) (σ : St) (H : Hp) (D : Ends) (E : XK) (xe : Value → Shared → Prop), Inv X pins σ H s → t D E σ H →
  (∀ H1 s1 e s', Inv X pins σ H1 s1 → CX1 X.prog X.w X.stack H1 s1 E e s' → xe e s') → wpAny (model X.prog X.w) X.A (exec st X.env) (SP X pins D) xe s
section
variable {X : Cx}
theorem px_call {x : Str} {k : Nat} {ps : List Str} {sp : Sp} {e : Expr} {es : List Expr} {t : TA} {p pos : Pos} (C : CalleeE X.prog X.w X.K X.mg X.base x k ps sp) (hr : Room k X.A) (hg : Gl X x) (ha : PA X.nox (e :: es) t)
    (hdb : (x == ("__debug__" : Str)) = false := by decide) (he : starEach (e :: es) X.env = (false, eval e X.env) :: starEach es X.env := by rfl) (hpl : (backTo pos (starEach es X.env)).any (·.1) = false := by rfl) :
    PX X (.Call (.Name x p) (e :: es) [] pos) (fun σ H Q E => t σ H fun vs H1 => sp vs H1 Q E) := by
  intro pins s σ H Q E xe I h hx
  obtain ⟨f, fd, F, hb, hk, hm⟩ := C.ex
  refine wpAny_Call_Name_kw (ld_glob I hg hm ?_ hdb)
  refine PySem.W.callWith_K (h₀ := X.base) I.ok.mod.kin hk (wpAny_mono (ha pos pins s σ H _ (I.wish _) h) (fun us s1 ⟨vs, H1, I1, r, q⟩ => ⟨I1.unwish.kIn, ?_⟩) (fun _ _ z => False.elim z)) he hpl
  have I2 := I1.unwish
  have hl : us.length = ps.length := by rw [← r.length]; exact F.len _ _ _ _ q
  have hbb := hb s1 us I2.kIn (by rw [List.append_nil]; exact hl)
  rw [List.append_nil] at hbb
  refine wpAny_call (codeAny_mono (F.run X.A X.stack s1 H1 ⟨us, []⟩ us vs Q E hr I2.env0 hbb r q) fun res s' hq => ?_)
  cases res with
  | error e => exact hx H1 s1 e s' I2 hq
  | ok fl => cases fl with
    | ret u => exact I2.after hq
    | next => exact hq.elim
    | brk => exact hq.elim
    | cont => exact hq.elim
theorem psx_set {i : Nat} {x : Str} {e : Expr} {tx : St → Hp → VK → XK → Prop} {pos pos' : Pos} (hN : X.N.Nodup) (hi : X.N[i]? = some x) (hx : Loc X.env.scope x) (he : PX X e tx) (hs : swapsWith e (some (.Name x pos')) pos.line X.env = pure false := by rfl)
    (hf : X.fn x = true ∨ X.env.scope.names.lookup x = some .local := by first | exact .inl rfl | exact .inr rfl | assumption) : PSX X (.Assign [.Name x pos'] e pos) (fun D E σ H => tx σ H (fun v H1 => D.nx (σ.set i (some v)) H1) E) := by
  intro pins s σ H D E xe I h hxe
  refine wpAny_Assign_Name (thn (he pins s σ H _ E xe I h hxe) fun v s1 ⟨y, H1, I1, r1, q1⟩ => ?_) hs
  exact store_ok I1 hN hi hx r1 (fun s2 I2 => ⟨_, H1, I2, q1⟩) hf
end
end L2

namespace L2
open PySem PySem.Spec PyProof.Rows PySem.W Builtin Builtin.ObjectAttr Builtin.Getset_descriptor
structure ExcLook (K : PySem.W.Frag) (C : Addr) : Prop where
  ga : PySem.W.findIn K (.ref C) "__getattribute__" = some (some (.builtin "BaseException.__getattribute__"))
  hk : PySem.W.findIn K (.ref C) "__getattr__" = some none
  cl : PySem.W.findIn K (.ref C) "__class__" = some (some (.builtin "object.__class__"))
  sp : PySem.W.specialIn K (.builtin "object.__class__") "__get__" = some (some (.builtin "getset_descriptor.__get__"))
  tk : PySem.W.takesIn K (.builtin "object.__class__") = some true
  ob : PySem.W.mroIn K C (.type "object") = some true
  be : PySem.W.mroIn K C (.type "BaseException") = some true
  cs : (PySem.W.clsIn K C).isSome = true
section
variable {prog : Program} {w : World} {A : Around} {E : Value → Shared → Prop} {K : PySem.W.Frag} {x C : Addr} {s : Shared}
theorem find_cls {M : Model} {h : Heap} (L : ExcLook K C) (X : K.In h) : PySem.W.Looks M h (Builtin.ObjectAttr.find (.ref x) (.ref C) "__class__") (.bind (.builtin "getset_descriptor.__get__") (.builtin "object.__class__")) := by
  have L1 := PySem.W.looks_findIn (M := M) X L.cl
  have L2 : PySem.W.Looks M h (Builtin.ObjectAttr.getOf (some (.builtin "object.__class__"))) (some (.builtin "getset_descriptor.__get__")) := PySem.W.looks_specialIn X L.sp
  have L3 := PySem.W.looks_takesIn (M := M) X L.tk
  intro A' Q' E' s' k q
  unfold Builtin.ObjectAttr.find
  refine wpAny_bind (L1 _ _ _ _ k (wpAny_bind (L2 _ _ _ _ k ?_)))
  unfold Builtin.ObjectAttr.dataDescriptor?
  refine wpAny_bind (wpAny_bind (L3 _ _ _ _ k ?_))
  rw [if_pos rfl]
  exact wpAny_pure (wpAny_bind (wpAny_rule (wpAny_pure q)))
theorem cls_get {R : Result → Shared → Prop} {tp : Value} (L : ExcLook K C) (X : K.In s.heap) (L0 : PySem.W.Looks (model prog w) s.heap (typeOf (.ref x)) (.ref C)) (h : R (.ok (.ret (.ref C))) s) :
    codeAny (model prog w) A (.call (.builtin "getset_descriptor.__get__") ⟨[.builtin "object.__class__", .ref x, tp], []⟩) R s := by
  cases s with
  | mk hh g dr t os =>
    have L1 := PySem.W.looks_mroIn (M := model prog w) X L.ob
    refine codeAny_call_builtin PySem.W.KF.slot_gs.plain PySem.W.KF.entry_gs
      (PySem.W.KF.slot_gs.check _ _ _ _ _ _ _ _ PySem.W.KF.type_class (PySem.W.KF.args_gs _ _ _) ?_)
    unfold Builtin.«getset_descriptor.__get__» descrGet
    rw [PySem.W.dga_obj]
    refine wpAny_bind (wpAny_pure ?_)
    unfold descrGetter descrCheckInstance descrNameAndClass isInstance
    simp only [PySem.W.KF.owner_class]
    repeat lk
    refine ⟨Code.quiet_builtin _ (by decide +kernel), codeAny_builtin PySem.W.KF.entry_class ?_⟩
    unfold Builtin.«object.__class__» shownTypeOf; repeat lk
    exact h
theorem exc_ga {tk : Tok} {R : Result → Shared → Prop} (L : ExcLook K C) (X : K.In s.heap) (L0 : PySem.W.Looks (model prog w) s.heap (typeOf (.ref x)) (.ref C)) (hx : ∃ o, s.heap.get? x = some o ∧ o.cls = .ref C) (h : R (.ok (.ret (.ref C))) s) :
    codeAny (model prog w) A (.call (.builtin "BaseException.__getattribute__") ⟨[.ref x, .str "__class__" tk], []⟩) R s := by
  cases s with
  | mk hh g d t os =>
    have L1 := PySem.W.looks_mroIn (M := model prog w) X L.be
    have L2 := find_cls (x := x) (M := model prog w) L X
    have kd : builtinKind "BaseException.__getattribute__" = some .slot := by decide +kernel
    have spl : splitId "BaseException.__getattribute__" = some ("BaseException", "__getattribute__") := by decide +kernel
    have aok := PySem.F.args_bexc_ga (.ref x) (.str "__class__" tk)
    have LI : PySem.W.Looks (model prog w) hh (isInstance (.ref x) (.type "BaseException")) true := L0.andThen L1
    refine codeAny_call_builtin PySem.F.attr_ValueError.ga.plain PySem.F.entry_bexc_ga ?_
    simp only [checkBuiltinCall, kd, spl]
    refine wpAny_bind (LI.at ?_)
    repeat (any_goals (first | assumption | wp_step))
    obtain ⟨ox, hox, hcl⟩ := hx
    refine wpAny_loadPart_at (show (Shared.heap ⟨hh, g, d, t, os⟩).get? x = some ox from hox) ?_
    refine wpAny_pure ?_
    rw [hcl]
    refine wpAny_bind (L2.at ?_)
    show wpAny _ _ (holding [Value.builtin "object.__class__"] (call (.builtin "getset_descriptor.__get__") [.builtin "object.__class__", .ref x, .ref C]) >>= ret) _ _ _
    exact wpAny_bind (wpAny_holding (wpAny_call (cls_get (s := ⟨hh, g, d, t, os⟩) L X L0 (wpAny_pure h))))
theorem exc_class {Q : Option Value → Shared → Prop} (L : ExcLook K C) (X : K.In s.heap) (hx : ∃ o, s.heap.get? x = some o ∧ o.cls = .ref C) (h : Q (some (.ref C)) { s with toks := s.toks + 1 }) : wpAny (model prog w) A (getAttr? (.ref x) "__class__") Q E s := by
  cases s with
  | mk hh g d t os =>
    obtain ⟨ox, hox, hcl⟩ := id hx
    have L0 : PySem.W.Looks (model prog w) hh (typeOf (.ref x)) (.ref C) := hcl ▸ (PySem.W.Looks.ld hox).andThen .now
    have L1 := PySem.W.looks_findIn (M := model prog w) X L.ga
    have L2 := PySem.W.looks_findIn (M := model prog w) X L.hk
    unfold getAttr? getAttrBy? getAttrBy
    refine wpAny_bind (wpAny_mkText (wpAny_bind (wpAny_attempt (wpAny_holding ?_))))
    refine wpAny_bind (L0.at (wpAny_bind (L1.at ?_)))
    show wpAny _ _ (getAttrByItsOwn _ _ _ _ _ _) _ _ _
    unfold getAttrByItsOwn hookBefore
    refine wpAny_bind (L2.at (wpAny_bind (wpAny_attempt (wpAny_holding ?_))))
    show wpAny _ _ (boundAndCalled (.builtin "BaseException.__getattribute__") (.ref x) _) _ _ _
    unfold boundAndCalled
    rw [PySem.F.attr_ValueError.ga.bind (.ref x)]
    refine wpAny_bind (wpAny_pure ?_)
    exact wpAny_call (exc_ga (s := ⟨hh, g, d, t + 1, os⟩) L X L0 hx (wpAny_pure (wpAny_pure h)))
theorem cls_there {h : Heap} (L : ExcLook K C) (X : K.In h) : ∃ c d cd sl, h.get? C = some ⟨c, d, .cls cd, sl⟩ := by
  obtain ⟨cd, e⟩ := Option.isSome_iff_exists.mp L.cs
  unfold PySem.W.clsIn at e
  split at e
  case h_1 c d cd' sl ho => exact ⟨c, d, cd', sl, X _ _ ho⟩
  all_goals cases e
theorem kitx_exc (L : ExcLook K C) : PySem.W.KitX K (.ref x) (.ref C) (fun h => ∃ o, h.get? x = some o ∧ o.cls = .ref C) where
  ty := fun _ _ _ ⟨_, e, c⟩ => c ▸ (PySem.W.Looks.ld e).andThen .now
  it := fun _ _ X _ A' Q' E' s' k q => by
    obtain ⟨c, d, cd, sl, ho⟩ := cls_there L X
    unfold isType loadHead; exact wpAny_bind (wpAny_loadPart (k _ _ ho) (wpAny_pure q))
  ne := fun h tp dd its n sl X htp => by
    obtain ⟨c, d, cd, sl', ho⟩ := cls_there L X
    refine Bool.eq_false_iff.mpr fun q => ?_
    rw [← Value.ref.inj (beq_iff_eq.mp q), ho] at htp
    cases htp
  ca := fun X p k => exc_class L X p k
end
end L2

namespace L2
open PySem PySem.Spec PyProof.Rows
section
variable {X : Cx} {pins : List (Addr × Obj)} {σ : St} {H : Hp} {s : Shared}
theorem name_goes {M : Model} {A : Around} {E : Value → Shared → Prop} {j : Nat} {n : Str} {pos : Pos} {Q : Unit → Shared → Prop} (I : Inv X pins σ H s) (hN : X.N.Nodup) (hj : X.N[j]? = some n) (hk : X.env.scope.names.lookup n = some .local)
    (h : ∀ s', Inv X pins (σ.set j none) H s' → Q () s') : wpAny M A (do bindName X.env n .none; unbindBehindTheSuite X.env n pos) Q E s := by
  obtain ⟨m, hn, hl⟩ := id I.loc
  have hcls : (X.env.scope.kind == .class || (X.env.scope.kind == .module && X.env.locals != X.env.globals)) = false := by rw [I.ok.kind]; rfl
  have hjσ : j < σ.length := by rw [I.len]; exact (List.getElem?_eq_some_iff.mp hj).1
  have cne := I.cne
  obtain ⟨oL, _, _, hoL, _⟩ := id hn
  refine wpAny_nameGoes_keeps hk hn hcls fun h' v hn' hs => h _ ?_
  have lt : ∀ {b : Addr} {o : Obj}, X.s₀.heap.get? b = some o → b ≠ X.env.locals := fun e => Nat.ne_of_lt (Nat.lt_of_lt_of_le (Heap.lt_size e) I.ok.above)
  refine ⟨I.ok, I.os, I.bare, ⟨fun b o e nn hb hx => (hs.2 b (lt e)).trans (I.base.keep b o e nn hb hx), fun b o e nn hb hx => ?_, I.base.free, fun b o e hx => ?_, I.base.tups, I.base.frzs, I.base.tbls⟩, ⟨_, hn', fun i y v' e1 e2 e3 => ?_⟩, fun y c e => ?_, I.free, I.freeC, fun p hp => ?_, fun b ob e => ?_, by simpa using I.len⟩
  · obtain ⟨sl, e1⟩ := I.base.slot b o e nn hb hx
    exact ⟨sl, (hs.2 b (lt e)).trans e1⟩
  · obtain ⟨o', e1⟩ := I.base.there b o e hx
    exact ⟨o', (hs.2 b (lt e)).trans e1⟩
  · by_cases hji : i = j
    · subst hji
      rw [List.getElem?_set_self hjσ] at e2
      cases e2
    · rw [List.getElem?_set_ne (Ne.symm hji)] at e2
      obtain ⟨u', r', q⟩ := hl i y v' e1 e2 e3
      refine ⟨u', r', ?_⟩
      rcases q with ⟨k, e⟩ | ⟨k, c, e, z⟩
      · refine .inl ⟨k, ?_⟩
        have ny : y ≠ n := fun e => hji (nodup_ix hN e1 (e ▸ hj))
        show (if y = n then v else m y) = _
        rw [if_neg ny]
        exact e
      · exact .inr ⟨k, c, e, z.sameBut hs (cne y c e)⟩
  · obtain ⟨w', z⟩ := I.cell y c e
    exact ⟨w', z.sameBut hs (cne y c e)⟩
  · obtain ⟨e, nn, ne, nf, d⟩ := I.pin p hp
    exact ⟨(hs.2 p.1 ne).trans e, nn, ne, nf, d⟩
  · refine (I.hok b ob e).stay (fun c w' hc q => (hs.2 c ?_).trans q) (fun _ q => q) fun _ _ q => q
    rintro rfl
    rcases hc with rfl | hc
    · rw [I.free] at e; cases e
    · rw [I.free] at hc; cases hc
end
section
variable {X : Cx}
def asEnds (j : Nat) (D : Ends) : Ends := { nx := fun σ H => D.nx (σ.set j none) H, rt := D.rt, bk := fun σ H => D.bk (σ.set j none) H, ct := fun σ H => D.ct (σ.set j none) H }
theorem ps_tryAs {st : Stmt} {tx : Ends → XK → St → Hp → Prop} {x n : Str} {j : Nat} {C : Addr} {b₀ : Stmt} {suite : List Stmt} {np hpos pos : Pos} {ts : TS} (hst : X.stack = X.env :: X.outer) (hf : X.env.frame = some X.env.locals) (hN : X.N.Nodup) (hj : X.N[j]? = some n) (hk : X.env.scope.names.lookup n = some .local)
    (hb : PSX X st tx) (hg : Gl X x) (hm : X.mg x = some (.ref C)) (hs : ∀ ea, PSs (X.inside ea) (b₀ :: suite) ts) (hd : (x == ("__debug__" : Str)) = false := by decide) :
    PS X (.Try [st] [.ExceptHandler (some (.Name x np)) (some n) (b₀ :: suite) hpos] [] [] pos) (fun D σ H => tx D (fun cls _ H1 => PySem.W.exmOne X.K cls (.ref C) = some true ∧ ∀ ea, H1 ea = none → ts (asEnds j D) (σ.set j (some (.ref ea))) (upd H1 ea (excO ea cls))) σ H) := by
  intro pins s σ H D I h
  refine wpAny_Try_except (wpAny_execs_cons (thn (hb pins s σ H D _ _ I h fun H1 s1 e s' I1 c => ?_) fun fl s1 q => ?_))
  · obtain ⟨ea, cls, a0, B, H', rfl, os, bare, un, hok, fl, hea, kB, hE⟩ := c
    have hfr := I1.ok.frames
    rw [hst] at hfr
    have fl' := fl
    rw [hst] at fl'
    refine wpAny_looks_onW hfr hf fl' fun h4 held up4 => ?_
    refine wpAny_landsW held fun h5 fl5 up5 => ?_
    have up45 := up4.trans up5
    rw [← hst] at fl5
    have I5 := (landed I1 os bare un hok fl hea kB fl5 up45).inside ea
    obtain ⟨ob, hob, hc⟩ := fl5.there
    have LT : PySem.W.Looks (model X.prog X.w) h5 (typeOf (.ref ea)) cls := hc ▸ (PySem.W.Looks.ld hob).andThen .now
    refine wpAny_handleBy_cons (codeAny_handlers_test (ld_glob I5 hg hm ?_ hd)) (by intro q; cases q)
    refine PySem.W.exm_one (h := h5) I5.kIn LT hE.1 _ _ _ _ (fun _ _ z => z) ?_
    refine codeAny_handlers_suite_as ?_
    refine lands_againW fl5 fun h6 fl6 up6 => ?_
    have I6 := landed I1 os bare un hok fl hea kB fl6 (up45.trans up6)
    refine store_ok I6 hN hj (.inl hk) (v := .ref ea) rfl (fun s7 I7 => ?_) (.inr hk)
    refine wpAny_mono (hs ea pins _ _ _ (asEnds j D) (I7.inside ea) (hE.2 ea hea)) (fun f s2 q => ?_) (fun _ _ z => z.elim)
    cases f with
    | next =>
      obtain ⟨a, b, J, q⟩ := q
      exact name_goes (J.outside I.ok) hN hj hk fun s3 J3 => ⟨_, _, J3, q⟩
    | brk =>
      obtain ⟨a, b, J, q⟩ := q
      exact name_goes (J.outside I.ok) hN hj hk fun s3 J3 => ⟨_, _, J3, q⟩
    | cont =>
      obtain ⟨a, b, J, q⟩ := q
      exact name_goes (J.outside I.ok) hN hj hk fun s3 J3 => ⟨_, _, J3, q⟩
    | ret u =>
      obtain ⟨v, a, b, J, r, q⟩ := q
      exact name_goes (J.outside I.ok) hN hj hk fun s3 J3 => ⟨v, _, _, J3, r, q⟩
  · cases fl with
    | next => exact wpAny_execs_nil (wpAny_execs_nil q)
    | brk => exact q
    | cont => exact q
    | ret u => exact q
def clV : V → Option Value
  | .ref a => some (.ref a)
  | .ty n => some (.type n)
  | _ => none
theorem clV_rel {c : V} {u t : Value} (e : clV c = some t) (r : RelV c u) : u = t := by
  cases c with
  | ref a => cases e; exact r
  | ty n => cases e; exact r
  | _ => cases e
def clVs : List V → Option (List Value)
  | [] => some []
  | c :: r => match clV c, clVs r with
    | some t, some ts => some (t :: ts)
    | _, _ => none
theorem clVs_rel : ∀ {cs : List V} {us ts : List Value}, clVs cs = some ts → Vals cs us → us = ts
  | [], _, _, e, .nil => by cases e; rfl
  | c :: r, _, _, e, .cons h1 h2 => by
    unfold clVs at e
    split at e
    case h_1 t ts e1 e2 =>
      cases e
      rw [clV_rel e1 h1, clVs_rel e2 h2]
    case h_2 => cases e
inductive P_call_isX (K : PySem.W.Frag) (xs : List V) (H : Hp) (Q : VK) : Prop
  | mk (ea : _) (C : _) (c : _) (t : _) (b : _) (h1 : xs = [.ref ea, c]) (h2 : H ea = some (excO ea (.ref C))) (h3 : ExcLook K C) (h4 : clV c = some t) (h5 : PySem.W.kitOne K (.ref C) t = some b) (h6 : Q (.bl b) H) : P_call_isX K xs H Q
theorem call_isX : CallR X (.builtin "isinstance") (P_call_isX X.K) := by
  intro pins s σ H xs us Q I r h
  obtain ⟨ea, C, c, t, b, rfl, he, L, hc, e, q⟩ := h
  obtain ⟨u, v, rfl, ru, rv⟩ := r.two
  cases ru
  rw [clV_rel hc rv]
  have p : ∃ o, s.heap.get? ea = some o ∧ o.cls = .ref C := (show ObjOk X.prog X.w H s.heap ea (excO ea (.ref C)) from I.hok ea _ he).1
  exact PySem.W.kia_one (kitx_exc L) I.kIn p e (fun z => nomatch z) fun tk => ⟨.bl b, H, I.tok tk, rfl, q⟩
inductive P_call_isXT (K : PySem.W.Frag) (xs : List V) (H : Hp) (Q : VK) : Prop
  | mk (ea : _) (C : _) (tp : _) (cs : _) (ts : _) (b : _) (h1 : xs = [.ref ea, .ref tp]) (h2 : H ea = some (excO ea (.ref C))) (h3 : ExcLook K C) (h4 : H tp = some (.tup cs)) (h5 : clVs cs = some ts) (h6 : PySem.W.kitAny K (.ref C) ts = some b) (h7 : Q (.bl b) H) : P_call_isXT K xs H Q
theorem call_isXT : CallR X (.builtin "isinstance") (P_call_isXT X.K) := by
  intro pins s σ H xs us Q I r h
  obtain ⟨ea, C, tp, cs, ts, b, rfl, he, L, ht, hc, e, q⟩ := h
  obtain ⟨u, v, rfl, ru, rv⟩ := r.two
  cases ru
  cases rv
  have p : ∃ o, s.heap.get? ea = some o ∧ o.cls = .ref C := (show ObjOk X.prog X.w H s.heap ea (excO ea (.ref C)) from I.hok ea _ he).1
  obtain ⟨its, rv, pl, _⟩ := I.tuple (SqT.of (K := X.K) ht)
  obtain ⟨o, ho, hcl, n, hd⟩ := (show s.heap.IsTuple tp its.toArray from pl)
  cases clVs_rel hc rv
  cases o with
  | mk oc od oda osl =>
    cases hcl
    cases hd
    exact PySem.W.kia_tup (kitx_exc L) I.kIn p ho e (fun z => nomatch z) fun tk => ⟨.bl b, H, I.tok tk, rfl, q⟩
end
end L2

namespace L2
open PySem PySem.Spec PyProof.Rows
variable {X : Cx}
theorem pe_gint {x : Str} {i : Int} {pos : Pos} (hg : Gl X x) (h : ∃ t, X.mg x = some (.int i t)) (hd : (x == ("__debug__" : Str)) = false := by decide) : PE X (.Name x pos) (tC (.int i)) := by
  obtain ⟨t, h⟩ := h
  exact pe_glob hg h ⟨t, rfl⟩ hd
end L2

namespace L2
open PySem PySem.Spec PyProof.Rows
variable {X : Cx}
theorem pi_or {tg e : Expr} {w1 w2 : TI} (h1 : PI X tg e w1) (h2 : PI X tg e w2) : PI X tg e (fun σ H R => w1 σ H R ∨ w2 σ H R) := fun pins s σ H R I h => h.elim (h1 pins s σ H R I) (h2 pins s σ H R I)
end L2
namespace Ep
open PySem L2 PySem.SeqAt
structure ErrA where
  net : Addr
  nonet : Addr
  nolane : Addr
  nowalker : Addr
  many : Addr
  notext : Addr
  norow : Addr
  noname : Addr
structure ErrK (K : PySem.W.Frag) (a : ErrA) : Prop where
  q_NoNet : PySem.W.excIn K a.nonet veB "ValueError.__new__" = true
  q_TooMany : PySem.W.excIn K a.many veB "ValueError.__new__" = true
  m_NoNet : PySem.W.exmOne K (.ref a.nonet) (.ref a.net) = some true
  m_TooMany : PySem.W.exmOne K (.ref a.many) (.ref a.net) = some true
  l_NoNet : ExcLook K a.nonet
  l_TooMany : ExcLook K a.many
  i_NoNet : PySem.W.kitAny K (.ref a.nonet) [.ref a.nolane, .ref a.noname, .ref a.norow, .ref a.notext, .ref a.nowalker] = some false
  i_TooMany : PySem.W.kitAny K (.ref a.many) [.ref a.nolane, .ref a.noname, .ref a.norow, .ref a.notext, .ref a.nowalker] = some false
  v_NoNet : PySem.W.kitOne K (.ref a.nonet) (.type "ValueError") = some true
  v_TooMany : PySem.W.kitOne K (.ref a.many) (.type "ValueError") = some true
  nn : PySem.W.kitOne K (.ref a.nonet) (.ref a.nonet) = some true
  nm : PySem.W.kitOne K (.ref a.nonet) (.ref a.many) = some false
  mn : PySem.W.kitOne K (.ref a.many) (.ref a.nonet) = some false
  mm : PySem.W.kitOne K (.ref a.many) (.ref a.many) = some true
structure ErrT (K : PySem.W.Frag) (mg : Str → Option Value) (a : ErrA) : Prop extends ErrK K a where
  at_NetError : mg "NetError" = some (.ref a.net)
  at_NoNet : mg "NoNet" = some (.ref a.nonet)
  at_NoLane : mg "NoLane" = some (.ref a.nolane)
  at_NoWalker : mg "NoWalker" = some (.ref a.nowalker)
  at_TooMany : mg "TooMany" = some (.ref a.many)
  at_NoText : mg "NoText" = some (.ref a.notext)
  at_NoRow : mg "NoRow" = some (.ref a.norow)
  at_NoName : mg "NoName" = some (.ref a.noname)
end Ep

namespace L2
open PySem PySem.Spec PyProof.Rows
variable {X : Cx}
def rCatA : R2 := fun x y H Q => ∃ a b xs ys, x = .ref a ∧ y = .ref b ∧ H a = some (.tup xs) ∧ H b = some (.tup ys) ∧ xs.length + ys.length ≤ sizeLine ∧ ∀ c H', Same H H' → H' c = some (.tup (xs ++ ys)) → Q (.ref c) H'
theorem op_catA : OpR X (binaryOp .Add) rCatA := by
  intro pins s σ H x y v u Q I rx ry h
  obtain ⟨a, b, xs, ys, rfl, rfl, ha, hb, hz, q⟩ := h
  by_cases hx : xs = []
  · cases rx
    cases ry
    subst hx
    obtain ⟨its, r1, p1, _⟩ := I.tuple (SqT.of (K := X.K) ha)
    obtain ⟨its2, r2, p2, _⟩ := I.tuple (SqT.of (K := X.K) hb)
    cases r1
    obtain ⟨⟨c1, d1, k1, l1⟩, ho, hc, n, hd⟩ := id p1
    obtain ⟨⟨c2, d2, k2, l2⟩, ho2, hc2, n2, hd2⟩ := id p2
    cases hc; cases hd; cases hc2; cases hd2
    exact concat_meets ⟨_, ho, rfl⟩ ⟨_, ho2, rfl⟩ noFill_tuple_add seq_tuple_add PySem.F.slot_tuple_add PySem.F.entry_tuple_add (PySem.F.args_tuple_add_2 _ _) (tuple_addW0 a b #[] its2.toArray n n2 d1 d2 l1 l2 rfl) ⟨ho, ho2, ⟨.ref b, H, I, rfl, q b H (Same.refl _) hb⟩⟩
  · refine op_catT pins s σ H _ _ v u Q I rx ry ⟨a, b, xs, ys, rfl, rfl, SqT.of ha, SqT.of hb, hx, hz, fun e => ?_, fun _ p hp => ?_⟩
    · subst e
      exact q a H (Same.refl _) (by rw [List.append_nil]; exact ha)
    · exact q p _ (same_new hp _) upd_same
end L2

namespace L2
open PySem PySem.Spec PyProof.Rows
section
variable {P : Program} {w : World} {A : Around} {E : Value → Shared → Prop} {s : Shared}
end
section
variable {X : Cx} {elts : List Expr} {kk : Nat} {ps : Pos}
end
end L2

namespace L2
open PySem PySem.Spec PyProof.Rows
end L2

namespace L2
open PySem PySem.Spec PyProof.Rows PyProof.V PySem.SeqAt
section
variable {X : Cx}
end
end L2
namespace Ep
open PySem L2 PySem.SeqAt PySem.Spec PyProof.Rows
end Ep

namespace L2
open PySem PySem.Spec PyProof.Rows
def n2 (a b : Int) : Nat := ((b - a + 1) / 2).toNat
section
variable {X : Cx} {tg : Expr}
end
end L2
namespace Ep
open PySem L2 PySem.SeqAt
structure NoNetT (K : PySem.W.Frag) (mg : Str → Option Value) (a : Addr) : Prop where
  q_NoNet : PySem.W.excIn K a veB "ValueError.__new__" = true
  at_NoNet : mg "NoNet" = some (.ref a)
end Ep
namespace L2
open PySem
theorem FnOk.down {P : Program} {w : World} {K : PySem.W.Frag} {mg : Str → Option Value} {base : Heap} {k : Nat} {f : Addr} {fd : FuncData} {ps : List Str} {sp : Sp} (F : FnOk P w K mg base (CX1 P w) k f fd ps sp) (h : ∀ vs H Q E, sp vs H Q E → sp vs H Q fun _ _ _ => False) : FnOk P w K mg base CX0 k f fd ps sp :=
  ⟨F.len, fun A outer s H args us vs Q E hr e0 hb r hs => codeAny_mono (F.run A outer s H args us vs Q (fun _ _ _ => False) hr e0 hb r (h _ _ _ _ hs)) fun res s' q => by
    cases res with
    | ok fl => cases fl with
      | ret u => exact q
      | next => exact q
      | brk => exact q
      | cont => exact q
    | error e =>
      obtain ⟨_, _, _, _, _, _, _, _, _, _, _, _, _, z⟩ := q
      exact z.elim⟩
end L2
namespace Ep
open PySem L2 PySem.SeqAt
end Ep

namespace L2
open PySem PySem.Spec PyProof.Rows
section
variable {P : Program} {w : World} {A : Around} {E : Value → Shared → Prop}
variable {s : Shared}
end
section
variable {X : Cx} {pos : Pos}
end
end L2

namespace Ep
open PySem L2 PySem.SeqAt
end Ep
namespace Ep
open PySem L2 PySem.SeqAt
end Ep
namespace Ep
open PySem L2 PySem.SeqAt
end Ep
namespace Ep
open PySem L2 PySem.SeqAt
end Ep
namespace Ep
open PySem L2 PySem.SeqAt
end Ep
namespace Ep
open PySem L2 PySem.SeqAt
end Ep
namespace Ep
open PySem L2 PySem.SeqAt
end Ep

namespace L2
open PySem PySem.Spec PyProof.Rows
variable {X : Cx}
end L2
namespace Ep
open PySem L2 PySem.SeqAt
end Ep

namespace L2
open PySem PySem.Spec PyProof.Rows
section
variable {X : Cx}
def tNewD : TE := fun _ H Q => ∀ p, H p = none → Q (.ref p) (upd H p (.dK []))
theorem pe_dict0 {pos : Pos} : PE X (.Dict [] [] pos) tNewD := by
  intro pins s σ H Q I h
  refine wpAny_Dict_empty ?_
  have ok : ObjOk X.prog X.w (upd H s.heap.objs.size (.dK [])) (s.heap.push { cls := .type "dict", data := .dict #[] }) s.heap.objs.size (.dK []) := by
    refine ⟨Nat.zero_le _, ?_, [], .nil, Heap.DictOf.new s.heap⟩
    have g : mainGlobals < s.heap.objs.size := (I.mod.glob.keeps I.bk).lt
    have b : sysModules < mainGlobals := by decide
    exact beq_eq_false_iff_ne.mpr (fun z => by rw [z] at g; exact absurd (Nat.lt_trans b g) (Nat.lt_irrefl _))
  exact ⟨.ref s.heap.objs.size, _, I.laid (t' := s.toks) (fun _ _ q => Heap.get?_push_of_some _ q) (Nat.le_refl _) ok, rfl, h _ (I.hok.fresh (Nat.le_refl _))⟩
structure PEs (X : Cx) (e : Expr) (t : TE) : Prop where
  h : PE X e t
theorem pe_dict0S {pos : Pos} : PEs X (.Dict [] [] pos) tNewD := PEs.mk pe_dict0
structure PAs (X : Cx) (es : List Expr) (t : TA) : Prop where
  h : PA X es t
theorem pas_nil : PAs X [] tNil := PAs.mk pa_nil
theorem pas_cons {e : Expr} {es : List Expr} {te : TE} {t : TA} (ha : PE X e te) (hr : PAs X es t) (hs : starEach (e :: es) X.env = (false, eval e X.env) :: starEach es X.env := by rfl) : PAs X (e :: es) (tCons te t) := PAs.mk (pa_cons ha hr.h hs)
theorem pas_consD {e : Expr} {es : List Expr} {te : TE} {t : TA} (ha : PEs X e te) (hr : PAs X es t) (hs : starEach (e :: es) X.env = (false, eval e X.env) :: starEach es X.env := by rfl) : PAs X (e :: es) (tCons te t) := PAs.mk (pa_cons ha.h hr.h hs)
theorem pe_lstS {es : List Expr} {t : TA} {pos : Pos} (h : PAs X es t) : PE X (.List es pos) (tLst t) := pe_lst h.h
theorem kit_snoc {K : PySem.W.Frag} {t c : Value} (hc : PySem.W.kitOne K t c = some false) : ∀ {l : List Value}, PySem.W.kitAny K t l = some false → PySem.W.kitAny K t (l ++ [c]) = some false
  | [], _ => by
    show (match PySem.W.kitOne K t c with | some true => some true | some false => PySem.W.kitAny K t [] | none => none) = some false
    rw [hc]
    rfl
  | d :: l, h => by
    have h' : (match PySem.W.kitOne K t d with | some true => some true | some false => PySem.W.kitAny K t l | none => none) = some false := h
    show (match PySem.W.kitOne K t d with | some true => some true | some false => PySem.W.kitAny K t (l ++ [c]) | none => none) = some false
    cases e : PySem.W.kitOne K t d with
    | none => rw [e] at h'; cases h'
    | some b =>
      rw [e] at h'
      cases b with
      | true => cases h'
      | false => exact kit_snoc hc h'
end
end L2
namespace Ep
open PySem L2 PySem.SeqAt
inductive Odd (H : Hp) : V → Prop
  | bl (b : Bool) : Odd H (.bl b)
  | non : Odd H .non
  | str (s : Str) : Odd H (.str s)
  | lst {a : Addr} {xs : List V} (h : H a = some (.lst xs)) : Odd H (.ref a)
  | tup {a : Addr} {xs : List V} (h : H a = some (.tup xs)) : Odd H (.ref a)
  | dct {a : Addr} {kvs : List (Key × V)} (h : H a = some (.dK kvs)) : Odd H (.ref a)
theorem Odd.same {H H' : Hp} {x : V} (h : Odd H x) (s : Same H H') : Odd H' x := by
  cases h with
  | bl b => exact .bl b
  | non => exact .non
  | str z => exact .str z
  | lst h => exact .lst (s _ _ h)
  | tup h => exact .tup (s _ _ h)
  | dct h => exact .dct (s _ _ h)
def halved (i : Int) : Prop := i = 1 ∨ i = 2 ∨ i = 4 ∨ i = 8
instance (i : Int) : Decidable (halved i) := inferInstanceAs (Decidable (i = 1 ∨ i = 2 ∨ i = 4 ∨ i = 8))
theorem atI_mem {xs : List V} {z : Int} (h0 : 0 ≤ z) (h1 : z < xs.length) : ∃ x, atI xs z = some x ∧ x ∈ xs := by
  have hl : z.toNat < xs.length := by (first | lia | omega)
  refine ⟨xs[z.toNat], ?_, List.getElem_mem hl⟩
  unfold atI ixN
  rw [if_pos h0, if_pos h1]
  simp [hl]
def Bad1 (H : Hp) (x : V) : Prop := Odd H x ∨ ∃ i, x = .int i ∧ ¬ (1 ≤ i ∧ i ≤ 8)
theorem Odd.kp {p : Addr} {H H' : Hp} {x : V} (h : Odd H x) (k : Kp p H H') (n : x ≠ .ref p) : Odd H' x := by
  cases h with
  | bl b => exact .bl b
  | non => exact .non
  | str z => exact .str z
  | lst h => exact .lst (k _ _ h fun z => n (by rw [z]))
  | tup h => exact .tup (k _ _ h fun z => n (by rw [z]))
  | dct h => exact .dct (k _ _ h fun z => n (by rw [z]))
def SqW (H : Hp) (l : Addr) (ws : List (Int × Int)) : Prop := ∃ rs, (H l = some (.lst rs) ∨ H l = some (.tup rs)) ∧ Refs H rs ws
end Ep

namespace L2
open PySem PySem.Spec PyProof.Rows
section
variable {X : Cx}
def tDict1 (tk tv : TE) : TE := fun σ H Q => ∀ p, H p = none → tk σ (upd H p (.dK [])) fun x H1 => tv σ H1 fun y H2 => H2 p = some (.dK []) ∧ ∃ i, x = .int i ∧ Q (.ref p) (upd H2 p (.dK [(.inl i, y)]))
theorem pe_dict1 {pos : Pos} {k v : Expr} {tk tv : TE} (hk : PE X k tk) (hv : PE X v tv) : PE X (.Dict [some k] [v] pos) (tDict1 tk tv) := by
  intro pins s σ H Q I q
  have hn := I.hok.fresh (Nat.le_refl s.heap.objs.size)
  have ns : (s.heap.objs.size == sysModules) = false := by
    have g : mainGlobals < s.heap.objs.size := (I.mod.glob.keeps I.bk).lt
    have b : sysModules < mainGlobals := by decide
    exact beq_eq_false_iff_ne.mpr (fun z => by rw [z] at g; exact absurd (Nat.lt_trans b g) (Nat.lt_irrefl _))
  have ok : ObjOk X.prog X.w (upd H s.heap.objs.size (.dK [])) (s.heap.push { cls := .type "dict", data := .dict #[] }) s.heap.objs.size (.dK []) := ⟨Nat.zero_le _, ns, [], .nil, Heap.DictOf.new s.heap⟩
  have I1 := I.laid (t' := s.toks) (fun _ _ q => Heap.get?_push_of_some _ q) (Nat.le_refl _) ok
  refine wpAny_Dict_walk (knd := mixKind X.prog X.w) rfl rfl (by simp) (Nat.le_of_ble_eq_true rfl) ?_
  refine pairTrees_cons_walk (thn (hk pins _ σ _ _ I1 (q _ hn)) fun u s1 ⟨x, H1, I2, rx, q1⟩ => thn (hv pins s1 σ H1 _ I2 q1) fun w2 s2 ⟨y, H2, I3, ry, e, i, ex, q2⟩ => pairTrees_nil_walk ?_)
  subst ex
  obtain ⟨t, rfl⟩ := (show ∃ t, u = Value.int i t from rx)
  obtain ⟨_, _, vs0, r0, dd⟩ := (show ObjOk X.prog X.w H2 s2.heap s.heap.objs.size (.dK []) from I3.hok _ _ e)
  cases r0
  refine ⟨[(.inl i, w2)], ⟨keyIs_int i t, rfl, True.intro⟩, dd, fun h' dd' hs => ⟨.ref s.heap.objs.size, _, ?_, rfl, q2⟩⟩
  have he : ∃ q, h'.get? s.heap.objs.size = some q := let ⟨q, _, _, hq, _⟩ := dd'; ⟨q, hq⟩
  exact I3.write (x := s.heap.objs.size) (e := s.heap.objs.size) (by rw [e]; exact True.intro) (.inl rfl) (fun b q hb z => (hs.2 b hb).trans z) he ⟨lenLine (by show 1 ≤ 100000; decide), ns, [(.inl i, w2)], .cons ⟨rfl, ry⟩ .nil, dd'⟩
theorem pe_dict1S {pos : Pos} {k v : Expr} {tk tv : TE} (hk : PE X k tk) (hv : PE X v tv) : PEs X (.Dict [some k] [v] pos) (tDict1 tk tv) := PEs.mk (pe_dict1 hk hv)
inductive P_call_isTT (K : PySem.W.Frag) (xs : List V) (H : Hp) (Q : VK) : Prop
  | mk (x : _) (tp : _) (t : _) (cs : _) (ts : _) (b : _) (h1 : xs = [x, .ref tp]) (h2 : TyOf K H x t) (h3 : H tp = some (.tup cs)) (h4 : clVs cs = some ts) (h5 : PySem.W.kitAny K t ts = some b) (h6 : Q (.bl b) H) : P_call_isTT K xs H Q
theorem call_isTT : CallR X (.builtin "isinstance") (P_call_isTT X.K) := by
  intro pins s σ H xs us Q I r h
  obtain ⟨x, tp, t, cs, ts, b, rfl, ty, ht, hc, e, q⟩ := h
  obtain ⟨u, v, rfl, ru, rv⟩ := r.two
  cases rv
  obtain ⟨its, rv, pl, _⟩ := I.tuple (SqT.of (K := X.K) ht)
  obtain ⟨o, ho, hcl, n, hd⟩ := (show s.heap.IsTuple tp its.toArray from pl)
  cases clVs_rel hc rv
  cases o with
  | mk oc od oda osl =>
    cases hcl
    cases hd
    have h : ∀ tk, ∃ y H', Inv X pins σ H' { s with toks := tk } ∧ RelV y (Value.bool b) ∧ Q y H' := fun tk => ⟨.bl b, H, I.tok tk, rfl, q⟩
    cases ty with
    | non => cases (show u = Value.none from ru); exact PySem.W.kia_tup PySem.W.kitx_none I.kIn True.intro ho e (fun z => nomatch z) h
    | bl y => cases (show u = Value.bool y from ru); exact PySem.W.kia_tup PySem.W.kitx_bool I.kIn True.intro ho e (fun z => nomatch z) h
    | int i => obtain ⟨t, q⟩ := (show ∃ t, u = Value.int i t from ru); cases q; exact PySem.W.kia_tup PySem.W.kitx_int I.kIn True.intro ho e (fun z => nomatch z) h
    | str y => obtain ⟨t, q⟩ := (show ∃ t, u = Value.str y t from ru); cases q; exact PySem.W.kia_tup PySem.W.kitx_str I.kIn True.intro ho e (fun z => nomatch z) h
    | flt y => obtain ⟨t, q⟩ := (show ∃ t, u = Value.float y t from ru); cases q; exact PySem.W.kia_tup PySem.W.kitx_float I.kIn True.intro ho e (fun z => nomatch z) h
    | @lst a xs ea =>
      cases (show u = Value.ref a from ru)
      obtain ⟨_, _, n, _, h1⟩ := (show ObjOk X.prog X.w H s.heap a (.lst xs) from I.hok a _ ea)
      exact PySem.W.kia_tup PySem.W.kitx_list I.kIn ⟨_, h1, rfl⟩ ho e (fun z => nomatch z) h
    | @frz a ob xs ea =>
      cases (show u = Value.ref a from ru)
      obtain ⟨_, _, _, n, _, h1⟩ := (show ObjOk X.prog X.w H s.heap a (.frz ob (.lst xs)) from I.hok a _ ea)
      exact PySem.W.kia_tup PySem.W.kitx_list I.kIn ⟨_, h1, rfl⟩ ho e (fun z => nomatch z) h
    | @tup a xs ea =>
      cases (show u = Value.ref a from ru)
      obtain ⟨_, _, _, p⟩ := (show ObjOk X.prog X.w H s.heap a (.tup xs) from I.hok a _ ea)
      obtain ⟨o, h1, h2, _⟩ := p
      exact PySem.W.kia_tup PySem.W.kitx_tuple I.kIn ⟨o, h1, h2⟩ ho e (fun z => nomatch z) h
    | @dK a kvs ea =>
      cases (show u = Value.ref a from ru)
      obtain ⟨_, _, vs, _, p⟩ := (show ObjOk X.prog X.w H s.heap a (.dK kvs) from I.hok a _ ea)
      obtain ⟨o, es, ep, h1, h2, _⟩ := p
      exact PySem.W.kia_tup PySem.W.kitx_dict I.kIn ⟨o, h1, h2.1⟩ ho e (fun z => nomatch z) h
    | @dT a kvs ea =>
      cases (show u = Value.ref a from ru)
      obtain ⟨_, _, xs, _, o, es, ep, h1, h2, _⟩ := (show ObjOk X.prog X.w H s.heap a (.dT kvs) from I.hok a _ ea)
      exact PySem.W.kia_tup PySem.W.kitx_dict I.kIn ⟨o, h1, h2.1⟩ ho e (fun z => nomatch z) h
    | @ins a C dx fs ea cl ha hn htk hm =>
      cases (show u = Value.ref a from ru)
      obtain ⟨mA, O, _⟩ := ins_get I.hok ea
      obtain ⟨od, J, _⟩ := O.look
      exact PySem.W.kia_tup (PySem.W.kitx_own (cl.get _) cl.hd ha hn htk hm) I.kIn J ho e (fun z => nomatch z) h
end
end L2
namespace Ep
open PySem L2 PySem.SeqAt
def Th (H : Hp) (x : V) : Prop := (∃ i, x = .int i) ∨ Odd H x
theorem Th.same {H H' : Hp} {x : V} (h : Th H x) (s : Same H H') : Th H' x := h.imp id fun o => o.same s
theorem Th.back {H H' : Hp} {a : Addr} (h : Th H (.ref a)) (s : Same H H') {o : HO} (e : H' a = some o) : H a = some o := by
  rcases h with ⟨i, z⟩ | z
  · cases z
  · cases z with
    | lst h => rw [s _ _ h] at e; exact h.trans e
    | tup h => rw [s _ _ h] at e; exact h.trans e
    | dct h => rw [s _ _ h] at e; exact h.trans e
def isI : V → Bool
  | .int _ => true
  | _ => false
theorem odd_notI {H : Hp} {x : V} (h : Odd H x) : isI x = false := by cases h <;> rfl
inductive SpWholeTP (vs : List V) (H : Hp) (Q : VK) : Prop
  | mk (x : _) (h1 : vs = [x]) (h2 : Th H x) (h3 : Q (.bl (isI x)) H) : SpWholeTP vs H Q
def spWholeT : Sp := fun vs H Q _ => SpWholeTP  vs H Q
def laneB (wide : Int) : V → Bool
  | .int i => decide (0 ≤ i ∧ i < wide)
  | _ => false
theorem odd_notL {H : Hp} {x : V} {wide : Int} (h : Odd H x) : laneB wide x = false := by cases h <;> rfl
inductive SpLaneTP (vs : List V) (H : Hp) (Q : VK) : Prop
  | mk (wide : Int) (x : V) (h1 : vs = [.int wide, x]) (h2 : Th H x) (h3 : Q (.bl (laneB wide x)) H) : SpLaneTP vs H Q
def spLaneT : Sp := fun vs H Q _ => SpLaneTP  vs H Q
structure ThW (H : Hp) (x : V) : Prop where
  th : Th H x
  two : ∀ a y z, x = .ref a → H a = some (.tup [y, z]) → Th H y ∧ Th H z
theorem ThW.same {H H' : Hp} {x : V} (h : ThW H x) (s : Same H H') : ThW H' x := ⟨h.th.same s, fun a y z e k => by
  subst e
  obtain ⟨p, q⟩ := h.two a y z rfl (h.th.back s k)
  exact ⟨p.same s, q.same s⟩⟩
def IsW (wide : Int) (H : Hp) (x : V) : Prop := ∃ t a b, x = .ref t ∧ H t = some (.tup [.int a, .int b]) ∧ LaneOk wide (a, b)
theorem IsW.same {wide : Int} {H H' : Hp} {x : V} (h : IsW wide H x) (s : Same H H') : IsW wide H' x := let ⟨t, a, b, e, k, l⟩ := h; ⟨t, a, b, e, s _ _ k, l⟩
theorem IsW.back {wide : Int} {H H' : Hp} {x : V} (h : IsW wide H' x) (t : Th H x) (s : Same H H') : IsW wide H x := by
  obtain ⟨t', a, b, rfl, k, l⟩ := h
  exact ⟨t', a, b, rfl, t.back s k, l⟩
theorem isW_iff {wide : Int} {H H' : Hp} {x : V} (t : Th H x) (s : Same H H') : IsW wide H' x ↔ IsW wide H x := ⟨fun h => h.back t s, fun h => h.same s⟩
theorem IsW.thw {wide : Int} {H : Hp} {x : V} (h : IsW wide H x) : ThW H x := by
  obtain ⟨t, a, b, rfl, k, l⟩ := h
  refine ⟨.inr (.tup k), fun a' y z e k' => ?_⟩
  cases e
  rw [k] at k'
  cases k'
  exact ⟨.inl ⟨_, rfl⟩, .inl ⟨_, rfl⟩⟩
inductive SpWickTP (vs : List V) (H : Hp) (Q : VK) : Prop
  | mk (wide : Int) (x : V) (h1 : vs = [.int wide, x]) (h2 : ThW H x) (h3 : ∀ b : Bool, (b = true ↔ IsW wide H x) → Q (.bl b) H) : SpWickTP vs H Q
def spWickT : Sp := fun vs H Q _ => SpWickTP  vs H Q
def Sq (H : Hp) (l : Addr) (rs : List V) : Prop := H l = some (.lst rs) ∨ H l = some (.tup rs)
theorem Sq.same {H H' : Hp} {l : Addr} {rs : List V} (h : Sq H l rs) (s : Same H H') : Sq H' l rs := h.imp (s _ _) (s _ _)
theorem Sq.inj {H : Hp} {l : Addr} {rs us : List V} (h : Sq H l rs) (k : Sq H l us) : rs = us := by
  rcases h with h | h <;> rcases k with k | k <;> rw [h] at k <;> cases k <;> rfl
inductive SpAreTP (vs : List V) (H : Hp) (Q : VK) : Prop
  | mk (wide : Int) (l : Addr) (rs : List V) (h1 : vs = [.int wide, .ref l]) (h2 : Sq H l rs) (h3 : rs.length ≤ 2000) (h4 : (∀ x ∈ rs, ThW H x)) (h5 : ∀ (b : Bool) (H' : Hp), Same H H' → (b = true ↔ rs.length ≤ 40 ∧ ∀ x ∈ rs, IsW wide H x) → Q (.bl b) H') : SpAreTP vs H Q
def spAreT : Sp := fun vs H Q _ => SpAreTP  vs H Q
structure ThL (H : Hp) (y : V) : Prop where
  th : Th H y
  each : ∀ a rs, y = .ref a → Sq H a rs → rs.length ≤ 2000 ∧ ∀ x ∈ rs, ThW H x
theorem ThL.same {H H' : Hp} {y : V} (h : ThL H y) (s : Same H H') : ThL H' y := ⟨h.th.same s, fun a rs e k => by
  subst e
  obtain ⟨p, q⟩ := h.each a rs rfl (k.imp (h.th.back s) (h.th.back s))
  exact ⟨p, fun x hx => (q x hx).same s⟩⟩
def Makes (H : Hp) (x y : V) : Prop := ∃ wide l rs, x = .int wide ∧ 1 ≤ wide ∧ wide ≤ 8 ∧ y = .ref l ∧ Sq H l rs ∧ rs.length ≤ 40 ∧ ∀ z ∈ rs, IsW wide H z
theorem makes_iff {H H' : Hp} {x y : V} (t : ThL H y) (s : Same H H') : Makes H' x y ↔ Makes H x y := by
  constructor
  · rintro ⟨wide, l, rs, e, w1, w8, rfl, k, n, a⟩
    have k' : Sq H l rs := k.imp (t.th.back s) (t.th.back s)
    exact ⟨wide, l, rs, e, w1, w8, rfl, k', n, fun z hz => (a z hz).back ((t.each l rs rfl k').2 z hz).th s⟩
  · rintro ⟨wide, l, rs, e, w1, w8, rfl, k, n, a⟩
    exact ⟨wide, l, rs, e, w1, w8, rfl, k.same s, n, fun z hz => (a z hz).same s⟩
inductive SpMakesTP (vs : List V) (H : Hp) (Q : VK) : Prop
  | mk (x y : V) (h1 : vs = [x, y]) (h2 : Th H x) (h3 : ThL H y) (h4 : ∀ (b : Bool) (H' : Hp), Same H H' → (b = true ↔ Makes H x y) → Q (.bl b) H') : SpMakesTP vs H Q
def spMakesT : Sp := fun vs H Q _ => SpMakesTP  vs H Q
theorem refs_isW {wide : Int} {H : Hp} {rs : List V} {ws : List (Int × Int)} (h : Refs H rs ws) (ok : WOk wide ws) : ∀ z ∈ rs, IsW wide H z := fun z hz => by
  obtain ⟨i, hi⟩ := List.getElem?_of_mem hz
  obtain ⟨w0, t0, hw0, rfl, ht0⟩ := h.get hi
  exact ⟨t0, w0.1, w0.2, rfl, ht0, ok w0 (List.mem_of_getElem? hw0)⟩
theorem SqW.makes {H : Hp} {l : Addr} {wide : Int} {ws : List (Int × Int)} (h : SqW H l ws) (w1 : 1 ≤ wide) (w8 : wide ≤ 8) (ok : WOk wide ws) (len : ws.length ≤ 40) : Makes H (.int wide) (.ref l) ∧ ThL H (.ref l) := by
  obtain ⟨rs, k, r⟩ := h
  have lr := r.len
  refine ⟨⟨wide, l, rs, rfl, w1, w8, rfl, k, by (first | lia | omega), refs_isW r ok⟩, ⟨.inr (k.elim .lst .tup), fun a us e k' => ?_⟩⟩
  cases e
  cases Sq.inj k k'
  exact ⟨by (first | lia | omega), fun x hx => (refs_isW r ok x hx).thw⟩
inductive SpNetTP (an : Addr) (vs : List V) (H : Hp) (Q : VK) (E : XK) : Prop
  | mk (x y : V) (h1 : vs = [x, y]) (h2 : Th H x) (h3 : ThL H y) (h4 : ((¬ Makes H x y ∧ ∀ H', Same H H' → E (.ref an) none H') ∨ ∃ (wide : Int) (l : Addr) (ws : List (Int × Int)), x = .int wide ∧ y = .ref l ∧ SqW H l ws ∧ 1 ≤ wide ∧ wide ≤ 8 ∧ WOk wide ws ∧ ws.length ≤ 40 ∧ ∀ (v : V) (H' : Hp), Same H H' → Net H' v wide ws → Q v H')) : SpNetTP an vs H Q E
def spNetT (an : Addr) : Sp := fun vs H Q E => SpNetTP an vs H Q E
inductive SpNetNP (vs : List V) (H : Hp) (Q : VK) : Prop
  | mk (wide : Int) (l : Addr) (ws : List (Int × Int)) (h1 : vs = [.int wide, .ref l]) (h2 : SqW H l ws) (h3 : 1 ≤ wide) (h4 : wide ≤ 8) (h5 : WOk wide ws) (h6 : ws.length ≤ 40) (h7 : ∀ (v : V) (H' : Hp), Same H H' → Net H' v wide ws → Q v H') : SpNetNP vs H Q
def spNetN : Sp := fun vs H Q _ => SpNetNP  vs H Q
theorem net_n {an : Addr} (vs : List V) (H : Hp) (Q : VK) (E : XK) (h : spNetN vs H Q E) : spNetT an vs H Q E := by
  obtain ⟨wide, l, ws, rfl, sq, w1, w8, ok, len, q⟩ := h
  exact ⟨_, _, rfl, .inl ⟨_, rfl⟩, (sq.makes w1 w8 ok len).2, .inr ⟨wide, l, ws, rfl, rfl, sq, w1, w8, ok, len, q⟩⟩
structure ThN (H : Hp) (x : V) : Prop where
  th : Th H x
  two : ∀ a y z, x = .ref a → H a = some (.tup [y, z]) → Th H y ∧ ThL H z
def IsN (H : Hp) (x : V) : Prop := ∃ a y l rs, x = .ref a ∧ H a = some (.tup [y, .ref l]) ∧ H l = some (.tup rs) ∧ Makes H y (.ref l)
inductive SpIsNetTP (vs : List V) (H : Hp) (Q : VK) : Prop
  | mk (x : V) (h1 : vs = [x]) (h2 : ThN H x) (h3 : ∀ (b : Bool) (H' : Hp), Same H H' → (b = true ↔ IsN H x) → Q (.bl b) H') : SpIsNetTP vs H Q
def spIsNetT : Sp := fun vs H Q _ => SpIsNetTP  vs H Q
inductive SpTold01P (vs : List V) (H : Hp) (Q : VK) : Prop
  | mk (x y : V) (h1 : vs = [x, y]) (h2 : Th H x) (h3 : ThL H y) (h4 : ((¬ Makes H x y ∧ ∀ H', Same H H' → Q (.str "refused") H') ∨ ∃ (wide : Int) (l : Addr) (ws : List (Int × Int)), x = .int wide ∧ y = .ref l ∧ SqW H l ws ∧ 1 ≤ wide ∧ wide ≤ 8 ∧ WOk wide ws ∧ ws.length ≤ 40 ∧ ∀ (v : V) (H' : Hp), Same H H' → Net H' v wide ws → Q v H')) : SpTold01P vs H Q
def spTold01 : Sp := fun vs H Q _ => SpTold01P  vs H Q
inductive SpGoodP (vs : List V) (H : Hp) (Q : VK) : Prop
  | mk (wide : Int) (l : Addr) (ws : List (Int × Int)) (h1 : vs = [.int wide, .ref l]) (h2 : SqW H l ws) (h3 : 1 ≤ wide) (h4 : wide ≤ 8) (h5 : WOk wide ws) (h6 : ws.length ≤ 40) (h7 : ∀ (H' : Hp), Same H H' → Q (.bl true) H') : SpGoodP vs H Q
def spGood : Sp := fun vs H Q _ => SpGoodP  vs H Q
inductive SpBadP (vs : List V) (H : Hp) (Q : VK) : Prop
  | mk (x y : V) (h1 : vs = [x, y]) (h2 : Th H x) (h3 : ThL H y) (h4 : ¬ Makes H x y) (h5 : ∀ (H' : Hp), Same H H' → Q (.bl true) H') : SpBadP vs H Q
def spBad : Sp := fun vs H Q _ => SpBadP  vs H Q
inductive SpOddWP (vs : List V) (H : Hp) (Q : VK) : Prop
  | mk (p : Addr) (wide : Int) (h1 : vs = [.ref p, .int wide]) (h2 : Pen H p) (h3 : 1 ≤ wide) (h4 : wide ≤ 8) (h5 : ∀ (z : V) (H' : Hp), Kp p H H' → Pen H' p → ThW H' z → ¬ IsW wide H' z → Q z H') : SpOddWP vs H Q
def spOddW : Sp := fun vs H Q _ => SpOddWP  vs H Q
inductive SpOddWideP (vs : List V) (H : Hp) (Q : VK) : Prop
  | mk (p : Addr) (h1 : vs = [.ref p]) (h2 : Pen H p) (h3 : ∀ (x : V) (H' : Hp), Kp p H H' → Pen H' p → Bad1 H' x → x ≠ .ref p → Q x H') : SpOddWideP vs H Q
def spOddWide : Sp := fun vs H Q _ => SpOddWideP  vs H Q
inductive SpOddListP (vs : List V) (H : Hp) (Q : VK) : Prop
  | mk (p : Addr) (h1 : vs = [.ref p]) (h2 : Pen H p) (h3 : ∀ (y : V) (H' : Hp), Kp p H H' → Pen H' p → Th H' y → (∀ a rs, y = .ref a → ¬ Sq H' a rs) → Q y H') : SpOddListP vs H Q
def spOddList : Sp := fun vs H Q _ => SpOddListP  vs H Q
theorem IsW.kt {wide : Int} {H H' : Hp} {x : V} (h : IsW wide H x) (k : KT H H') : IsW wide H' x := let ⟨t, a, b, e, z, l⟩ := h; ⟨t, a, b, e, k _ _ z, l⟩
theorem pair_thw {H : Hp} {t : Addr} {a b : Int} (h : H t = some (.tup [.int a, .int b])) : ThW H (.ref t) := by
  refine ⟨.inr (.tup h), fun a' y z e k' => ?_⟩
  cases e
  rw [h] at k'
  cases k'
  exact ⟨.inl ⟨_, rfl⟩, .inl ⟨_, rfl⟩⟩
def wsD (ws : List (Int × Int)) : PyData := .list (ws.map fun x => .tuple [.int x.1, .int x.2])
theorem dat_ws {H : Hp} {l : Addr} {rs : List V} {ws : List (Int × Int)} (h : H l = some (.lst rs)) (r : Refs H rs ws) : Dat H (.ref l) (wsD ws) := .lst h (dats_refs r)
theorem shaped_ws (ws : List (Int × Int)) : shaped (wsD ws) = true := by
  obtain ⟨a, b⟩ := lay_pairs ws
  show (PyData.canLay0 (.list _) && decide (PyData.depth (.list _) ≤ 64)) = true
  rw [Bool.and_eq_true]
  constructor
  · simp only [PyData.canLay0, a]
  · refine decide_eq_true ?_
    simp only [PyData.depth]
    (first | lia | omega)
theorem mix_ws (ws : List (Int × Int)) : noMix (wsD ws) (wsD ws) = true := by
  simp only [wsD, noMix, mix_pairs ws]
theorem mix_nil (ws : List (Int × Int)) : noMix (wsD ws) (.list []) = true := by
  cases ws <;> simp [wsD, noMix, noMixAll]
theorem same_nil (ws : List (Int × Int)) : PySem.Spec.same (wsD ws) (.list []) = decide (ws = []) := by
  cases ws <;> simp [wsD, PySem.Spec.same, PySem.Spec.sameAll]
theorem list_thl {H : Hp} {l : Addr} {rs : List V} (h : H l = some (.lst rs)) (n : rs.length ≤ 2000) (each : ∀ x ∈ rs, ThW H x) : ThL H (.ref l) := ⟨.inr (.lst h), fun a us e k => by
  cases e
  cases Sq.inj (.inl h) k
  exact ⟨n, each⟩⟩
theorem list_not {H : Hp} {l : Addr} {rs : List V} {wide : Int} (h : H l = some (.lst rs)) (bad : 40 < rs.length ∨ ∃ x ∈ rs, ¬ IsW wide H x) : ¬ Makes H (.int wide) (.ref l) := by
  rintro ⟨w, l', us, e, _, _, e2, k, n, all⟩
  cases e
  cases e2
  cases Sq.inj (.inl h) k
  rcases bad with b | ⟨x, hx, nx⟩
  · (first | lia | omega)
  · exact nx (all x hx)
theorem not_isN {H : Hp} {a : Addr} {xs : List V} (h : H a = some (.tup xs)) (n : ∀ y l us, xs = [y, .ref l] → H l = some (.tup us) → False) : ¬ IsN H (.ref a) := by
  rintro ⟨a', y, l, us, e, k, k2, _⟩
  cases e
  rw [h] at k
  cases k
  exact n y l us rfl k2
theorem tup_thn {H : Hp} {a : Addr} {xs : List V} (h : H a = some (.tup xs)) (n : ∀ y z, xs = [y, z] → Th H y ∧ ThL H z) : ThN H (.ref a) := by
  refine ⟨.inr (.tup h), fun a' y z e k => ?_⟩
  cases e
  rw [h] at k
  cases k
  exact n y z rfl
theorem flat_thn {H : Hp} {x : V} (h : Th H x) (n : ∀ a xs, x = .ref a → H a ≠ some (.tup xs)) : ThN H x ∧ ¬ IsN H x :=
  ⟨⟨h, fun a y z e k => absurd k (n a _ e)⟩, fun ⟨a, y, l, us, e, k, _⟩ => n a _ e k⟩
theorem cut_memT {xs : List V} {lo hi : Option Int} {x : V} (h : x ∈ cutV xs lo hi) : x ∈ xs := List.mem_of_mem_drop (List.mem_of_mem_take h)
theorem Bad1.th {H : Hp} {x : V} (h : Bad1 H x) : Th H x := by
  rcases h with o | ⟨i, e, _⟩
  · exact .inr o
  · exact .inl ⟨i, e⟩
theorem Bad1.not {H H' : Hp} {x y : V} (h : Bad1 H x) : ¬ Makes H' x y := by
  rintro ⟨w, l, us, e, w1, w8, _⟩
  subst e
  rcases h with o | ⟨i, e, n⟩
  · have := odd_notI o
    cases this
  · cases e
    exact n ⟨w1, w8⟩
theorem many_len {xs : List V} {u : Int} (u0 : 0 ≤ u) (h : 41 ≤ xs.length) : 40 < (cutV xs none (some (41 + u))).length := by
  obtain ⟨n, hn⟩ : ∃ n : Nat, 41 + u = (n : Int) := ⟨(41 + u).toNat, by (first | lia | omega)⟩
  rw [hn]
  by_cases g : n ≤ xs.length
  · rw [cut_first g, List.length_take]
    (first | lia | omega)
  · unfold cutV
    rw [List.length_take, List.length_drop]
    rw [HT.sIx_nat, HT.sIx_none, Nat.min_eq_right (by (first | lia | omega))]
    (first | lia | omega)
end Ep


namespace Ep
open PySem L2
def top (i : Nat) : Stmt := PySem.Challenge.pw_evenpass_k01_nets_made.main.body.getD i (.Pass ⟨0, 0, 0, 0⟩)
abbrev s_is_whole : Stmt := top 12
abbrev s_is_lane : Stmt := top 13
abbrev s_is_wicket : Stmt := top 14
abbrev s_are_wickets : Stmt := top 15
abbrev s_makes_net : Stmt := top 16
abbrev s_net_of : Stmt := top 17
abbrev s_is_net : Stmt := top 18
abbrev s_pen : Stmt := top 20
abbrev s_take : Stmt := top 21
abbrev s_wickets : Stmt := top 22
abbrev s_odd_wicket : Stmt := top 23
abbrev s_odd_wide : Stmt := top 24
abbrev s_odd_list : Stmt := top 25
abbrev s_told : Stmt := top 26
abbrev s_good : Stmt := top 27
abbrev s_bad : Stmt := top 28
abbrev s_law : Stmt := top 29
end Ep

namespace Ep
open PySem L2 PySem.SeqAt
local macro_rules | `(tactic| walk_at "cm") => `(tactic| first | exact .inr ⟨by decide, by decide⟩ | exact .inl ⟨by decide, by decide⟩ | exact .inl ⟨by omega, by omega⟩ | exact .inr ⟨by omega, by omega⟩)
local macro_rules | `(tactic| walk_at "side") => `(tactic| first
  | (show (0 : Int) < _; first | decide | omega)
  | (show CMul _ _; walk_at "cm")
  | (show List.length _ ≤ sizeLine; exact lenLine (by simp only [List.length_cons, List.length_nil] <;> omega))
  | (show tyV _ _ _ _; exact .inl ⟨rfl, _, SqL.of (by walk_at "hh")⟩)
  | (show CPow _ _; exact ⟨by decide, by decide, by decide⟩)
  | (show _ ∧ _; exact ⟨by first | decide | omega, by first | decide | omega⟩)
  | omega)
local macro_rules | `(tactic| walk_at "rd1") => `(tactic| first
  | refine ⟨_, rfl, ?_⟩
  | refine ⟨_, _, rfl, rfl, ?_⟩
  | refine ⟨_, _, _, _, rfl, rfl, SqL.of (by assumption), by first | rfl | assumption, ?_⟩
  | refine ⟨_, _, _, _, rfl, rfl, SqT.of (by assumption), by first | rfl | assumption, ?_⟩
  | refine ⟨_, _, rfl, rfl, by walk_at "side", ?_⟩
  | refine REqP.mk rfl ?_
  | refine RNeP.mk rfl ?_
  | refine NewOb.mk (by walk_at "side") ?_
  | refine And.intro rfl ?_
  | refine And.intro (by walk_at "side") ?_
  | refine Or.inr ⟨_, rfl, ?_⟩)
local macro_rules | `(tactic| walk_at "rd") => `(tactic| repeat walk_at "rd1")
local macro_rules | `(tactic| walk_at "ne") => `(tactic| first
  | assumption
  | exact Ne.symm (by assumption)
  | exact ne1 (by assumption) (by walk_at "hh")
  | exact ne2 (by assumption) (by walk_at "hh")
  | exact ne3 (by assumption) (by walk_at "hh")
  | exact ne4 (by assumption) (by walk_at "hh"))
local macro_rules | `(tactic| walk_at "hh") => `(tactic| first
  | assumption
  | exact upd_same
  | exact (upd_ne (by walk_at "ne")).trans (by walk_at "hh")
  | exact (by assumption : Same _ _) _ _ (by walk_at "hh")
  | exact (by assumption : Kp _ _ _) _ _ (by walk_at "hh") (by walk_at "ne"))
local macro_rules | `(tactic| walk_at "fr") => `(tactic| first
  | assumption
  | exact free2 (by assumption) (by walk_at "sm"))
local macro_rules | `(tactic| walk_at "sm") => `(tactic| first
  | assumption
  | exact Same.refl _
  | exact Same.put (by walk_at "fr") (by walk_at "sm")
  | exact trans2 (by assumption) (by walk_at "sm"))
local macro_rules | `(tactic| walk_at "kt") => `(tactic| first
  | exact KT.refl _
  | assumption
  | exact KT.new (by assumption) (by walk_at "kt")
  | exact KT.lst (by walk_at "hh") (by walk_at "kt")
  | exact KT.same (by assumption) (by walk_at "kt")
  | exact KT.kp (by assumption) (by walk_at "hh") (by walk_at "kt"))

section
variable {P : Program} {w : World} {K : PySem.W.Frag} {mg : Str → Option Value} {base : Heap} {f : Addr} {fd : FuncData}
theorem sc_take : FnScope ["_law_pen_here", "_law_size", "_law_found", "_law_number"] ["_law_pen_here", "_law_size"] (defScope s_take) := ⟨rfl, rfl, rfl, by decide +kernel, rfl, by decide +kernel, by decide +kernel⟩
theorem ok_take (F : Here K mg "_law_take" s_take f fd) : FnOk P w K mg base CX0 1 f fd ["_law_pen_here", "_law_size"] spTake := by
  refine F.fn.ok sc_take (fun vs H Q E h => ?_) (fun cdv A outer s H vs Q E hr h => ?_)
  · obtain ⟨p, a, b, c, n, rfl, _⟩ := h
    rfl
  · obtain ⟨p, a, b, c, n, rfl, hp, h0, h1, k⟩ := h
    refine ⟨_, (pss_cons (ps_if (pt_cmpR op_gt (pe_ix ix_list (pv 0) pe_int (fun _ _ => rfl)) pe_int (nomark _))
    (pss_cons (ps_set (i := 2) sc_take.nd rfl (by first | exact Or.inl rfl | exact Or.inr rfl) (pe_op op_mod (pe_ix ix_list (pv 0) pe_int (fun _ _ => rfl)) (pv 1)))
    (pss_cons (ps_asg (pe_op op_fdivB (pe_ix ix_list (pv 0) pe_int (fun _ _ => rfl)) (pv 1)) (pg_sub (pv 0) pe_int set_list))
    (pss_one (ps_ret (pv 2)))))
    pss_nil)
    (pss_cons (ps_asg (pe_op op_add (pe_ix ix_list (pv 0) pe_int (fun _ _ => rfl)) pe_int) (pg_sub (pv 0) pe_int set_list))
    (pss_cons (ps_set (i := 3) sc_take.nd rfl (by first | exact Or.inl rfl | exact Or.inr rfl) (pe_op op_mod (pe_op op_mul (pe_op op_add (pe_ix ix_list (pv 0) pe_int (fun _ _ => rfl)) (pe_op op_mul pe_int (pe_ix ix_list (pv 0) pe_int (fun _ _ => rfl)))) pe_int) pe_int))
    (pss_cons (ps_set (i := 3) sc_take.nd rfl (by first | exact Or.inl rfl | exact Or.inr rfl) (pe_op op_mod (pe_op op_add (pe_op op_mul (pv 3) (pv 3)) (pe_op op_mul pe_int (pe_ix ix_list (pv 0) pe_int (fun _ _ => rfl)))) pe_int))
    (pss_cons (ps_set (i := 3) sc_take.nd rfl (by first | exact Or.inl rfl | exact Or.inr rfl) (pe_op op_mod (pe_op op_mul (pv 3) (pe_op op_add (pe_op op_mod (pv 3) pe_int) (pe_ix ix_list (pv 0) pe_int (fun _ _ => rfl)))) pe_int))
    (pss_one (ps_ret (pe_op op_mod (pe_op op_fdivB (pv 3) pe_int) (pv 1))))))))), ?_⟩
    walk_at "rd"
    refine ite2 (fun g => ?_) (fun g => ?_)
    · walk_at "rd"
      refine ⟨p, _, _, _, rfl, rfl, hp, rfl, ?_⟩
      walk_at "rd"
      exact k _ _ _ _ (Int.emod_nonneg _ (by (first | lia | omega))) (Int.emod_lt_of_pos _ h0)
    · walk_at "rd"
      refine ⟨p, _, _, _, rfl, rfl, hp, rfl, ?_⟩
      have hp2 : (upd H p (HO.lst [V.int a, V.int (b + 1), V.int c])) p = some (.lst [V.int a, V.int (b + 1), V.int c]) := upd_same
      walk_at "rd"
      exact k _ _ _ _ (Int.emod_nonneg _ (by (first | lia | omega))) (Int.emod_lt_of_pos _ h0)
end
section
variable {P : Program} {w : World} {K : PySem.W.Frag} {mg : Str → Option Value} {base : Heap} {f : Addr} {fd : FuncData}
theorem sc_pen : FnScope ["_law_script", "_law_k", "_law_cell"] ["_law_script", "_law_k"] (defScope s_pen) := ⟨rfl, rfl, rfl, by decide +kernel, rfl, by decide +kernel, by decide +kernel⟩
theorem ok_pen (T : Bn mg) (F : Here K mg "_law_pen" s_pen f fd) : FnOk P w K mg base CX0 1 f fd ["_law_script", "_law_k"] (spPen K) := by
  refine F.fn.ok sc_pen (fun vs H Q E h => ?_) (fun cdv A outer s H vs Q E hr h => ?_)
  · obtain ⟨a, ns, k, rfl, _⟩ := h
    rfl
  · obtain ⟨a, ns, k, rfl, hS, h63, h0, h1, q⟩ := h
    refine ⟨_, (pss_cons (ps_set (i := 2) sc_pen.nd rfl (by first | exact Or.inl rfl | exact Or.inr rfl) (pe_op op_add (pe_op op_mul pe_int (pv 1)) pe_int))
    (pss_cons (ps_if (pt_cmpR op_gt (pe_callB call_len_seq rfl T.n_len PySem.boot_len (pa_cons (pv 0) pa_nil)) pe_int (nomark _))
    (pss_cons (ps_set (i := 2) sc_pen.nd rfl (by first | exact Or.inl rfl | exact Or.inr rfl) (pe_ix ix_list (pv 0) (pe_op op_mod (pv 1) (pe_callB call_len_seq rfl T.n_len PySem.boot_len (pa_cons (pv 0) pa_nil))) (fun _ _ => rfl)))
    (pss_one (ps_if (pt_cmpR op_ge (pv 1) (pe_callB call_len_seq rfl T.n_len PySem.boot_len (pa_cons (pv 0) pa_nil)) (nomark _))
    (pss_one (ps_set (i := 2) sc_pen.nd rfl (by first | exact Or.inl rfl | exact Or.inr rfl) (pe_op op_add (pe_op op_mod (pv 2) pe_int) (pe_op op_mul pe_int (pv 1)))))
    pss_nil)))
    pss_nil)
    (pss_cons (ps_if (pt_cmpR op_ge (pv 2) (pe_op op_pow pe_int pe_int) (nomark _))
    (pss_one (ps_ret (pe_lst (pa_cons (pe_op op_sub (pv 2) (pe_op op_pow pe_int pe_int)) (pa_cons pe_int (pa_cons (pe_op op_add (pe_op op_mod (pv 2) pe_int) (pv 1)) pa_nil))))))
    pss_nil)
    (pss_one (ps_ret (pe_lst (pa_cons pe_int (pa_cons pe_int (pa_cons (pe_op op_add (pe_op op_mod (pv 2) pe_int) (pe_op op_mul pe_int (pv 1))) pa_nil))))))))), ?_⟩
    have hl : (ns.map V.int).length = ns.length := List.length_map _
    walk_at "rd"
    refine ⟨_, _, rfl, .inl hS, ?_⟩
    walk_at "rd"
    refine ite2 (fun g => ?_) (fun g => ?_)
    · have g' := of_decide_eq_true g
      rw [hl] at g'
      walk_at "rd"
      refine ⟨_, _, rfl, .inl hS, ?_⟩
      walk_at "rd"
      refine ⟨a, _, _, _, rfl, rfl, hS, atI_int (Int.emod_nonneg _ (by (first | lia | omega))) (by rw [hl]; exact Int.emod_lt_of_pos _ (by (first | lia | omega))), ?_⟩
      walk_at "rd"
      refine ⟨_, _, rfl, .inl hS, ?_⟩
      walk_at "rd"
      refine ite2 (fun g => ?_) (fun g => ?_)
      all_goals
        walk_at "rd"
        refine ite2 (fun g => ?_) (fun g => ?_)
        · walk_at "rd"
          intro p hp
          exact q p _ _ _ hp
        · walk_at "rd"
          intro p hp
          exact q p _ _ _ hp
    · walk_at "rd"
      refine ite2 (fun g => ?_) (fun g => ?_)
      · walk_at "rd"
        intro p hp
        exact q p _ _ _ hp
      · walk_at "rd"
        intro p hp
        exact q p _ _ _ hp
end
section
variable {P : Program} {w : World} {K : PySem.W.Frag} {mg : Str → Option Value} {base : Heap} {f : Addr} {fd : FuncData}
theorem sc_wickets : FnScope ["_law_pen_here", "_law_wide", "_law_many", "_law_found", "_law_k", "_law_first"] ["_law_pen_here", "_law_wide", "_law_many"] (defScope s_wickets) := ⟨rfl, rfl, rfl, by decide +kernel, rfl, by decide +kernel, by decide +kernel⟩
theorem ok_wickets (T : Bn mg) (F : Here K mg "_law_wickets" s_wickets f fd) (C_law_take : Callee P w K mg base "_law_take" 1 ["_law_pen_here", "_law_size"] spTake) :
    FnOk P w K mg base CX0 2 f fd ["_law_pen_here", "_law_wide", "_law_many"] spWickets := by
  refine F.fn.ok sc_wickets (fun vs H Q E h => ?_) (fun cdv A outer s H vs Q E hr h => ?_)
  · obtain ⟨p, wide, many, rfl, _⟩ := h
    rfl
  · obtain ⟨p, wide, many, rfl, ⟨a0, b0, c0, hp0⟩, w1, w8, m0, m41, q⟩ := h
    refine ⟨_, (pss_cons (ps_set (i := 3) sc_wickets.nd rfl (by first | exact Or.inl rfl | exact Or.inr rfl) (pe_lst pa_nil))
    (pss_cons (ps_for PassesOwn.never rfl  (pi_range1 rfl T.n_range (pa_cons (pe_op op_mul (pv 2) (pe_callTy call_int1 rfl T.n_int boot_intT (pa_cons (pe_cmpR op_gt (pv 1) pe_int (nomark _)) pa_nil))) pa_nil)) (pg_name (i := 4) sc_wickets.nd rfl (by first | exact Or.inl rfl | exact Or.inr rfl))
    (pss_cons (ps_set (i := 5) sc_wickets.nd rfl (by first | exact Or.inl rfl | exact Or.inr rfl) (pe_callC C_law_take (hr.mono (by first | decide | (first | lia | omega))) rfl (pa_cons (pv 0) (pa_cons (pv 1) pa_nil))))
    (pss_one (ps_expr (pe_bm PySem.F.plainAttrs_list PySem.F.slot_list_append PySem.F.type_list_append mt_append (pv 3) (pa_cons (pe_tup (pa_cons (pv 5) (pa_cons (pe_op op_mod (pe_op op_add (pe_op op_add (pv 5) pe_int) (pe_callC C_law_take (hr.mono (by first | decide | (first | lia | omega))) rfl (pa_cons (pv 0) (pa_cons (pe_op op_sub (pv 1) pe_int) pa_nil)))) (pv 1)) pa_nil))) pa_nil))))))
    (pss_one (ps_ret (pv 3))))), ?_⟩
    walk_at "rd"
    intro l hl
    have npl : p ≠ l := ne_of_none hp0 hl
    walk_at "rd"
    have hj : ∃ j : Nat, many * (if decide (1 < wide) = true then (1 : Int) else 0) = (j : Int) ∧ (j : Int) ≤ many ∧ (0 < j → 1 < wide) := by
      by_cases hw : 1 < wide
      · exact ⟨many.toNat, by rw [if_pos (decide_eq_true hw)]; (first | lia | omega), by (first | lia | omega), fun _ => hw⟩
      · exact ⟨0, by rw [if_neg (by simpa using hw)]; (first | lia | omega), by (first | lia | omega), fun z => absurd z (by (first | lia | omega))⟩
    obtain ⟨j, ej, jm, jw⟩ := hj
    show -(2 ^ 62) ≤ many * (if decide (1 < wide) = true then (1 : Int) else 0) ∧ _
    rw [ej]
    refine ⟨by (first | lia | omega), by (first | lia | omega), ?_⟩
    refine for_range (n := (j : Int).toNat) (fun i σ Hc => ∃ (v4 v5 : Option V) (ws : List (Int × Int)), σ = [some (.ref p), some (.int wide), some (.int many), some (.ref l), v4, v5] ∧ Kp p H Hc ∧ Pen Hc p ∧ WsL Hc l ws ∧ WOk wide ws ∧ ws.length = i)
      ⟨none, none, [], rfl, Kp.put hl (Kp.refl _ _), ⟨a0, b0, c0, by rw [upd_ne npl]; exact hp0⟩, ⟨[], upd_same, .nil⟩, WOk.nil, rfl⟩ ?_ ?_
    · rintro i σ Hc hlt ⟨v4, v5, ws, rfl, kp, ⟨a, b, c, hp⟩, ⟨rs, hls, hrs⟩, ok, len⟩
      have hw : 1 < wide := jw (by (first | lia | omega))
      walk_at "rd"
      refine ⟨p, a, b, c, wide, rfl, hp, by (first | lia | omega), by (first | lia | omega), fun v a' b' c' v0 vw => ?_⟩
      have hl1 : (upd Hc p (HO.lst [V.int a', V.int b', V.int c'])) l = some (.lst rs) := by rw [upd_ne (Ne.symm npl)]; exact hls
      walk_at "rd"
      refine ⟨p, a', b', c', wide - 1, rfl, upd_same, by (first | lia | omega), by (first | lia | omega), fun u a2 b2 c2 u0 uw => ?_⟩
      walk_at "rd"
      intro t ht
      have kp2 : Kp p Hc (upd (upd (upd Hc p (HO.lst [V.int a', V.int b', V.int c'])) p (HO.lst [V.int a2, V.int b2, V.int c2])) t (HO.tup [V.int v, V.int ((v + 1 + u) % wide)])) :=
        Kp.trans (Kp.trans Kp.upd Kp.upd) (Kp.same (same_new ht _))
      have ntl : t ≠ l := fun z => by
        rw [z, upd_ne (Ne.symm npl), upd_ne (Ne.symm npl), hls] at ht
        cases ht
      have ntp : t ≠ p := fun z => by
        rw [z, upd_same] at ht
        cases ht
      refine ⟨l, rs, _, rfl, rfl, kp2 l _ hls (Ne.symm npl), lenLt (by have := hrs.len; (first | lia | omega)), ?_⟩
      have hv : (v + 1 + u) % wide ≠ v ∧ 0 ≤ (v + 1 + u) % wide ∧ (v + 1 + u) % wide < wide := by
        refine ⟨fun z => ?_, Int.emod_nonneg _ (by (first | lia | omega)), Int.emod_lt_of_pos _ (by (first | lia | omega))⟩
        by_cases hh : v + 1 + u < wide
        · rw [Int.emod_eq_of_lt (by (first | lia | omega)) hh] at z
          (first | lia | omega)
        · have e2 : (v + 1 + u) % wide = v + 1 + u - wide := by
            rw [Int.emod_eq_emod_iff_emod_sub_eq_zero.mpr (show (v + 1 + u - (v + 1 + u - wide)) % wide = 0 by rw [show v + 1 + u - (v + 1 + u - wide) = wide by (first | lia | omega)]; exact Int.emod_self)]
            exact Int.emod_eq_of_lt (by (first | lia | omega)) (by (first | lia | omega))
          rw [e2] at z
          (first | lia | omega)
      refine ⟨_, _, ws ++ [(v, (v + 1 + u) % wide)], rfl, Kp.put hl (Kp.trans kp kp2), ?_, ?_, ok.app (WOk.one ⟨v0, vw, hv.2.1, hv.2.2, Ne.symm hv.1⟩), by simp [len]⟩
      · exact ⟨a2, b2, c2, by rw [upd_ne npl, upd_ne (Ne.symm ntp), upd_same]⟩
      · refine ⟨_, upd_same, ?_⟩
        have hr2 := hrs.kp kp2 hp
        refine (hr2.app (.cons ⟨t, rfl, upd_same⟩ .nil)).mono fun b xs e => ?_
        rw [upd_ne (fun z => ?_)]
        · exact e
        · subst z
          rw [kp2 _ _ hls (Ne.symm npl)] at e
          cases e
    · rintro σ Hc ⟨v4, v5, ws, rfl, kp, pn, wl, ok, len⟩
      walk_at "rd"
      exact q l ws Hc hl kp pn wl ok (by (first | lia | omega))
end
section
variable {P : Program} {w : World} {K : PySem.W.Frag} {mg : Str → Option Value} {base : Heap} {f : Addr} {fd : FuncData}
theorem sc_is_whole : FnScope ["thing"] ["thing"] (defScope s_is_whole) := ⟨rfl, rfl, rfl, by decide +kernel, rfl, by decide +kernel, by decide +kernel⟩
theorem ok_is_whole (T : Bn mg) (F : Here K mg "is_whole" s_is_whole f fd) : FnOk P w K mg base CX0 1 f fd ["thing"] spWholeT := by
  refine F.fn.ok sc_is_whole (fun vs H Q E h => ?_) (fun cdv A outer s H vs Q E hr h => ?_)
  · obtain ⟨x, rfl, _⟩ := h
    rfl
  · obtain ⟨x, rfl, t, q⟩ := h
    refine ⟨_, (pss_one (ps_ret (pe_and (pe_callB call_isinst rfl T.n_isinstance boot_isinstance (pa_cons (pv 0) (pa_cons (pe_bltn (v := V.ty "int") (u := .type "int") rfl T.n_int (by decide +kernel) rfl) pa_nil))) (pe_one (pe_not (pe_callB call_isinst rfl T.n_isinstance boot_isinstance (pa_cons (pv 0) (pa_cons (pe_bltn (v := V.ty "bool") (u := .type "bool") rfl T.n_bool (by decide +kernel) rfl) pa_nil)))))))), ?_⟩
    rcases t with ⟨i, rfl⟩ | o
    · refine ⟨_, rfl, _, _, _, true, rfl, TyOf.int i, rfl, _, rfl, iteTd rfl ?_⟩
      exact ⟨_, rfl, _, _, _, false, rfl, TyOf.int i, rfl, _, rfl, q⟩
    · cases o with
      | bl b =>
        refine ⟨_, rfl, _, _, _, true, rfl, TyOf.bl b, rfl, _, rfl, iteTd rfl ?_⟩
        exact ⟨_, rfl, _, _, _, true, rfl, TyOf.bl b, rfl, _, rfl, q⟩
      | non => exact ⟨_, rfl, _, _, _, false, rfl, TyOf.non, rfl, _, rfl, iteFd (by decide) q⟩
      | str z => exact ⟨_, rfl, _, _, _, false, rfl, TyOf.str z, rfl, _, rfl, iteFd (by decide) q⟩
      | lst h => exact ⟨_, rfl, _, _, _, false, rfl, TyOf.lst h, rfl, _, rfl, iteFd (by decide) q⟩
      | tup h => exact ⟨_, rfl, _, _, _, false, rfl, TyOf.tup h, rfl, _, rfl, iteFd (by decide) q⟩
      | dct h => exact ⟨_, rfl, _, _, _, false, rfl, TyOf.dK h, rfl, _, rfl, iteFd (by decide) q⟩
end
section
variable {P : Program} {w : World} {K : PySem.W.Frag} {mg : Str → Option Value} {base : Heap} {f : Addr} {fd : FuncData}
theorem sc_is_lane : FnScope ["wide", "thing"] ["wide", "thing"] (defScope s_is_lane) := ⟨rfl, rfl, rfl, by decide +kernel, rfl, by decide +kernel, by decide +kernel⟩
theorem ok_is_lane (T : Bn mg) (F : Here K mg "is_lane" s_is_lane f fd) (Cis_whole : Callee P w K mg base "is_whole" 1 ["thing"] spWholeT) : FnOk P w K mg base CX0 2 f fd ["wide", "thing"] spLaneT := by
  refine F.fn.ok sc_is_lane (fun vs H Q E h => ?_) (fun cdv A outer s H vs Q E hr h => ?_)
  · obtain ⟨wide, x, rfl, _⟩ := h
    rfl
  · obtain ⟨wide, x, rfl, t, q⟩ := h
    refine ⟨_, (pss_one (ps_ret (pe_and (pe_callC Cis_whole (hr.mono (by first | decide | (first | lia | omega))) rfl (pa_cons (pv 1) pa_nil)) (pe_one (pe_chain op_le op_lt pe_int (pv 1) (pv 0)))))), ?_⟩
    rcases t with ⟨i, rfl⟩ | o
    · refine ⟨_, rfl, _, rfl, .inl ⟨i, rfl⟩, _, rfl, iteTd rfl ?_⟩
      refine ⟨_, rfl, _, _, rfl, rfl, _, rfl, ?_⟩
      by_cases h0 : 0 ≤ i
      · refine iteTd (decide_eq_true h0) ?_
        refine ⟨_, rfl, _, _, rfl, rfl, ?_⟩
        have e : laneB wide (.int i) = decide (i < wide) := by unfold laneB; simp [h0]
        rw [e] at q
        exact q
      · refine iteFd (by simpa using h0) ?_
        have e : laneB wide (.int i) = false := by unfold laneB; simp [h0]
        rw [e] at q
        exact q
    · refine ⟨_, rfl, x, rfl, .inr o, _, rfl, iteFd (by rw [odd_notI o]; decide) ?_⟩
      rw [odd_notL o] at q
      exact q
end
section
variable {P : Program} {w : World} {K : PySem.W.Frag} {mg : Str → Option Value} {base : Heap} {f : Addr} {fd : FuncData}
theorem sc_is_wicket : FnScope ["wide", "thing"] ["wide", "thing"] (defScope s_is_wicket) := ⟨rfl, rfl, rfl, by decide +kernel, rfl, by decide +kernel, by decide +kernel⟩
theorem ok_is_wicket (T : Bn mg) (F : Here K mg "is_wicket" s_is_wicket f fd) (Cis_lane : Callee P w K mg base "is_lane" 2 ["wide", "thing"] spLaneT) : FnOk P w K mg base CX0 3 f fd ["wide", "thing"] spWickT := by
  refine F.fn.ok sc_is_wicket (fun vs H Q E h => ?_) (fun cdv A outer s H vs Q E hr h => ?_)
  · obtain ⟨wide, x, rfl, _⟩ := h
    rfl
  · obtain ⟨wide, x, rfl, ⟨th, two⟩, q⟩ := h
    refine ⟨_, (pss_cons (ps_if (PW.pt (pw_or (pt_not (pt_val (pe_callB call_isinst rfl T.n_isinstance boot_isinstance (pa_cons (pv 1) (pa_cons (pe_bltn (v := V.ty "tuple") (u := .type "tuple") rfl T.n_tuple (by decide +kernel) rfl) pa_nil))))) (pw_or1 (pt_cmpR op_ne (pe_callB call_len_seq rfl T.n_len PySem.boot_len (pa_cons (pv 1) pa_nil)) pe_int (nomark _)))))
    (pss_one (ps_ret pe_bl))
    pss_nil)
    (pss_one (ps_ret (pe_and (pe_callC Cis_lane (hr.mono (by first | decide | (first | lia | omega))) rfl (pa_cons (pv 0) (pa_cons (pe_ix ix_tup (pv 1) pe_int (fun _ _ => rfl)) pa_nil))) (pe_and (pe_callC Cis_lane (hr.mono (by first | decide | (first | lia | omega))) rfl (pa_cons (pv 0) (pa_cons (pe_ix ix_tup (pv 1) pe_int (fun _ _ => rfl)) pa_nil))) (pe_one (pe_cmpR op_ne (pe_ix ix_tup (pv 1) pe_int (fun _ _ => rfl)) (pe_ix ix_tup (pv 1) pe_int (fun _ _ => rfl)) (nomark _)))))))), ?_⟩
    have no : (¬ IsW wide H x) → Q (.bl false) H := fun h => q false ⟨(fun z => nomatch z), fun z => absurd z h⟩
    rcases th with ⟨i, rfl⟩ | o
    · exact ⟨_, rfl, _, _, _, false, rfl, TyOf.int i, rfl, _, rfl, iteTd rfl (iteTd rfl (no fun ⟨_, _, _, e, _⟩ => nomatch e))⟩
    · cases o with
      | bl b => exact ⟨_, rfl, _, _, _, false, rfl, TyOf.bl b, rfl, _, rfl, iteTd rfl (iteTd rfl (no fun ⟨_, _, _, e, _⟩ => nomatch e))⟩
      | non => exact ⟨_, rfl, _, _, _, false, rfl, TyOf.non, rfl, _, rfl, iteTd rfl (iteTd rfl (no fun ⟨_, _, _, e, _⟩ => nomatch e))⟩
      | str z => exact ⟨_, rfl, _, _, _, false, rfl, TyOf.str z, rfl, _, rfl, iteTd rfl (iteTd rfl (no fun ⟨_, _, _, e, _⟩ => nomatch e))⟩
      | lst h => exact ⟨_, rfl, _, _, _, false, rfl, TyOf.lst h, rfl, _, rfl, iteTd rfl (iteTd rfl (no fun ⟨_, _, _, e, k, _⟩ => by cases e; rw [h] at k; cases k))⟩
      | dct h => exact ⟨_, rfl, _, _, _, false, rfl, TyOf.dK h, rfl, _, rfl, iteTd rfl (iteTd rfl (no fun ⟨_, _, _, e, k, _⟩ => by cases e; rw [h] at k; cases k))⟩
      | @tup t0 xs h =>
        refine ⟨_, rfl, _, _, _, true, rfl, TyOf.tup h, rfl, _, rfl, iteFd (by decide) ?_⟩
        match xs, h with
        | [y, z], h =>
          obtain ⟨ty, tz⟩ := two t0 y z rfl h
          refine ⟨_, rfl, t0, _, rfl, .inr (SqT.of h), rfl, _, rfl, iteFd (by simp) ?_⟩
          refine ⟨_, rfl, _, rfl, t0, _, _, _, rfl, rfl, SqT.of h, rfl, wide, y, rfl, ty, _, rfl, ?_⟩
          have inv : ∀ {a b}, IsW wide H (.ref t0) → y = a → z = b → ∃ i j, a = .int i ∧ b = .int j ∧ LaneOk wide (i, j) := fun {a b} ⟨_, i, j, e, k, l⟩ e1 e2 => by
            cases e
            rw [h] at k
            cases k
            exact ⟨i, j, e1.symm, e2.symm, l⟩
          cases y with
          | int a =>
            by_cases ha : 0 ≤ a ∧ a < wide
            · refine iteTd (decide_eq_true ha) ?_
              refine ⟨_, rfl, _, rfl, t0, _, _, _, rfl, rfl, SqT.of h, rfl, wide, z, rfl, tz, _, rfl, ?_⟩
              cases z with
              | int b =>
                by_cases hb : 0 ≤ b ∧ b < wide
                · refine iteTd (decide_eq_true hb) ?_
                  refine ⟨_, rfl, t0, _, _, _, rfl, rfl, SqT.of h, rfl, _, rfl, t0, _, _, _, rfl, rfl, SqT.of h, rfl, rfl, ?_⟩
                  refine q _ ?_
                  constructor
                  · intro e
                    refine ⟨t0, a, b, rfl, h, ha.1, ha.2, hb.1, hb.2, fun z => ?_⟩
                    have z' : a = b := z
                    subst z'
                    simp at e
                  · intro w
                    obtain ⟨i, j, e1, e2, l⟩ := inv w rfl rfl
                    cases e1
                    cases e2
                    simp
                    exact l.2.2.2.2
                · exact iteFd (by unfold laneB; simpa using hb) (no fun w => by obtain ⟨i, j, e1, e2, l⟩ := inv w rfl rfl; cases e2; exact hb ⟨l.2.2.1, l.2.2.2.1⟩)
              | non => exact iteFd (by unfold laneB; simp) (no fun w => by obtain ⟨i, j, e1, e2, l⟩ := inv w rfl rfl; cases e2)
              | bl _ => exact iteFd (by unfold laneB; simp) (no fun w => by obtain ⟨i, j, e1, e2, l⟩ := inv w rfl rfl; cases e2)
              | str _ => exact iteFd (by unfold laneB; simp) (no fun w => by obtain ⟨i, j, e1, e2, l⟩ := inv w rfl rfl; cases e2)
              | byt _ => exact iteFd (by unfold laneB; simp) (no fun w => by obtain ⟨i, j, e1, e2, l⟩ := inv w rfl rfl; cases e2)
              | flt _ => exact iteFd (by unfold laneB; simp) (no fun w => by obtain ⟨i, j, e1, e2, l⟩ := inv w rfl rfl; cases e2)
              | ref _ => exact iteFd (by unfold laneB; simp) (no fun w => by obtain ⟨i, j, e1, e2, l⟩ := inv w rfl rfl; cases e2)
              | ty _ => exact iteFd (by unfold laneB; simp) (no fun w => by obtain ⟨i, j, e1, e2, l⟩ := inv w rfl rfl; cases e2)
            · exact iteFd (by unfold laneB; simpa using ha) (no fun w => by obtain ⟨i, j, e1, e2, l⟩ := inv w rfl rfl; cases e1; exact ha ⟨l.1, l.2.1⟩)
          | non => exact iteFd (by unfold laneB; simp) (no fun w => by obtain ⟨i, j, e1, e2, l⟩ := inv w rfl rfl; cases e1)
          | bl _ => exact iteFd (by unfold laneB; simp) (no fun w => by obtain ⟨i, j, e1, e2, l⟩ := inv w rfl rfl; cases e1)
          | str _ => exact iteFd (by unfold laneB; simp) (no fun w => by obtain ⟨i, j, e1, e2, l⟩ := inv w rfl rfl; cases e1)
          | byt _ => exact iteFd (by unfold laneB; simp) (no fun w => by obtain ⟨i, j, e1, e2, l⟩ := inv w rfl rfl; cases e1)
          | flt _ => exact iteFd (by unfold laneB; simp) (no fun w => by obtain ⟨i, j, e1, e2, l⟩ := inv w rfl rfl; cases e1)
          | ref _ => exact iteFd (by unfold laneB; simp) (no fun w => by obtain ⟨i, j, e1, e2, l⟩ := inv w rfl rfl; cases e1)
          | ty _ => exact iteFd (by unfold laneB; simp) (no fun w => by obtain ⟨i, j, e1, e2, l⟩ := inv w rfl rfl; cases e1)
        | [], h => exact ⟨_, rfl, t0, _, rfl, .inr (SqT.of h), rfl, _, rfl, iteTd (by simp) (no fun ⟨_, _, _, e, k, _⟩ => by cases e; rw [h] at k; cases k)⟩
        | [y], h => exact ⟨_, rfl, t0, _, rfl, .inr (SqT.of h), rfl, _, rfl, iteTd (by simp) (no fun ⟨_, _, _, e, k, _⟩ => by cases e; rw [h] at k; cases k)⟩
        | y :: z :: u :: xs, h => exact ⟨_, rfl, t0, _, rfl, .inr (SqT.of h), rfl, _, rfl, iteTd (by simp; (first | lia | omega)) (no fun ⟨_, _, _, e, k, _⟩ => by cases e; rw [h] at k; cases k)⟩
end
section
variable {P : Program} {w : World} {K : PySem.W.Frag} {mg : Str → Option Value} {base : Heap} {f : Addr} {fd : FuncData}
theorem sc_are_wickets : FnScope ["wide", "things"] ["wide", "things"] (defScope s_are_wickets) := ⟨rfl, rfl, rfl, by decide +kernel, rfl, by decide +kernel, by decide +kernel⟩
theorem ok_are_wickets (T : Bn mg) (F : Here K mg "are_wickets" s_are_wickets f fd) (GMOST_WICKETS : ∃ t, mg "MOST_WICKETS" = some (.int 40 t)) (Cis_wicket : Callee P w K mg base "is_wicket" 3 ["wide", "thing"] spWickT) : FnOk P w K mg base CX0 4 f fd ["wide", "things"] spAreT := by
  refine F.fn.ok sc_are_wickets (fun vs H Q E h => ?_) (fun cdv A outer s H vs Q E hr h => ?_)
  · obtain ⟨wide, l, rs, rfl, _⟩ := h
    rfl
  · obtain ⟨wide, l, rs, rfl, hl, len, tw, q⟩ := h
    refine ⟨_, (pss_one (ps_ret (pe_and (pe_cmpR op_le (pe_callB call_len_seq rfl T.n_len PySem.boot_len (pa_cons (pv 1) pa_nil)) (pe_gint rfl GMOST_WICKETS) (nomark _)) (pe_one (pe_callB (call_allB rfl) rfl T.n_all boot_all (pa_cons (pe_comp ["thing"] [("wide", 0)] rfl (pi_or (pi_list (pv 1)) (pi_tup (pv 1))) (fun _ _ _ _ _ _ => by exact (pg_name (i := 0) (show List.Nodup (["thing", "wide"] : List Str) by decide +kernel) rfl (by first | exact Or.inl rfl | exact Or.inr rfl))) (fun _ _ _ _ _ _ => by exact pts_nil) (fun _ _ _ _ _ _ => by exact (pe_callC Cis_wicket (hr.mono (by first | decide | (first | lia | omega))) rfl (pa_cons (pv 1) (pa_cons (pv 0) pa_nil))))) pa_nil)))))), ?_⟩
    refine ⟨_, rfl, l, _, rfl, (hl.elim (fun h => .inl (SqL.of h)) fun h => .inr (SqT.of h)), _, _, rfl, rfl, _, rfl, ?_⟩
    by_cases l40 : rs.length ≤ 40
    · refine iteTd (decide_eq_true (by (first | lia | omega))) ?_
      have step : ∀ (i : Nat) (x : V) (bs : List Bool) (b : Bool), rs[i]? = some x → (bs.all id = true ↔ ∀ y ∈ rs.take i, IsW wide H y) → (b = true ↔ IsW wide H x) → ((bs ++ [b]).all id = true ↔ ∀ y ∈ rs.take (i + 1), IsW wide H y) := fun i x bs b hx h1 h2 => by
        rw [List.take_add_one, hx, List.all_append, Bool.and_eq_true, h1]
        simp only [List.all_cons, List.all_nil, id, Bool.and_true, h2]
        constructor
        · rintro ⟨a, c⟩ y hy
          rcases List.mem_append.mp hy with hy | hy
          · exact a y hy
          · have : y = x := by simpa using hy
            rw [this]; exact c
        · intro a
          exact ⟨fun y hy => a y (List.mem_append.mpr (.inl hy)), a x (List.mem_append.mpr (.inr (by simp)))⟩
      have fin : ∀ (bs : List Bool) (Hc : Hp), Same H Hc → (bs.all id = true ↔ ∀ y ∈ rs.take rs.length, IsW wide H y) → Q (.bl (bs.all id)) Hc := fun bs Hc sc h => q _ Hc sc (by rw [h, List.take_length]; exact ⟨fun z => ⟨l40, z⟩, fun z => z.2⟩)
      rcases hl with hl | hl
      · refine .inl ⟨_, rfl, l, rfl, ⟨_, SqL.of hl⟩, fun lc fc => ?_⟩
        refine comp_list (xs := rs) (fun i ys Hc => Same H Hc ∧ Hc lc = some (.lst ys) ∧ ∃ bs : List Bool, ys = bs.map V.bl ∧ bs.length = i ∧ (bs.all id = true ↔ ∀ y ∈ rs.take i, IsW wide H y)) ⟨Same.put fc (Same.refl H), upd_same, [], rfl, rfl, by simp⟩ (lenLine (by (first | lia | omega))) (fun i ys Hc hi ⟨sc, e1, bs, r1, r2, _⟩ => ⟨SqL.of (sc _ _ hl), e1, by rw [r1, List.length_map, r2]; exact Nat.le_refl _⟩) ?_ ?_
        · rintro i x ys Hc hx ⟨sc, e1, bs, rfl, lb, hb⟩
          have tx := tw x (List.mem_of_getElem? hx)
          refine ⟨⟨.inl rfl, .inr rfl, trivial⟩, tru_if ?_⟩
          refine ⟨_, rfl, _, rfl, wide, x, rfl, tx.same sc, fun b h => ⟨e1, Same.put fc sc, upd_same, bs ++ [b], by rw [List.map_append]; rfl, by simp [lb], step i x bs b hx hb (h.trans (isW_iff tx.th sc))⟩⟩
        · rintro ys Hc ⟨sc, e1, bs, rfl, lb, hb⟩
          exact ⟨lc, bs, rfl, SqL.of e1, fin bs Hc sc hb⟩
      · refine .inr ⟨_, rfl, l, rfl, ⟨_, SqT.of hl⟩, fun lc fc => ?_⟩
        refine comp_tup (xs := rs) (fun i ys Hc => Same H Hc ∧ Hc lc = some (.lst ys) ∧ ∃ bs : List Bool, ys = bs.map V.bl ∧ bs.length = i ∧ (bs.all id = true ↔ ∀ y ∈ rs.take i, IsW wide H y)) ⟨Same.put fc (Same.refl H), upd_same, [], rfl, rfl, by simp⟩ (lenLine (by (first | lia | omega))) (fun i ys Hc hi ⟨sc, e1, bs, r1, r2, _⟩ => ⟨SqT.of (sc _ _ hl), e1, by rw [r1, List.length_map, r2]; exact Nat.le_refl _⟩) ?_ ?_
        · rintro i x ys Hc hx ⟨sc, e1, bs, rfl, lb, hb⟩
          have tx := tw x (List.mem_of_getElem? hx)
          refine ⟨⟨.inl rfl, .inr rfl, trivial⟩, tru_if ?_⟩
          refine ⟨_, rfl, _, rfl, wide, x, rfl, tx.same sc, fun b h => ⟨e1, Same.put fc sc, upd_same, bs ++ [b], by rw [List.map_append]; rfl, by simp [lb], step i x bs b hx hb (h.trans (isW_iff tx.th sc))⟩⟩
        · rintro ys Hc ⟨sc, e1, bs, rfl, lb, hb⟩
          exact ⟨lc, bs, rfl, SqL.of e1, fin bs Hc sc hb⟩
    · exact iteFd (by simp; (first | lia | omega)) (q false H (Same.refl H) ⟨(fun z => nomatch z), fun z => absurd z.1 l40⟩)
end
section
variable {P : Program} {w : World} {K : PySem.W.Frag} {mg : Str → Option Value} {base : Heap} {f : Addr} {fd : FuncData}
theorem sc_makes_net : FnScope ["wide", "wickets"] ["wide", "wickets"] (defScope s_makes_net) := ⟨rfl, rfl, rfl, by decide +kernel, rfl, by decide +kernel, by decide +kernel⟩
theorem ok_makes_net (T : Bn mg) (F : Here K mg "makes_net" s_makes_net f fd) (GMOST_LANES : ∃ t, mg "MOST_LANES" = some (.int 8 t)) (Cis_whole : Callee P w K mg base "is_whole" 1 ["thing"] spWholeT) (Care_wickets : Callee P w K mg base "are_wickets" 4 ["wide", "things"] spAreT) : FnOk P w K mg base CX0 5 f fd ["wide", "wickets"] spMakesT := by
  refine F.fn.ok sc_makes_net (fun vs H Q E h => ?_) (fun cdv A outer s H vs Q E hr h => ?_)
  · obtain ⟨x, y, rfl, _⟩ := h
    rfl
  · obtain ⟨x, y, rfl, tx, ty, q⟩ := h
    refine ⟨_, (pss_cons (ps_if (PW.pt (pw_or (pt_not (pt_val (pe_callC Cis_whole (hr.mono (by first | decide | (first | lia | omega))) rfl (pa_cons (pv 0) pa_nil)))) (pw_or1 (pt_not (pt_chain op_le op_le pe_int (pv 0) (pe_gint rfl GMOST_LANES))))))
    (pss_one (ps_ret pe_bl))
    pss_nil)
    (pss_one (ps_ret (pe_and (pe_callB call_isTT rfl T.n_isinstance boot_isinstance (pa_cons (pv 1) (pa_cons (pe_tup (pa_cons (pe_bltn (v := V.ty "list") (u := .type "list") rfl T.n_list (by decide +kernel) rfl) (pa_cons (pe_bltn (v := V.ty "tuple") (u := .type "tuple") rfl T.n_tuple (by decide +kernel) rfl) pa_nil))) pa_nil))) (pe_one (pe_callC Care_wickets (hr.mono (by first | decide | (first | lia | omega))) rfl (pa_cons (pv 0) (pa_cons (pv 1) pa_nil)))))))), ?_⟩
    have no : ∀ H', Same H H' → (¬ Makes H x y) → Q (.bl false) H' := fun H' s' h => q false H' s' ⟨(fun z => nomatch z), fun z => absurd z h⟩
    refine ⟨_, rfl, x, rfl, tx, ?_⟩
    rcases tx with ⟨i, rfl⟩ | o
    · refine ⟨_, rfl, iteFd (by show ¬ (!true) = true; decide) ?_⟩
      refine ⟨_, rfl, _, _, rfl, rfl, _, rfl, ?_⟩
      by_cases w1 : 1 ≤ i
      · refine iteTd (decide_eq_true w1) ?_
        refine ⟨_, _, rfl, rfl, _, rfl, ?_⟩
        by_cases w8 : i ≤ 8
        · refine iteFd (by simp; (first | lia | omega)) ?_
          refine ⟨_, rfl, lenLine (by show 2 ≤ 100000; decide), fun tp ftp => ?_⟩
          have s1 : Same H (upd H tp (HO.tup [V.ty "list", V.ty "tuple"])) := same_new ftp _
          have x1 : (upd H tp (HO.tup [V.ty "list", V.ty "tuple"])) tp = some (.tup [V.ty "list", V.ty "tuple"]) := upd_same
          generalize upd H tp (HO.tup [V.ty "list", V.ty "tuple"]) = H1 at s1 x1
          have ty1 := ty.same s1
          have sq : ∀ (l : Addr) (rs : List V), y = .ref l → Sq H l rs → tCall spAreT [] E0 (tCons (tVar 0) (tCons (tVar 1) tNil)) [some (.int i), some (.ref l)] H1 (fun v H' => Q v H') := fun l rs e k => by
            subst e
            refine ⟨_, rfl, _, rfl, i, l, rs, rfl, k.same s1, (ty.each l rs rfl k).1, (ty1.each l rs rfl (k.same s1)).2, fun b H2 s2 h => q b H2 (Same.trans s1 s2) (h.trans ?_)⟩
            constructor
            · rintro ⟨n, a⟩
              exact ⟨i, l, rs, rfl, w1, w8, rfl, k, n, fun z hz => (a z hz).back ((ty.each l rs rfl k).2 z hz).th s1⟩
            · rintro ⟨w', l', us, e1, _, _, e2, k', n, a⟩
              cases e1
              cases e2
              cases k.inj k'
              exact ⟨n, fun z hz => (a z hz).same s1⟩
          have nm : (∀ l rs, y = .ref l → ¬ Sq H l rs) → ¬ Makes H (.int i) y := fun h ⟨_, l, rs, _, _, _, e, k, _⟩ => h l rs e k
          rcases ty.th with ⟨j, rfl⟩ | o
          · exact ⟨_, tp, _, _, _, false, rfl, TyOf.int j, x1, rfl, rfl, _, rfl, iteFd (by decide) (no H1 s1 (nm fun _ _ e => nomatch e))⟩
          · cases o with
            | bl b => exact ⟨_, tp, _, _, _, false, rfl, TyOf.bl b, x1, rfl, rfl, _, rfl, iteFd (by decide) (no H1 s1 (nm fun _ _ e => nomatch e))⟩
            | non => exact ⟨_, tp, _, _, _, false, rfl, TyOf.non, x1, rfl, rfl, _, rfl, iteFd (by decide) (no H1 s1 (nm fun _ _ e => nomatch e))⟩
            | str z => exact ⟨_, tp, _, _, _, false, rfl, TyOf.str z, x1, rfl, rfl, _, rfl, iteFd (by decide) (no H1 s1 (nm fun _ _ e => nomatch e))⟩
            | @dct a kvs h => exact ⟨_, tp, _, _, _, false, rfl, TyOf.dK (s1 _ _ h), x1, rfl, rfl, _, rfl, iteFd (by decide) (no H1 s1 (nm fun _ _ e k => by cases e; rcases k with k | k <;> rw [h] at k <;> cases k))⟩
            | @lst a rs h => exact ⟨_, tp, _, _, _, true, rfl, TyOf.lst (s1 _ _ h), x1, rfl, rfl, _, rfl, iteTd rfl (sq a rs rfl (.inl h))⟩
            | @tup a rs h => exact ⟨_, tp, _, _, _, true, rfl, TyOf.tup (s1 _ _ h), x1, rfl, rfl, _, rfl, iteTd rfl (sq a rs rfl (.inr h))⟩
        · exact iteTd (by simp; (first | lia | omega)) (no H (Same.refl H) fun ⟨_, _, _, e, _, h8, _⟩ => by cases e; exact w8 h8)
      · refine iteFd (by simpa using w1) ?_
        exact ⟨_, rfl, iteTd rfl (no H (Same.refl H) fun ⟨_, _, _, e, h1, _⟩ => by cases e; exact w1 h1)⟩
    · refine ⟨_, rfl, iteTd (by rw [odd_notI o]; rfl) ?_⟩
      exact iteTd rfl (no H (Same.refl H) fun ⟨_, _, _, e, _⟩ => by subst e; cases o)
end
section
variable {P : Program} {w : World} {K : PySem.W.Frag} {mg : Str → Option Value} {base : Heap} {f : Addr} {fd : FuncData}
theorem sc_net_of : FnScope ["wide", "wickets"] ["wide", "wickets"] (defScope s_net_of) := ⟨rfl, rfl, rfl, by decide +kernel, rfl, by decide +kernel, by decide +kernel⟩
theorem ok_net_of {an : Addr} (T : Bn mg) (F : Here K mg "net_of" s_net_of f fd) (ER : NoNetT K mg an) (Cmakes_net : Callee P w K mg base "makes_net" 5 ["wide", "wickets"] spMakesT) : FnOk P w K mg base (CX1 P w) 6 f fd ["wide", "wickets"] (spNetT an) := by
  refine F.fn.okE sc_net_of (fun vs H Q E h => ?_) (fun cdv A outer s H vs Q E hr h => ?_)
  · obtain ⟨x, y, rfl, _⟩ := h
    rfl
  · obtain ⟨x, y, rfl, tx, ty, h⟩ := h
    refine ⟨_, (pss_cons (ps_if (pt_not (pt_val (pe_callC Cmakes_net (hr.mono (by first | decide | (first | lia | omega))) rfl (pa_cons (pv 0) (pa_cons (pv 1) pa_nil)))))
    (pss_one (ps_raise ER.q_NoNet rfl ER.at_NoNet (pa_cons pe_str pa_nil)))
    pss_nil)
    (pss_one (ps_ret (pe_tup (pa_cons (pv 0) (pa_cons (pe_callTy call_tuple_of rfl T.n_tuple boot_tupleT (pa_cons (pe_comp ["wicket"] [] rfl (pi_or (pi_list (pv 1)) (pi_tup (pv 1))) (fun _ _ _ _ _ _ => by exact (pg_name (i := 0) (show List.Nodup (["wicket"] : List Str) by decide +kernel) rfl (by first | exact Or.inl rfl | exact Or.inr rfl))) (fun _ _ _ _ _ _ => by exact pts_nil) (fun _ _ _ _ _ _ => by exact (pe_tup (pa_cons (pe_ix (ix_tupK K rfl) (pv 0) pe_int (fun _ _ => rfl)) (pa_cons (pe_ix (ix_tupK K rfl) (pv 0) pe_int (fun _ _ => rfl)) pa_nil))))) pa_nil)) pa_nil)))))), ?_⟩
    refine ⟨_, rfl, _, rfl, x, y, rfl, tx, ty, fun b H1 s1 hb => ⟨_, rfl, ?_⟩⟩
    rcases h with ⟨nm, q⟩ | ⟨wide, l, ws, rfl, rfl, sq, w1, w8, ok, len, q⟩
    · have eb : b = false := by
        cases b with
        | false => rfl
        | true => exact absurd (hb.mp rfl) nm
      subst eb
      refine iteTd rfl ?_
      exact ⟨by show 1 ≤ 1000; decide, q H1 s1⟩
    · obtain rfl : b = true := hb.mpr (sq.makes w1 w8 ok len).1
      obtain ⟨rs, hl, hrs⟩ := sq
      have lrs := hrs.len
      refine iteFd (by decide) ?_
      have step : ∀ (lc : Addr) (i : Nat) (x : V) (ys : List V) (Hc : Hp), H1 lc = none → rs[i]? = some x → Same H1 Hc → Hc lc = some (.lst ys) → ys.length ≤ i → Refs Hc ys (ws.take i) → ∃ t0 a0 b0, x = .ref t0 ∧ Hc t0 = some (.tup [.int a0, .int b0]) ∧ ∀ u, Hc u = none → Same Hc (upd Hc u (.tup [.int a0, .int b0])) ∧ (upd Hc u (.tup [.int a0, .int b0])) lc = some (.lst ys) ∧ Same H1 (upd (upd Hc u (.tup [.int a0, .int b0])) lc (.lst (ys ++ [.ref u]))) ∧ Refs (upd (upd Hc u (.tup [.int a0, .int b0])) lc (.lst (ys ++ [.ref u]))) (ys ++ [.ref u]) (ws.take (i + 1)) := fun lc i x ys Hc fc hx sc e1 l1 r1 => by
        obtain ⟨w0, t0, hw0, rfl, ht0⟩ := hrs.get hx
        refine ⟨t0, w0.1, w0.2, rfl, sc _ _ (s1 _ _ ht0), fun u fu => ?_⟩
        have s3 : Same Hc (upd Hc u (HO.tup [V.int w0.1, V.int w0.2])) := same_new fu _
        have x3 : (upd Hc u (HO.tup [V.int w0.1, V.int w0.2])) u = some (.tup [V.int w0.1, V.int w0.2]) := upd_same
        generalize upd Hc u (HO.tup [V.int w0.1, V.int w0.2]) = H3 at s3 x3
        have e3 := s3 _ _ e1
        refine ⟨s3, e3, Same.put fc (Same.trans sc s3), ?_⟩
        rw [take_snoc hw0]
        have k4 : KT H3 (upd H3 lc (HO.lst (ys ++ [V.ref u]))) := KT.lst e3 (KT.refl _)
        exact ((r1.same s3).kt k4).app (.cons ⟨u, rfl, k4 _ _ x3⟩ .nil)
      have last : ∀ (ys : List V) (Hc : Hp), Same H1 Hc → Refs Hc ys (ws.take rs.length) → ∀ t5, Hc t5 = none → ∀ n6, (upd Hc t5 (.tup ys)) n6 = none → Q (.ref n6) (upd (upd Hc t5 (.tup ys)) n6 (.tup [.int wide, .ref t5])) := fun ys Hc sc r1 t5 f5 n6 f6 => by
        rw [lrs, List.take_length] at r1
        have s5 : Same Hc (upd Hc t5 (HO.tup ys)) := same_new f5 _
        have x5 : (upd Hc t5 (HO.tup ys)) t5 = some (.tup ys) := upd_same
        generalize upd Hc t5 (HO.tup ys) = H5 at s5 x5 f6
        have s6 : Same H5 (upd H5 n6 (HO.tup [V.int wide, V.ref t5])) := same_new f6 _
        exact q _ _ (Same.trans s1 (Same.trans sc (Same.trans s5 s6))) ⟨n6, t5, ys, rfl, upd_same, s6 _ _ x5, r1.same (Same.trans s5 s6)⟩
      rcases hl with hl | hl
      · refine ⟨_, rfl, .inl ⟨_, rfl, l, rfl, ⟨_, SqL.of (s1 _ _ hl)⟩, fun lc fc => ?_⟩⟩
        refine comp_list (xs := rs) (fun i ys Hc => Same H1 Hc ∧ Hc lc = some (.lst ys) ∧ ys.length ≤ i ∧ Refs Hc ys (ws.take i)) ⟨Same.put fc (Same.refl H1), upd_same, Nat.zero_le _, .nil⟩ (lenLine (by (first | lia | omega))) (fun i ys Hc hi ⟨sc, e1, l1, r1⟩ => ⟨SqL.of (sc _ _ (s1 _ _ hl)), e1, l1⟩) ?_ ?_
        · rintro i x ys Hc hx ⟨sc, e1, l1, r1⟩
          obtain ⟨t0, a0, b0, rfl, htc, go⟩ := step lc i x ys Hc fc hx sc e1 l1 r1
          refine ⟨⟨.inl rfl, trivial⟩, tru_if ?_⟩
          refine ⟨_, rfl, t0, _, _, _, rfl, rfl, SqT.of htc, rfl, _, rfl, t0, _, _, _, rfl, rfl, SqT.of htc, rfl, lenLine (by show 2 ≤ 100000; decide), fun u fu => ?_⟩
          obtain ⟨_, g2, g3, g4⟩ := go u fu
          exact ⟨g2, g3, upd_same, by rw [List.length_append]; simp; (first | lia | omega), g4⟩
        · rintro ys Hc ⟨sc, e1, l1, r1⟩
          exact ⟨lc, _, rfl, .inl ⟨SqL.of e1, fun t5 f5 => ⟨lenLine (by show 2 ≤ 100000; decide), fun n6 f6 => last ys Hc sc r1 t5 f5 n6 f6⟩⟩⟩
      · refine ⟨_, rfl, .inr ⟨_, rfl, l, rfl, ⟨_, SqT.of (s1 _ _ hl)⟩, fun lc fc => ?_⟩⟩
        refine comp_tup (xs := rs) (fun i ys Hc => Same H1 Hc ∧ Hc lc = some (.lst ys) ∧ ys.length ≤ i ∧ Refs Hc ys (ws.take i)) ⟨Same.put fc (Same.refl H1), upd_same, Nat.zero_le _, .nil⟩ (lenLine (by (first | lia | omega))) (fun i ys Hc hi ⟨sc, e1, l1, r1⟩ => ⟨SqT.of (sc _ _ (s1 _ _ hl)), e1, l1⟩) ?_ ?_
        · rintro i x ys Hc hx ⟨sc, e1, l1, r1⟩
          obtain ⟨t0, a0, b0, rfl, htc, go⟩ := step lc i x ys Hc fc hx sc e1 l1 r1
          refine ⟨⟨.inl rfl, trivial⟩, tru_if ?_⟩
          refine ⟨_, rfl, t0, _, _, _, rfl, rfl, SqT.of htc, rfl, _, rfl, t0, _, _, _, rfl, rfl, SqT.of htc, rfl, lenLine (by show 2 ≤ 100000; decide), fun u fu => ?_⟩
          obtain ⟨_, g2, g3, g4⟩ := go u fu
          exact ⟨g2, g3, upd_same, by rw [List.length_append]; simp; (first | lia | omega), g4⟩
        · rintro ys Hc ⟨sc, e1, l1, r1⟩
          exact ⟨lc, _, rfl, .inl ⟨SqL.of e1, fun t5 f5 => ⟨lenLine (by show 2 ≤ 100000; decide), fun n6 f6 => last ys Hc sc r1 t5 f5 n6 f6⟩⟩⟩
end
section
variable {P : Program} {w : World} {K : PySem.W.Frag} {mg : Str → Option Value} {base : Heap} {f : Addr} {fd : FuncData}
theorem sc_is_net : FnScope ["thing"] ["thing"] (defScope s_is_net) := ⟨rfl, rfl, rfl, by decide +kernel, rfl, by decide +kernel, by decide +kernel⟩
theorem ok_is_net (T : Bn mg) (F : Here K mg "is_net" s_is_net f fd) (Cmakes_net : Callee P w K mg base "makes_net" 5 ["wide", "wickets"] spMakesT) : FnOk P w K mg base CX0 6 f fd ["thing"] spIsNetT := by
  refine F.fn.ok sc_is_net (fun vs H Q E h => ?_) (fun cdv A outer s H vs Q E hr h => ?_)
  · obtain ⟨x, rfl, _⟩ := h
    rfl
  · obtain ⟨x, rfl, ⟨th, two⟩, q⟩ := h
    refine ⟨_, (pss_cons (ps_if (PW.pt (pw_or (pt_not (pt_val (pe_callB call_isinst rfl T.n_isinstance boot_isinstance (pa_cons (pv 0) (pa_cons (pe_bltn (v := V.ty "tuple") (u := .type "tuple") rfl T.n_tuple (by decide +kernel) rfl) pa_nil))))) (pw_or1 (pt_cmpR op_ne (pe_callB call_len_seq rfl T.n_len PySem.boot_len (pa_cons (pv 0) pa_nil)) pe_int (nomark _)))))
    (pss_one (ps_ret pe_bl))
    pss_nil)
    (pss_one (ps_ret (pe_and (pe_callB call_isinst rfl T.n_isinstance boot_isinstance (pa_cons (pe_ix ix_tup (pv 0) pe_int (fun _ _ => rfl)) (pa_cons (pe_bltn (v := V.ty "tuple") (u := .type "tuple") rfl T.n_tuple (by decide +kernel) rfl) pa_nil))) (pe_one (pe_callC Cmakes_net (hr.mono (by first | decide | (first | lia | omega))) rfl (pa_cons (pe_ix ix_tup (pv 0) pe_int (fun _ _ => rfl)) (pa_cons (pe_ix ix_tup (pv 0) pe_int (fun _ _ => rfl)) pa_nil)))))))), ?_⟩
    have no : (¬ IsN H x) → Q (.bl false) H := fun h => q false H (Same.refl H) ⟨(fun z => nomatch z), fun z => absurd z h⟩
    rcases th with ⟨i, rfl⟩ | o
    · exact ⟨_, rfl, _, _, _, false, rfl, TyOf.int i, rfl, _, rfl, iteTd rfl (iteTd rfl (no fun ⟨_, _, _, _, e, _⟩ => nomatch e))⟩
    · cases o with
      | bl b => exact ⟨_, rfl, _, _, _, false, rfl, TyOf.bl b, rfl, _, rfl, iteTd rfl (iteTd rfl (no fun ⟨_, _, _, _, e, _⟩ => nomatch e))⟩
      | non => exact ⟨_, rfl, _, _, _, false, rfl, TyOf.non, rfl, _, rfl, iteTd rfl (iteTd rfl (no fun ⟨_, _, _, _, e, _⟩ => nomatch e))⟩
      | str z => exact ⟨_, rfl, _, _, _, false, rfl, TyOf.str z, rfl, _, rfl, iteTd rfl (iteTd rfl (no fun ⟨_, _, _, _, e, _⟩ => nomatch e))⟩
      | lst h => exact ⟨_, rfl, _, _, _, false, rfl, TyOf.lst h, rfl, _, rfl, iteTd rfl (iteTd rfl (no fun ⟨_, _, _, _, e, k, _⟩ => by cases e; rw [h] at k; cases k))⟩
      | dct h => exact ⟨_, rfl, _, _, _, false, rfl, TyOf.dK h, rfl, _, rfl, iteTd rfl (iteTd rfl (no fun ⟨_, _, _, _, e, k, _⟩ => by cases e; rw [h] at k; cases k))⟩
      | @tup t0 xs h =>
        refine ⟨_, rfl, _, _, _, true, rfl, TyOf.tup h, rfl, _, rfl, iteFd (by decide) ?_⟩
        match xs, h with
        | [y, z], h =>
          obtain ⟨ty, tz⟩ := two t0 y z rfl h
          refine ⟨_, rfl, t0, _, rfl, .inr (SqT.of h), rfl, _, rfl, iteFd (by simp) ?_⟩
          refine ⟨_, rfl, t0, _, _, _, rfl, rfl, SqT.of h, rfl, ?_⟩
          have inv : IsN H (.ref t0) → ∃ l rs, z = .ref l ∧ H l = some (.tup rs) ∧ Makes H y z := fun ⟨_, _, l, rs, e, k, k2, m⟩ => by
            cases e
            rw [h] at k
            cases k
            exact ⟨l, rs, rfl, k2, m⟩
          rcases id tz.th with ⟨i, rfl⟩ | o
          · exact ⟨_, _, _, false, rfl, TyOf.int i, rfl, _, rfl, iteFd (by decide) (no fun w => by obtain ⟨_, _, e, _⟩ := inv w; cases e)⟩
          · cases o with
            | bl b => exact ⟨_, _, _, false, rfl, TyOf.bl b, rfl, _, rfl, iteFd (by decide) (no fun w => by obtain ⟨_, _, e, _⟩ := inv w; cases e)⟩
            | non => exact ⟨_, _, _, false, rfl, TyOf.non, rfl, _, rfl, iteFd (by decide) (no fun w => by obtain ⟨_, _, e, _⟩ := inv w; cases e)⟩
            | str z => exact ⟨_, _, _, false, rfl, TyOf.str z, rfl, _, rfl, iteFd (by decide) (no fun w => by obtain ⟨_, _, e, _⟩ := inv w; cases e)⟩
            | lst h2 => exact ⟨_, _, _, false, rfl, TyOf.lst h2, rfl, _, rfl, iteFd (by decide) (no fun w => by obtain ⟨_, _, e, k, _⟩ := inv w; cases e; rw [h2] at k; cases k)⟩
            | dct h2 => exact ⟨_, _, _, false, rfl, TyOf.dK h2, rfl, _, rfl, iteFd (by decide) (no fun w => by obtain ⟨_, _, e, k, _⟩ := inv w; cases e; rw [h2] at k; cases k)⟩
            | @tup l rs h2 =>
              refine ⟨_, _, _, true, rfl, TyOf.tup h2, rfl, _, rfl, iteTd rfl ?_⟩
              refine ⟨_, rfl, t0, _, _, _, rfl, rfl, SqT.of h, rfl, _, rfl, t0, _, _, _, rfl, rfl, SqT.of h, rfl, y, .ref l, rfl, ty, tz, fun b H1 s1 hb => q b H1 s1 (hb.trans ?_)⟩
              exact ⟨fun m => ⟨t0, y, l, rs, rfl, h, h2, m⟩, fun w => by obtain ⟨_, _, _, _, m⟩ := inv w; exact m⟩
        | [], h => exact ⟨_, rfl, t0, _, rfl, .inr (SqT.of h), rfl, _, rfl, iteTd (by simp) (no fun ⟨_, _, _, _, e, k, _⟩ => by cases e; rw [h] at k; cases k)⟩
        | [y], h => exact ⟨_, rfl, t0, _, rfl, .inr (SqT.of h), rfl, _, rfl, iteTd (by simp) (no fun ⟨_, _, _, _, e, k, _⟩ => by cases e; rw [h] at k; cases k)⟩
        | y :: z :: u :: xs, h => exact ⟨_, rfl, t0, _, rfl, .inr (SqT.of h), rfl, _, rfl, iteTd (by simp; (first | lia | omega)) (no fun ⟨_, _, _, _, e, k, _⟩ => by cases e; rw [h] at k; cases k)⟩
end
section
variable {P : Program} {w : World} {K : PySem.W.Frag} {mg : Str → Option Value} {base : Heap} {f : Addr} {fd : FuncData}
theorem sc_odd_wicket : FnScope ["_law_pen_here", "_law_wide", "_law_lane", "_law_far", "_law_some"] ["_law_pen_here", "_law_wide"] (defScope s_odd_wicket) := ⟨rfl, rfl, rfl, by decide +kernel, rfl, by decide +kernel, by decide +kernel⟩
theorem ok_odd_wicket (T : Bn mg) (F : Here K mg "_law_odd_wicket" s_odd_wicket f fd) (C_law_take : Callee P w K mg base "_law_take" 1 ["_law_pen_here", "_law_size"] spTake) : FnOk P w K mg base CX0 2 f fd ["_law_pen_here", "_law_wide"] spOddW := by
  refine F.fn.ok sc_odd_wicket (fun vs H Q E h => ?_) (fun cdv A outer s H vs Q E hr h => ?_)
  · obtain ⟨p, wide, rfl, _⟩ := h
    rfl
  · obtain ⟨p, wide, rfl, ⟨a0, b0, c0, hp0⟩, w1, w8, q⟩ := h
    refine ⟨_, (pss_cons (ps_set (i := 2) sc_odd_wicket.nd rfl (by first | exact Or.inl rfl | exact Or.inr rfl) (pe_callC C_law_take (hr.mono (by first | decide | (first | lia | omega))) rfl (pa_cons (pv 0) (pa_cons (pv 1) pa_nil))))
    (pss_cons (ps_set (i := 3) sc_odd_wicket.nd rfl (by first | exact Or.inl rfl | exact Or.inr rfl) (pe_ix ix_list (pe_lst (pa_cons (pv 1) (pa_cons (pe_un un_neg pe_int) (pa_cons (pe_op op_add (pv 1) (pe_callC C_law_take (hr.mono (by first | decide | (first | lia | omega))) rfl (pa_cons (pv 0) (pa_cons (pe_op op_pow pe_int pe_int) pa_nil)))) (pa_cons (pe_op op_sub (pe_un un_neg pe_int) (pe_callC C_law_take (hr.mono (by first | decide | (first | lia | omega))) rfl (pa_cons (pv 0) (pa_cons pe_int pa_nil)))) (pa_cons pe_bl (pa_cons pe_str (pa_cons pe_non (pa_cons (pe_tup (pa_cons pe_int pa_nil)) pa_nil))))))))) (pe_callC C_law_take (hr.mono (by first | decide | (first | lia | omega))) rfl (pa_cons (pv 0) (pa_cons pe_int pa_nil))) (fun _ _ => rfl)))
    (pss_cons (ps_set (i := 4) sc_odd_wicket.nd rfl (by first | exact Or.inl rfl | exact Or.inr rfl) (pe_lstS (pas_cons (pe_tup (pa_cons (pv 2) (pa_cons (pv 3) pa_nil))) (pas_cons (pe_tup (pa_cons (pv 3) (pa_cons (pv 2) pa_nil))) (pas_cons (pe_tup (pa_cons (pv 2) (pa_cons (pv 2) pa_nil))) (pas_cons (pe_lst (pa_cons pe_int (pa_cons pe_int pa_nil))) (pas_cons (pe_tup (pa_cons (pv 2) pa_nil)) (pas_cons (pe_tup (pa_cons pe_int (pa_cons pe_int (pa_cons pe_int pa_nil)))) (pas_cons pe_non (pas_cons pe_int (pas_cons pe_str (pas_consD pe_dict0S (pas_cons (pe_tup (pa_cons (pe_tup (pa_cons pe_int (pa_cons pe_int pa_nil))) pa_nil)) (pas_cons (pe_tup pa_nil) pas_nil))))))))))))))
    (pss_one (ps_ret (pe_ix ix_list (pv 4) (pe_callC C_law_take (hr.mono (by first | decide | (first | lia | omega))) rfl (pa_cons (pv 0) (pa_cons pe_int pa_nil))) (fun _ _ => rfl))))))), ?_⟩
    refine ⟨_, rfl, _, rfl, p, _, _, _, wide, rfl, hp0, by (first | lia | omega), by (first | lia | omega), fun lane a1 b1 c1 la0 la1 => ?_⟩
    have k1 : Kp p H (upd H p (.lst [.int a1, .int b1, .int c1])) := Kp.upd
    have hp1 : (upd H p (.lst [.int a1, .int b1, .int c1])) p = some (.lst [.int a1, .int b1, .int c1]) := upd_same
    generalize upd H p (HO.lst [V.int a1, V.int b1, V.int c1]) = H1 at k1 hp1
    walk_at "rd"
    refine ⟨p, _, _, _, 10 ^ 50, rfl, hp1, by decide, by decide, fun x2 a2 b2 c2 x20 _ => ?_⟩
    have k2 : Kp p H (upd H1 p (.lst [.int a2, .int b2, .int c2])) := Kp.trans k1 Kp.upd
    have hp2 : (upd H1 p (.lst [.int a2, .int b2, .int c2])) p = some (.lst [.int a2, .int b2, .int c2]) := upd_same
    generalize upd H1 p (HO.lst [V.int a2, V.int b2, V.int c2]) = H2 at k2 hp2
    walk_at "rd"
    refine ⟨p, _, _, _, 99, rfl, hp2, by decide, by decide, fun x3 a3 b3 c3 x30 _ => ?_⟩
    have k3 : Kp p H (upd H2 p (.lst [.int a3, .int b3, .int c3])) := Kp.trans k2 Kp.upd
    have hp3 : (upd H2 p (.lst [.int a3, .int b3, .int c3])) p = some (.lst [.int a3, .int b3, .int c3]) := upd_same
    generalize upd H2 p (HO.lst [V.int a3, V.int b3, V.int c3]) = H3 at k3 hp3
    walk_at "rd"
    intro t4 f4
    obtain ⟨k4, hp4, x4, n4⟩ := fresh_step hp3 f4 (.tup [V.int 0])
    generalize upd H3 t4 (HO.tup [V.int 0]) = H4 at k4 hp4 x4
    refine ⟨lenLine (by show 8 ≤ 100000; decide), fun l5 f5 => ?_⟩
    obtain ⟨k5, hp5, x5, n5⟩ := fresh_step hp4 f5 (.lst [V.int wide, V.int (-1), V.int (wide + x2), V.int (-1 - x3), V.bl true, V.str "0", V.non, V.ref t4])
    generalize upd H4 l5 (HO.lst [V.int wide, V.int (-1), V.int (wide + x2), V.int (-1 - x3), V.bl true, V.str "0", V.non, V.ref t4]) = H5 at k5 hp5 x5
    refine ⟨_, rfl, p, _, _, _, 8, rfl, hp5, by decide, by decide, fun u a6 b6 c6 u0 u8 => ?_⟩
    have k6 : Kp p H4 (upd H5 p (.lst [.int a6, .int b6, .int c6])) := Kp.trans k5 Kp.upd
    have hp6 : (upd H5 p (.lst [.int a6, .int b6, .int c6])) p = some (.lst [.int a6, .int b6, .int c6]) := upd_same
    have x6 : (upd H5 p (.lst [.int a6, .int b6, .int c6])) l5 = some (.lst [V.int wide, V.int (-1), V.int (wide + x2), V.int (-1 - x3), V.bl true, V.str "0", V.non, V.ref t4]) := (upd_ne n5).trans x5
    generalize upd H5 p (HO.lst [V.int a6, V.int b6, V.int c6]) = H6 at k6 hp6 x6
    obtain ⟨far, ef, mf⟩ := atI_mem (xs := [V.int wide, V.int (-1), V.int (wide + x2), V.int (-1 - x3), V.bl true, V.str "0", V.non, V.ref t4]) u0 u8
    refine ⟨l5, _, _, _, rfl, rfl, SqL.of x6, ef, ?_⟩
    have y4 := k6 _ _ x4 n4
    have kk6 : Kp p H H6 := Kp.trans k3 (Kp.trans k4 k6)
    have hf : Th H6 far ∧ laneB wide far = false ∧ far ≠ .ref p := by
      simp only [List.mem_cons, List.not_mem_nil, or_false] at mf
      rcases mf with rfl | rfl | rfl | rfl | rfl | rfl | rfl | rfl
      · exact ⟨.inl ⟨_, rfl⟩, by unfold laneB; simp, fun z => nomatch z⟩
      · exact ⟨.inl ⟨_, rfl⟩, by unfold laneB; simp, fun z => nomatch z⟩
      · exact ⟨.inl ⟨_, rfl⟩, by unfold laneB; simp; (first | lia | omega), fun z => nomatch z⟩
      · exact ⟨.inl ⟨_, rfl⟩, by unfold laneB; simp; (first | lia | omega), fun z => nomatch z⟩
      · exact ⟨.inr (.bl _), rfl, fun z => nomatch z⟩
      · exact ⟨.inr (.str _), rfl, fun z => nomatch z⟩
      · exact ⟨.inr .non, rfl, fun z => nomatch z⟩
      · exact ⟨.inr (.tup y4), rfl, fun z => n4 (V.ref.inj z)⟩
    obtain ⟨tf, lf, nfp⟩ := hf
    clear mf ef x6 x5 y4 k6 k5 k4 hp5 hp4 hp3 hp2 hp1 k1 k2 k3 x4
    refine ⟨_, rfl, _, rfl, ?_⟩
    refine ⟨lenLine (by show 2 ≤ 100000; decide), fun t7 ft7 => ?_⟩
    have s7 : Same H6 (upd H6 t7 (HO.tup [V.int lane, far])) := same_new ft7 _
    have xH7 : (upd H6 t7 (HO.tup [V.int lane, far])) t7 = some (.tup [V.int lane, far]) := upd_same
    generalize upd H6 t7 (HO.tup [V.int lane, far]) = H7 at s7 xH7
    refine ⟨_, rfl, _, rfl, ?_⟩
    refine ⟨lenLine (by show 2 ≤ 100000; decide), fun t8 ft8 => ?_⟩
    have s8 : Same H7 (upd H7 t8 (HO.tup [far, V.int lane])) := same_new ft8 _
    have xH8 : (upd H7 t8 (HO.tup [far, V.int lane])) t8 = some (.tup [far, V.int lane]) := upd_same
    generalize upd H7 t8 (HO.tup [far, V.int lane]) = H8 at s8 xH8
    refine ⟨_, rfl, _, rfl, ?_⟩
    refine ⟨lenLine (by show 2 ≤ 100000; decide), fun t9 ft9 => ?_⟩
    have s9 : Same H8 (upd H8 t9 (HO.tup [V.int lane, V.int lane])) := same_new ft9 _
    have xH9 : (upd H8 t9 (HO.tup [V.int lane, V.int lane])) t9 = some (.tup [V.int lane, V.int lane]) := upd_same
    generalize upd H8 t9 (HO.tup [V.int lane, V.int lane]) = H9 at s9 xH9
    refine ⟨lenLine (by show 2 ≤ 100000; decide), fun l10 fl10 => ?_⟩
    have s10 : Same H9 (upd H9 l10 (HO.lst [V.int 0, V.int 1])) := same_new fl10 _
    have xH10 : (upd H9 l10 (HO.lst [V.int 0, V.int 1])) l10 = some (.lst [V.int 0, V.int 1]) := upd_same
    generalize upd H9 l10 (HO.lst [V.int 0, V.int 1]) = H10 at s10 xH10
    refine ⟨_, rfl, ?_⟩
    refine ⟨lenLine (by show 1 ≤ 100000; decide), fun t11 ft11 => ?_⟩
    have s11 : Same H10 (upd H10 t11 (HO.tup [V.int lane])) := same_new ft11 _
    have xH11 : (upd H10 t11 (HO.tup [V.int lane])) t11 = some (.tup [V.int lane]) := upd_same
    generalize upd H10 t11 (HO.tup [V.int lane]) = H11 at s11 xH11
    refine ⟨lenLine (by show 3 ≤ 100000; decide), fun t12 ft12 => ?_⟩
    have s12 : Same H11 (upd H11 t12 (HO.tup [V.int 0, V.int 1, V.int 2])) := same_new ft12 _
    have xH12 : (upd H11 t12 (HO.tup [V.int 0, V.int 1, V.int 2])) t12 = some (.tup [V.int 0, V.int 1, V.int 2]) := upd_same
    generalize upd H11 t12 (HO.tup [V.int 0, V.int 1, V.int 2]) = H12 at s12 xH12
    intro d13 fd13
    have s13 : Same H12 (upd H12 d13 (HO.dK [])) := same_new fd13 _
    have xH13 : (upd H12 d13 (HO.dK [])) d13 = some (.dK []) := upd_same
    generalize upd H12 d13 (HO.dK []) = H13 at s13 xH13
    refine ⟨lenLine (by show 2 ≤ 100000; decide), fun t14 ft14 => ?_⟩
    have s14 : Same H13 (upd H13 t14 (HO.tup [V.int 0, V.int 1])) := same_new ft14 _
    have xH14 : (upd H13 t14 (HO.tup [V.int 0, V.int 1])) t14 = some (.tup [V.int 0, V.int 1]) := upd_same
    generalize upd H13 t14 (HO.tup [V.int 0, V.int 1]) = H14 at s14 xH14
    refine ⟨lenLine (by show 1 ≤ 100000; decide), fun t15 ft15 => ?_⟩
    have s15 : Same H14 (upd H14 t15 (HO.tup [V.ref t14])) := same_new ft15 _
    have xH15 : (upd H14 t15 (HO.tup [V.ref t14])) t15 = some (.tup [V.ref t14]) := upd_same
    generalize upd H14 t15 (HO.tup [V.ref t14]) = H15 at s15 xH15
    refine ⟨lenLine (by show 0 ≤ 100000; decide), fun t16 ft16 => ?_⟩
    have s16 : Same H15 (upd H15 t16 (HO.tup [])) := same_new ft16 _
    have xH16 : (upd H15 t16 (HO.tup [])) t16 = some (.tup []) := upd_same
    generalize upd H15 t16 (HO.tup []) = H16 at s16 xH16
    refine ⟨lenLine (by show 12 ≤ 100000; decide), fun l17 fl17 => ?_⟩
    have s17 : Same H16 (upd H16 l17 (HO.lst [V.ref t7, V.ref t8, V.ref t9, V.ref l10, V.ref t11, V.ref t12, V.non, V.int 5, V.str "01", V.ref d13, V.ref t15, V.ref t16])) := same_new fl17 _
    have xH17 : (upd H16 l17 (HO.lst [V.ref t7, V.ref t8, V.ref t9, V.ref l10, V.ref t11, V.ref t12, V.non, V.int 5, V.str "01", V.ref d13, V.ref t15, V.ref t16])) l17 = some (.lst [V.ref t7, V.ref t8, V.ref t9, V.ref l10, V.ref t11, V.ref t12, V.non, V.int 5, V.str "01", V.ref d13, V.ref t15, V.ref t16]) := upd_same
    generalize upd H16 l17 (HO.lst [V.ref t7, V.ref t8, V.ref t9, V.ref l10, V.ref t11, V.ref t12, V.non, V.int 5, V.str "01", V.ref d13, V.ref t15, V.ref t16]) = H17 at s17 xH17
    have s717 := Same.trans s7 (Same.trans s8 (Same.trans s9 (Same.trans s10 (Same.trans s11 (Same.trans s12 (Same.trans s13 (Same.trans s14 (Same.trans s15 (Same.trans s16 s17)))))))))
    have hp17 := s717 _ _ hp6
    have n17 : l17 ≠ p := Ne.symm (ne_of_none ((Same.trans s7 (Same.trans s8 (Same.trans s9 (Same.trans s10 (Same.trans s11 (Same.trans s12 (Same.trans s13 (Same.trans s14 (Same.trans s15 s16))))))))) _ _ hp6) fl17)
    refine ⟨_, rfl, _, rfl, p, _, _, _, 12, rfl, hp17, by decide, by decide, fun v a18 b18 c18 v0 v12 => ?_⟩
    have k18 : Kp p H17 (upd H17 p (.lst [.int a18, .int b18, .int c18])) := Kp.upd
    have hp18 : (upd H17 p (.lst [.int a18, .int b18, .int c18])) p = some (.lst [.int a18, .int b18, .int c18]) := upd_same
    generalize upd H17 p (HO.lst [V.int a18, V.int b18, V.int c18]) = H18 at k18 hp18
    obtain ⟨y, ey, my⟩ := atI_mem (xs := [V.ref t7, V.ref t8, V.ref t9, V.ref l10, V.ref t11, V.ref t12, V.non, V.int 5, V.str "01", V.ref d13, V.ref t15, V.ref t16]) v0 v12
    refine ⟨l17, _, _, _, rfl, rfl, SqL.of (k18 _ _ xH17 n17), ey, ?_⟩
    have kk : Kp p H6 H18 := Kp.trans (Kp.same s717) k18
    have kt : KT H17 H18 := KT.kp k18 hp17 (KT.refl _)
    have sf : ∀ b xs, H6 b = some (.tup xs) → H18 b = some (.tup xs) := fun b xs h => kt _ _ (s717 _ _ h)
    have ne : far ≠ .ref p := nfp
    have tf' : Th H18 far := tf.imp id fun o => o.kp kk ne
    have e16 := s17
    have e15 := Same.trans s16 e16
    have e14 := Same.trans s15 e15
    have e13 := Same.trans s14 e14
    have e12 := Same.trans s13 e13
    have e11 := Same.trans s12 e12
    have e10 := Same.trans s11 e11
    have e9 := Same.trans s10 e10
    have e8 := Same.trans s9 e9
    have e7 := Same.trans s8 e8
    have z7 := kt _ _ (e7 _ _ xH7)
    have z8 := kt _ _ (e8 _ _ xH8)
    have z9 := kt _ _ (e9 _ _ xH9)
    have z11 := kt _ _ (e11 _ _ xH11)
    have z12 := kt _ _ (e12 _ _ xH12)
    have z15 := kt _ _ (e15 _ _ xH15)
    have z16 := kt _ _ (e16 _ _ xH16)
    have n10 : l10 ≠ p := Ne.symm (ne_of_none ((Same.trans s7 (Same.trans s8 s9)) _ _ hp6) fl10)
    have n13 : d13 ≠ p := Ne.symm (ne_of_none ((Same.trans s7 (Same.trans s8 (Same.trans s9 (Same.trans s10 (Same.trans s11 s12))))) _ _ hp6) fd13)
    have z10 := k18 _ _ (e10 _ _ xH10) n10
    have z13 := k18 _ _ (e13 _ _ xH13) n13
    have pair : ∀ (t : Addr) (y z : V), H18 t = some (.tup [y, z]) → Th H18 y → Th H18 z → (¬ ∃ i j, y = .int i ∧ z = .int j ∧ LaneOk wide (i, j)) → ThW H18 (.ref t) ∧ ¬ IsW wide H18 (.ref t) := fun t y z h ty tz no => by
      refine ⟨⟨.inr (.tup h), fun a y' z' e k => ?_⟩, fun ⟨_, i, j, e, k, l⟩ => ?_⟩
      · cases e
        rw [h] at k
        cases k
        exact ⟨ty, tz⟩
      · cases e
        rw [h] at k
        cases k
        exact no ⟨i, j, rfl, rfl, l⟩
    have odd : ∀ (t : Addr) (xs : List V), H18 t = some (.tup xs) → xs.length ≠ 2 → ThW H18 (.ref t) ∧ ¬ IsW wide H18 (.ref t) := fun t xs h l2 => by
      refine ⟨⟨.inr (.tup h), fun a y' z' e k => ?_⟩, fun ⟨_, i, j, e, k, l⟩ => ?_⟩
      · cases e
        rw [h] at k
        cases k
        exact absurd rfl l2
      · cases e
        rw [h] at k
        cases k
        exact absurd rfl l2
    have flat : ∀ y : V, Th H18 y → (∀ a xs, y = .ref a → H18 a ≠ some (.tup xs)) → ThW H18 y ∧ ¬ IsW wide H18 y := fun y ty no => ⟨⟨ty, fun a u v e k => absurd k (no a _ e)⟩, fun ⟨a, i, j, e, k, _⟩ => no a _ e k⟩
    have lfar : ∀ i, far = .int i → ¬ (0 ≤ i ∧ i < wide) := fun i e h => by
      subst e
      have z : decide (0 ≤ i ∧ i < wide) = false := lf
      rw [decide_eq_true h] at z
      cases z
    have fin : ThW H18 y ∧ ¬ IsW wide H18 y := by
      simp only [List.mem_cons, List.not_mem_nil, or_false] at my
      rcases my with rfl | rfl | rfl | rfl | rfl | rfl | rfl | rfl | rfl | rfl | rfl | rfl
      · exact pair _ _ _ z7 (.inl ⟨_, rfl⟩) tf' fun ⟨i, j, _, e, l⟩ => lfar j e ⟨l.2.2.1, l.2.2.2.1⟩
      · exact pair _ _ _ z8 tf' (.inl ⟨_, rfl⟩) fun ⟨i, j, e, _, l⟩ => lfar i e ⟨l.1, l.2.1⟩
      · exact pair _ _ _ z9 (.inl ⟨_, rfl⟩) (.inl ⟨_, rfl⟩) fun ⟨i, j, e1, e2, l⟩ => l.2.2.2.2 ((V.int.inj e1).symm.trans (V.int.inj e2))
      · exact flat _ (.inr (.lst z10)) fun a xs e k => by cases e; rw [z10] at k; cases k
      · exact odd _ _ z11 (by simp)
      · exact odd _ _ z12 (by simp)
      · exact flat _ (.inr .non) fun a xs e => nomatch e
      · exact flat _ (.inl ⟨_, rfl⟩) fun a xs e => nomatch e
      · exact flat _ (.inr (.str _)) fun a xs e => nomatch e
      · exact flat _ (.inr (.dct z13)) fun a xs e k => by cases e; rw [z13] at k; cases k
      · exact odd _ _ z15 (by simp)
      · exact odd _ _ z16 (by simp)
    exact q y H18 (Kp.trans kk6 kk) ⟨_, _, _, hp18⟩ fin.1 fin.2
end
section
variable {P : Program} {w : World} {K : PySem.W.Frag} {mg : Str → Option Value} {base : Heap} {f : Addr} {fd : FuncData}
theorem sc_odd_wide : FnScope ["_law_pen_here"] ["_law_pen_here"] (defScope s_odd_wide) := ⟨rfl, rfl, rfl, by decide +kernel, rfl, by decide +kernel, by decide +kernel⟩
theorem ok_odd_wide (T : Bn mg) (F : Here K mg "_law_odd_wide" s_odd_wide f fd) (C_law_take : Callee P w K mg base "_law_take" 1 ["_law_pen_here", "_law_size"] spTake) : FnOk P w K mg base CX0 2 f fd ["_law_pen_here"] spOddWide := by
  refine F.fn.ok sc_odd_wide (fun vs H Q E h => ?_) (fun cdv A outer s H vs Q E hr h => ?_)
  · obtain ⟨p, rfl, _⟩ := h
    rfl
  · obtain ⟨p, rfl, ⟨a0, b0, c0, hp0⟩, q⟩ := h
    refine ⟨_, (pss_one (ps_ret (pe_ix ix_list (pe_lst (pa_cons pe_int (pa_cons pe_int (pa_cons (pe_un un_neg pe_int) (pa_cons pe_bl (pa_cons pe_non (pa_cons pe_str (pa_cons (pe_tup (pa_cons pe_int pa_nil)) (pa_cons (pe_op op_add (pe_op op_add pe_int (pe_op op_mul (pe_callC C_law_take (hr.mono (by first | decide | (first | lia | omega))) rfl (pa_cons (pv 0) (pa_cons (pe_op op_pow pe_int pe_int) pa_nil))) pe_int)) pe_int) (pa_cons (pe_lst (pa_cons pe_int pa_nil)) (pa_cons pe_bl pa_nil))))))))))) (pe_callC C_law_take (hr.mono (by first | decide | (first | lia | omega))) rfl (pa_cons (pv 0) (pa_cons pe_int pa_nil))) (fun _ _ => rfl)))), ?_⟩
    walk_at "rd"
    intro t1 f1
    obtain ⟨k1, hp1, x1, n1⟩ := fresh_step hp0 f1 (.tup [V.int 4])
    generalize upd H t1 (HO.tup [V.int 4]) = H1 at k1 hp1 x1
    walk_at "rd"
    refine ⟨p, _, _, _, 10 ^ 59, rfl, hp1, by decide, by decide, fun v a2 b2 c2 v0 v1 => ?_⟩
    have k2 : Kp p H (upd H1 p (.lst [.int a2, .int b2, .int c2])) := Kp.trans k1 Kp.upd
    have hp2 : (upd H1 p (.lst [.int a2, .int b2, .int c2])) p = some (.lst [.int a2, .int b2, .int c2]) := upd_same
    have x2 : (upd H1 p (.lst [.int a2, .int b2, .int c2])) t1 = some (.tup [V.int 4]) := (upd_ne n1).trans x1
    generalize upd H1 p (HO.lst [V.int a2, V.int b2, V.int c2]) = H2 at k2 hp2 x2
    walk_at "rd"
    intro l3 f3
    obtain ⟨k3, hp3, x3, n3⟩ := fresh_step hp2 f3 (.lst [V.int 4])
    have s3 : Same H2 (upd H2 l3 (HO.lst [V.int 4])) := same_new f3 _
    generalize upd H2 l3 (HO.lst [V.int 4]) = H3 at k3 hp3 x3 s3
    walk_at "rd"
    intro l4 f4
    obtain ⟨k4, hp4, x4, n4⟩ := fresh_step hp3 f4 (.lst [V.int 0, V.int 9, V.int (-1), V.bl true, V.non, V.str "4", V.ref t1, V.int (4 + v * 9 + 5), V.ref l3, V.bl false])
    have s4 : Same H3 (upd H3 l4 (HO.lst [V.int 0, V.int 9, V.int (-1), V.bl true, V.non, V.str "4", V.ref t1, V.int (4 + v * 9 + 5), V.ref l3, V.bl false])) := same_new f4 _
    generalize upd H3 l4 (HO.lst [V.int 0, V.int 9, V.int (-1), V.bl true, V.non, V.str "4", V.ref t1, V.int (4 + v * 9 + 5), V.ref l3, V.bl false]) = H4 at k4 hp4 x4 s4
    refine ⟨_, rfl, p, _, _, _, 10, rfl, hp4, by decide, by decide, fun u a6 b6 c6 u0 u7 => ?_⟩
    have k6 : Kp p H4 (upd H4 p (.lst [.int a6, .int b6, .int c6])) := Kp.upd
    have hp6 : (upd H4 p (.lst [.int a6, .int b6, .int c6])) p = some (.lst [.int a6, .int b6, .int c6]) := upd_same
    generalize upd H4 p (HO.lst [V.int a6, V.int b6, V.int c6]) = H6 at k6 hp6
    obtain ⟨y, ey, my⟩ := atI_mem (xs := [V.int 0, V.int 9, V.int (-1), V.bl true, V.non, V.str "4", V.ref t1, V.int (4 + v * 9 + 5), V.ref l3, V.bl false]) u0 u7
    refine ⟨l4, _, _, _, rfl, rfl, SqL.of (k6 _ _ x4 n4), ey, ?_⟩
    have y1 := k6 _ _ (s4 _ _ (s3 _ _ x2)) n1
    have y2 := k6 _ _ (s4 _ _ x3) n3
    have kk : Kp p H H6 := Kp.trans k2 (Kp.trans k3 (Kp.trans k4 k6))
    have fin : Bad1 H6 y ∧ y ≠ .ref p := by
      simp only [List.mem_cons, List.not_mem_nil, or_false] at my
      rcases my with rfl | rfl | rfl | rfl | rfl | rfl | rfl | rfl | rfl | rfl
      · exact ⟨.inr ⟨0, rfl, by decide⟩, fun z => nomatch z⟩
      · exact ⟨.inr ⟨9, rfl, by decide⟩, fun z => nomatch z⟩
      · exact ⟨.inr ⟨-1, rfl, by decide⟩, fun z => nomatch z⟩
      · exact ⟨.inl (.bl _), fun z => nomatch z⟩
      · exact ⟨.inl .non, fun z => nomatch z⟩
      · exact ⟨.inl (.str _), fun z => nomatch z⟩
      · exact ⟨.inl (.tup y1), fun z => n1 (V.ref.inj z)⟩
      · exact ⟨.inr ⟨4 + v * 9 + 5, rfl, by (first | lia | omega)⟩, fun z => nomatch z⟩
      · exact ⟨.inl (.lst y2), fun z => n3 (V.ref.inj z)⟩
      · exact ⟨.inl (.bl _), fun z => nomatch z⟩
    exact q y H6 kk ⟨_, _, _, hp6⟩ fin.1 fin.2
end
section
variable {P : Program} {w : World} {K : PySem.W.Frag} {mg : Str → Option Value} {base : Heap} {f : Addr} {fd : FuncData}
theorem sc_odd_list : FnScope ["_law_pen_here"] ["_law_pen_here"] (defScope s_odd_list) := ⟨rfl, rfl, rfl, by decide +kernel, rfl, by decide +kernel, by decide +kernel⟩
theorem ok_odd_list (T : Bn mg) (F : Here K mg "_law_odd_list" s_odd_list f fd) (C_law_take : Callee P w K mg base "_law_take" 1 ["_law_pen_here", "_law_size"] spTake) : FnOk P w K mg base CX0 2 f fd ["_law_pen_here"] spOddList := by
  refine F.fn.ok sc_odd_list (fun vs H Q E h => ?_) (fun cdv A outer s H vs Q E hr h => ?_)
  · obtain ⟨p, rfl, _⟩ := h
    rfl
  · obtain ⟨p, rfl, ⟨a0, b0, c0, hp0⟩, q⟩ := h
    refine ⟨_, (@pss_one _ _ _ (@ps_ret _ _ _ _ (@pe_ix _ _ _ _ _ _ _ ix_list (@pe_lstS _ _ _ _ (pas_cons pe_non (pas_cons pe_int (pas_cons pe_str (pas_consD pe_dict0S (pas_cons pe_bl (pas_cons pe_int (pas_consD (pe_dict1S pe_int (pe_tup (pa_cons pe_int (pa_cons pe_int pa_nil)))) pas_nil)))))))) (by exact (pe_callC C_law_take (hr.mono (by first | decide | (first | lia | omega))) rfl (pa_cons (pv 0) (pa_cons pe_int pa_nil)))) (by exact (fun _ _ => rfl))))), ?_⟩
    intro d1 f1
    obtain ⟨k1, hp1, x1, n1⟩ := fresh_step hp0 f1 (.dK [])
    have s1 : Same H (upd H d1 (HO.dK [])) := same_new f1 _
    generalize upd H d1 (HO.dK []) = H1 at k1 hp1 x1 s1
    intro d2 f2
    obtain ⟨k2, hp2, x2, n2⟩ := fresh_step hp1 f2 (.dK [])
    have s2 : Same H1 (upd H1 d2 (HO.dK [])) := same_new f2 _
    generalize upd H1 d2 (HO.dK []) = H2 at k2 hp2 x2 s2
    refine ⟨lenLine (by show 2 ≤ 100000; decide), fun t3 f3 => ?_⟩
    have s3 : Same H2 (upd H2 t3 (HO.tup [V.int 0, V.int 1])) := same_new f3 _
    generalize upd H2 t3 (HO.tup [V.int 0, V.int 1]) = H3 at s3
    refine ⟨s3 _ _ x2, _, rfl, ?_⟩
    have n12 : d1 ≠ d2 := ne_of_none x1 f2
    have x4 : (upd H3 d2 (HO.dK [(Sum.inl 0, V.ref t3)])) d2 = some (.dK [(Sum.inl 0, V.ref t3)]) := upd_same
    have y4 : (upd H3 d2 (HO.dK [(Sum.inl 0, V.ref t3)])) d1 = some (.dK []) := (upd_ne n12).trans (s3 _ _ (s2 _ _ x1))
    have hp4 : (upd H3 d2 (HO.dK [(Sum.inl 0, V.ref t3)])) p = some (.lst [.int a0, .int b0, .int c0]) := (upd_ne (Ne.symm n2)).trans (s3 _ _ hp2)
    have k4 : Kp p H (upd H3 d2 (HO.dK [(Sum.inl 0, V.ref t3)])) := Kp.put (s1.free f2) (Kp.trans k1 (Kp.trans k2 (Kp.same s3)))
    generalize upd H3 d2 (HO.dK [(Sum.inl 0, V.ref t3)]) = H4 at x4 y4 hp4 k4
    refine ⟨lenLine (by show 7 ≤ 100000; decide), fun l5 f5 => ?_⟩
    obtain ⟨k5, hp5, x5, n5⟩ := fresh_step hp4 f5 (.lst [V.non, V.int 0, V.str "0-1", V.ref d1, V.bl true, V.int 7, V.ref d2])
    have s5 : Same H4 (upd H4 l5 (HO.lst [V.non, V.int 0, V.str "0-1", V.ref d1, V.bl true, V.int 7, V.ref d2])) := same_new f5 _
    generalize upd H4 l5 (HO.lst [V.non, V.int 0, V.str "0-1", V.ref d1, V.bl true, V.int 7, V.ref d2]) = H5 at k5 hp5 x5 s5
    refine ⟨_, rfl, p, _, _, _, 7, rfl, hp5, by decide, by decide, fun v a6 b6 c6 v0 v7 => ?_⟩
    have k6 : Kp p H5 (upd H5 p (.lst [.int a6, .int b6, .int c6])) := Kp.upd
    have hp6 : (upd H5 p (.lst [.int a6, .int b6, .int c6])) p = some (.lst [.int a6, .int b6, .int c6]) := upd_same
    generalize upd H5 p (HO.lst [V.int a6, V.int b6, V.int c6]) = H6 at k6 hp6
    obtain ⟨y, ey, my⟩ := atI_mem (xs := [V.non, V.int 0, V.str "0-1", V.ref d1, V.bl true, V.int 7, V.ref d2]) v0 v7
    refine ⟨l5, _, _, _, rfl, rfl, SqL.of (k6 _ _ x5 n5), ey, ?_⟩
    have y1 := k6 _ _ (s5 _ _ y4) n1
    have y2 := k6 _ _ (s5 _ _ x4) n2
    have kk : Kp p H H6 := Kp.trans k4 (Kp.trans k5 k6)
    have no : ∀ (d : Addr) kvs, H6 d = some (.dK kvs) → ∀ a rs, V.ref d = .ref a → ¬ Sq H6 a rs := fun d kvs h a rs e k => by
      cases e
      rcases k with k | k <;> rw [h] at k <;> cases k
    have fin : Th H6 y ∧ ∀ a rs, y = .ref a → ¬ Sq H6 a rs := by
      simp only [List.mem_cons, List.not_mem_nil, or_false] at my
      rcases my with rfl | rfl | rfl | rfl | rfl | rfl | rfl
      · exact ⟨.inr .non, fun _ _ e => nomatch e⟩
      · exact ⟨.inl ⟨_, rfl⟩, fun _ _ e => nomatch e⟩
      · exact ⟨.inr (.str _), fun _ _ e => nomatch e⟩
      · exact ⟨.inr (.dct y1), no _ _ y1⟩
      · exact ⟨.inr (.bl _), fun _ _ e => nomatch e⟩
      · exact ⟨.inl ⟨_, rfl⟩, fun _ _ e => nomatch e⟩
      · exact ⟨.inr (.dct y2), no _ _ y2⟩
    exact q y H6 kk ⟨_, _, _, hp6⟩ fin.1 fin.2
end
section
variable {P : Program} {w : World} {K : PySem.W.Frag} {mg : Str → Option Value} {base : Heap} {f : Addr} {fd : FuncData}
theorem sc_told : FnScope ["_law_wide", "_law_wickets_here", "_law_found", "_law_caught", "e", "_law_others"] ["_law_wide", "_law_wickets_here"] (defScope s_told) := ⟨rfl, rfl, rfl, by decide +kernel, rfl, by decide +kernel, by decide +kernel⟩
theorem ok_told {a : ErrA} (T : Bn mg) (F : Here K mg "_law_told" s_told f fd) (ER : ErrT K mg a) (Cnet_of : CalleeE P w K mg base "net_of" 6 ["wide", "wickets"] (spNetT a.nonet)) : FnOk P w K mg base CX0 7 f fd ["_law_wide", "_law_wickets_here"] spTold01 := by
  refine F.fn.ok sc_told (fun vs H Q E h => ?_) (fun cdv A outer s H vs Q E hr h => ?_)
  · obtain ⟨x, y, rfl, _⟩ := h
    rfl
  · obtain ⟨x, y, rfl, tx, ty, h⟩ := h
    refine ⟨_, (pss_cons (ps_set (i := 2) sc_told.nd rfl (by first | exact Or.inl rfl | exact Or.inr rfl) pe_non)
    (pss_cons (ps_set (i := 3) sc_told.nd rfl (by first | exact Or.inl rfl | exact Or.inr rfl) pe_non)
    (pss_cons (ps_tryAs (j := 4) rfl rfl sc_told.nd rfl rfl (psx_set (i := 2) sc_told.nd rfl (by first | exact Or.inl rfl | exact Or.inr rfl) (px_call Cnet_of (hr.mono (by first | decide | (first | lia | omega))) rfl (pa_cons (pv 0) (pa_cons (pv 1) pa_nil)))) rfl ER.at_NetError (fun _ => (pss_one (ps_set (i := 3) sc_told.nd rfl (by first | exact Or.inl rfl | exact Or.inr rfl) (pv 4)))))
    (pss_cons (ps_if (pt_cmpR op_isN (pv 3) pe_non (nomark _))
    (pss_one (ps_ret (pv 2)))
    pss_nil)
    (pss_cons (ps_set (i := 5) sc_told.nd rfl (by first | exact Or.inl rfl | exact Or.inr rfl) (pe_callB call_isXT rfl T.n_isinstance boot_isinstance (pa_cons (pv 3) (pa_cons (pe_tup (pa_cons (pe_glob (v := V.ref _) rfl ER.at_NoLane rfl) (pa_cons (pe_glob (v := V.ref _) rfl ER.at_NoName rfl) (pa_cons (pe_glob (v := V.ref _) rfl ER.at_NoRow rfl) (pa_cons (pe_glob (v := V.ref _) rfl ER.at_NoText rfl) (pa_cons (pe_glob (v := V.ref _) rfl ER.at_NoWalker rfl) (pa_cons (pe_glob (v := V.ref _) rfl ER.at_TooMany rfl) pa_nil))))))) pa_nil))))
    (pss_one (ps_ret (pe_ix ix_list (pe_lst (pa_cons pe_str (pa_cons pe_str pa_nil))) (pe_callTy call_int1 rfl T.n_int boot_intT (pa_cons (pe_or (pv 5) (pe_or (pe_not (pe_callB call_isX rfl T.n_isinstance boot_isinstance (pa_cons (pv 3) (pa_cons (pe_glob (v := V.ref _) rfl ER.at_NoNet rfl) pa_nil)))) (pe_one (pe_not (pe_callB call_isX rfl T.n_isinstance boot_isinstance (pa_cons (pv 3) (pa_cons (pe_bltn (v := V.ty "ValueError") (u := .type "ValueError") rfl T.n_ValueError (by decide +kernel) rfl) pa_nil))))))) pa_nil)) (fun _ _ => rfl))))))))), ?_⟩
    rcases h with ⟨nm, q⟩ | ⟨wide, l, ws, rfl, rfl, sq, w1, w8, ok, len, q⟩
    · refine ⟨_, rfl, _, rfl, x, y, rfl, tx, ty, .inl ⟨nm, fun H1 s1 => ?_⟩⟩
      refine ⟨ER.m_NoNet, fun ea fea => ?_⟩
      have s2 : Same H1 (upd H1 ea (excO ea (.ref a.nonet))) := same_new fea _
      have x2 : (upd H1 ea (excO ea (.ref a.nonet))) ea = some (excO ea (.ref a.nonet)) := upd_same
      generalize upd H1 ea (excO ea (.ref a.nonet)) = H2 at s2 x2
      refine ⟨_, rfl, ?_⟩
      refine ⟨_, rfl, rfl, _, rfl, iteFd (by simp) ?_⟩
      refine ⟨_, rfl, lenLine (by show 6 ≤ 100000; decide), fun tp ftp => ?_⟩
      have s3 : Same H2 (upd H2 tp (HO.tup [V.ref a.nolane, V.ref a.noname, V.ref a.norow, V.ref a.notext, V.ref a.nowalker, V.ref a.many])) := same_new ftp _
      have x3 : (upd H2 tp (HO.tup [V.ref a.nolane, V.ref a.noname, V.ref a.norow, V.ref a.notext, V.ref a.nowalker, V.ref a.many])) tp = some (.tup [V.ref a.nolane, V.ref a.noname, V.ref a.norow, V.ref a.notext, V.ref a.nowalker, V.ref a.many]) := upd_same
      generalize upd H2 tp (HO.tup [V.ref a.nolane, V.ref a.noname, V.ref a.norow, V.ref a.notext, V.ref a.nowalker, V.ref a.many]) = H3 at s3 x3
      refine ⟨ea, a.nonet, tp, _, _, _, rfl, s3 _ _ x2, ER.l_NoNet, x3, rfl, kit_snoc ER.nm ER.i_NoNet, ?_⟩
      refine ⟨lenLine (by show 2 ≤ 100000; decide), fun l4 f4 => ?_⟩
      have s4 : Same H3 (upd H3 l4 (HO.lst [V.str "refused", V.str "other"])) := same_new f4 _
      have x4 : (upd H3 l4 (HO.lst [V.str "refused", V.str "other"])) l4 = some (.lst [V.str "refused", V.str "other"]) := upd_same
      generalize upd H3 l4 (HO.lst [V.str "refused", V.str "other"]) = H4 at s4 x4
      refine ⟨_, rfl, _, rfl, iteFd (by decide) ?_⟩
      refine ⟨_, rfl, ea, a.nonet, _, _, _, rfl, s4 _ _ (s3 _ _ x2), ER.l_NoNet, rfl, ER.nn, _, rfl, _, rfl, iteFd (by decide) ?_⟩
      refine ⟨_, rfl, ea, a.nonet, _, _, _, rfl, s4 _ _ (s3 _ _ x2), ER.l_NoNet, rfl, ER.v_NoNet, _, rfl, .inr ⟨_, rfl, ?_⟩⟩
      refine ⟨l4, _, _, _, rfl, rfl, SqL.of x4, rfl, ?_⟩
      exact q _ (Same.trans s1 (Same.trans s2 (Same.trans s3 s4)))
    · refine ⟨_, rfl, _, rfl, .int wide, .ref l, rfl, tx, ty, .inr ⟨wide, l, ws, rfl, rfl, sq, w1, w8, ok, len, fun v H1 s1 net => ?_⟩⟩
      refine ⟨_, rfl, rfl, _, rfl, iteTd (by decide) ?_⟩
      exact ⟨_, rfl, q v H1 s1 net⟩
end
section
variable {P : Program} {w : World} {K : PySem.W.Frag} {mg : Str → Option Value} {base : Heap} {f : Addr} {fd : FuncData}
theorem sc_good : FnScope ["_law_wide", "_law_wickets_here", "_law_due", "_law_found"] ["_law_wide", "_law_wickets_here"] (defScope s_good) := ⟨rfl, rfl, rfl, by decide +kernel, rfl, by decide +kernel, by decide +kernel⟩
theorem ok_good (T : Bn mg) (F : Here K mg "_law_good" s_good f fd) (C_law_told : Callee P w K mg base "_law_told" 7 ["_law_wide", "_law_wickets_here"] spTold01) (Cis_net : Callee P w K mg base "is_net" 6 ["thing"] spIsNetT) : FnOk P w K mg base CX0 8 f fd ["_law_wide", "_law_wickets_here"] spGood := by
  refine F.fn.ok sc_good (fun vs H Q E h => ?_) (fun cdv A outer s H vs Q E hr h => ?_)
  · obtain ⟨wide, l, ws, rfl, _⟩ := h
    rfl
  · obtain ⟨wide, l, ws, rfl, sq, w1, w8, ok, len, q⟩ := h
    refine ⟨_, (pss_cons (ps_set (i := 2) sc_good.nd rfl (by first | exact Or.inl rfl | exact Or.inr rfl) (pe_tup (pa_cons (pv 0) (pa_cons (pe_callTy call_tuple_of rfl T.n_tuple boot_tupleT (pa_cons (pv 1) pa_nil)) pa_nil))))
    (pss_cons (ps_set (i := 3) sc_good.nd rfl (by first | exact Or.inl rfl | exact Or.inr rfl) (pe_callC C_law_told (hr.mono (by first | decide | (first | lia | omega))) rfl (pa_cons (pv 0) (pa_cons (pv 1) pa_nil))))
    (pss_cons (ps_if (PW.pt (pw_or (pt_cmpR (op_neD hr.units) (pv 3) (pv 2) (nomark _)) (pw_or (pt_not (pt_val (pe_callB call_isinst rfl T.n_isinstance boot_isinstance (pa_cons (pe_ix ix_tup (pv 3) pe_int (fun _ _ => rfl)) (pa_cons (pe_bltn (v := V.ty "tuple") (u := .type "tuple") rfl T.n_tuple (by decide +kernel) rfl) pa_nil))))) (pw_or (pt_val (pe_callB call_isinst rfl T.n_isinstance boot_isinstance (pa_cons (pe_ix ix_tup (pv 3) pe_int (fun _ _ => rfl)) (pa_cons (pe_bltn (v := V.ty "bool") (u := .type "bool") rfl T.n_bool (by decide +kernel) rfl) pa_nil)))) (pw_or1 (pt_cmpR op_notB (pe_callC Cis_net (hr.mono (by first | decide | (first | lia | omega))) rfl (pa_cons (pv 3) pa_nil)) pe_bl (nomark _)))))))
    (pss_one (ps_ret pe_bl))
    pss_nil)
    (pss_one (ps_ret (pe_and (pe_cmpR op_isB (pe_callC Cis_net (hr.mono (by first | decide | (first | lia | omega))) rfl (pa_cons (pe_tup (pa_cons (pv 0) (pa_cons (pe_callTy call_list_of rfl T.n_list boot_listT (pa_cons (pv 1) pa_nil)) pa_nil))) pa_nil)) pe_bl (nomark _)) (pe_one (pe_cmpR op_isB (pe_callC Cis_net (hr.mono (by first | decide | (first | lia | omega))) rfl (pa_cons (pe_op op_catA (pv 3) (pe_tup (pa_cons pe_int pa_nil))) pa_nil)) pe_bl (nomark _))))))))), ?_⟩
    refine seq_gen (a := tAsg _ _) fun N hN => ?_
    have go : ∀ v H1, Same H H1 → Net H1 v wide ws → N [some (.int wide), some (.ref l), some v, none] H1 := fun v H1 s1 net1 => hN _ _ (by
      have sq1 : SqW H1 l ws := let ⟨rs, k, r⟩ := sq; ⟨rs, k.imp (s1 _ _) (s1 _ _), r.same s1⟩
      refine ⟨_, rfl, _, rfl, .int wide, .ref l, rfl, .inl ⟨_, rfl⟩, (sq1.makes w1 w8 ok len).2, .inr ⟨wide, l, ws, rfl, rfl, sq1, w1, w8, ok, len, fun v2 H2 s2 net2 => ?_⟩⟩
      have s02 := Same.trans s1 s2
      have net1' := net1.kt (KT.same s2 (KT.refl _))
      obtain ⟨n, t, rs, rfl, hn, ht, hrs⟩ := id net2
      have sqt : SqW H2 t ws := ⟨rs, .inr ht, hrs⟩
      have lrs := hrs.len
      refine ⟨_, rfl, _, rfl, _, _, net2.dat, net1'.dat, shaped_net _ _, shaped_net _ _, mix_net _ _, _, rfl, iteFd (by simp [PyProof.Rows.same_refl]) ?_⟩
      refine ⟨_, rfl, n, _, _, _, rfl, rfl, SqT.of hn, rfl, _, _, _, true, rfl, TyOf.tup ht, rfl, _, rfl, iteFd (by decide) ?_⟩
      refine ⟨_, rfl, n, _, _, _, rfl, rfl, SqT.of hn, rfl, _, _, _, false, rfl, TyOf.int wide, rfl, _, rfl, iteFd (by decide) ?_⟩
      have tn : ThN H2 (.ref n) := ⟨.inr (.tup hn), fun a y z e k => by
        cases e
        rw [hn] at k
        cases k
        exact ⟨.inl ⟨_, rfl⟩, (sqt.makes w1 w8 ok len).2⟩⟩
      refine ⟨_, rfl, .ref n, rfl, tn, fun b H3 s3 hb => ?_⟩
      obtain rfl : b = true := hb.mpr ⟨n, _, t, rs, rfl, hn, ht, (sqt.makes w1 w8 ok len).1⟩
      refine ⟨_, _, rfl, rfl, _, rfl, iteFd (by decide) ?_⟩
      have s03 := Same.trans s02 s3
      obtain ⟨rs0, k0, r0⟩ := sq
      have k3 : Sq H3 l rs0 := Sq.same k0 s03
      refine ⟨_, rfl, _, rfl, l, rs0, rfl, k3.elim (fun h => .inl (SqL.of h)) (fun h => .inr (SqT.of h)), fun ll fl => ?_⟩
      have s4 : Same H3 (upd H3 ll (HO.lst rs0)) := same_new fl _
      have x4 : (upd H3 ll (HO.lst rs0)) ll = some (.lst rs0) := upd_same
      generalize upd H3 ll (HO.lst rs0) = H4 at s4 x4
      refine ⟨lenLine (by show 2 ≤ 100000; decide), fun n2 f2 => ?_⟩
      have s5 : Same H4 (upd H4 n2 (HO.tup [V.int wide, V.ref ll])) := same_new f2 _
      have x5 : (upd H4 n2 (HO.tup [V.int wide, V.ref ll])) n2 = some (.tup [V.int wide, V.ref ll]) := upd_same
      generalize upd H4 n2 (HO.tup [V.int wide, V.ref ll]) = H5 at s5 x5
      have s35 := Same.trans s4 s5
      have sq5 : SqW H5 ll ws := ⟨rs0, .inl (s5 _ _ x4), r0.same (Same.trans s03 s35)⟩
      have tn2 : ThN H5 (.ref n2) := ⟨.inr (.tup x5), fun a y z e k => by
        cases e
        rw [x5] at k
        cases k
        exact ⟨.inl ⟨_, rfl⟩, (sq5.makes w1 w8 ok len).2⟩⟩
      refine ⟨.ref n2, rfl, tn2, fun b H6 s6 hb => ?_⟩
      have eb : b = false := by
        cases b with
        | false => rfl
        | true =>
          obtain ⟨_, _, _, _, e, k, k2, _⟩ := hb.mp rfl
          cases e
          rw [x5] at k
          cases k
          rw [s5 _ _ x4] at k2
          cases k2
      subst eb
      refine ⟨_, _, rfl, rfl, _, rfl, iteTd (by decide) ?_⟩
      have s26 := Same.trans s3 (Same.trans s35 s6)
      refine ⟨_, rfl, lenLine (by show 1 ≤ 100000; decide), fun t0 f0 => ?_⟩
      have s7 : Same H6 (upd H6 t0 (HO.tup [V.int 0])) := same_new f0 _
      have x7 : (upd H6 t0 (HO.tup [V.int 0])) t0 = some (.tup [V.int 0]) := upd_same
      generalize upd H6 t0 (HO.tup [V.int 0]) = H7 at s7 x7
      refine ⟨n, t0, _, _, rfl, rfl, s7 _ _ (s26 _ _ hn), x7, lenLine (by show 3 ≤ 100000; decide), fun c H8 s8 x8 => ?_⟩
      refine ⟨.ref c, rfl, ⟨.inr (.tup x8), fun a y z e k => by cases e; rw [x8] at k; cases k⟩, fun b H9 s9 hb => ?_⟩
      have eb : b = false := by
        cases b with
        | false => rfl
        | true =>
          obtain ⟨_, _, _, _, e, k, _⟩ := hb.mp rfl
          cases e
          rw [x8] at k
          cases k
      subst eb
      exact ⟨_, _, rfl, rfl, q H9 (Same.trans s02 (Same.trans s26 (Same.trans s7 (Same.trans s8 s9))))⟩)
    obtain ⟨rs, k, r⟩ := id sq
    refine ⟨_, rfl, _, rfl, l, rs, rfl, ?_⟩
    rcases k with k | k
    · refine .inl ⟨SqL.of k, fun t ft => ⟨lenLine (by show 2 ≤ 100000; decide), fun n fn => go (.ref n) _ (Same.trans (same_new ft _) (same_new fn _)) ⟨n, t, rs, rfl, upd_same, (same_new fn _) _ _ upd_same, r.same (Same.trans (same_new ft _) (same_new fn _))⟩⟩⟩
    · exact .inr ⟨SqT.of k, lenLine (by show 2 ≤ 100000; decide), fun n fn => go (.ref n) _ (same_new fn _) ⟨n, l, rs, rfl, upd_same, (same_new fn _) _ _ k, r.same (same_new fn _)⟩⟩
end
section
variable {P : Program} {w : World} {K : PySem.W.Frag} {mg : Str → Option Value} {base : Heap} {f : Addr} {fd : FuncData}
theorem sc_bad : FnScope ["_law_wide", "_law_wickets_here"] ["_law_wide", "_law_wickets_here"] (defScope s_bad) := ⟨rfl, rfl, rfl, by decide +kernel, rfl, by decide +kernel, by decide +kernel⟩
theorem ok_bad (T : Bn mg) (F : Here K mg "_law_bad" s_bad f fd) (C_law_told : Callee P w K mg base "_law_told" 7 ["_law_wide", "_law_wickets_here"] spTold01) (Cis_net : Callee P w K mg base "is_net" 6 ["thing"] spIsNetT) : FnOk P w K mg base CX0 8 f fd ["_law_wide", "_law_wickets_here"] spBad := by
  refine F.fn.ok sc_bad (fun vs H Q E h => ?_) (fun cdv A outer s H vs Q E hr h => ?_)
  · obtain ⟨x, y, rfl, _⟩ := h
    rfl
  · obtain ⟨x, y, rfl, tx, ty, nm, q⟩ := h
    refine ⟨_, (pss_cons (ps_if (PW.pt (pw_or (pt_cmpR op_ne (pe_callC C_law_told (hr.mono (by first | decide | (first | lia | omega))) rfl (pa_cons (pv 0) (pa_cons (pv 1) pa_nil))) pe_str (nomark _)) (pw_or1 (pt_cmpR op_notB (pe_callC Cis_net (hr.mono (by first | decide | (first | lia | omega))) rfl (pa_cons (pe_tup (pa_cons (pv 0) (pa_cons (pv 1) pa_nil))) pa_nil)) pe_bl (nomark _)))))
    (pss_one (ps_ret pe_bl))
    pss_nil)
    (pss_one (ps_ret (pe_or (pe_not (pe_callB call_isinst rfl T.n_isinstance boot_isinstance (pa_cons (pv 1) (pa_cons (pe_bltn (v := V.ty "list") (u := .type "list") rfl T.n_list (by decide +kernel) rfl) pa_nil)))) (pe_one (pe_cmpR op_isB (pe_callC Cis_net (hr.mono (by first | decide | (first | lia | omega))) rfl (pa_cons (pe_tup (pa_cons (pv 0) (pa_cons (pe_callTy call_tuple_of rfl T.n_tuple boot_tupleT (pa_cons (pv 1) pa_nil)) pa_nil))) pa_nil)) pe_bl (nomark _))))))), ?_⟩
    refine ⟨_, rfl, _, rfl, x, y, rfl, tx, ty, .inl ⟨nm, fun H1 s1 => ?_⟩⟩
    refine ⟨rfl, _, rfl, iteFd (by simp) ?_⟩
    refine ⟨_, rfl, _, rfl, lenLine (by show 2 ≤ 100000; decide), fun n fn => ?_⟩
    have s2 : Same H1 (upd H1 n (HO.tup [x, y])) := same_new fn _
    have x2 : (upd H1 n (HO.tup [x, y])) n = some (.tup [x, y]) := upd_same
    generalize upd H1 n (HO.tup [x, y]) = H2 at s2 x2
    have s02 := Same.trans s1 s2
    refine ⟨.ref n, rfl, ⟨.inr (.tup x2), fun a u z e k => by cases e; rw [x2] at k; cases k; exact ⟨tx.same s02, ty.same s02⟩⟩, fun b H3 s3 hb => ?_⟩
    have eb : b = false := by
      cases b with
      | false => rfl
      | true =>
        obtain ⟨_, _, _, _, e, k, _, m⟩ := hb.mp rfl
        cases e
        rw [x2] at k
        cases k
        exact absurd ((makes_iff ty s02).mp m) nm
    subst eb
    refine ⟨_, _, rfl, rfl, _, rfl, iteFd (by decide) ?_⟩
    have s03 := Same.trans s02 s3
    rcases id ty.th with ⟨j, rfl⟩ | o
    · exact ⟨_, rfl, _, _, _, false, rfl, TyOf.int j, rfl, _, rfl, _, rfl, iteTd rfl (q H3 s03)⟩
    · cases o with
      | bl b => exact ⟨_, rfl, _, _, _, false, rfl, TyOf.bl b, rfl, _, rfl, _, rfl, iteTd rfl (q H3 s03)⟩
      | non => exact ⟨_, rfl, _, _, _, false, rfl, TyOf.non, rfl, _, rfl, _, rfl, iteTd rfl (q H3 s03)⟩
      | str z => exact ⟨_, rfl, _, _, _, false, rfl, TyOf.str z, rfl, _, rfl, _, rfl, iteTd rfl (q H3 s03)⟩
      | dct h => exact ⟨_, rfl, _, _, _, false, rfl, TyOf.dK (s03 _ _ h), rfl, _, rfl, _, rfl, iteTd rfl (q H3 s03)⟩
      | tup h => exact ⟨_, rfl, _, _, _, false, rfl, TyOf.tup (s03 _ _ h), rfl, _, rfl, _, rfl, iteTd rfl (q H3 s03)⟩
      | @lst l rs h =>
        refine ⟨_, rfl, _, _, _, true, rfl, TyOf.lst (s03 _ _ h), rfl, _, rfl, _, rfl, iteFd (by decide) ?_⟩
        refine ⟨_, rfl, _, rfl, l, rs, rfl, .inl ⟨SqL.of (s03 _ _ h), fun t ft => ?_⟩⟩
        have s4 : Same H3 (upd H3 t (HO.tup rs)) := same_new ft _
        have x4 : (upd H3 t (HO.tup rs)) t = some (.tup rs) := upd_same
        generalize upd H3 t (HO.tup rs) = H4 at s4 x4
        refine ⟨lenLine (by show 2 ≤ 100000; decide), fun m fm => ?_⟩
        have s5 : Same H4 (upd H4 m (HO.tup [x, V.ref t])) := same_new fm _
        have x5 : (upd H4 m (HO.tup [x, V.ref t])) m = some (.tup [x, V.ref t]) := upd_same
        generalize upd H4 m (HO.tup [x, V.ref t]) = H5 at s5 x5
        have s05 := Same.trans s03 (Same.trans s4 s5)
        obtain ⟨le, each⟩ := ty.each l rs rfl (.inl h)
        have xt := s5 _ _ x4
        have tl : ThL H5 (.ref t) := ⟨.inr (.tup xt), fun a us e k => by
          cases e
          have := Sq.inj (.inr xt) k
          subst this
          exact ⟨le, fun z hz => (each z hz).same s05⟩⟩
        refine ⟨.ref m, rfl, ⟨.inr (.tup x5), fun a u z e k => by cases e; rw [x5] at k; cases k; exact ⟨tx.same s05, tl⟩⟩, fun b H6 s6 hb => ?_⟩
        have eb : b = false := by
          cases b with
          | false => rfl
          | true =>
            obtain ⟨_, _, _, _, e, k, _, mk⟩ := hb.mp rfl
            cases e
            rw [x5] at k
            cases k
            obtain ⟨wide, l', us, e1, w1, w8, e2, k', n', all⟩ := mk
            cases e2
            have := Sq.inj (.inr xt) k'
            subst this
            exact absurd ⟨wide, l, rs, e1, w1, w8, rfl, .inl h, n', fun z hz => (all z hz).back (each z hz).th s05⟩ nm
        subst eb
        exact ⟨_, _, rfl, rfl, q H6 (Same.trans s05 s6)⟩
end
section
variable {P : Program} {w : World} {K : PySem.W.Frag} {mg : Str → Option Value} {base : Heap} {f : Addr} {fd : FuncData}
theorem sc_law : FnScope ["_law_script", "_law_k", "_law_pen_here", "_law_wide", "_law_wickets_here", "_law_handed", "_law_kept", "_law_at", "_law_spoilt", "_law_many", "_law_thing"] ["_law_script"] (defScope s_law) := ⟨rfl, rfl, rfl, by decide +kernel, rfl, by decide +kernel, by decide +kernel⟩
theorem ok_law (T : Bn mg) (F : Here K mg "law" s_law f fd) (C_law_take : Callee P w K mg base "_law_take" 1 ["_law_pen_here", "_law_size"] spTake) (C_law_pen : Callee P w K mg base "_law_pen" 1 ["_law_script", "_law_k"] (spPen K))
    (C_law_wickets : Callee P w K mg base "_law_wickets" 2 ["_law_pen_here", "_law_wide", "_law_many"] spWickets) (C_law_odd_wicket : Callee P w K mg base "_law_odd_wicket" 2 ["_law_pen_here", "_law_wide"] spOddW) (C_law_odd_wide : Callee P w K mg base "_law_odd_wide" 2 ["_law_pen_here"] spOddWide) (C_law_odd_list : Callee P w K mg base "_law_odd_list" 2 ["_law_pen_here"] spOddList)
    (C_law_good : Callee P w K mg base "_law_good" 8 ["_law_wide", "_law_wickets_here"] spGood) (C_law_bad : Callee P w K mg base "_law_bad" 8 ["_law_wide", "_law_wickets_here"] spBad) (Cnet_of1 : Callee P w K mg base "net_of" 6 ["wide", "wickets"] spNetN) (Cis_net : Callee P w K mg base "is_net" 6 ["thing"] spIsNetT) :
    FnOk P w K mg base CX0 9 f fd ["_law_script"] (spLaw K) := by
  have Cnet_of := Cnet_of1
  refine F.fn.ok sc_law (fun vs H Q E h => ?_) (fun cdv A outer s H vs Q E hr h => ?_)
  · obtain ⟨a, ns, rfl, _⟩ := h
    rfl
  · obtain ⟨a, ns, rfl, hS, h63, q⟩ := h
    refine ⟨_, (pss_cons (ps_for PassesOwn.never rfl  (pi_range1 rfl T.n_range (pa_cons pe_int pa_nil)) (pg_name (i := 1) sc_law.nd rfl (by first | exact Or.inl rfl | exact Or.inr rfl))
    (pss_cons (ps_set (i := 2) sc_law.nd rfl (by first | exact Or.inl rfl | exact Or.inr rfl) (pe_callC C_law_pen (hr.mono (by first | decide | (first | lia | omega))) rfl (pa_cons (pv 0) (pa_cons (pv 1) pa_nil))))
    (pss_cons (ps_set (i := 3) sc_law.nd rfl (by first | exact Or.inl rfl | exact Or.inr rfl) (pe_op op_add pe_int (pe_callC C_law_take (hr.mono (by first | decide | (first | lia | omega))) rfl (pa_cons (pv 2) (pa_cons pe_int pa_nil)))))
    (pss_cons (ps_set (i := 4) sc_law.nd rfl (by first | exact Or.inl rfl | exact Or.inr rfl) (pe_callC C_law_wickets (hr.mono (by first | decide | (first | lia | omega))) rfl (pa_cons (pv 2) (pa_cons (pv 3) (pa_cons (pe_callC C_law_take (hr.mono (by first | decide | (first | lia | omega))) rfl (pa_cons (pv 2) (pa_cons pe_int pa_nil))) pa_nil)))))
    (pss_cons (ps_set (i := 5) sc_law.nd rfl (by first | exact Or.inl rfl | exact Or.inr rfl) (pe_callTy call_list_of rfl T.n_list boot_listT (pa_cons (pv 4) pa_nil)))
    (pss_cons (ps_if (PW.pt (pw_or (pt_not (pt_val (pe_callC C_law_good (hr.mono (by first | decide | (first | lia | omega))) rfl (pa_cons (pv 3) (pa_cons (pv 5) pa_nil))))) (pw_or (pt_not (pt_val (pe_callC C_law_good (hr.mono (by first | decide | (first | lia | omega))) rfl (pa_cons (pv 3) (pa_cons (pe_callTy call_tuple_of rfl T.n_tuple boot_tupleT (pa_cons (pv 4) pa_nil)) pa_nil))))) (pw_or1 (pt_cmpR (op_neD hr.units) (pv 5) (pv 4) (nomark _))))))
    (pss_one (ps_ret pe_bl))
    pss_nil)
    (pss_cons (ps_set (i := 6) sc_law.nd rfl (by first | exact Or.inl rfl | exact Or.inr rfl) (pe_callC Cnet_of (hr.mono (by first | decide | (first | lia | omega))) rfl (pa_cons (pv 3) (pa_cons (pv 5) pa_nil))))
    (pss_cons (ps_expr (pe_bm PySem.F.plainAttrs_list PySem.F.slot_list_append PySem.F.type_list_append mt_append (pv 5) (pa_cons (pe_tup (pa_cons pe_int (pa_cons pe_int pa_nil))) pa_nil)))
    (pss_cons (ps_if (pt_cmpR (op_neD hr.units) (pv 6) (pe_tup (pa_cons (pv 3) (pa_cons (pe_callTy call_tuple_of rfl T.n_tuple boot_tupleT (pa_cons (pv 4) pa_nil)) pa_nil))) (nomark _))
    (pss_one (ps_ret pe_bl))
    pss_nil)
    (pss_cons (ps_set (i := 7) sc_law.nd rfl (by first | exact Or.inl rfl | exact Or.inr rfl) (pe_callC C_law_take (hr.mono (by first | decide | (first | lia | omega))) rfl (pa_cons (pv 2) (pa_cons (pe_op op_add (pe_callB call_len_seq rfl T.n_len PySem.boot_len (pa_cons (pv 4) pa_nil)) pe_int) pa_nil))))
    (pss_cons (ps_set (i := 8) sc_law.nd rfl (by first | exact Or.inl rfl | exact Or.inr rfl) (pe_op op_cat (pe_op op_cat (pe_slice sl_list (pe_slice sl_list (pv 4) po_none (po_some (pv 7))) po_none (po_some pe_int)) (pe_lst (pa_cons (pe_callC C_law_odd_wicket (hr.mono (by first | decide | (first | lia | omega))) rfl (pa_cons (pv 2) (pa_cons (pv 3) pa_nil))) pa_nil))) (pe_slice sl_list (pv 4) (po_some (pe_op op_add (pv 7) pe_int)) po_none)))
    (pss_cons (ps_if (PW.pt (pw_or (pt_not (pt_val (pe_callC C_law_bad (hr.mono (by first | decide | (first | lia | omega))) rfl (pa_cons (pv 3) (pa_cons (pv 8) pa_nil))))) (pw_or (pt_not (pt_val (pe_callC C_law_bad (hr.mono (by first | decide | (first | lia | omega))) rfl (pa_cons (pe_callC C_law_odd_wide (hr.mono (by first | decide | (first | lia | omega))) rfl (pa_cons (pv 2) pa_nil)) (pa_cons (pe_lst pa_nil) pa_nil))))) (pw_or1 (pt_not (pt_val (pe_callC C_law_bad (hr.mono (by first | decide | (first | lia | omega))) rfl (pa_cons (pv 3) (pa_cons (pe_callC C_law_odd_list (hr.mono (by first | decide | (first | lia | omega))) rfl (pa_cons (pv 2) pa_nil)) pa_nil)))))))))
    (pss_one (ps_ret pe_bl))
    pss_nil)
    (pss_cons (ps_set (i := 9) sc_law.nd rfl (by first | exact Or.inl rfl | exact Or.inr rfl) (pe_slice sl_list (pe_op op_cat (pe_op op_rep (pv 4) pe_int) (pe_lst (pa_cons (pe_tup (pa_cons pe_int (pa_cons pe_int pa_nil))) pa_nil))) po_none (po_some (pe_op op_add pe_int (pe_callC C_law_take (hr.mono (by first | decide | (first | lia | omega))) rfl (pa_cons (pv 2) (pa_cons pe_int pa_nil)))))))
    (pss_one (ps_if (PW.pt (pw_or (PW.pt (pw_and (pt_cmpR (op_neD hr.units) (pv 4) (pe_lst pa_nil) (nomark _)) (pw_and1 (pt_not (pt_val (pe_callC C_law_bad (hr.mono (by first | decide | (first | lia | omega))) rfl (pa_cons (pv 3) (pa_cons (pv 9) pa_nil)))))))) (pw_or1 (pt_not (pt_val (pe_callC C_law_good (hr.mono (by first | decide | (first | lia | omega))) rfl (pa_cons (pv 3) (pa_cons (pv 4) pa_nil))))))))
    (pss_one (ps_ret pe_bl))
    pss_nil)))))))))))))))
    (@pss_cons _ _ _ _ _ (@ps_for _ _ _ _ _ _ _ _ (by exact PassesOwn.never) (by rfl) (@pi_list _ _ _ _ (@pe_lstS _ _ _ _ (pas_cons pe_non (pas_cons pe_int (pas_cons pe_bl (pas_cons pe_str (pas_cons (pe_tup pa_nil) (pas_cons (pe_tup (pa_cons pe_int pa_nil)) (pas_consD pe_dict0S (pas_cons (pe_lst pa_nil) (pas_cons (pe_tup (pa_cons pe_int (pa_cons pe_non pa_nil))) (pas_cons (pe_tup (pa_cons (pe_tup (pa_cons pe_int (pa_cons (pe_tup pa_nil) pa_nil))) pa_nil)) (pas_cons (pe_tup (pa_cons pe_int (pa_cons (pe_tup pa_nil) (pa_cons (pe_tup pa_nil) pa_nil)))) (pas_cons (pe_lst (pa_cons pe_int (pa_cons (pe_tup pa_nil) pa_nil))) pas_nil)))))))))))))) (by exact (pg_name (i := 10) sc_law.nd rfl (by first | exact Or.inl rfl | exact Or.inr rfl))) (by exact (pss_one (ps_if (pt_cmpR op_notB (pe_callC Cis_net (hr.mono (by first | decide | (first | lia | omega))) rfl (pa_cons (pv 10) pa_nil)) pe_bl (nomark _))
    (pss_one (ps_ret pe_bl))
    pss_nil))) (by intro x; rfl)) (by exact (pss_one (ps_ret (pe_and (pe_callC C_law_bad (hr.mono (by first | decide | (first | lia | omega))) rfl (pa_cons pe_int (pa_cons (pe_lst (pa_cons (pe_tup (pa_cons pe_int (pa_cons pe_int pa_nil))) pa_nil)) pa_nil))) (pe_and (pe_callC C_law_bad (hr.mono (by first | decide | (first | lia | omega))) rfl (pa_cons pe_int (pa_cons (pe_lst (pa_cons (pe_tup (pa_cons pe_int (pa_cons pe_int pa_nil))) pa_nil)) pa_nil))) (pe_one (pe_callC C_law_good (hr.mono (by first | decide | (first | lia | omega))) rfl (pa_cons pe_int (pa_cons (pe_tup pa_nil) pa_nil))))))))))), ?_⟩
    refine ⟨4, rfl, by decide, by decide, ?_⟩
    refine for_range (n := (4 : Int).toNat) (fun i σ Hc => ∃ v1 v2 v3 v4 v5 v6 v7 v8 v9 v10, σ = [some (.ref a), v1, v2, v3, v4, v5, v6, v7, v8, v9, v10] ∧ Same H Hc) ⟨none, none, none, none, none, none, none, none, none, none, rfl, Same.refl H⟩ ?_ ?_
    · rintro i σ Hc hi ⟨v1, v2, v3, v4, v5, v6, v7, v8, v9, v10, rfl, sc⟩
      have hi4 : i < 4 := hi
      refine ⟨_, rfl, _, rfl, a, ns, 0 + (i : Int), rfl, sc.seq hS, h63, by (first | lia | omega), by (first | lia | omega), fun p pa pb pc fp => ?_⟩
      have k1 : Kp p Hc (upd Hc p (HO.lst [V.int pa, V.int pb, V.int pc])) := Kp.same (same_new fp _)
      have hp1 : (upd Hc p (HO.lst [V.int pa, V.int pb, V.int pc])) p = some (.lst [V.int pa, V.int pb, V.int pc]) := upd_same
      generalize upd Hc p (HO.lst [V.int pa, V.int pb, V.int pc]) = H1 at k1 hp1
      -- wide
      refine ⟨_, rfl, p, _, _, _, 8, rfl, hp1, by decide, by decide, fun u a2 b2 c2 u0 u8 => ?_⟩
      have k2 : Kp p Hc (upd H1 p (.lst [.int a2, .int b2, .int c2])) := Kp.trans k1 Kp.upd
      have hp2 : (upd H1 p (.lst [.int a2, .int b2, .int c2])) p = some (.lst [.int a2, .int b2, .int c2]) := upd_same
      generalize upd H1 p (HO.lst [V.int a2, V.int b2, V.int c2]) = H2 at k2 hp2
      refine ⟨_, _, rfl, rfl, ?_⟩
      have w1 : 1 ≤ 1 + u := by (first | lia | omega)
      have w8 : 1 + u ≤ 8 := by (first | lia | omega)
      dsimp only
      generalize 1 + u = wide at w1 w8 ⊢
      clear u0 u8
      -- wickets
      refine ⟨_, rfl, _, rfl, _, rfl, p, _, _, _, 41, rfl, hp2, by decide, by decide, fun m a3 b3 c3 m0 m41 => ?_⟩
      have k3 : Kp p Hc (upd H2 p (.lst [.int a3, .int b3, .int c3])) := Kp.trans k2 Kp.upd
      have hp3 : (upd H2 p (.lst [.int a3, .int b3, .int c3])) p = some (.lst [.int a3, .int b3, .int c3]) := upd_same
      generalize upd H2 p (HO.lst [V.int a3, V.int b3, V.int c3]) = H3 at k3 hp3
      refine ⟨p, wide, m, rfl, ⟨_, _, _, hp3⟩, w1, w8, m0, by (first | lia | omega), fun lw ws H4 flw k34 ⟨a4, b4, c4, hp4⟩ ⟨rs, xw, rrw⟩ ok len => ?_⟩
      have k04 : Kp p Hc H4 := Kp.trans k3 k34
      have nw : lw ≠ p := Ne.symm (ne_of_none hp3 flw)
      have lr := rrw.len
      have l40 : ws.length ≤ 40 := by (first | lia | omega)
      clear k1 k2 k3 k34 hp1 hp2 hp3 flw len m0 m41
      -- handed
      refine ⟨_, rfl, lw, rs, rfl, .inl (SqL.of xw), fun lh flh => ?_⟩
      have s5 : Same H4 (upd H4 lh (HO.lst rs)) := same_new flh _
      have x5 : (upd H4 lh (HO.lst rs)) lh = some (.lst rs) := upd_same
      generalize upd H4 lh (HO.lst rs) = H5 at s5 x5
      refine ⟨_, rfl, _, rfl, wide, lh, ws, rfl, ⟨rs, .inl x5, rrw.same s5⟩, w1, w8, ok, l40, fun H6 s6 => ?_⟩
      refine ⟨_, rfl, iteFd (by decide) ?_⟩
      have s46 := Same.trans s5 s6
      refine ⟨_, rfl, _, rfl, lw, rs, rfl, .inl ⟨SqL.of (s46 _ _ xw), fun t ft => ?_⟩⟩
      have s7 : Same H6 (upd H6 t (HO.tup rs)) := same_new ft _
      have x7 : (upd H6 t (HO.tup rs)) t = some (.tup rs) := upd_same
      generalize upd H6 t (HO.tup rs) = H7 at s7 x7
      have s47 := Same.trans s46 s7
      refine ⟨wide, t, ws, rfl, ⟨rs, .inr x7, rrw.same s47⟩, w1, w8, ok, l40, fun H8 s8 => ?_⟩
      refine ⟨_, rfl, iteFd (by decide) ?_⟩
      have s48 := Same.trans s47 s8
      have x8 := Same.trans s6 (Same.trans s7 s8) _ _ x5
      refine ⟨_, rfl, _, rfl, _, _, dat_ws x8 (rrw.same s48), dat_ws (s48 _ _ xw) (rrw.same s48), shaped_ws _, shaped_ws _, mix_ws _, _, rfl, iteFd (by simp [PyProof.Rows.same_refl]) ?_⟩
      -- kept
      refine ⟨_, rfl, _, rfl, wide, lh, ws, rfl, ⟨rs, .inl x8, rrw.same s48⟩, w1, w8, ok, l40, fun v H9 s9 net9 => ?_⟩
      have s49 := Same.trans s48 s9
      have x9 := s9 _ _ x8
      have nhw : lw ≠ lh := ne_of_none xw flh
      have nhp : lh ≠ p := Ne.symm (ne_of_none hp4 flh)
      clear s46 s47 s48 s5 s6 s7 s8 s9 x5 x7 x8 ft
      refine ⟨_, rfl, .inl ⟨rfl, _, SqL.of x9⟩, lenLine (by show 2 ≤ 100000; decide), fun t0 f0 => ?_⟩
      have sa : Same H9 (upd H9 t0 (HO.tup [V.int 0, V.int 1])) := same_new f0 _
      generalize upd H9 t0 (HO.tup [V.int 0, V.int 1]) = Ha at sa
      have s4a := Same.trans s49 sa
      refine ⟨lh, rs, _, rfl, rfl, sa _ _ x9, lenLt (by (first | lia | omega)), ?_⟩
      have kb : Kp p H4 (upd Ha lh (HO.lst (rs ++ [V.ref t0]))) := Kp.put flh (Kp.same s4a)
      have netb : Net (upd Ha lh (HO.lst (rs ++ [V.ref t0]))) v wide ws := net9.kt (KT.lst (sa _ _ x9) (KT.same sa (KT.refl _)))
      have hpb : (upd Ha lh (HO.lst (rs ++ [V.ref t0]))) p = some (.lst [.int a4, .int b4, .int c4]) := (upd_ne (Ne.symm nhp)).trans (s4a _ _ hp4)
      generalize upd Ha lh (HO.lst (rs ++ [V.ref t0])) = Hb at kb netb hpb
      clear s4a s49 sa x9 net9 f0
      -- kept is as it was
      have xwb := kb _ _ xw nw
      have rrb := rrw.kp kb hp4
      refine ⟨_, rfl, _, rfl, _, rfl, lw, rs, rfl, .inl ⟨SqL.of xwb, fun t ft => ?_⟩⟩
      have sb : Same Hb (upd Hb t (HO.tup rs)) := same_new ft _
      have xb : (upd Hb t (HO.tup rs)) t = some (.tup rs) := upd_same
      generalize upd Hb t (HO.tup rs) = Hd at sb xb
      refine ⟨lenLine (by show 2 ≤ 100000; decide), fun n fn => ?_⟩
      have sd : Same Hd (upd Hd n (HO.tup [V.int wide, V.ref t])) := same_new fn _
      have netd : Net (upd Hd n (HO.tup [V.int wide, V.ref t])) (.ref n) wide ws := ⟨n, t, rs, rfl, upd_same, sd _ _ xb, rrb.same (Same.trans sb sd)⟩
      generalize upd Hd n (HO.tup [V.int wide, V.ref t]) = He at sd netd
      have sbe := Same.trans sb sd
      refine ⟨_, _, (netb.kt (KT.same sbe (KT.refl _))).dat, netd.dat, shaped_net _ _, shaped_net _ _, mix_net _ _, _, rfl, iteFd (by simp [PyProof.Rows.same_refl]) ?_⟩
      have ke : Kp p H4 He := Kp.trans kb (Kp.same sbe)
      have hpe := sbe _ _ hpb
      clear kb sbe sd sb xb ft fn netb netd hpb xwb rrb flh nhw nhp
      have isw : ∀ z ∈ rs, IsW wide H4 z := refs_isW rrw ok
      -- at
      refine ⟨_, rfl, _, rfl, lw, rs, rfl, .inl (SqL.of (ke _ _ xw nw)), ?_⟩
      refine ⟨_, _, rfl, rfl, ?_⟩
      refine ⟨p, _, _, _, _, rfl, hpe, by (first | lia | omega), by (first | lia | omega), fun at_ ag bg cg at0 at1 => ?_⟩
      have kg : Kp p H4 (upd He p (.lst [.int ag, .int bg, .int cg])) := Kp.trans ke Kp.upd
      have hpg : (upd He p (.lst [.int ag, .int bg, .int cg])) p = some (.lst [.int ag, .int bg, .int cg]) := upd_same
      generalize upd He p (HO.lst [V.int ag, V.int bg, V.int cg]) = Hg at kg hpg
      clear ke hpe
      -- spoilt
      refine ⟨_, rfl, _, rfl, _, rfl, lw, rs, rfl, SqL.of (kg _ _ xw nw), fun z1 f1 => ?_⟩
      have m1 : ∀ z ∈ cutV rs none (some at_), z ∈ rs := fun z hz => cut_memT hz
      have l1 : (cutV rs none (some at_)).length ≤ rs.length := cutV_length _ _ _
      generalize cutV rs none (some at_) = r1 at m1 l1
      obtain ⟨k1, hp1, x1, n1⟩ := fresh_step hpg f1 (.lst r1)
      generalize upd Hg z1 (HO.lst r1) = G1 at k1 hp1 x1
      refine ⟨_, rfl, z1, _, rfl, SqL.of x1, fun z2 f2 => ?_⟩
      have m2 : ∀ z ∈ cutV r1 none (some 39), z ∈ rs := fun z hz => m1 z (cut_memT hz)
      have l2 : (cutV r1 none (some 39)).length ≤ r1.length := cutV_length _ _ _
      generalize cutV r1 none (some 39) = r2 at m2 l2
      obtain ⟨k2, hp2, x2, n2⟩ := fresh_step hp1 f2 (.lst r2)
      generalize upd G1 z2 (HO.lst r2) = G2 at k2 hp2 x2
      refine ⟨_, rfl, _, rfl, p, wide, rfl, ⟨_, _, _, hp2⟩, w1, w8, fun z G3 k3 ⟨a3, b3, c3, hp3⟩ tz nz => ?_⟩
      have x3 := k3 _ _ x2 n2
      refine ⟨lenLine (by show 1 ≤ 100000; decide), fun z3 f3 => ?_⟩
      have s4 : Same G3 (upd G3 z3 (HO.lst [z])) := same_new f3 _
      have x4 : (upd G3 z3 (HO.lst [z])) z3 = some (.lst [z]) := upd_same
      generalize upd G3 z3 (HO.lst [z]) = G4 at s4 x4
      refine ⟨z2, z3, _, _, rfl, rfl, s4 _ _ x3, x4, lenLine (by show r2.length + 1 ≤ 100000; (first | lia | omega)), fun z4 f4 => ?_⟩
      have s5 : Same G4 (upd G4 z4 (HO.lst (r2 ++ [z]))) := same_new f4 _
      have x5 : (upd G4 z4 (HO.lst (r2 ++ [z]))) z4 = some (.lst (r2 ++ [z])) := upd_same
      generalize upd G4 z4 (HO.lst (r2 ++ [z])) = G5 at s5 x5
      have k4 : Kp p H4 G5 := Kp.trans kg (Kp.trans k1 (Kp.trans k2 (Kp.trans k3 (Kp.same (Same.trans s4 s5)))))
      refine ⟨_, rfl, _, rfl, _, _, rfl, rfl, _, rfl, lw, rs, rfl, SqL.of (k4 _ _ xw nw), fun z5 f5 => ?_⟩
      have m3 : ∀ z ∈ cutV rs (some (at_ + 1)) none, z ∈ rs := fun z hz => cut_memT hz
      have l3 : (cutV rs (some (at_ + 1)) none).length ≤ rs.length := cutV_length _ _ _
      generalize cutV rs (some (at_ + 1)) none = r3 at m3 l3
      have s6 : Same G5 (upd G5 z5 (HO.lst r3)) := same_new f5 _
      have x6 : (upd G5 z5 (HO.lst r3)) z5 = some (.lst r3) := upd_same
      generalize upd G5 z5 (HO.lst r3) = G6 at s6 x6
      refine ⟨z4, z5, _, _, rfl, rfl, s6 _ _ x5, x6, lenLine (by simp only [List.length_append, List.length_cons, List.length_nil]; (first | lia | omega)), fun z6 f6 => ?_⟩
      have s7 : Same G6 (upd G6 z6 (HO.lst (r2 ++ [z] ++ r3))) := same_new f6 _
      have x7 : (upd G6 z6 (HO.lst (r2 ++ [z] ++ r3))) z6 = some (.lst (r2 ++ [z] ++ r3)) := upd_same
      generalize upd G6 z6 (HO.lst (r2 ++ [z] ++ r3)) = G7 at s7 x7
      have s37 : Same G3 G7 := Same.trans s4 (Same.trans s5 (Same.trans s6 s7))
      have k7 : Kp p H4 G7 := Kp.trans k4 (Kp.same (Same.trans s6 s7))
      have hp7 := s37 _ _ hp3
      have tz7 := tz.same s37
      have nz7 : ¬ IsW wide G7 z := fun h => nz (h.back tz.th s37)
      have isw7 : ∀ z ∈ rs, IsW wide G7 z := fun y hy => (isw y hy).kt (KT.kp k7 hp4 (KT.refl _))
      clear k1 k2 k3 k4 kg s4 s5 s6 s7 s37 x1 x2 x3 x4 x5 x6 f1 f2 f3 f4 f5 f6 hp1 hp2 hp3 hpg tz nz
      refine ⟨_, rfl, _, rfl, .int wide, .ref z6, rfl, .inl ⟨_, rfl⟩, list_thl x7 (by simp only [List.length_append, List.length_cons, List.length_nil]; (first | lia | omega)) (fun y hy => ?_), list_not x7 (.inr ⟨z, by simp, nz7⟩), fun G8 s8 => ?_⟩
      · simp only [List.mem_append, List.mem_cons, List.not_mem_nil, or_false] at hy
        rcases hy with (hy | hy) | hy
        · exact (isw7 y (m2 y hy)).thw
        · subst hy
          exact tz7
        · exact (isw7 y (m3 y hy)).thw
      refine ⟨_, rfl, iteFd (by decide) ?_⟩
      have k8 : Kp p H4 G8 := Kp.trans k7 (Kp.same s8)
      have hp8 := s8 _ _ hp7
      clear k7 s8 hp7 x7 tz7 nz7 isw7 m1 m2 m3 l1 l2 l3
      -- odd wide
      refine ⟨_, rfl, p, rfl, ⟨_, _, _, hp8⟩, fun x G9 k9 ⟨a9, b9, c9, hp9⟩ bx nx => ?_⟩
      refine ⟨lenLine (by show 0 ≤ 100000; decide), fun e fe => ?_⟩
      have s10 : Same G9 (upd G9 e (HO.lst [])) := same_new fe _
      have x10 : (upd G9 e (HO.lst [])) e = some (.lst []) := upd_same
      generalize upd G9 e (HO.lst []) = G10 at s10 x10
      refine ⟨x, .ref e, rfl, bx.th.same s10, list_thl x10 (Nat.zero_le _) (fun y hy => nomatch hy), bx.not, fun G11 s11 => ?_⟩
      refine ⟨_, rfl, iteFd (by decide) ?_⟩
      have s911 := Same.trans s10 s11
      have k11 : Kp p H4 G11 := Kp.trans k8 (Kp.trans k9 (Kp.same s911))
      have hp11 := s911 _ _ hp9
      clear k8 k9 s911 s10 s11 x10 fe hp8 hp9 bx nx
      -- odd list
      refine ⟨_, rfl, _, rfl, p, rfl, ⟨_, _, _, hp11⟩, fun y G12 k12 ⟨a12, b12, c12, hp12⟩ ty ny => ?_⟩
      refine ⟨.int wide, y, rfl, .inl ⟨_, rfl⟩, ⟨ty, fun a rs e k => absurd k (ny a rs e)⟩, fun ⟨_, l, us, _, _, _, e, k, _⟩ => ny l us e k, fun G13 s13 => ?_⟩
      refine ⟨_, rfl, iteFd (by decide) ?_⟩
      have k13 : Kp p H4 G13 := Kp.trans k11 (Kp.trans k12 (Kp.same s13))
      have hp13 := s13 _ _ hp12
      clear k11 k12 s13 hp11 hp12 ty ny
      -- many
      refine ⟨_, rfl, lw, 41, rs, rfl, rfl, k13 _ _ xw nw, by decide, by decide, lenLine (by show rs.length * 41 ≤ 100000; (first | lia | omega)), fun q1 fq1 => ?_⟩
      have mq : ∀ z ∈ (List.replicate (41 : Int).toNat rs).flatten, z ∈ rs := fun z hz => by
        obtain ⟨l, hl, hz⟩ := List.mem_flatten.mp hz
        rw [List.eq_of_mem_replicate hl] at hz
        exact hz
      have lq : (List.replicate (41 : Int).toNat rs).flatten.length = 41 * rs.length := len_rep _ _
      generalize (List.replicate (41 : Int).toNat rs).flatten = rq at mq lq ⊢
      have s14 : Same G13 (upd G13 q1 (HO.lst rq)) := same_new fq1 _
      have x14 : (upd G13 q1 (HO.lst rq)) q1 = some (.lst rq) := upd_same
      generalize upd G13 q1 (HO.lst rq) = G14 at s14 x14
      refine ⟨lenLine (by show 2 ≤ 100000; decide), fun t ft => ?_⟩
      have s15 : Same G14 (upd G14 t (HO.tup [V.int 0, V.int 1])) := same_new ft _
      have x15 : (upd G14 t (HO.tup [V.int 0, V.int 1])) t = some (.tup [V.int 0, V.int 1]) := upd_same
      generalize upd G14 t (HO.tup [V.int 0, V.int 1]) = G15 at s15 x15
      refine ⟨lenLine (by show 1 ≤ 100000; decide), fun q2 fq2 => ?_⟩
      have s16 : Same G15 (upd G15 q2 (HO.lst [V.ref t])) := same_new fq2 _
      have x16 : (upd G15 q2 (HO.lst [V.ref t])) q2 = some (.lst [V.ref t]) := upd_same
      generalize upd G15 q2 (HO.lst [V.ref t]) = G16 at s16 x16
      refine ⟨q1, q2, _, _, rfl, rfl, s16 _ _ (s15 _ _ x14), x16, lenLine (by show rq.length + 1 ≤ 100000; (first | lia | omega)), fun q3 fq3 => ?_⟩
      have s17 : Same G16 (upd G16 q3 (HO.lst (rq ++ [V.ref t]))) := same_new fq3 _
      have x17 : (upd G16 q3 (HO.lst (rq ++ [V.ref t]))) q3 = some (.lst (rq ++ [V.ref t])) := upd_same
      have n17 : q3 ≠ p := Ne.symm (ne_of_none ((Same.trans s14 (Same.trans s15 s16)) _ _ hp13) fq3)
      generalize upd G16 q3 (HO.lst (rq ++ [V.ref t])) = G17 at s17 x17
      have s1317 := Same.trans s14 (Same.trans s15 (Same.trans s16 s17))
      have hp17 := s1317 _ _ hp13
      have xt17 := s17 _ _ (s16 _ _ x15)
      have k17 : Kp p H4 G17 := Kp.trans k13 (Kp.same s1317)
      have lb : (rq ++ [V.ref t]).length = 41 * rs.length + 1 := by rw [List.length_append, lq]; rfl
      have mb : ∀ z ∈ rq ++ [V.ref t], z ∈ rs ∨ z = .ref t := fun z hz => by
        rcases List.mem_append.mp hz with h | h
        · exact .inl (mq z h)
        · exact .inr (List.mem_singleton.mp h)
      generalize rq ++ [V.ref t] = rb at x17 lb mb ⊢
      clear s14 s15 s16 s17 s1317 x14 x15 x16 k13 hp13 fq1 fq2 fq3 ft mq lq
      refine ⟨_, rfl, p, _, _, _, 9, rfl, hp17, by decide, by decide, fun u a18 b18 c18 u0 u9 => ?_⟩
      have k1718 : Kp p G17 (upd G17 p (.lst [.int a18, .int b18, .int c18])) := Kp.upd
      have hp18 : (upd G17 p (.lst [.int a18, .int b18, .int c18])) p = some (.lst [.int a18, .int b18, .int c18]) := upd_same
      generalize upd G17 p (HO.lst [V.int a18, V.int b18, V.int c18]) = G18 at k1718 hp18
      have k18 : Kp p H4 G18 := Kp.trans k17 k1718
      have xt18 := KT.kp k1718 hp17 (KT.refl _) _ _ xt17
      refine ⟨_, _, rfl, rfl, ?_⟩
      refine ⟨_, rfl, q3, _, rfl, SqL.of (k1718 _ _ x17 n17), fun q4 fq4 => ?_⟩
      have lc : rs ≠ [] → 40 < (cutV rb none (some (41 + u))).length := fun h => many_len u0 (by
        have : 0 < rs.length := List.length_pos_iff.mpr h
        (first | lia | omega))
      have lc2 : (cutV rb none (some (41 + u))).length ≤ rb.length := cutV_length _ _ _
      have mc : ∀ z ∈ cutV rb none (some (41 + u)), z ∈ rs ∨ z = .ref t := fun z hz => mb z (cut_memT hz)
      dsimp only
      generalize cutV rb none (some (41 + u)) = rc at lc lc2 mc ⊢
      have s19 : Same G18 (upd G18 q4 (HO.lst rc)) := same_new fq4 _
      have x19 : (upd G18 q4 (HO.lst rc)) q4 = some (.lst rc) := upd_same
      generalize upd G18 q4 (HO.lst rc) = G19 at s19 x19
      have k19 : Kp p H4 G19 := Kp.trans k18 (Kp.same s19)
      have xt19 := s19 _ _ xt18
      clear s19 k18 k17 k1718 xt18 xt17 hp17 hp18 x17 n17 fq4 mb
      refine ⟨_, rfl, lenLine (by show 0 ≤ 100000; decide), fun e fe => ?_⟩
      have s20 : Same G19 (upd G19 e (HO.lst [])) := same_new fe _
      have x20 : (upd G19 e (HO.lst [])) e = some (.lst []) := upd_same
      generalize upd G19 e (HO.lst []) = G20 at s20 x20
      have k20 : Kp p H4 G20 := Kp.trans k19 (Kp.same s20)
      refine ⟨_, _, dat_ws (k20 _ _ xw nw) (rrw.kp k20 hp4), .lst x20 .nil, shaped_ws _, rfl, mix_nil _, ?_⟩
      rw [same_nil]
      by_cases hn : ws = []
      · refine ⟨_, rfl, iteFd (by simp [hn]) ?_⟩
        refine iteFd (by decide) ?_
        refine ⟨_, rfl, _, rfl, wide, lw, ws, rfl, ⟨rs, .inl (k20 _ _ xw nw), rrw.kp k20 hp4⟩, w1, w8, ok, l40, fun Hz sz => ?_⟩
        refine ⟨_, rfl, iteFd (by decide) ?_⟩
        exact ⟨_, _, _, _, _, _, _, _, _, _, rfl, Kp.sameOf (Kp.trans k04 (Kp.trans k20 (Kp.same sz))) sc (sc.free fp)⟩
      · refine ⟨_, rfl, iteTd (by simp [hn]) ?_⟩
        have hr0 : rs ≠ [] := fun z => hn (List.length_eq_zero_iff.mp (by rw [← lr, z]; rfl))
        have xt20 := s20 _ _ xt19
        have x19' := s20 _ _ x19
        have isw20 : ∀ z ∈ rs, IsW wide G20 z := fun y hy => (isw y hy).kt (KT.kp k20 hp4 (KT.refl _))
        refine ⟨_, rfl, _, rfl, .int wide, .ref q4, rfl, .inl ⟨_, rfl⟩, list_thl x19' (by (first | lia | omega)) (fun y hy => ?_), list_not x19' (.inl (lc hr0)), fun G21 s21 => ?_⟩
        · rcases mc y hy with h | h
          · exact (isw20 y h).thw
          · subst h
            exact pair_thw xt20
        refine ⟨_, rfl, iteFd (by decide) ?_⟩
        have k21 : Kp p H4 G21 := Kp.trans k20 (Kp.same s21)
        refine ⟨_, rfl, _, rfl, wide, lw, ws, rfl, ⟨rs, .inl (k21 _ _ xw nw), rrw.kp k21 hp4⟩, w1, w8, ok, l40, fun Hz sz => ?_⟩
        refine ⟨_, rfl, iteFd (by decide) ?_⟩
        exact ⟨_, _, _, _, _, _, _, _, _, _, rfl, Kp.sameOf (Kp.trans k04 (Kp.trans k21 (Kp.same sz))) sc (sc.free fp)⟩
    · rintro σ Hc ⟨v1, v2, v3, v4, v5, v6, v7, v8, v9, v10, rfl, sc⟩
      -- the dozen
      refine ⟨lenLine (by show 0 ≤ 100000; decide), fun t1 f => ?_⟩
      have s : Same Hc (upd Hc t1 (HO.tup [])) := same_new f _
      have x_t1 : (upd Hc t1 (HO.tup [])) t1 = some (HO.tup []) := upd_same
      generalize upd Hc t1 (HO.tup []) = D1 at s x_t1
      have sD := s
      clear s f
      refine ⟨lenLine (by show 1 ≤ 100000; decide), fun t2 f => ?_⟩
      have s : Same D1 (upd D1 t2 (HO.tup [V.int 4])) := same_new f _
      have x_t2 : (upd D1 t2 (HO.tup [V.int 4])) t2 = some (HO.tup [V.int 4]) := upd_same
      replace x_t1 := s _ _ x_t1
      generalize upd D1 t2 (HO.tup [V.int 4]) = D2 at s x_t1 x_t2
      replace sD := Same.trans sD s
      clear s f
      intro d3 f
      have s : Same D2 (upd D2 d3 (HO.dK [])) := same_new f _
      have x_d3 : (upd D2 d3 (HO.dK [])) d3 = some (HO.dK []) := upd_same
      replace x_t1 := s _ _ x_t1
      replace x_t2 := s _ _ x_t2
      generalize upd D2 d3 (HO.dK []) = D3 at s x_t1 x_t2 x_d3
      replace sD := Same.trans sD s
      clear s f
      refine ⟨lenLine (by show 0 ≤ 100000; decide), fun l4 f => ?_⟩
      have s : Same D3 (upd D3 l4 (HO.lst [])) := same_new f _
      have x_l4 : (upd D3 l4 (HO.lst [])) l4 = some (HO.lst []) := upd_same
      replace x_t1 := s _ _ x_t1
      replace x_t2 := s _ _ x_t2
      replace x_d3 := s _ _ x_d3
      generalize upd D3 l4 (HO.lst []) = D4 at s x_t1 x_t2 x_d3 x_l4
      replace sD := Same.trans sD s
      clear s f
      refine ⟨lenLine (by show 2 ≤ 100000; decide), fun t5 f => ?_⟩
      have s : Same D4 (upd D4 t5 (HO.tup [V.int 4, V.non])) := same_new f _
      have x_t5 : (upd D4 t5 (HO.tup [V.int 4, V.non])) t5 = some (HO.tup [V.int 4, V.non]) := upd_same
      replace x_t1 := s _ _ x_t1
      replace x_t2 := s _ _ x_t2
      replace x_d3 := s _ _ x_d3
      replace x_l4 := s _ _ x_l4
      generalize upd D4 t5 (HO.tup [V.int 4, V.non]) = D5 at s x_t1 x_t2 x_d3 x_l4 x_t5
      replace sD := Same.trans sD s
      clear s f
      refine ⟨lenLine (by show 0 ≤ 100000; decide), fun t6 f => ?_⟩
      have s : Same D5 (upd D5 t6 (HO.tup [])) := same_new f _
      have x_t6 : (upd D5 t6 (HO.tup [])) t6 = some (HO.tup []) := upd_same
      replace x_t1 := s _ _ x_t1
      replace x_t2 := s _ _ x_t2
      replace x_d3 := s _ _ x_d3
      replace x_l4 := s _ _ x_l4
      replace x_t5 := s _ _ x_t5
      generalize upd D5 t6 (HO.tup []) = D6 at s x_t1 x_t2 x_d3 x_l4 x_t5 x_t6
      replace sD := Same.trans sD s
      clear s f
      refine ⟨lenLine (by show 2 ≤ 100000; decide), fun t7 f => ?_⟩
      have s : Same D6 (upd D6 t7 (HO.tup [V.int 4, V.ref t6])) := same_new f _
      have x_t7 : (upd D6 t7 (HO.tup [V.int 4, V.ref t6])) t7 = some (HO.tup [V.int 4, V.ref t6]) := upd_same
      replace x_t1 := s _ _ x_t1
      replace x_t2 := s _ _ x_t2
      replace x_d3 := s _ _ x_d3
      replace x_l4 := s _ _ x_l4
      replace x_t5 := s _ _ x_t5
      generalize upd D6 t7 (HO.tup [V.int 4, V.ref t6]) = D7 at s x_t1 x_t2 x_d3 x_l4 x_t5 x_t7
      replace sD := Same.trans sD s
      clear s f
      refine ⟨lenLine (by show 1 ≤ 100000; decide), fun t8 f => ?_⟩
      have s : Same D7 (upd D7 t8 (HO.tup [V.ref t7])) := same_new f _
      have x_t8 : (upd D7 t8 (HO.tup [V.ref t7])) t8 = some (HO.tup [V.ref t7]) := upd_same
      replace x_t1 := s _ _ x_t1
      replace x_t2 := s _ _ x_t2
      replace x_d3 := s _ _ x_d3
      replace x_l4 := s _ _ x_l4
      replace x_t5 := s _ _ x_t5
      generalize upd D7 t8 (HO.tup [V.ref t7]) = D8 at s x_t1 x_t2 x_d3 x_l4 x_t5 x_t8
      replace sD := Same.trans sD s
      clear s f
      refine ⟨lenLine (by show 0 ≤ 100000; decide), fun t9 f => ?_⟩
      have s : Same D8 (upd D8 t9 (HO.tup [])) := same_new f _
      have x_t9 : (upd D8 t9 (HO.tup [])) t9 = some (HO.tup []) := upd_same
      replace x_t1 := s _ _ x_t1
      replace x_t2 := s _ _ x_t2
      replace x_d3 := s _ _ x_d3
      replace x_l4 := s _ _ x_l4
      replace x_t5 := s _ _ x_t5
      replace x_t8 := s _ _ x_t8
      generalize upd D8 t9 (HO.tup []) = D9 at s x_t1 x_t2 x_d3 x_l4 x_t5 x_t8 x_t9
      replace sD := Same.trans sD s
      clear s f
      refine ⟨lenLine (by show 0 ≤ 100000; decide), fun ta f => ?_⟩
      have s : Same D9 (upd D9 ta (HO.tup [])) := same_new f _
      have x_ta : (upd D9 ta (HO.tup [])) ta = some (HO.tup []) := upd_same
      replace x_t1 := s _ _ x_t1
      replace x_t2 := s _ _ x_t2
      replace x_d3 := s _ _ x_d3
      replace x_l4 := s _ _ x_l4
      replace x_t5 := s _ _ x_t5
      replace x_t8 := s _ _ x_t8
      generalize upd D9 ta (HO.tup []) = D10 at s x_t1 x_t2 x_d3 x_l4 x_t5 x_t8 x_ta
      replace sD := Same.trans sD s
      clear s f
      refine ⟨lenLine (by show 3 ≤ 100000; decide), fun tb f => ?_⟩
      have s : Same D10 (upd D10 tb (HO.tup [V.int 4, V.ref t9, V.ref ta])) := same_new f _
      have x_tb : (upd D10 tb (HO.tup [V.int 4, V.ref t9, V.ref ta])) tb = some (HO.tup [V.int 4, V.ref t9, V.ref ta]) := upd_same
      replace x_t1 := s _ _ x_t1
      replace x_t2 := s _ _ x_t2
      replace x_d3 := s _ _ x_d3
      replace x_l4 := s _ _ x_l4
      replace x_t5 := s _ _ x_t5
      replace x_t8 := s _ _ x_t8
      generalize upd D10 tb (HO.tup [V.int 4, V.ref t9, V.ref ta]) = D11 at s x_t1 x_t2 x_d3 x_l4 x_t5 x_t8 x_tb
      replace sD := Same.trans sD s
      clear s f
      refine ⟨lenLine (by show 0 ≤ 100000; decide), fun tc f => ?_⟩
      have s : Same D11 (upd D11 tc (HO.tup [])) := same_new f _
      have x_tc : (upd D11 tc (HO.tup [])) tc = some (HO.tup []) := upd_same
      replace x_t1 := s _ _ x_t1
      replace x_t2 := s _ _ x_t2
      replace x_d3 := s _ _ x_d3
      replace x_l4 := s _ _ x_l4
      replace x_t5 := s _ _ x_t5
      replace x_t8 := s _ _ x_t8
      replace x_tb := s _ _ x_tb
      generalize upd D11 tc (HO.tup []) = D12 at s x_t1 x_t2 x_d3 x_l4 x_t5 x_t8 x_tb x_tc
      replace sD := Same.trans sD s
      clear s f
      refine ⟨lenLine (by show 2 ≤ 100000; decide), fun ld f => ?_⟩
      have s : Same D12 (upd D12 ld (HO.lst [V.int 4, V.ref tc])) := same_new f _
      have x_ld : (upd D12 ld (HO.lst [V.int 4, V.ref tc])) ld = some (HO.lst [V.int 4, V.ref tc]) := upd_same
      replace x_t1 := s _ _ x_t1
      replace x_t2 := s _ _ x_t2
      replace x_d3 := s _ _ x_d3
      replace x_l4 := s _ _ x_l4
      replace x_t5 := s _ _ x_t5
      replace x_t8 := s _ _ x_t8
      replace x_tb := s _ _ x_tb
      generalize upd D12 ld (HO.lst [V.int 4, V.ref tc]) = D13 at s x_t1 x_t2 x_d3 x_l4 x_t5 x_t8 x_tb x_ld
      replace sD := Same.trans sD s
      clear s f
      refine ⟨lenLine (by show 12 ≤ 100000; decide), fun le f => ?_⟩
      have s : Same D13 (upd D13 le (HO.lst [V.non, V.int 7, V.bl true, V.str "4:", V.ref t1, V.ref t2, V.ref d3, V.ref l4, V.ref t5, V.ref t8, V.ref tb, V.ref ld])) := same_new f _
      have x_le : (upd D13 le (HO.lst [V.non, V.int 7, V.bl true, V.str "4:", V.ref t1, V.ref t2, V.ref d3, V.ref l4, V.ref t5, V.ref t8, V.ref tb, V.ref ld])) le = some (HO.lst [V.non, V.int 7, V.bl true, V.str "4:", V.ref t1, V.ref t2, V.ref d3, V.ref l4, V.ref t5, V.ref t8, V.ref tb, V.ref ld]) := upd_same
      replace x_t1 := s _ _ x_t1
      replace x_t2 := s _ _ x_t2
      replace x_d3 := s _ _ x_d3
      replace x_l4 := s _ _ x_l4
      replace x_t5 := s _ _ x_t5
      replace x_t8 := s _ _ x_t8
      replace x_tb := s _ _ x_tb
      replace x_ld := s _ _ x_ld
      generalize upd D13 le (HO.lst [V.non, V.int 7, V.bl true, V.str "4:", V.ref t1, V.ref t2, V.ref d3, V.ref l4, V.ref t5, V.ref t8, V.ref tb, V.ref ld]) = D14 at s x_t1 x_t2 x_d3 x_l4 x_t5 x_t8 x_tb x_ld x_le
      replace sD := Same.trans sD s
      clear s f
      have all : ∀ Hj, Same D14 Hj → ∀ x ∈ [V.non, V.int 7, V.bl true, V.str "4:", V.ref t1, V.ref t2, V.ref d3, V.ref l4, V.ref t5, V.ref t8, V.ref tb, V.ref ld], ThN Hj x ∧ ¬ IsN Hj x := fun Hj sj x hx => by
        simp only [List.mem_cons, List.not_mem_nil, or_false] at hx
        rcases hx with rfl | rfl | rfl | rfl | rfl | rfl | rfl | rfl | rfl | rfl | rfl | rfl
        · exact flat_thn (.inr .non) (fun _ _ e => nomatch e)
        · exact flat_thn (.inl ⟨_, rfl⟩) (fun _ _ e => nomatch e)
        · exact flat_thn (.inr (.bl _)) (fun _ _ e => nomatch e)
        · exact flat_thn (.inr (.str _)) (fun _ _ e => nomatch e)
        · exact ⟨tup_thn (sj _ _ x_t1) (fun y z e => nomatch e), not_isN (sj _ _ x_t1) (fun y l us e => nomatch e)⟩
        · exact ⟨tup_thn (sj _ _ x_t2) (fun y z e => nomatch e), not_isN (sj _ _ x_t2) (fun y l us e => nomatch e)⟩
        · exact flat_thn (.inr (.dct (sj _ _ x_d3))) (fun a xs e k => by cases e; rw [sj _ _ x_d3] at k; cases k)
        · exact flat_thn (.inr (.lst (sj _ _ x_l4))) (fun a xs e k => by cases e; rw [sj _ _ x_l4] at k; cases k)
        · exact ⟨tup_thn (sj _ _ x_t5) (fun y z e => by cases e; exact ⟨.inl ⟨_, rfl⟩, ⟨.inr .non, fun _ _ e => nomatch e⟩⟩), not_isN (sj _ _ x_t5) (fun y l us e => nomatch e)⟩
        · exact ⟨tup_thn (sj _ _ x_t8) (fun y z e => nomatch e), not_isN (sj _ _ x_t8) (fun y l us e => nomatch e)⟩
        · exact ⟨tup_thn (sj _ _ x_tb) (fun y z e => nomatch e), not_isN (sj _ _ x_tb) (fun y l us e => nomatch e)⟩
        · exact flat_thn (.inr (.lst (sj _ _ x_ld))) (fun a xs e k => by cases e; rw [sj _ _ x_ld] at k; cases k)
      clear x_t1 x_t2 x_d3 x_l4 x_t5 x_t8 x_tb x_ld
      refine ⟨le, rfl, ⟨_, SqL.of x_le⟩, ?_⟩
      generalize [V.non, V.int 7, V.bl true, V.str "4:", V.ref t1, V.ref t2, V.ref d3, V.ref l4, V.ref t5, V.ref t8, V.ref tb, V.ref ld] = xs at x_le all ⊢
      refine for_list (xs := xs) (fun j σ Hj => ∃ v10, σ = [some (.ref a), v1, v2, v3, v4, v5, v6, v7, v8, v9, v10] ∧ Same D14 Hj) ⟨v10, rfl, Same.refl _⟩ (fun j σ Hj _ ⟨_, _, sj⟩ => SqL.of (sj _ _ x_le)) ?_ ?_
      · rintro j x σ Hj hx ⟨v10, rfl, sj⟩
        obtain ⟨tn, nn⟩ := all Hj sj x (List.mem_of_getElem? hx)
        refine ⟨_, rfl, x, rfl, tn, fun b Hk sk hb => ?_⟩
        have eb : b = false := by
          cases b with
          | false => rfl
          | true => exact absurd (hb.mp rfl) nn
        subst eb
        refine ⟨_, _, rfl, rfl, _, rfl, iteFd (by decide) ?_⟩
        exact ⟨_, rfl, Same.trans sj sk⟩
      · rintro σ Hj ⟨v10, rfl, sj⟩
        refine ⟨lenLine (by show 2 ≤ 100000; decide), fun t1 f1 => ?_⟩
        have s1 : Same Hj (upd Hj t1 (HO.tup [V.int 0, V.int 0])) := same_new f1 _
        have x1 : (upd Hj t1 (HO.tup [V.int 0, V.int 0])) t1 = some (.tup [V.int 0, V.int 0]) := upd_same
        generalize upd Hj t1 (HO.tup [V.int 0, V.int 0]) = E1 at s1 x1
        refine ⟨lenLine (by show 1 ≤ 100000; decide), fun l1 g1 => ?_⟩
        have s2 : Same E1 (upd E1 l1 (HO.lst [V.ref t1])) := same_new g1 _
        have x2 : (upd E1 l1 (HO.lst [V.ref t1])) l1 = some (.lst [V.ref t1]) := upd_same
        generalize upd E1 l1 (HO.lst [V.ref t1]) = E2 at s2 x2
        refine ⟨.int 1, .ref l1, rfl, .inl ⟨_, rfl⟩, list_thl x2 (by show 1 ≤ 2000; decide) (fun y hy => by cases List.mem_singleton.mp hy; exact pair_thw (s2 _ _ x1)), list_not x2 (.inr ⟨_, List.mem_singleton.mpr rfl, fun ⟨t, a, b, e, k, l⟩ => ?_⟩), fun E3 s3 => ?_⟩
        · cases e
          rw [s2 _ _ x1] at k
          cases k
          exact l.2.2.2.2 rfl
        refine ⟨_, rfl, iteTd rfl ?_⟩
        refine ⟨lenLine (by show 2 ≤ 100000; decide), fun t2 f2 => ?_⟩
        have s4 : Same E3 (upd E3 t2 (HO.tup [V.int 0, V.int 1])) := same_new f2 _
        have x4 : (upd E3 t2 (HO.tup [V.int 0, V.int 1])) t2 = some (.tup [V.int 0, V.int 1]) := upd_same
        generalize upd E3 t2 (HO.tup [V.int 0, V.int 1]) = E4 at s4 x4
        refine ⟨lenLine (by show 1 ≤ 100000; decide), fun l2 g2 => ?_⟩
        have s5 : Same E4 (upd E4 l2 (HO.lst [V.ref t2])) := same_new g2 _
        have x5 : (upd E4 l2 (HO.lst [V.ref t2])) l2 = some (.lst [V.ref t2]) := upd_same
        generalize upd E4 l2 (HO.lst [V.ref t2]) = E5 at s5 x5
        refine ⟨.int 1, .ref l2, rfl, .inl ⟨_, rfl⟩, list_thl x5 (by show 1 ≤ 2000; decide) (fun y hy => by cases List.mem_singleton.mp hy; exact pair_thw (s5 _ _ x4)), list_not x5 (.inr ⟨_, List.mem_singleton.mpr rfl, fun ⟨t, a, b, e, k, l⟩ => ?_⟩), fun E6 s6 => ?_⟩
        · cases e
          rw [s5 _ _ x4] at k
          cases k
          exact absurd l.2.2.2.1 (by decide)
        refine ⟨_, rfl, iteTd rfl ?_⟩
        refine ⟨lenLine (by show 0 ≤ 100000; decide), fun t3 f3 => ?_⟩
        exact ⟨1, t3, [], rfl, ⟨[], .inr upd_same, .nil⟩, by decide, by decide, (fun w h => nomatch h), by decide, fun E7 s7 => q _⟩
end
end Ep
namespace Ep
open PySem L2 PySem.SeqAt
theorem us1 {us : List Value} (h : us.length = 1) : ∃ a, us = [a] := by
  cases us with
  | nil => cases h
  | cons a r => cases r with
    | nil => exact ⟨a, rfl⟩
    | cons b r => simp at h
theorem us2 {us : List Value} (h : us.length = 2) : ∃ a b, us = [a, b] := by
  cases us with
  | nil => cases h
  | cons x r =>
    obtain ⟨a, rfl⟩ := us1 (us := r) (by simpa using h)
    exact ⟨x, a, rfl⟩
theorem us3 {us : List Value} (h : us.length = 3) : ∃ a b c, us = [a, b, c] := by
  cases us with
  | nil => cases h
  | cons x r =>
    obtain ⟨a, b, rfl⟩ := us2 (us := r) (by simpa using h)
    exact ⟨x, a, b, rfl⟩
theorem us4 {us : List Value} (h : us.length = 4) : ∃ a b c d, us = [a, b, c, d] := by
  cases us with
  | nil => cases h
  | cons x r =>
    obtain ⟨a, b, c, rfl⟩ := us3 (us := r) (by simpa using h)
    exact ⟨x, a, b, c, rfl⟩
theorem us5 {us : List Value} (h : us.length = 5) : ∃ a b c d e, us = [a, b, c, d, e] := by
  cases us with
  | nil => cases h
  | cons x r =>
    obtain ⟨a, b, c, d, rfl⟩ := us4 (us := r) (by simpa using h)
    exact ⟨x, a, b, c, d, rfl⟩
theorem us6 {us : List Value} (h : us.length = 6) : ∃ a b c d e f, us = [a, b, c, d, e, f] := by
  cases us with
  | nil => cases h
  | cons x r =>
    obtain ⟨a, b, c, d, e, rfl⟩ := us5 (us := r) (by simpa using h)
    exact ⟨x, a, b, c, d, e, rfl⟩
theorem all_mk {l : PySem.W.OpenLaw} {w : World} {K : PySem.W.Frag} {h : Heap} {mg : Str → Option Value} {fa : Addr} (X : K.In h) (G : h.Ns mainGlobals mg) (hfa : mg "law" = some (.ref fa))
    {e_nonet : Addr} (ae_nonet : PySem.W.nsIn K mainGlobals "NoNet" = some (some (.ref e_nonet))) (qe_nonet : PySem.W.excIn K e_nonet veB "ValueError.__new__" = true)
    {e_net : Addr} (ae_net : PySem.W.nsIn K mainGlobals "NetError" = some (some (.ref e_net))) {e_nolane : Addr} (ae_nolane : PySem.W.nsIn K mainGlobals "NoLane" = some (some (.ref e_nolane))) {e_nowalker : Addr} (ae_nowalker : PySem.W.nsIn K mainGlobals "NoWalker" = some (some (.ref e_nowalker))) {e_many : Addr} (ae_many : PySem.W.nsIn K mainGlobals "TooMany" = some (some (.ref e_many))) {e_notext : Addr} (ae_notext : PySem.W.nsIn K mainGlobals "NoText" = some (some (.ref e_notext))) {e_norow : Addr} (ae_norow : PySem.W.nsIn K mainGlobals "NoRow" = some (some (.ref e_norow))) {e_noname : Addr} (ae_noname : PySem.W.nsIn K mainGlobals "NoName" = some (some (.ref e_noname)))
    (er : ErrK K ⟨e_net, e_nonet, e_nolane, e_nowalker, e_many, e_notext, e_norow, e_noname⟩)
    {k_MOST_LANES : Tok} (g_MOST_LANES : PySem.W.nsIn K mainGlobals "MOST_LANES" = some (some (.int 8 k_MOST_LANES)))
    {k_MOST_WICKETS : Tok} (g_MOST_WICKETS : PySem.W.nsIn K mainGlobals "MOST_WICKETS" = some (some (.int 40 k_MOST_WICKETS)))
    {f1 : Addr} {od1 an1 : Option Addr} {sl1 : Array (Option Value)} {oc1 kV1 dc1 pm1 cd1 ct1 : Value}
    (a1 : PySem.W.nsIn K mainGlobals "_law_take" = some (some (.ref f1))) (l1 : K.lookup f1 = some ⟨oc1, od1, .func (PySem.W.fnOf "_law_take" "_law_take" (defArgs s_take) (defBody s_take) (defScope s_take) .none kV1 dc1 pm1 an1 cd1 ct1), sl1⟩) (c1 : PySem.W.codeIn K cd1 "_law_take" = true) (k1 : PySem.W.keepIn K (.ref f1) = true)
    {f2 : Addr} {od2 an2 : Option Addr} {sl2 : Array (Option Value)} {oc2 kV2 dc2 pm2 cd2 ct2 : Value}
    (a2 : PySem.W.nsIn K mainGlobals "_law_pen" = some (some (.ref f2))) (l2 : K.lookup f2 = some ⟨oc2, od2, .func (PySem.W.fnOf "_law_pen" "_law_pen" (defArgs s_pen) (defBody s_pen) (defScope s_pen) .none kV2 dc2 pm2 an2 cd2 ct2), sl2⟩) (c2 : PySem.W.codeIn K cd2 "_law_pen" = true) (k2 : PySem.W.keepIn K (.ref f2) = true)
    {f3 : Addr} {od3 an3 : Option Addr} {sl3 : Array (Option Value)} {oc3 kV3 dc3 pm3 cd3 ct3 : Value}
    (a3 : PySem.W.nsIn K mainGlobals "_law_wickets" = some (some (.ref f3))) (l3 : K.lookup f3 = some ⟨oc3, od3, .func (PySem.W.fnOf "_law_wickets" "_law_wickets" (defArgs s_wickets) (defBody s_wickets) (defScope s_wickets) .none kV3 dc3 pm3 an3 cd3 ct3), sl3⟩) (c3 : PySem.W.codeIn K cd3 "_law_wickets" = true) (k3 : PySem.W.keepIn K (.ref f3) = true)
    {f4 : Addr} {od4 an4 : Option Addr} {sl4 : Array (Option Value)} {oc4 kV4 dc4 pm4 cd4 ct4 : Value}
    (a4 : PySem.W.nsIn K mainGlobals "is_whole" = some (some (.ref f4))) (l4 : K.lookup f4 = some ⟨oc4, od4, .func (PySem.W.fnOf "is_whole" "is_whole" (defArgs s_is_whole) (defBody s_is_whole) (defScope s_is_whole) .none kV4 dc4 pm4 an4 cd4 ct4), sl4⟩) (c4 : PySem.W.codeIn K cd4 "is_whole" = true) (k4 : PySem.W.keepIn K (.ref f4) = true)
    {f5 : Addr} {od5 an5 : Option Addr} {sl5 : Array (Option Value)} {oc5 kV5 dc5 pm5 cd5 ct5 : Value}
    (a5 : PySem.W.nsIn K mainGlobals "is_lane" = some (some (.ref f5))) (l5 : K.lookup f5 = some ⟨oc5, od5, .func (PySem.W.fnOf "is_lane" "is_lane" (defArgs s_is_lane) (defBody s_is_lane) (defScope s_is_lane) .none kV5 dc5 pm5 an5 cd5 ct5), sl5⟩) (c5 : PySem.W.codeIn K cd5 "is_lane" = true) (k5 : PySem.W.keepIn K (.ref f5) = true)
    {f6 : Addr} {od6 an6 : Option Addr} {sl6 : Array (Option Value)} {oc6 kV6 dc6 pm6 cd6 ct6 : Value}
    (a6 : PySem.W.nsIn K mainGlobals "is_wicket" = some (some (.ref f6))) (l6 : K.lookup f6 = some ⟨oc6, od6, .func (PySem.W.fnOf "is_wicket" "is_wicket" (defArgs s_is_wicket) (defBody s_is_wicket) (defScope s_is_wicket) .none kV6 dc6 pm6 an6 cd6 ct6), sl6⟩) (c6 : PySem.W.codeIn K cd6 "is_wicket" = true) (k6 : PySem.W.keepIn K (.ref f6) = true)
    {f7 : Addr} {od7 an7 : Option Addr} {sl7 : Array (Option Value)} {oc7 kV7 dc7 pm7 cd7 ct7 : Value}
    (a7 : PySem.W.nsIn K mainGlobals "are_wickets" = some (some (.ref f7))) (l7 : K.lookup f7 = some ⟨oc7, od7, .func (PySem.W.fnOf "are_wickets" "are_wickets" (defArgs s_are_wickets) (defBody s_are_wickets) (defScope s_are_wickets) .none kV7 dc7 pm7 an7 cd7 ct7), sl7⟩) (c7 : PySem.W.codeIn K cd7 "are_wickets" = true) (k7 : PySem.W.keepIn K (.ref f7) = true)
    {f8 : Addr} {od8 an8 : Option Addr} {sl8 : Array (Option Value)} {oc8 kV8 dc8 pm8 cd8 ct8 : Value}
    (a8 : PySem.W.nsIn K mainGlobals "makes_net" = some (some (.ref f8))) (l8 : K.lookup f8 = some ⟨oc8, od8, .func (PySem.W.fnOf "makes_net" "makes_net" (defArgs s_makes_net) (defBody s_makes_net) (defScope s_makes_net) .none kV8 dc8 pm8 an8 cd8 ct8), sl8⟩) (c8 : PySem.W.codeIn K cd8 "makes_net" = true) (k8 : PySem.W.keepIn K (.ref f8) = true)
    {f9 : Addr} {od9 an9 : Option Addr} {sl9 : Array (Option Value)} {oc9 kV9 dc9 pm9 cd9 ct9 : Value}
    (a9 : PySem.W.nsIn K mainGlobals "net_of" = some (some (.ref f9))) (l9 : K.lookup f9 = some ⟨oc9, od9, .func (PySem.W.fnOf "net_of" "net_of" (defArgs s_net_of) (defBody s_net_of) (defScope s_net_of) .none kV9 dc9 pm9 an9 cd9 ct9), sl9⟩) (c9 : PySem.W.codeIn K cd9 "net_of" = true) (k9 : PySem.W.keepIn K (.ref f9) = true)
    {f10 : Addr} {od10 an10 : Option Addr} {sl10 : Array (Option Value)} {oc10 kV10 dc10 pm10 cd10 ct10 : Value}
    (a10 : PySem.W.nsIn K mainGlobals "is_net" = some (some (.ref f10))) (l10 : K.lookup f10 = some ⟨oc10, od10, .func (PySem.W.fnOf "is_net" "is_net" (defArgs s_is_net) (defBody s_is_net) (defScope s_is_net) .none kV10 dc10 pm10 an10 cd10 ct10), sl10⟩) (c10 : PySem.W.codeIn K cd10 "is_net" = true) (k10 : PySem.W.keepIn K (.ref f10) = true)
    {f11 : Addr} {od11 an11 : Option Addr} {sl11 : Array (Option Value)} {oc11 kV11 dc11 pm11 cd11 ct11 : Value}
    (a11 : PySem.W.nsIn K mainGlobals "_law_odd_wicket" = some (some (.ref f11))) (l11 : K.lookup f11 = some ⟨oc11, od11, .func (PySem.W.fnOf "_law_odd_wicket" "_law_odd_wicket" (defArgs s_odd_wicket) (defBody s_odd_wicket) (defScope s_odd_wicket) .none kV11 dc11 pm11 an11 cd11 ct11), sl11⟩) (c11 : PySem.W.codeIn K cd11 "_law_odd_wicket" = true) (k11 : PySem.W.keepIn K (.ref f11) = true)
    {f12 : Addr} {od12 an12 : Option Addr} {sl12 : Array (Option Value)} {oc12 kV12 dc12 pm12 cd12 ct12 : Value}
    (a12 : PySem.W.nsIn K mainGlobals "_law_odd_wide" = some (some (.ref f12))) (l12 : K.lookup f12 = some ⟨oc12, od12, .func (PySem.W.fnOf "_law_odd_wide" "_law_odd_wide" (defArgs s_odd_wide) (defBody s_odd_wide) (defScope s_odd_wide) .none kV12 dc12 pm12 an12 cd12 ct12), sl12⟩) (c12 : PySem.W.codeIn K cd12 "_law_odd_wide" = true) (k12 : PySem.W.keepIn K (.ref f12) = true)
    {f13 : Addr} {od13 an13 : Option Addr} {sl13 : Array (Option Value)} {oc13 kV13 dc13 pm13 cd13 ct13 : Value}
    (a13 : PySem.W.nsIn K mainGlobals "_law_odd_list" = some (some (.ref f13))) (l13 : K.lookup f13 = some ⟨oc13, od13, .func (PySem.W.fnOf "_law_odd_list" "_law_odd_list" (defArgs s_odd_list) (defBody s_odd_list) (defScope s_odd_list) .none kV13 dc13 pm13 an13 cd13 ct13), sl13⟩) (c13 : PySem.W.codeIn K cd13 "_law_odd_list" = true) (k13 : PySem.W.keepIn K (.ref f13) = true)
    {f14 : Addr} {od14 an14 : Option Addr} {sl14 : Array (Option Value)} {oc14 kV14 dc14 pm14 cd14 ct14 : Value}
    (a14 : PySem.W.nsIn K mainGlobals "_law_told" = some (some (.ref f14))) (l14 : K.lookup f14 = some ⟨oc14, od14, .func (PySem.W.fnOf "_law_told" "_law_told" (defArgs s_told) (defBody s_told) (defScope s_told) .none kV14 dc14 pm14 an14 cd14 ct14), sl14⟩) (c14 : PySem.W.codeIn K cd14 "_law_told" = true) (k14 : PySem.W.keepIn K (.ref f14) = true)
    {f15 : Addr} {od15 an15 : Option Addr} {sl15 : Array (Option Value)} {oc15 kV15 dc15 pm15 cd15 ct15 : Value}
    (a15 : PySem.W.nsIn K mainGlobals "_law_good" = some (some (.ref f15))) (l15 : K.lookup f15 = some ⟨oc15, od15, .func (PySem.W.fnOf "_law_good" "_law_good" (defArgs s_good) (defBody s_good) (defScope s_good) .none kV15 dc15 pm15 an15 cd15 ct15), sl15⟩) (c15 : PySem.W.codeIn K cd15 "_law_good" = true) (k15 : PySem.W.keepIn K (.ref f15) = true)
    {f16 : Addr} {od16 an16 : Option Addr} {sl16 : Array (Option Value)} {oc16 kV16 dc16 pm16 cd16 ct16 : Value}
    (a16 : PySem.W.nsIn K mainGlobals "_law_bad" = some (some (.ref f16))) (l16 : K.lookup f16 = some ⟨oc16, od16, .func (PySem.W.fnOf "_law_bad" "_law_bad" (defArgs s_bad) (defBody s_bad) (defScope s_bad) .none kV16 dc16 pm16 an16 cd16 ct16), sl16⟩) (c16 : PySem.W.codeIn K cd16 "_law_bad" = true) (k16 : PySem.W.keepIn K (.ref f16) = true)
    {f17 : Addr} {od17 an17 : Option Addr} {sl17 : Array (Option Value)} {oc17 kV17 dc17 pm17 cd17 ct17 : Value}
    (a17 : PySem.W.nsIn K mainGlobals "law" = some (some (.ref f17))) (l17 : K.lookup f17 = some ⟨oc17, od17, .func (PySem.W.fnOf "law" "law" (defArgs s_law) (defBody s_law) (defScope s_law) .none kV17 dc17 pm17 an17 cd17 ct17), sl17⟩) (c17 : PySem.W.codeIn K cd17 "law" = true) (k17 : PySem.W.keepIn K (.ref f17) = true)
    (z1 : PySem.W.nsIn K mainGlobals "len" = some none) (z2 : PySem.W.nsIn K mainGlobals "max" = some none) (z3 : PySem.W.nsIn K mainGlobals "min" = some none) (z4 : PySem.W.nsIn K mainGlobals "int" = some none) (z5 : PySem.W.nsIn K mainGlobals "bool" = some none) (z6 : PySem.W.nsIn K mainGlobals "list" = some none) (z7 : PySem.W.nsIn K mainGlobals "tuple" = some none) (z8 : PySem.W.nsIn K mainGlobals "str" = some none) (z9 : PySem.W.nsIn K mainGlobals "dict" = some none) (z10 : PySem.W.nsIn K mainGlobals "range" = some none) (z11 : PySem.W.nsIn K mainGlobals "isinstance" = some none) (z12 : PySem.W.nsIn K mainGlobals "all" = some none) (z13 : PySem.W.nsIn K mainGlobals "any" = some none) (z14 : PySem.W.nsIn K mainGlobals "enumerate" = some none) (z15 : PySem.W.nsIn K mainGlobals "sum" = some none) (z16 : PySem.W.nsIn K mainGlobals "abs" = some none) (z17 : PySem.W.nsIn K mainGlobals "sorted" = some none) (z18 : PySem.W.nsIn K mainGlobals "reversed" = some none) (z19 : PySem.W.nsIn K mainGlobals "zip" = some none) (z20 : PySem.W.nsIn K mainGlobals "ord" = some none) (z21 : PySem.W.nsIn K mainGlobals "repr" = some none) (z22 : PySem.W.nsIn K mainGlobals "set" = some none) (z23 : PySem.W.nsIn K mainGlobals "divmod" = some none) (z24 : PySem.W.nsIn K mainGlobals "ValueError" = some none) (z25 : PySem.W.nsIn K mainGlobals "KeyError" = some none) :
    ∃ fd : FuncData, (∀ (s : Shared) (v : Value), BindsTo s fd ⟨[v], []⟩ [("_law_script", v)]) ∧ ∀ base : Heap, K.In base → base.Ns mainGlobals mg → FnOk l.prog w K mg base CX0 9 fa fd ["_law_script"] (spLaw K) := by
  have e := hfa.symm.trans (PySem.W.mg_of X G a17)
  cases e
  have ERN : NoNetT K mg e_nonet := ⟨qe_nonet, PySem.W.mg_of X G ae_nonet⟩
  have ER : ErrT K mg ⟨e_net, e_nonet, e_nolane, e_nowalker, e_many, e_notext, e_norow, e_noname⟩ := ⟨er, PySem.W.mg_of X G ae_net, PySem.W.mg_of X G ae_nonet, PySem.W.mg_of X G ae_nolane, PySem.W.mg_of X G ae_nowalker, PySem.W.mg_of X G ae_many, PySem.W.mg_of X G ae_notext, PySem.W.mg_of X G ae_norow, PySem.W.mg_of X G ae_noname⟩
  have GMOST_LANES : ∃ t, mg "MOST_LANES" = some (.int 8 t) := ⟨_, PySem.W.mg_of X G g_MOST_LANES⟩
  have GMOST_WICKETS : ∃ t, mg "MOST_WICKETS" = some (.int 40 t) := ⟨_, PySem.W.mg_of X G g_MOST_WICKETS⟩
  have H_take : Here K mg "_law_take" s_take _ _ := ⟨fun_mk l1 c1 k1, PySem.W.mg_of X G a1⟩
  have H_pen : Here K mg "_law_pen" s_pen _ _ := ⟨fun_mk l2 c2 k2, PySem.W.mg_of X G a2⟩
  have H_wickets : Here K mg "_law_wickets" s_wickets _ _ := ⟨fun_mk l3 c3 k3, PySem.W.mg_of X G a3⟩
  have H_is_whole : Here K mg "is_whole" s_is_whole _ _ := ⟨fun_mk l4 c4 k4, PySem.W.mg_of X G a4⟩
  have H_is_lane : Here K mg "is_lane" s_is_lane _ _ := ⟨fun_mk l5 c5 k5, PySem.W.mg_of X G a5⟩
  have H_is_wicket : Here K mg "is_wicket" s_is_wicket _ _ := ⟨fun_mk l6 c6 k6, PySem.W.mg_of X G a6⟩
  have H_are_wickets : Here K mg "are_wickets" s_are_wickets _ _ := ⟨fun_mk l7 c7 k7, PySem.W.mg_of X G a7⟩
  have H_makes_net : Here K mg "makes_net" s_makes_net _ _ := ⟨fun_mk l8 c8 k8, PySem.W.mg_of X G a8⟩
  have H_net_of : Here K mg "net_of" s_net_of _ _ := ⟨fun_mk l9 c9 k9, PySem.W.mg_of X G a9⟩
  have H_is_net : Here K mg "is_net" s_is_net _ _ := ⟨fun_mk l10 c10 k10, PySem.W.mg_of X G a10⟩
  have H_odd_wicket : Here K mg "_law_odd_wicket" s_odd_wicket _ _ := ⟨fun_mk l11 c11 k11, PySem.W.mg_of X G a11⟩
  have H_odd_wide : Here K mg "_law_odd_wide" s_odd_wide _ _ := ⟨fun_mk l12 c12 k12, PySem.W.mg_of X G a12⟩
  have H_odd_list : Here K mg "_law_odd_list" s_odd_list _ _ := ⟨fun_mk l13 c13 k13, PySem.W.mg_of X G a13⟩
  have H_told : Here K mg "_law_told" s_told _ _ := ⟨fun_mk l14 c14 k14, PySem.W.mg_of X G a14⟩
  have H_good : Here K mg "_law_good" s_good _ _ := ⟨fun_mk l15 c15 k15, PySem.W.mg_of X G a15⟩
  have H_bad : Here K mg "_law_bad" s_bad _ _ := ⟨fun_mk l16 c16 k16, PySem.W.mg_of X G a16⟩
  have H_law : Here K mg "law" s_law _ _ := ⟨fun_mk l17 c17 k17, PySem.W.mg_of X G a17⟩
  have T : Bn mg := ⟨PySem.W.mg_none_of X G z1, PySem.W.mg_none_of X G z2, PySem.W.mg_none_of X G z3, PySem.W.mg_none_of X G z4, PySem.W.mg_none_of X G z5, PySem.W.mg_none_of X G z6, PySem.W.mg_none_of X G z7, PySem.W.mg_none_of X G z8, PySem.W.mg_none_of X G z9, PySem.W.mg_none_of X G z10, PySem.W.mg_none_of X G z11, PySem.W.mg_none_of X G z12, PySem.W.mg_none_of X G z13, PySem.W.mg_none_of X G z14, PySem.W.mg_none_of X G z15, PySem.W.mg_none_of X G z16, PySem.W.mg_none_of X G z17, PySem.W.mg_none_of X G z18, PySem.W.mg_none_of X G z19, PySem.W.mg_none_of X G z20, PySem.W.mg_none_of X G z21, PySem.W.mg_none_of X G z22, PySem.W.mg_none_of X G z23, PySem.W.mg_none_of X G z24, PySem.W.mg_none_of X G z25⟩
  refine ⟨PySem.W.fnOf "law" "law" (defArgs s_law) (defBody s_law) (defScope s_law) .none kV17 dc17 pm17 an17 cd17 ct17, fun s v => .of_eq rfl, fun base _ _ => ?_⟩
  have C_law_take : Callee l.prog w K mg base "_law_take" 1 ["_law_pen_here", "_law_size"] spTake := H_take.callee (ok_take H_take) (fun _ _ _ _ _ _ us hl => by obtain ⟨x0, x1, rfl⟩ := us2 hl; rfl)
  have C_law_pen : Callee l.prog w K mg base "_law_pen" 1 ["_law_script", "_law_k"] (spPen K) := H_pen.callee (ok_pen T H_pen) (fun _ _ _ _ _ _ us hl => by obtain ⟨x0, x1, rfl⟩ := us2 hl; rfl)
  have C_law_wickets : Callee l.prog w K mg base "_law_wickets" 2 ["_law_pen_here", "_law_wide", "_law_many"] spWickets := H_wickets.callee (ok_wickets T H_wickets C_law_take) (fun _ _ _ _ _ _ us hl => by obtain ⟨x0, x1, x2, rfl⟩ := us3 hl; rfl)
  have Cis_whole : Callee l.prog w K mg base "is_whole" 1 ["thing"] spWholeT := H_is_whole.callee (ok_is_whole T H_is_whole) (fun _ _ _ _ _ _ us hl => by obtain ⟨x0, rfl⟩ := us1 hl; rfl)
  have Cis_lane : Callee l.prog w K mg base "is_lane" 2 ["wide", "thing"] spLaneT := H_is_lane.callee (ok_is_lane T H_is_lane Cis_whole) (fun _ _ _ _ _ _ us hl => by obtain ⟨x0, x1, rfl⟩ := us2 hl; rfl)
  have Cis_wicket : Callee l.prog w K mg base "is_wicket" 3 ["wide", "thing"] spWickT := H_is_wicket.callee (ok_is_wicket T H_is_wicket Cis_lane) (fun _ _ _ _ _ _ us hl => by obtain ⟨x0, x1, rfl⟩ := us2 hl; rfl)
  have Care_wickets : Callee l.prog w K mg base "are_wickets" 4 ["wide", "things"] spAreT := H_are_wickets.callee (ok_are_wickets T H_are_wickets GMOST_WICKETS Cis_wicket) (fun _ _ _ _ _ _ us hl => by obtain ⟨x0, x1, rfl⟩ := us2 hl; rfl)
  have Cmakes_net : Callee l.prog w K mg base "makes_net" 5 ["wide", "wickets"] spMakesT := H_makes_net.callee (ok_makes_net T H_makes_net GMOST_LANES Cis_whole Care_wickets) (fun _ _ _ _ _ _ us hl => by obtain ⟨x0, x1, rfl⟩ := us2 hl; rfl)
  have Cnet_of : CalleeE l.prog w K mg base "net_of" 6 ["wide", "wickets"] (spNetT e_nonet) := H_net_of.calleeE (ok_net_of T H_net_of ERN Cmakes_net) (fun _ _ _ _ _ _ us hl => by obtain ⟨x0, x1, rfl⟩ := us2 hl; rfl)
  have Cnet_of1 : Callee l.prog w K mg base "net_of" 6 ["wide", "wickets"] spNetN := H_net_of.callee (((ok_net_of T H_net_of ERN Cmakes_net : FnOk l.prog w K mg base (CX1 l.prog w) 6 _ _ ["wide", "wickets"] (spNetT e_nonet)).imp net_n).down fun _ _ _ _ h => h) (fun _ _ _ _ _ _ us hl => by obtain ⟨x0, x1, rfl⟩ := us2 hl; rfl)
  have Cis_net : Callee l.prog w K mg base "is_net" 6 ["thing"] spIsNetT := H_is_net.callee (ok_is_net T H_is_net Cmakes_net) (fun _ _ _ _ _ _ us hl => by obtain ⟨x0, rfl⟩ := us1 hl; rfl)
  have C_law_odd_wicket : Callee l.prog w K mg base "_law_odd_wicket" 2 ["_law_pen_here", "_law_wide"] spOddW := H_odd_wicket.callee (ok_odd_wicket T H_odd_wicket C_law_take) (fun _ _ _ _ _ _ us hl => by obtain ⟨x0, x1, rfl⟩ := us2 hl; rfl)
  have C_law_odd_wide : Callee l.prog w K mg base "_law_odd_wide" 2 ["_law_pen_here"] spOddWide := H_odd_wide.callee (ok_odd_wide T H_odd_wide C_law_take) (fun _ _ _ _ _ _ us hl => by obtain ⟨x0, rfl⟩ := us1 hl; rfl)
  have C_law_odd_list : Callee l.prog w K mg base "_law_odd_list" 2 ["_law_pen_here"] spOddList := H_odd_list.callee (ok_odd_list T H_odd_list C_law_take) (fun _ _ _ _ _ _ us hl => by obtain ⟨x0, rfl⟩ := us1 hl; rfl)
  have C_law_told : Callee l.prog w K mg base "_law_told" 7 ["_law_wide", "_law_wickets_here"] spTold01 := H_told.callee (ok_told T H_told ER Cnet_of) (fun _ _ _ _ _ _ us hl => by obtain ⟨x0, x1, rfl⟩ := us2 hl; rfl)
  have C_law_good : Callee l.prog w K mg base "_law_good" 8 ["_law_wide", "_law_wickets_here"] spGood := H_good.callee (ok_good T H_good C_law_told Cis_net) (fun _ _ _ _ _ _ us hl => by obtain ⟨x0, x1, rfl⟩ := us2 hl; rfl)
  have C_law_bad : Callee l.prog w K mg base "_law_bad" 8 ["_law_wide", "_law_wickets_here"] spBad := H_bad.callee (ok_bad T H_bad C_law_told Cis_net) (fun _ _ _ _ _ _ us hl => by obtain ⟨x0, x1, rfl⟩ := us2 hl; rfl)
  exact ok_law T H_law C_law_take C_law_pen C_law_wickets C_law_odd_wicket C_law_odd_wide C_law_odd_list C_law_good C_law_bad Cnet_of1 Cis_net
theorem walk {l : PySem.W.OpenLaw} {q : Program} {loose : List Str} {XP : (Str → Option Value) → Heap → Prop} {YP : World → Heap → Prop} {d : DefRec} {K : Params → PySem.W.Frag} (hn : l.most = some 63) (hdf : d.params.defaults = [])
    (hY : ∀ (w : World) (h : Heap), YP w h → (K w.params).In h)
    (F : ∀ (w : World) (mg : Str → Option Value) (fa : Addr) (h : Heap), (K w.params).In h → h.Ns mainGlobals mg → mg d.name = some (.ref fa) →
      ∃ fd : FuncData, (∀ (s : Shared) (u : Value), BindsTo s fd ⟨[u], []⟩ [("_law_script", u)]) ∧ ∀ base : Heap, (K w.params).In base → base.Ns mainGlobals mg → FnOk l.prog w (K w.params) mg base CX0 9 fa fd ["_law_script"] (spLaw (K w.params))) :
    PySem.W.WalkO q loose XP YP l.row.toRowW d [] (fun f vs => PySem.call f vs) :=
  L2.walk_of (n := 63) (k := 9) (x := "_law_script") (CX := fun _ => CX0) (sp := fun w => spLaw (K w.params)) hn (by decide) hdf ⟨rfl, by decide, by decide, rfl⟩ hY F (fun _ _ a ns hl _ hS => ⟨a, ns, rfl, hS, hl, fun _ => rfl⟩) fun _ _ _ _ _ z => z
end Ep
open PySem PySem.W PyProof.Rows
set_option maxRecDepth 100000 in
set_option maxHeartbeats 0 in
theorem PySem.Challenge.cw_evenpass_k01_nets_made_holds : PySem.Challenge.rw_evenpass_k01_nets_made.Holds := by
  w_on; o_law; k_head; (case hw => w_witness2)
  k_fill
  refine Ep.walk (l := PySem.Challenge.rw_evenpass_k01_nets_made) rfl rfl (fun w h Y => PySem.W.kIn_of Y) ?F
  case F =>
    intro w mg fa h KX G hmg
    refine' Ep.all_mk KX G hmg ?ae_nonet ?qe_nonet ?ae_net ?ae_nolane ?ae_nowalker ?ae_many ?ae_notext ?ae_norow ?ae_noname ?er ?g_MOST_LANES ?g_MOST_WICKETS ?a1 ?l1 ?c1 ?k1 ?a2 ?l2 ?c2 ?k2 ?a3 ?l3 ?c3 ?k3 ?a4 ?l4 ?c4 ?k4 ?a5 ?l5 ?c5 ?k5 ?a6 ?l6 ?c6 ?k6 ?a7 ?l7 ?c7 ?k7 ?a8 ?l8 ?c8 ?k8 ?a9 ?l9 ?c9 ?k9 ?a10 ?l10 ?c10 ?k10 ?a11 ?l11 ?c11 ?k11 ?a12 ?l12 ?c12 ?k12 ?a13 ?l13 ?c13 ?k13 ?a14 ?l14 ?c14 ?k14 ?a15 ?l15 ?c15 ?k15 ?a16 ?l16 ?c16 ?k16 ?a17 ?l17 ?c17 ?k17 ?z1 ?z2 ?z3 ?z4 ?z5 ?z6 ?z7 ?z8 ?z9 ?z10 ?z11 ?z12 ?z13 ?z14 ?z15 ?z16 ?z17 ?z18 ?z19 ?z20 ?z21 ?z22 ?z23 ?z24 ?z25
    (case ae_nonet => k_is); (case qe_nonet => k_exc)
    (case ae_net => k_is); (case ae_nolane => k_is); (case ae_nowalker => k_is); (case ae_many => k_is); (case ae_notext => k_is); (case ae_norow => k_is); (case ae_noname => k_is)
    (case er => exact ⟨by k_exc, by k_exc, by kernel_rfl, by kernel_rfl, ⟨by k_is, by k_is, by k_is, by k_is, by k_is, by k_is, by k_is, by kernel_rfl⟩, ⟨by k_is, by k_is, by k_is, by k_is, by k_is, by k_is, by k_is, by kernel_rfl⟩, by kernel_rfl, by kernel_rfl, by kernel_rfl, by kernel_rfl, by kernel_rfl, by kernel_rfl, by kernel_rfl, by kernel_rfl⟩)
    (case g_MOST_LANES => k_is)
    (case g_MOST_WICKETS => k_is)
    (case a1 => k_is); (case l1 => k_is); (case c1 => k_is); (case k1 => k_is)
    (case a2 => k_is); (case l2 => k_is); (case c2 => k_is); (case k2 => k_is)
    (case a3 => k_is); (case l3 => k_is); (case c3 => k_is); (case k3 => k_is)
    (case a4 => k_is); (case l4 => k_is); (case c4 => k_is); (case k4 => k_is)
    (case a5 => k_is); (case l5 => k_is); (case c5 => k_is); (case k5 => k_is)
    (case a6 => k_is); (case l6 => k_is); (case c6 => k_is); (case k6 => k_is)
    (case a7 => k_is); (case l7 => k_is); (case c7 => k_is); (case k7 => k_is)
    (case a8 => k_is); (case l8 => k_is); (case c8 => k_is); (case k8 => k_is)
    (case a9 => k_is); (case l9 => k_is); (case c9 => k_is); (case k9 => k_is)
    (case a10 => k_is); (case l10 => k_is); (case c10 => k_is); (case k10 => k_is)
    (case a11 => k_is); (case l11 => k_is); (case c11 => k_is); (case k11 => k_is)
    (case a12 => k_is); (case l12 => k_is); (case c12 => k_is); (case k12 => k_is)
    (case a13 => k_is); (case l13 => k_is); (case c13 => k_is); (case k13 => k_is)
    (case a14 => k_is); (case l14 => k_is); (case c14 => k_is); (case k14 => k_is)
    (case a15 => k_is); (case l15 => k_is); (case c15 => k_is); (case k15 => k_is)
    (case a16 => k_is); (case l16 => k_is); (case c16 => k_is); (case k16 => k_is)
    (case a17 => k_is); (case l17 => k_is); (case c17 => k_is); (case k17 => k_is)
    (case z1 => k_is)
    (case z2 => k_is)
    (case z3 => k_is)
    (case z4 => k_is)
    (case z5 => k_is)
    (case z6 => k_is)
    (case z7 => k_is)
    (case z8 => k_is)
    (case z9 => k_is)
    (case z10 => k_is)
    (case z11 => k_is)
    (case z12 => k_is)
    (case z13 => k_is)
    (case z14 => k_is)
    (case z15 => k_is)
    (case z16 => k_is)
    (case z17 => k_is)
    (case z18 => k_is)
    (case z19 => k_is)
    (case z20 => k_is)
    (case z21 => k_is)
    (case z22 => k_is)
    (case z23 => k_is)
    (case z24 => k_is)
    (case z25 => k_is)
