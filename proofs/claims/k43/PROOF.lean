import PyProof.Rows.All
import Wide.All
import OpenK.AllK
import Wide.FinOn
import Lean
import PyProof.EqAt
import PyProof.EqKinds
import PyProof.TupleCall
import KE.KRevSl
import KE.KTryMore
import PySem.Challenge.RW_evenpass_k43_rounds_and_bricks
set_option Elab.async false
set_option linter.all false
set_option maxRecDepth 100000
set_option maxHeartbeats 4000000

namespace L2
open PySem PySem.Spec PyProof.Rows

abbrev Key := Sum Int Str
def keyIs : Key → Value → Bool
  | .inl k, v => Value.isInt k v
  | .inr x, v => Value.isStrOf x v
def keyH (w : World) : Key → Int
  | .inl k => hashInt k
  | .inr x => hashStr w x
theorem keyIs_shape : ∀ {k : Key} {v : Value}, keyIs k v = true → (∃ i t, k = Sum.inl i ∧ v = Value.int i t) ∨ (∃ x t, k = Sum.inr x ∧ v = Value.str x t)
  | .inl i, v, h => by
    obtain ⟨t, e⟩ := Value.isInt_shape (k := i) (v := v) h
    exact .inl ⟨i, t, rfl, e⟩
  | .inr x, v, h => by
    obtain ⟨t, e⟩ := Value.isStrOf_shape (x := x) (v := v) h
    exact .inr ⟨x, t, rfl, e⟩
theorem key_ll (a b : Int) : decide ((Sum.inl a : Key) = Sum.inl b) = (a == b) := by
  by_cases e : a = b
  · subst e; simp
  · have h : ¬ (Sum.inl a : Key) = Sum.inl b := fun q => e (Sum.inl.inj q)
    rw [decide_eq_false h]
    exact (beq_eq_false_iff_ne.mpr e).symm
theorem key_rr (a b : Str) : decide ((Sum.inr a : Key) = Sum.inr b) = decide (a = b) := by
  by_cases e : a = b
  · subst e; simp
  · have h : ¬ (Sum.inr a : Key) = Sum.inr b := fun q => e (Sum.inr.inj q)
    rw [decide_eq_false h, decide_eq_false e]
theorem key_lr (a : Int) (b : Str) : decide ((Sum.inl a : Key) = Sum.inr b) = false := decide_eq_false (fun q => nomatch q)
theorem key_rl (a : Str) (b : Int) : decide ((Sum.inr a : Key) = Sum.inl b) = false := decide_eq_false (fun q => nomatch q)

def mixKind (prog : Program) (w : World) : PySem.KeyKind prog w Key where
  is := keyIs
  hash := keyH w
  inj := fun v a b ha hb => by
    rcases keyIs_shape ha with ⟨i, t, rfl, rfl⟩ | ⟨x, t, rfl, rfl⟩
    · rcases keyIs_shape hb with ⟨j, u, rfl, e⟩ | ⟨y, u, rfl, e⟩
      · injection e with e1 _; rw [e1]
      · exact nomatch e
    · rcases keyIs_shape hb with ⟨j, u, rfl, e⟩ | ⟨y, u, rfl, e⟩
      · exact nomatch e
      · injection e with e1 _; rw [e1]
  byValue := fun k v h => by
    rcases keyIs_shape h with ⟨i, t, rfl, rfl⟩ | ⟨x, t, rfl, rfl⟩ <;> rfl
  pyHash := fun hv h => by
    rcases keyIs_shape hv with ⟨i, t, rfl, rfl⟩ | ⟨x, t, rfl, rfl⟩
    · exact wpAny_pyHash_int h
    · exact wpAny_pyHash_str h
  eqBool := fun hu hv h => by
    rcases keyIs_shape hu with ⟨i, t, rfl, rfl⟩ | ⟨x, t, rfl, rfl⟩
    · rcases keyIs_shape hv with ⟨j, u, rfl, rfl⟩ | ⟨y, u, rfl, rfl⟩
      · rw [key_ll] at h; exact wpAny_eqBool_int h
      · rw [key_lr] at h; exact SeqAt.EqAt.int_str i t y u _ _ _ _ h
    · rcases keyIs_shape hv with ⟨j, u, rfl, rfl⟩ | ⟨y, u, rfl, rfl⟩
      · rw [key_rl] at h; exact SeqAt.EqAt.str_int x t j u _ _ _ _ h
      · rw [key_rr] at h; exact wpAny_eqBool_str h
  «strs» := fun k x t v h => by
    rcases keyIs_shape h with ⟨i, u, rfl, e⟩ | ⟨y, u, rfl, e⟩
    · exact nomatch e
    · injection e with e1 _
      subst e1
      cases v <;> rfl

end L2

namespace L2
open PySem PySem.Spec PyProof.Rows

inductive V where
  | non | bl (b : Bool) | int (i : Int) | str (x : Str) | byt (b : Array UInt8) | flt (b : UInt64) | ref (a : Addr) | ty (n : String)
  deriving DecidableEq

def RelV : V → Value → Prop
  | .non, u => u = Value.none
  | .bl b, u => u = Value.bool b
  | .int i, u => ∃ t, u = Value.int i t
  | .str x, u => ∃ t, u = Value.str x t
  | .byt b, u => ∃ t, u = Value.bytes b t
  | .flt b, u => ∃ t, u = Value.float b t
  | .ref a, u => u = Value.ref a
  | .ty n, u => u = Value.type n

abbrev Vals : List V → List Value → Prop := Paired RelV
theorem Vals.length {xs : List V} {us : List Value} (r : Vals xs us) : xs.length = us.length := Paired.length r
theorem Vals.get : ∀ {xs : List V} {us : List Value} {i : Nat} {x : V}, Vals xs us → xs[i]? = some x → ∃ u, us[i]? = some u ∧ RelV x u
  | _, _, _, _, .nil, e => by simp at e
  | _, _, 0, _, .cons r _, e => by simp at e; subst e; exact ⟨_, rfl, r⟩
  | _, _, i + 1, x, .cons _ t, e => by
    obtain ⟨u, h1, h2⟩ := Vals.get (i := i) (x := x) t (by simpa using e)
    exact ⟨u, by simpa using h1, h2⟩
theorem Vals.set {x : V} {u : Value} (r : RelV x u) : ∀ {xs : List V} {us : List Value} (i : Nat), Vals xs us → Vals (xs.set i x) (us.set i u)
  | _, _, _, .nil => .nil
  | _, _, 0, .cons _ t => .cons r t
  | _, _, i + 1, .cons q t => .cons q (Vals.set r i t)
theorem Vals.append : ∀ {xs ys : List V} {us ws : List Value}, Vals xs us → Vals ys ws → Vals (xs ++ ys) (us ++ ws)
  | _, _, _, _, .nil, s => s
  | _, _, _, _, .cons r t, s => .cons r (Vals.append t s)
def RelO : Option V → Option Value → Prop
  | some v, some u => RelV v u
  | none, none => True
  | _, _ => False
def KV {κ : Type} : List (κ × V) → List (κ × Value) → Prop := Paired fun (p : κ × V) (q : κ × Value) => p.1 = q.1 ∧ RelV p.2 q.2

def kV : Key → V
  | .inl i => .int i
  | .inr x => .str x

inductive HO where
    | lst (xs : List V)
    | tup (xs : List V)
    | dK (kvs : List (Key × V)) | dT (kvs : List (List Key × V))
    | set (S : Int → Bool) (n : Nat)
    | ins (C dx : Addr) (fs : List (Str × V))
    | own (x : Addr)
    | xd (fs : List (Str × V))
    | met (f x : Addr)
    | rng (lo hi : Int)
    | frz (o : Obj) (u : HO)
    | tbl (ps : Array Value)
    | ext (φ : Heap → Prop)

abbrev Hp := Addr → Option HO
def upd (H : Hp) (a : Addr) (o : HO) : Hp := fun b => if b = a then some o else H b
theorem upd_same {H : Hp} {a : Addr} {o : HO} : upd H a o a = some o := by unfold upd; rw [if_pos rfl]
theorem upd_ne {H : Hp} {a b : Addr} {o : HO} (h : b ≠ a) : upd H a o b = H b := by unfold upd; rw [if_neg h]
theorem ne_of {H : Hp} {a b : Addr} {o u : HO} (h : H a = some o) (h' : H b = some u) (d : o ≠ u) : a ≠ b := by
  intro e; subst e; rw [h] at h'; exact d (Option.some.inj h')
theorem ne_of_none {H : Hp} {a b : Addr} {o : HO} (h : H a = some o) (h' : H b = none) : a ≠ b := by
  intro e; subst e; rw [h] at h'; cases h'

section
variable (P : Program) (w : World)
def ObjOk (H : Hp) (h : Heap) (a : Addr) : HO → Prop
  | .lst xs => xs.length ≤ sizeLine ∧ ∃ (its : List Value) (n : Nat), Vals xs its ∧ h.get? a = some { cls := .type "list", data := .seq its.toArray n }
  | .tup xs => xs.length ≤ sizeLine ∧ ∃ its : List Value, Vals xs its ∧ IsTup h a its.toArray
  | .dK kvs => kvs.length ≤ sizeLine ∧ (a == sysModules) = false ∧ ∃ vs, KV kvs vs ∧ h.DictOf (mixKind P w) a vs
  | .dT kvs => kvs.length ≤ sizeLine ∧ (a == sysModules) = false ∧ ∃ xs : List (List Key × Addr × Value),
      Paired (fun (p : List Key × V) (q : List Key × Addr × Value) => p.1 = q.1 ∧ H q.2.1 = some (.tup (p.1.map kV)) ∧ RelV p.2 q.2.2) kvs xs ∧
      ∃ o es ep, h.get? a = some o ∧ o.ExactDict ∧ o.data = .dict es ep ∧ es.toList = xs.map (entryOfKey (tupleKind (mixKind P w))) ∧ (xs.map (·.1)).Nodup
  | .set S n => h.SetOf (intKind P w) a S n
  | .ins C dx fs => H dx = some (.own a) ∧ fs.length ≤ 1000 ∧ dx ≠ a ∧ h.get? a = some (PySem.W.instObj C dx) ∧
      ∃ mA, h.Ns1 dx mA ∧ (∀ f, RelO (fs.lookup f) (mA f)) ∧ PySem.Within mA (fs.map (·.1))
  | .own _ => ∃ o, h.get? a = some o
  | .xd fs => ∃ mA, h.Ns1 a mA ∧ ∀ f, RelO (fs.lookup f) (mA f)
  | .rng lo hi => ∃ t u v, h.get? a = some { cls := .type "range", data := .fields #[.int lo t, .int hi u, .int 1 v] }
  | .frz o u => h.get? a = some o ∧ ObjOk H h a u
  | .tbl ps => h.get? a = some { cls := .none, data := .fields ps }
  | .met f x => h.get? a = some (PySem.W.methodObj (.ref f) (.ref x))
  | .ext φ => φ h ∧ (∃ o, h.get? a = some o) ∧ ∀ h1 h2 : Heap, φ h1 → (∀ o, h1.get? a = some o → h2.get? a = some o) → φ h2
def HOk (H : Hp) (h : Heap) : Prop := ∀ a o, H a = some o → ObjOk P w H h a o
end

section
variable {P : Program} {w : World} {H H' : Hp} {h h' : Heap} {a : Addr} {o : HO}
theorem ObjOk.lt (x : ObjOk P w H h a o) : a < h.objs.size := by
  cases o with
  | lst xs => obtain ⟨_, _, _, _, e⟩ := x; exact Heap.lt_size e
  | tup xs => obtain ⟨_, _, _, p⟩ := x; exact p.lt
  | dK kvs => obtain ⟨_, _, _, _, o, _, _, e, _⟩ := x; exact Heap.lt_size e
  | dT kvs => obtain ⟨_, _, _, _, o, _, _, e, _⟩ := x; exact Heap.lt_size e
  | set S n => obtain ⟨o, _, _, _, e, _⟩ := x; exact Heap.lt_size e
  | ins C dx fs => obtain ⟨_, _, _, e, _⟩ := x; exact Heap.lt_size e
  | own y => obtain ⟨_, e⟩ := x; exact Heap.lt_size e
  | xd fs => obtain ⟨_, ⟨_, _, _, e, _⟩, _⟩ := x; exact Heap.lt_size e
  | rng lo hi => obtain ⟨_, _, _, e⟩ := x; exact Heap.lt_size e
  | frz ob u => obtain ⟨e, _⟩ := x; exact Heap.lt_size e
  | tbl ps => exact Heap.lt_size (show h.get? a = some _ from x)
  | met f y => exact Heap.lt_size (show h.get? a = some _ from x)
  | ext φ => obtain ⟨_, ⟨_, e⟩, _⟩ := x; exact Heap.lt_size e
theorem Paired.mapP {α β : Type} {F G : α → β → Prop} : ∀ {l₁ : List α} {l₂ : List β}, Paired F l₁ l₂ → (∀ a b, F a b → G a b) → Paired G l₁ l₂
  | _, _, .nil, _ => .nil
  | _, _, .cons r t, f => .cons (f _ _ r) (Paired.mapP t f)
theorem ObjOk.stay (x : ObjOk P w H h a o) (k : ∀ b u, (b = a ∨ H b = some (.own a)) → h.get? b = some u → h'.get? b = some u)
    (ho : ∀ b, H b = some (.own a) → H' b = some (.own a)) (ht : ∀ b xs, H b = some (.tup xs) → H' b = some (.tup xs)) : ObjOk P w H' h' a o := by
  induction o with
  | lst xs => obtain ⟨z, its, n, r, e⟩ := x; exact ⟨z, its, n, r, k _ _ (.inl rfl) e⟩
  | tup xs => obtain ⟨z, its, r, ob, e, c⟩ := x; exact ⟨z, its, r, ob, k _ _ (.inl rfl) e, c⟩
  | dK kvs => obtain ⟨z, y, vs, r, ob, es, ep, e, c⟩ := x; exact ⟨z, y, vs, r, ob, es, ep, k _ _ (.inl rfl) e, c⟩
  | dT kvs =>
    obtain ⟨z, y, xs, r, ob, es, ep, e, c⟩ := x
    exact ⟨z, y, xs, Paired.mapP r fun p q z => ⟨z.1, ht _ _ z.2.1, z.2.2⟩, ob, es, ep, k _ _ (.inl rfl) e, c⟩
  | set S n => obtain ⟨ob, es, ep, t, e, c⟩ := x; exact ⟨ob, es, ep, t, k _ _ (.inl rfl) e, c⟩
  | ins C dx fs =>
    obtain ⟨d, z, ne, e, mA, ⟨od, es, ep, e2, c⟩, r⟩ := x
    exact ⟨ho _ d, z, ne, k _ _ (.inl rfl) e, mA, ⟨od, es, ep, k _ _ (.inr d) e2, c⟩, r⟩
  | own y => obtain ⟨ob, e⟩ := x; exact ⟨ob, k _ _ (.inl rfl) e⟩
  | xd fs => obtain ⟨mA, ⟨od, es, ep, e, c⟩, r⟩ := x; exact ⟨mA, ⟨od, es, ep, k _ _ (.inl rfl) e, c⟩, r⟩
  | rng lo hi => obtain ⟨t, u, v, e⟩ := x; exact ⟨t, u, v, k _ _ (.inl rfl) e⟩
  | frz ob u ih => obtain ⟨e, q⟩ := x; exact ⟨k _ _ (.inl rfl) e, ih q⟩
  | tbl ps =>
    have e : h.get? a = some { cls := .none, data := .fields ps } := x
    show h'.get? a = some { cls := .none, data := .fields ps }
    exact k a _ (.inl rfl) e
  | met f y =>
    have e : h.get? a = some (PySem.W.methodObj (.ref f) (.ref y)) := x
    show h'.get? a = some (PySem.W.methodObj (.ref f) (.ref y))
    exact k a _ (.inl rfl) e
  | ext φ => obtain ⟨p, ⟨o, e⟩, st⟩ := x; exact ⟨st _ _ p fun o q => k _ _ (.inl rfl) q, ⟨o, k _ _ (.inl rfl) e⟩, st⟩
theorem HOk.lt (x : HOk P w H h) (e : H a = some o) : a < h.objs.size := (x a o e).lt
theorem HOk.fresh (x : HOk P w H h) (e : h.objs.size ≤ a) : H a = none := by
  cases q : H a with
  | none => rfl
  | some u => exact absurd (Nat.lt_of_lt_of_le (x.lt q) e) (Nat.lt_irrefl _)
theorem HOk.kept (x : HOk P w H h) (k : ∀ b u, h.get? b = some u → h'.get? b = some u) : HOk P w H h' := fun a o e =>
  (x a o e).stay (fun b u _ q => k b u q) (fun _ q => q) fun _ _ q => q
theorem HOk.laid (x : HOk P w H h) (k : ∀ b u, h.get? b = some u → h'.get? b = some u) (hp : h.objs.size ≤ a) (new : ObjOk P w (upd H a o) h' a o) : HOk P w (upd H a o) h' := fun b u e => by
  have hn := x.fresh hp
  by_cases hb : b = a
  · subst hb; rw [upd_same] at e; cases e; exact new
  · rw [upd_ne hb] at e
    exact (x b u e).stay (fun c v _ q => k c v q) (fun c q => by rw [upd_ne (ne_of_none q hn)]; exact q) fun c xs q => by rw [upd_ne (ne_of_none q hn)]; exact q
end

def Rd (H : Hp) (a : Addr) (u : HO) : Prop := H a = some u ∨ ∃ o, H a = some (.frz o u)
theorem Rd.ok {P : Program} {w : World} {H : Hp} {h : Heap} {a : Addr} {u : HO} (r : Rd H a u) (x : HOk P w H h) : ObjOk P w H h a u := by
  rcases r with r | ⟨o, r⟩
  · exact x a u r
  · obtain ⟨_, q⟩ := x a _ r
    exact q
def Mut : Option HO → Prop
  | some (.lst _) => True
  | some (.dK _) => True
  | some (.dT _) => True
  | some (.set _ _) => True
  | some (.ins _ _ _) => True
  | some (.ext _) => True
  | _ => False
section
variable {P : Program} {w : World} {H : Hp} {h h' : Heap} {x e : Addr} {o' : HO}
theorem HOk.write (ok : HOk P w H h) (mu : Mut (H x)) (he : e = x ∨ H e = some (.own x)) (k : ∀ b u, b ≠ e → h.get? b = some u → h'.get? b = some u) (heo : ∃ u, h'.get? e = some u)
    (new : ObjOk P w (upd H x o') h' x o') : HOk P w (upd H x o') h' := fun b u q => by
  have nown : ∀ c y, H c = some (.own y) → c ≠ x := fun c y r z => by subst z; rw [r] at mu; exact mu
  have ntup : ∀ c xs, H c = some (.tup xs) → c ≠ x := fun c xs r z => by subst z; rw [r] at mu; exact mu
  by_cases hb : b = x
  · subst hb; rw [upd_same] at q; cases q; exact new
  · rw [upd_ne hb] at q
    by_cases hbe : b = e
    · have q' : H b = some (.own x) := by
        rcases he with z | z
        · exact absurd (hbe.trans z) hb
        · rw [hbe]; exact z
      rw [q] at q'; cases q'
      obtain ⟨v, hv⟩ := heo
      exact ⟨v, by rw [hbe]; exact hv⟩
    · refine (ok b u q).stay (fun c v hc r => k c v ?_ r) (fun c r => by rw [upd_ne (nown c b r)]; exact r) fun c xs r => by rw [upd_ne (ntup c xs r)]; exact r
      rcases hc with rfl | hc
      · exact hbe
      · rintro rfl
        rcases he with z | z
        · exact nown c b hc z
        · rw [hc] at z; cases z; exact hb rfl
end

structure Un (fs ex : List Addr) (H H' : Hp) (h h' : Heap) : Prop where
  keep : ∀ b o, h.get? b = some o → H b = none → b ∉ fs → b ∉ ex → h'.get? b = some o
  slot : ∀ b o, h.get? b = some o → H b = none → b ∈ fs → b ∉ ex → ∃ sl, h'.get? b = some { o with slots := sl }
  free : ∀ b o, h.get? b = some o → H b = none → b ∉ ex → H' b = none
  there : ∀ b o, h.get? b = some o → b ∉ ex → ∃ o', h'.get? b = some o'
  tups : ∀ b xs, H b = some (.tup xs) → H' b = some (.tup xs)
  frzs : ∀ b o u, H b = some (.frz o u) → H' b = some (.frz o u)
  tbls : ∀ b ps, H b = some (.tbl ps) → ∃ more, H' b = some (.tbl (ps ++ more))
section
variable {fs fs' ex ex' : List Addr} {H H1 H2 : Hp} {h h1 h2 h' : Heap} {a x e : Addr} {o : HO}
theorem Un.any (u : Un fs ex H H1 h h1) {b : Addr} {ob : Obj} (q : h.get? b = some ob) (n : H b = none) (hx : b ∉ ex) : ∃ sl, h1.get? b = some { ob with slots := sl } := by
  by_cases hb : b ∈ fs
  · exact u.slot b ob q n hb hx
  · exact ⟨ob.slots, u.keep b ob q n hb hx⟩
theorem Un.trans (a : Un fs ex H H1 h h1) (b : Un fs ex H1 H2 h1 h2) : Un fs ex H H2 h h2 where
  keep := fun c ob q n hc hx => b.keep c ob (a.keep c ob q n hc hx) (a.free c ob q n hx) hc hx
  slot := fun c ob q n hc hx => by
    obtain ⟨sl, e1⟩ := a.slot c ob q n hc hx
    obtain ⟨sl', e2⟩ := b.slot c _ e1 (a.free c ob q n hx) hc hx
    exact ⟨sl', e2⟩
  free := fun c ob q n hx => by
    obtain ⟨o', e1⟩ := a.there c ob q hx
    exact b.free c o' e1 (a.free c ob q n hx) hx
  there := fun c ob q hx => by
    obtain ⟨o', e1⟩ := a.there c ob q hx
    exact b.there c o' e1 hx
  tups := fun c xs q => b.tups c xs (a.tups c xs q)
  frzs := fun c ob xs q => b.frzs c ob xs (a.frzs c ob xs q)
  tbls := fun c ps q => by
    obtain ⟨m1, e1⟩ := a.tbls c ps q
    obtain ⟨m2, e2⟩ := b.tbls c _ e1
    exact ⟨m1 ++ m2, by rw [e2, Array.append_assoc]⟩
theorem Un.kept (k : ∀ b u, h.get? b = some u → h'.get? b = some u) : Un fs ex H H h h' :=
  ⟨fun b ob q _ _ _ => k b ob q, fun b ob q _ _ _ => ⟨ob.slots, k b ob q⟩, fun _ _ _ n _ => n, fun b ob q _ => ⟨ob, k b ob q⟩, fun _ _ q => q, fun _ _ _ q => q, fun _ ps q => ⟨#[], by rw [q]; simp⟩⟩
theorem Un.refl : Un fs ex H H h h := Un.kept fun _ _ q => q
theorem Un.laid (k : ∀ b u, h.get? b = some u → h'.get? b = some u) (hp : h.objs.size ≤ a) (hn : H a = none) : Un fs ex H (upd H a o) h h' where
  keep := fun b u q _ _ _ => k b u q
  slot := fun b u q _ _ _ => ⟨u.slots, k b u q⟩
  free := fun b u q n _ => by rw [upd_ne (Nat.ne_of_lt (Nat.lt_of_lt_of_le (Heap.lt_size q) hp))]; exact n
  there := fun b u q _ => ⟨u, k b u q⟩
  tups := fun b xs q => by rw [upd_ne (ne_of_none q hn)]; exact q
  frzs := fun b u xs q => by rw [upd_ne (ne_of_none q hn)]; exact q
  tbls := fun b ps q => ⟨#[], by rw [upd_ne (ne_of_none q hn), q]; simp⟩
theorem Un.write (mu : Mut (H x)) (he : e = x ∨ H e = some (.own x)) (k : ∀ b u, b ≠ e → h.get? b = some u → h'.get? b = some u) (heo : ∃ u, h'.get? e = some u) : Un fs ex H (upd H x o) h h' := by
  have hx : ∀ b, H b = none → b ≠ x := fun b n z => by subst z; rw [n] at mu; exact mu
  have hb : ∀ b, H b = none → b ≠ e := fun b n z => by
    subst z
    rcases he with r | r
    · exact hx b n r
    · rw [n] at r; cases r
  have hm : ∀ b u, H b = some u → ¬ Mut (some u) → b ≠ x := fun b u q nm z => by subst z; rw [q] at mu; exact nm mu
  refine ⟨fun b u q n _ _ => k b u (hb b n) q, fun b u q n _ _ => ⟨u.slots, k b u (hb b n) q⟩, fun b u q n _ => by rw [upd_ne (hx b n)]; exact n, fun b u q _ => ?_,
    fun b xs q => by rw [upd_ne (hm b _ q fun z => z)]; exact q, fun b u xs q => by rw [upd_ne (hm b _ q fun z => z)]; exact q, fun b ps q => ⟨#[], by rw [upd_ne (hm b _ q fun z => z), q]; simp⟩⟩
  by_cases hbe : b = e
  · subst hbe; exact heo
  · exact ⟨u, k b u hbe q⟩
theorem Un.mono (u : Un fs ex H H1 h h1) (hs : ∀ b ∈ fs, b ∈ fs') (hx : ∀ b ∈ ex, b ∈ ex') : Un fs' ex' H H1 h h1 :=
  ⟨fun b ob q n hb he => u.keep b ob q n (fun z => hb (hs b z)) fun z => he (hx b z), fun _ _ q n _ he => u.any q n fun z => he (hx _ z), fun b ob q n he => u.free b ob q n fun z => he (hx b z), fun b ob q he => u.there b ob q fun z => he (hx b z), u.tups, u.frzs, u.tbls⟩
end

def trk (h : Heap) (H : Hp) : List Addr := (List.range h.objs.size).filter fun a => (H a).isSome
def hidT (h : Heap) (H : Hp) : Heap := PySem.W.hideAll h (trk h H)
theorem hidT_size (h : Heap) (H : Hp) : (hidT h H).objs.size = h.objs.size := PySem.W.hideAll_size _ _
theorem hidT_get {h : Heap} {H : Hp} {b : Addr} {o : Obj} (e : h.get? b = some o) (n : H b = none) : (hidT h H).get? b = some o :=
  PySem.W.hideAll_get _ e fun hm => by
    have q : (H b).isSome = true := (List.mem_filter.mp hm).2
    rw [n] at q; simp at q
theorem of_hidT {h : Heap} {H : Hp} {b : Addr} {o : Obj} (e : (hidT h H).get? b = some o) : h.get? b = some o ∧ H b = none := by
  have e' : h.get? b = some o := PySem.W.of_hideAll (trk h H) e
  refine ⟨e', ?_⟩
  cases q : H b with
  | none => rfl
  | some x =>
    have hm : b ∈ trk h H := List.mem_filter.mpr ⟨List.mem_range.mpr (Heap.lt_size e'), by simp [q]⟩
    have z : (hidT h H).get? b = none := PySem.W.hideAll_none (trk h H) hm
    rw [z] at e; cases e

def allNews (g h : Heap) (L : Addr) : List (Addr × Obj) := (List.range h.objs.size).filterMap fun a => if a = L ∨ (g.get? a).isSome = true then none else (h.get? a).map fun o => (a, o)
def rest (g h : Heap) (L d : Addr) : List (Addr × Obj) := (allNews g h L).filter fun p => decide (p.1 ≠ d)
end L2

namespace L2
open PySem PySem.Spec PyProof.Rows

structure Mod (K : PySem.W.Frag) (mg : Str → Option Value) (base : Heap) : Prop where
  kin : K.In base
  glob : base.Ns mainGlobals mg
  blt : ∃ mb, base.Ns builtinsNs mb ∧ ∀ x : Str, x ≠ "__name__" → mb x = bootBuiltins x
  nolimit : base.NoLimit

structure Cx where
  prog : Program
  w : World
  K : PySem.W.Frag
  mg : Str → Option Value
  base : Heap
  A : Around
  N : List Str
  s₀ : Shared
  H₀ : Hp
  env : Env
  outer : List Env
  stack : List Env
  ex : List Addr
  fn : Str → Bool
  calm : Bool
  pn : List (Addr × Obj)
  xe : Value → Shared → Prop
def frs (l : List Env) : List Addr := l.filterMap (·.frame)
abbrev Cx.fs (X : Cx) : List Addr := frs X.outer

def Vis (sc : Scope) (x : Str) : Prop := sc.names.lookup x = some .local ∨ sc.names.lookup x = some .cell ∨ sc.names.lookup x = some .free
def Loc (sc : Scope) (x : Str) : Prop := sc.names.lookup x = some .local ∨ sc.names.lookup x = some .cell
def Look (env : Env) (h : Heap) (m : Str → Option Value) (x : Str) (u : Value) : Prop :=
  (env.kindOf x = some .local ∧ m x = some u) ∨ ((env.kindOf x = some .cell ∨ env.kindOf x = some .free) ∧ ∃ c, env.cells.lookup x = some c ∧ h.IsCell c (some u))

structure Cx.Ok (X : Cx) : Prop where
  mod : Mod X.K X.mg X.base
  kind : X.env.scope.kind = .function
  glob : X.env.globals = mainGlobals
  blt : X.env.builtins = builtinsNs
  above : X.s₀.heap.objs.size ≤ X.env.locals
  inj : ∀ x y c, X.env.cells.lookup x = some c → X.env.cells.lookup y = some c → x = y
  has : ∀ x, (X.env.kindOf x = some .cell ∨ X.env.kindOf x = some .free) → ∃ c, X.env.cells.lookup x = some c
  cab : ∀ x c, X.fn x = true → X.env.cells.lookup x = some c → X.s₀.heap.objs.size ≤ c
  hd : X.calm = true → X.A.handled = none
  frames : X.A.frames = some X.stack
  stk : X.stack = X.outer ∨ (X.stack = X.env :: X.outer ∧ X.env.frame = some X.env.locals)
  exf : ∀ b ∈ X.ex, b ≠ X.env.locals ∧ ∀ x c, X.env.cells.lookup x = some c → c ≠ b
  bs : ∀ b o, X.base.get? b = some o → X.s₀.heap.get? b = some o ∧ X.H₀ b = none
  bsz : X.base.objs.size ≤ X.s₀.heap.objs.size
  noex : ∀ b o, X.base.get? b = some o → b ∉ X.ex
  exfs : ∀ b ∈ X.ex, b ∉ X.fs
  funs : X.s₀.heap.FunFrames X.base X.outer
  frf : ∀ b ∈ X.fs, X.H₀ b = none

structure Inv (X : Cx) (pins : List (Addr × Obj)) (σ : List (Option V)) (H : Hp) (s : Shared) : Prop where
  ok : X.Ok
  os : s.os = X.s₀.os
  bare : AllBare s.gens
  base : Un X.fs X.ex X.H₀ H X.s₀.heap s.heap
  loc : ∃ m, s.heap.Ns X.env.locals m ∧ ∀ (i : Nat) (x : Str) (v : V), X.N[i]? = some x → σ[i]? = some (some v) → Vis X.env.scope x → ∃ u, RelV v u ∧ Look X.env s.heap m x u
  cell : ∀ x c, X.env.cells.lookup x = some c → ∃ v, s.heap.IsCell c v
  free : H X.env.locals = none
  freeC : ∀ x c, X.env.cells.lookup x = some c → H c = none
  pin : ∀ p ∈ X.pn ++ pins, s.heap.get? p.1 = some p.2 ∧ H p.1 = none ∧ p.1 ≠ X.env.locals ∧ p.1 ∉ X.fs ∧ ∀ v, p.2.data ≠ .cell v
  hok : HOk X.prog X.w H s.heap
  len : σ.length = X.N.length

section
variable {X : Cx} {pins : List (Addr × Obj)} {σ : List (Option V)} {H H' : Hp} {s : Shared} {h' : Heap}

theorem Cx.Ok.nofr (ok : X.Ok) {b : Addr} {o : Obj} (e : X.base.get? b = some o) : b ∉ X.fs := fun hb => by
  have := (ok.funs.mem hb).1
  rw [e] at this; cases this
theorem Inv.bs (I : Inv X pins σ H s) : ∀ b o, X.base.get? b = some o → s.heap.get? b = some o ∧ H b = none := fun b o e =>
  ⟨I.base.keep b o (I.ok.bs b o e).1 (I.ok.bs b o e).2 (I.ok.nofr e) (I.ok.noex b o e), I.base.free b o (I.ok.bs b o e).1 (I.ok.bs b o e).2 (I.ok.noex b o e)⟩
theorem Inv.bk (I : Inv X pins σ H s) : ∀ b o, X.base.get? b = some o → s.heap.get? b = some o := fun b o e => (I.bs b o e).1
theorem Inv.mod (I : Inv X pins σ H s) : Mod X.K X.mg X.base := I.ok.mod
theorem Inv.kIn (I : Inv X pins σ H s) : X.K.In s.heap := I.ok.mod.kin.keeps I.bk
theorem Inv.fr (I : Inv X pins σ H s) : ∃ m, Fr X.base X.env.locals s.heap m :=
  let ⟨m, hn, _⟩ := I.loc
  ⟨m, hn, I.bk, Nat.le_trans I.ok.bsz I.ok.above⟩
theorem Inv.lt (I : Inv X pins σ H s) : X.env.locals < s.heap.objs.size := let ⟨_, hn, _⟩ := I.loc; hn.lt
theorem Inv.sz (I : Inv X pins σ H s) : X.s₀.heap.objs.size ≤ s.heap.objs.size := Nat.le_trans I.ok.above (Nat.le_of_lt I.lt)
theorem Inv.nofs (I : Inv X pins σ H s) {a : Addr} (h : s.heap.objs.size ≤ a) : a ∉ X.fs := fun hb => by
  obtain ⟨_, o, ho, _⟩ := I.ok.funs.mem hb
  exact absurd (Nat.lt_of_lt_of_le (Heap.lt_size ho) (Nat.le_trans I.sz h)) (Nat.lt_irrefl _)
theorem Inv.cne (I : Inv X pins σ H s) : ∀ x c, X.env.cells.lookup x = some c → c ≠ X.env.locals := fun x c e z => by
  obtain ⟨v, o, ho, hd⟩ := I.cell x c e
  obtain ⟨m, ⟨o', es, ep, ho', hd', _⟩, _⟩ := I.loc
  rw [z, ho'] at ho; cases ho; rw [hd'] at hd; cases hd
theorem Inv.funs (I : Inv X pins σ H s) : s.heap.FunFrames X.base X.outer := by
  have all : ∀ (l : List Env), (∀ b ∈ frs l, b ∈ X.fs) → X.s₀.heap.FunFrames X.base l → s.heap.FunFrames X.base l := by
    intro l
    induction l with
    | nil => intro _ _; trivial
    | cons env r ih =>
      intro hs hl
      obtain ⟨hk, ⟨L, o, hf, hn, ho, hd⟩, hr⟩ := hl
      have hL : L ∈ X.fs := hs L (by unfold frs; rw [List.filterMap_cons, hf]; exact List.mem_cons_self)
      obtain ⟨sl, e⟩ := I.base.slot L o ho (I.ok.frf L hL) hL fun z => I.ok.exfs L z hL
      exact ⟨hk, ⟨L, _, hf, hn, e, hd⟩, ih (fun b hb => hs b (by unfold frs; rw [List.filterMap_cons, hf]; exact List.mem_cons_of_mem _ hb)) hr⟩
  exact all X.outer (fun _ hb => hb) I.ok.funs

theorem Inv.stack (I : Inv X pins σ H s) : s.heap.FunFrames X.base X.stack := by
  rcases I.ok.stk with e | ⟨e, hf⟩
  · rw [e]; exact I.funs
  · rw [e]
    obtain ⟨m, hn, _⟩ := I.loc
    refine .cons (by rw [I.ok.kind]; decide) hf hn ?_ I.funs
    exact Heap.get?_none_of_le (Nat.le_trans I.ok.bsz I.ok.above)
theorem Inv.stkSub (I : Inv X pins σ H s) : ∀ b ∈ frs X.stack, b ∈ X.env.locals :: X.fs := fun b hb => by
  rcases I.ok.stk with e | ⟨e, hf⟩
  · rw [e] at hb; exact List.mem_cons_of_mem _ hb
  · rw [e] at hb
    unfold frs at hb
    rw [List.filterMap_cons, hf] at hb
    exact hb
theorem Inv.stkFree (I : Inv X pins σ H s) : ∀ b ∈ frs X.stack, H b = none := fun b hb => by
  rcases List.mem_cons.mp (I.stkSub b hb) with e | hb
  · rw [e]; exact I.free
  · obtain ⟨_, o, ho, _⟩ := I.ok.funs.mem hb
    exact I.base.free b o ho (I.ok.frf b hb) fun z => I.ok.exfs b z hb

theorem Inv.step {g' : Array GenState} {t' : Nat} {d' : Drawn} {ch : List Addr} (I : Inv X pins σ H s)
    (hch : ∀ b ∈ ch, (b ∈ X.ex ∨ X.s₀.heap.objs.size ≤ b) ∧ b ≠ X.env.locals ∧ (∀ x c, X.env.cells.lookup x = some c → c ≠ b) ∧ ∀ p ∈ X.pn ++ pins, p.1 ≠ b)
    (keep : ∀ b o, b ≠ X.env.locals → b ∉ X.fs → b ∉ ch → s.heap.get? b = some o → H b = none → h'.get? b = some o)
    (slot : ∀ b o, b ≠ X.env.locals → b ∈ X.fs → b ∉ ch → s.heap.get? b = some o → H b = none → ∃ sl, h'.get? b = some { o with slots := sl }) (free : ∀ b o, b ∉ ch → s.heap.get? b = some o → H b = none → H' b = none)
    (there : ∀ b o, b ∉ ch → s.heap.get? b = some o → ∃ o', h'.get? b = some o')
    (tups : ∀ b xs, H b = some (.tup xs) → H' b = some (.tup xs)) (frzs : ∀ b o u, H b = some (.frz o u) → H' b = some (.frz o u)) (tbls : ∀ b ps, H b = some (.tbl ps) → ∃ more, H' b = some (.tbl (ps ++ more)))
    (ns : ∀ m, s.heap.Ns X.env.locals m → h'.Ns X.env.locals m) (hok : HOk X.prog X.w H' h') (hg : AllBare g') :
    Inv X pins σ H' { s with heap := h', gens := g', drawn := d', toks := t' } := by
  have neL : ∀ b o, X.s₀.heap.get? b = some o → b ≠ X.env.locals := fun b o e => Nat.ne_of_lt (Nat.lt_of_lt_of_le (Heap.lt_size e) I.ok.above)
  have neC : ∀ b o, X.s₀.heap.get? b = some o → b ∉ X.ex → b ∉ ch := fun b o e hx hb => by
    rcases (hch b hb).1 with z | z
    · exact hx z
    · exact absurd (Nat.lt_of_lt_of_le (Heap.lt_size e) z) (Nat.lt_irrefl _)
  have cellK : ∀ x c, X.env.cells.lookup x = some c → ∀ v, s.heap.IsCell c v → h'.IsCell c v := fun x c e v ⟨o, ho, hd⟩ => by
    have nch : c ∉ ch := fun z => (hch c z).2.2.1 x c e rfl
    by_cases hc : c ∈ X.fs
    · obtain ⟨sl, q⟩ := slot c o (I.cne x c e) hc nch ho (I.freeC x c e)
      exact ⟨_, q, hd⟩
    · exact ⟨o, keep c o (I.cne x c e) hc nch ho (I.freeC x c e), hd⟩
  refine ⟨I.ok, I.os, hg, ⟨fun b o e n hb hx => ?_, fun b o e n hb hx => ?_, fun b o e n hx => ?_, fun b o e hx => ?_, fun b xs e => tups b xs (I.base.tups b xs e), fun b o xs e => frzs b o xs (I.base.frzs b o xs e), fun b ps e => ?_⟩, ?_, fun x c e => ?_, ?_, fun x c e => ?_, fun p hp => ?_, hok, I.len⟩
  · exact keep b o (neL b o e) hb (neC b o e hx) (I.base.keep b o e n hb hx) (I.base.free b o e n hx)
  · obtain ⟨sl, e1⟩ := I.base.slot b o e n hb hx
    obtain ⟨sl', e2⟩ := slot b _ (neL b o e) hb (neC b o e hx) e1 (I.base.free b o e n hx)
    exact ⟨sl', e2⟩
  · obtain ⟨o', e1⟩ := I.base.there b o e hx
    exact free b o' (neC b o e hx) e1 (I.base.free b o e n hx)
  · obtain ⟨o', e1⟩ := I.base.there b o e hx
    exact there b o' (neC b o e hx) e1
  · obtain ⟨m1, e1⟩ := I.base.tbls b ps e
    obtain ⟨m2, e2⟩ := tbls b _ e1
    exact ⟨m1 ++ m2, by rw [e2, Array.append_assoc]⟩
  · obtain ⟨m, hn, hl⟩ := I.loc
    refine ⟨m, ns m hn, fun i x v e1 e2 e3 => ?_⟩
    obtain ⟨u, r, l⟩ := hl i x v e1 e2 e3
    refine ⟨u, r, ?_⟩
    rcases l with l | ⟨k, c, e, z⟩
    · exact .inl l
    · exact .inr ⟨k, c, e, cellK x c e _ z⟩
  · obtain ⟨v, z⟩ := I.cell x c e
    exact ⟨v, cellK x c e v z⟩
  · obtain ⟨m, ⟨o, _, _, ho, _⟩, _⟩ := I.loc
    exact free _ o (fun z => (hch _ z).2.1 rfl) ho I.free
  · obtain ⟨v, o, ho, hd⟩ := I.cell x c e
    exact free c o (fun z => (hch c z).2.2.1 x c e rfl) ho (I.freeC x c e)
  · obtain ⟨e, n, ne, nf, d⟩ := I.pin p hp
    have nch : p.1 ∉ ch := fun z => (hch p.1 z).2.2.2 p hp rfl
    exact ⟨keep p.1 p.2 ne nf nch e n, free p.1 p.2 nch e n, ne, nf, d⟩
theorem Inv.un {t' : Nat} (I : Inv X pins σ H s) (u : Un X.fs [] H H' s.heap h') (hok : HOk X.prog X.w H' h') : Inv X pins σ H' { s with heap := h', toks := t' } := by
  obtain ⟨m, ⟨o, es, ep, ho, r⟩, _⟩ := id I.loc
  obtain ⟨sl, hL⟩ := u.any ho I.free (by simp)
  exact I.step (g' := s.gens) (d' := s.drawn) (ch := []) (fun _ z => nomatch z) (fun b o _ hb _ e n => u.keep b o e n hb (by simp)) (fun b o _ hb _ e n => u.slot b o e n hb (by simp)) (fun b o _ e n => u.free b o e n (by simp)) (fun b o _ e => u.there b o e (by simp)) u.tups u.frzs u.tbls (fun m' hm => by
    obtain ⟨o', es', ep', ho', r'⟩ := hm
    rw [ho] at ho'; cases ho'
    exact ⟨_, es', ep', hL, r'⟩) hok I.bare
theorem Inv.call {g' : Array GenState} {t' : Nat} {d' : Drawn} {ch : List Addr} (I : Inv X pins σ H s) (u : Un (frs X.stack) ch H H' s.heap h') (hok : HOk X.prog X.w H' h') (hg : AllBare g')
    (hch : ∀ b ∈ ch, (b ∈ X.ex ∨ X.s₀.heap.objs.size ≤ b) ∧ b ≠ X.env.locals ∧ (∀ x c, X.env.cells.lookup x = some c → c ≠ b) ∧ ∀ p ∈ X.pn ++ pins, p.1 ≠ b) :
    Inv X pins σ H' { s with heap := h', gens := g', drawn := d', toks := t' } := by
  obtain ⟨m, ⟨o, es, ep, ho, r⟩, _⟩ := id I.loc
  obtain ⟨sl, hL⟩ := u.any ho I.free fun z => (hch _ z).2.1 rfl
  exact I.step (ch := ch) hch (fun b o hL hb hc e n => u.keep b o e n (fun z => (List.mem_cons.mp (I.stkSub b z)).elim hL hb) hc) (fun b o _ _ hc e n => u.any e n hc) (fun b o hc e n => u.free b o e n hc) (fun b o hc e => u.there b o e hc) u.tups u.frzs u.tbls (fun m' hm => by
    obtain ⟨o', es', ep', ho', r'⟩ := hm
    rw [ho] at ho'; cases ho'
    exact ⟨_, es', ep', hL, r'⟩) hok hg
theorem Inv.turned {t' : Nat} {it : Addr} (I : Inv X pins σ H s) (k : ∀ b o, b ≠ it → s.heap.get? b = some o → h'.get? b = some o) (hn : H it = none) (hL : it ≠ X.env.locals)
    (h1 : it ∈ X.ex ∨ X.s₀.heap.objs.size ≤ it) (h2 : ∀ x c, X.env.cells.lookup x = some c → c ≠ it) (h3 : ∀ p ∈ X.pn ++ pins, p.1 ≠ it) : Inv X pins σ H { s with heap := h', toks := t' } := by
  have nit : ∀ b u, H b = some u → b ≠ it := fun b u e z => by rw [z, hn] at e; cases e
  refine I.step (g' := s.gens) (d' := s.drawn) (ch := [it]) (fun b hb => ?_) (fun b o _ _ hc e _ => k b o (fun z => hc (by simp [z])) e) (fun b o _ _ hc e _ => ⟨o.slots, k b o (fun z => hc (by simp [z])) e⟩) (fun _ _ _ _ n => n)
    (fun b o hc e => ⟨o, k b o (fun z => hc (by simp [z])) e⟩) (fun _ _ e => e) (fun _ _ _ e => e) (fun b ps e => ⟨#[], by rw [e]; simp⟩) (fun m hm => ?_) (fun b u e => ?_) I.bare
  · have e : b = it := by simpa using hb
    subst e
    exact ⟨h1, hL, h2, h3⟩
  · obtain ⟨o, es, ep, ho, r⟩ := hm
    exact ⟨o, es, ep, k _ o (Ne.symm hL) ho, r⟩
  · refine (I.hok b u e).stay (fun c v hc q => k c v ?_ q) (fun _ q => q) fun _ _ q => q
    rcases hc with z | z
    · rw [z]; exact nit b u e
    · exact nit c _ z
theorem Inv.tok (I : Inv X pins σ H s) (t : Nat) : Inv X pins σ H { s with toks := t } := I.un (h' := s.heap) (t' := t) Un.refl I.hok
theorem Inv.kept {t' : Nat} (I : Inv X pins σ H s) (k : ∀ b u, s.heap.get? b = some u → h'.get? b = some u) : Inv X pins σ H { s with heap := h', toks := t' } := I.un (Un.kept k) (I.hok.kept k)
theorem Inv.laid {a : Addr} {o : HO} {t' : Nat} (I : Inv X pins σ H s) (k : ∀ b u, s.heap.get? b = some u → h'.get? b = some u) (hp : s.heap.objs.size ≤ a) (new : ObjOk X.prog X.w (upd H a o) h' a o) :
    Inv X pins σ (upd H a o) { s with heap := h', toks := t' } := I.un (Un.laid k hp (I.hok.fresh hp)) (I.hok.laid k hp new)
theorem Inv.write {x e : Addr} {o : HO} {t' : Nat} (I : Inv X pins σ H s) (mu : Mut (H x)) (he : e = x ∨ H e = some (.own x)) (k : ∀ b u, b ≠ e → s.heap.get? b = some u → h'.get? b = some u) (heo : ∃ u, h'.get? e = some u)
    (new : ObjOk X.prog X.w (upd H x o) h' x o) : Inv X pins σ (upd H x o) { s with heap := h', toks := t' } := I.un (Un.write mu he k heo) (I.hok.write mu he k heo new)
theorem Inv.weak {σ' : List (Option V)} (I : Inv X pins σ H s) (hl : σ'.length = σ.length) (w : ∀ (i : Nat) v, σ'[i]? = some (some v) → σ[i]? = some (some v)) : Inv X pins σ' H s :=
  ⟨I.ok, I.os, I.bare, I.base, let ⟨m, hn, hl'⟩ := I.loc; ⟨m, hn, fun i x v e1 e2 e3 => hl' i x v e1 (w i v e2) e3⟩, I.cell, I.free, I.freeC, I.pin, I.hok, hl.trans I.len⟩
theorem Inv.pins_of {pins' : List (Addr × Obj)} (I : Inv X pins σ H s) (h : ∀ p ∈ pins', s.heap.get? p.1 = some p.2 ∧ H p.1 = none ∧ p.1 ≠ X.env.locals ∧ p.1 ∉ X.fs ∧ ∀ v, p.2.data ≠ .cell v) : Inv X pins' σ H s :=
  ⟨I.ok, I.os, I.bare, I.base, I.loc, I.cell, I.free, I.freeC, fun p hp => (List.mem_append.mp hp).elim (fun z => I.pin p (List.mem_append_left _ z)) (h p), I.hok, I.len⟩

theorem nodup_ix {N : List Str} (hN : N.Nodup) {i j : Nat} {x : Str} (a : N[i]? = some x) (b : N[j]? = some x) : i = j := by
  obtain ⟨h1, e1⟩ := List.getElem?_eq_some_iff.mp a
  obtain ⟨h2, e2⟩ := List.getElem?_eq_some_iff.mp b
  exact (List.getElem_inj hN).mp (e1.trans e2.symm)

theorem store_ok2 {M : Model} {A : Around} {E : Value → Shared → Prop} {i : Nat} {x : Str} {v : V} {u : Value} {Q : Unit → Shared → Prop} (I : Inv X pins σ H s) (hN : X.N.Nodup) (hi : X.N[i]? = some x) (hx : Loc X.env.scope x) (r : RelV v u)
    (h : ∀ s', Inv X pins (σ.set i (some v)) H s' → (∃ a, Heap.SameBut a s.heap s'.heap ∧ (a = X.env.locals ∨ X.env.cells.lookup x = some a)) → Q () s') (hf : X.fn x = true ∨ X.env.scope.names.lookup x = some .local := by first | exact .inl rfl | exact .inr rfl | assumption) : wpAny M A (storeName X.env x u) Q E s := by
  obtain ⟨m, hn, hl⟩ := id I.loc
  have hcls : (X.env.scope.kind == .class || (X.env.scope.kind == .module && X.env.locals != X.env.globals)) = false := by rw [I.ok.kind]; rfl
  have hiσ : i < σ.length := by rw [I.len]; exact (List.getElem?_eq_some_iff.mp hi).1
  have cne := I.cne
  have tracked : ∀ {a : Addr} {h' : Heap}, (∃ o, s.heap.get? a = some o ∧ H a = none) → Heap.SameBut a s.heap h' → HOk X.prog X.w H h' := fun {a h'} ha hs b ob e => by
    obtain ⟨_, _, hfree⟩ := ha
    refine (I.hok b ob e).stay (fun c w' hc q => (hs.2 c ?_).trans q) (fun _ q => q) fun _ _ q => q
    rintro rfl
    rcases hc with rfl | hc
    · rw [hfree] at e; cases e
    · rw [hfree] at hc; cases hc
  rcases hx with hk | hk
  · refine wpAny_storeName_local hk hn (fun h' hn' hs => ?_) hcls
    obtain ⟨oL, _, _, hoL, _⟩ := id hn
    refine h _ ⟨I.ok, I.os, I.bare, ⟨fun b o e n hb hx => ?_, fun b o e n hb hx => ?_, I.base.free, fun b o e hx => ?_, I.base.tups, I.base.frzs, I.base.tbls⟩, ⟨_, hn', fun j y v' e1 e2 e3 => ?_⟩, fun y c e => ?_, I.free, I.freeC, fun p hp => ?_, tracked ⟨oL, hoL, I.free⟩ hs, by simpa using I.len⟩ ⟨_, hs, .inl rfl⟩
    · exact (hs.2 b (Nat.ne_of_lt (Nat.lt_of_lt_of_le (Heap.lt_size e) I.ok.above))).trans (I.base.keep b o e n hb hx)
    · obtain ⟨sl, e1⟩ := I.base.slot b o e n hb hx
      exact ⟨sl, (hs.2 b (Nat.ne_of_lt (Nat.lt_of_lt_of_le (Heap.lt_size e) I.ok.above))).trans e1⟩
    · obtain ⟨o', e1⟩ := I.base.there b o e hx
      exact ⟨o', (hs.2 b (Nat.ne_of_lt (Nat.lt_of_lt_of_le (Heap.lt_size e) I.ok.above))).trans e1⟩
    · by_cases hj : j = i
      · subst hj
        rw [hi] at e1; cases e1
        rw [List.getElem?_set_self hiσ] at e2
        cases e2
        exact ⟨u, r, .inl ⟨hk, by simp⟩⟩
      · rw [List.getElem?_set_ne (Ne.symm hj)] at e2
        obtain ⟨u', r', q⟩ := hl j y v' e1 e2 e3
        refine ⟨u', r', ?_⟩
        rcases q with ⟨k, e⟩ | ⟨k, c, e, z⟩
        · refine .inl ⟨k, ?_⟩
          have : y ≠ x := fun e => hj (nodup_ix hN e1 (e ▸ hi))
          simp [this, e]
        · exact .inr ⟨k, c, e, z.sameBut hs (cne y c e)⟩
    · obtain ⟨w', z⟩ := I.cell y c e
      exact ⟨w', z.sameBut hs (cne y c e)⟩
    · obtain ⟨e, n, ne, nf, d⟩ := I.pin p hp
      exact ⟨(hs.2 p.1 ne).trans e, n, ne, nf, d⟩
  · have hfn : X.fn x = true := by
      rcases hf with z | z
      · exact z
      · rw [z] at hk; cases hk
    obtain ⟨c, hc⟩ := I.ok.has x (.inl hk)
    obtain ⟨w', z⟩ := I.cell x c hc
    refine wpAny_storeName_cell I.ok.kind hk hc z (fun h' hc' hs => ?_)
    obtain ⟨oc, hoc, hocd⟩ := id z
    refine h { s with heap := h' } ⟨I.ok, I.os, I.bare, ⟨fun b o e n hb hx => ?_, fun b o e n hb hx => ?_, I.base.free, fun b o e hx => ?_, I.base.tups, I.base.frzs, I.base.tbls⟩, ⟨m, hn.sameBut hs (Ne.symm (cne x c hc)), fun j y v' e1 e2 e3 => ?_⟩, fun y c' e => ?_, I.free, I.freeC, fun p hp => ?_, tracked ⟨oc, hoc, I.freeC x c hc⟩ hs, by simpa using I.len⟩ ⟨c, hs, .inr hc⟩
    · exact (hs.2 b (Nat.ne_of_lt (Nat.lt_of_lt_of_le (Heap.lt_size e) (I.ok.cab x c hfn hc)))).trans (I.base.keep b o e n hb hx)
    · obtain ⟨sl, e1⟩ := I.base.slot b o e n hb hx
      exact ⟨sl, (hs.2 b (Nat.ne_of_lt (Nat.lt_of_lt_of_le (Heap.lt_size e) (I.ok.cab x c hfn hc)))).trans e1⟩
    · obtain ⟨o', e1⟩ := I.base.there b o e hx
      exact ⟨o', (hs.2 b (Nat.ne_of_lt (Nat.lt_of_lt_of_le (Heap.lt_size e) (I.ok.cab x c hfn hc)))).trans e1⟩
    · by_cases hj : j = i
      · subst hj
        rw [hi] at e1; cases e1
        rw [List.getElem?_set_self hiσ] at e2
        cases e2
        exact ⟨u, r, .inr ⟨.inl hk, c, hc, hc'⟩⟩
      · rw [List.getElem?_set_ne (Ne.symm hj)] at e2
        obtain ⟨u', r', q⟩ := hl j y v' e1 e2 e3
        refine ⟨u', r', ?_⟩
        rcases q with q | ⟨k, c', e, z'⟩
        · exact .inl q
        · refine .inr ⟨k, c', e, z'.sameBut hs ?_⟩
          rintro rfl
          exact hj (nodup_ix hN e1 (I.ok.inj _ _ _ e hc ▸ hi))
    · by_cases hcc : c' = c
      · subst hcc; exact ⟨_, hc'⟩
      · obtain ⟨w2, z2⟩ := I.cell y c' e
        exact ⟨w2, z2.sameBut hs hcc⟩
    · obtain ⟨e, n, ne, nf, d⟩ := I.pin p hp
      refine ⟨(hs.2 p.1 ?_).trans e, n, ne, nf, d⟩
      intro q
      rw [q, hoc] at e
      have q' : oc = p.2 := Option.some.inj e
      exact d w' (by rw [← q']; exact hocd)
theorem store_ok {M : Model} {A : Around} {E : Value → Shared → Prop} {i : Nat} {x : Str} {v : V} {u : Value} {Q : Unit → Shared → Prop} (I : Inv X pins σ H s) (hN : X.N.Nodup) (hi : X.N[i]? = some x) (hx : Loc X.env.scope x) (r : RelV v u)
    (h : ∀ s', Inv X pins (σ.set i (some v)) H s' → Q () s') (hf : X.fn x = true ∨ X.env.scope.names.lookup x = some .local := by first | exact .inl rfl | exact .inr rfl | assumption) : wpAny M A (storeName X.env x u) Q E s :=
  store_ok2 I hN hi hx r (fun s' I' _ => h s' I') hf
theorem Inv.call' {s' : Shared} {ch : List Addr} (I : Inv X pins σ H s) (ho : s'.os = s.os) (u : Un (frs X.stack) ch H H' s.heap s'.heap) (hok : HOk X.prog X.w H' s'.heap) (hg : AllBare s'.gens)
    (hch : ∀ b ∈ ch, (b ∈ X.ex ∨ X.s₀.heap.objs.size ≤ b) ∧ b ≠ X.env.locals ∧ (∀ x c, X.env.cells.lookup x = some c → c ≠ b) ∧ ∀ p ∈ X.pn ++ pins, p.1 ≠ b) : Inv X pins σ H' s' := by
  obtain ⟨h', g', d', t', o'⟩ := s'
  have e : o' = s.os := ho
  subst e
  exact I.call (g' := g') (t' := t') (d' := d') u hok hg hch
end

abbrev XK := Value → Option Addr → Hp → Prop
abbrev St := List (Option V)
abbrev VK := V → Hp → Prop
abbrev TE := St → Hp → VK → Prop
abbrev TT := St → Hp → (Bool → Hp → Prop) → Prop
abbrev TA := St → Hp → (List V → Hp → Prop) → Prop
structure Ends where
  nx : St → Hp → Prop
  rt : VK
  bk : St → Hp → Prop := fun _ _ => False
  ct : St → Hp → Prop := fun _ _ => False
abbrev TS := Ends → St → Hp → Prop

def EP (X : Cx) (pins : List (Addr × Obj)) (σ : St) (Q : VK) (u : Value) (s' : Shared) : Prop := ∃ v H', Inv X pins σ H' s' ∧ RelV v u ∧ Q v H'
def TP (X : Cx) (pins : List (Addr × Obj)) (σ : St) (Q : Bool → Hp → Prop) (b : Bool) (s' : Shared) : Prop := ∃ H', Inv X pins σ H' s' ∧ Q b H'
def AP (X : Cx) (pins : List (Addr × Obj)) (σ : St) (Q : List V → Hp → Prop) (us : List Value) (s' : Shared) : Prop := ∃ vs H', Inv X pins σ H' s' ∧ Vals vs us ∧ Q vs H'
def SP (X : Cx) (pins : List (Addr × Obj)) (D : Ends) (f : Flow) (s' : Shared) : Prop :=
  match f with
  | .next => ∃ σ' H', Inv X pins σ' H' s' ∧ D.nx σ' H'
  | .brk => ∃ σ' H', Inv X pins σ' H' s' ∧ D.bk σ' H'
  | .cont => ∃ σ' H', Inv X pins σ' H' s' ∧ D.ct σ' H'
  | .ret u => ∃ v σ' H', Inv X pins σ' H' s' ∧ RelV v u ∧ D.rt v H'

def PE (X : Cx) (e : Expr) (t : TE) : Prop :=
  ∀ (pins : List (Addr × Obj)) (s : Shared) (σ : St) (H : Hp) (Q : VK), Inv X pins σ H s → t σ H Q → wpAny (model X.prog X.w) X.A (eval e X.env) (EP X pins σ Q) X.xe s
def PT (X : Cx) (e : Expr) (t : TT) : Prop :=
  ∀ (pins : List (Addr × Obj)) (s : Shared) (σ : St) (H : Hp) (Q : Bool → Hp → Prop), Inv X pins σ H s → t σ H Q → wpAny (model X.prog X.w) X.A (isTrue e X.env (eval e X.env)) (TP X pins σ Q) X.xe s
def PW (X : Cx) (e : Expr) (t : TT) : Prop :=
  ∀ (whole : Sem Value) (pins : List (Addr × Obj)) (s : Shared) (σ : St) (H : Hp) (Q : Bool → Hp → Prop), Inv X pins σ H s → t σ H Q → wpAny (model X.prog X.w) X.A (isTrue e X.env whole) (TP X pins σ Q) X.xe s
theorem PW.pt {X : Cx} {e : Expr} {t : TT} (h : PW X e t) : PT X e t := h _
def PA (X : Cx) (es : List Expr) (t : TA) : Prop :=
  ∀ (pos : Pos) (pins : List (Addr × Obj)) (s : Shared) (σ : St) (H : Hp) (Q : List V → Hp → Prop), Inv X pins σ H s → t σ H Q → wpAny (model X.prog X.w) X.A (spliced (backTo pos (starEach es X.env))) (AP X pins σ Q) X.xe s
def PS (X : Cx) (st : Stmt) (t : TS) : Prop :=
  ∀ (pins : List (Addr × Obj)) (s : Shared) (σ : St) (H : Hp) (D : Ends), Inv X pins σ H s → t D σ H → wpAny (model X.prog X.w) X.A (exec st X.env) (SP X pins D) X.xe s
def PSs (X : Cx) (st : List Stmt) (t : TS) : Prop :=
  ∀ (pins : List (Addr × Obj)) (s : Shared) (σ : St) (H : Hp) (D : Ends), Inv X pins σ H s → t D σ H → wpAny (model X.prog X.w) X.A (execs st X.env) (SP X pins D) X.xe s
theorem thn {α : Type} {t : Sem α} {Q Q' : α → Shared → Prop} {M : Model} {A : Around} {E : Value → Shared → Prop} {s : Shared} (h : wpAny M A t Q E s) (hQ : ∀ a s, Q a s → Q' a s) : wpAny M A t Q' E s := wpAny_mono h hQ fun _ _ x => x
end L2

namespace L2
open PySem PySem.Spec PyProof.Rows
section
variable {X : Cx}

def tVar (i : Nat) : TE := fun σ H Q => ∃ v, σ[i]? = some (some v) ∧ Q v H
def tC (v : V) : TE := fun _ H Q => Q v H
theorem pe_var {i : Nat} {x : Str} {pos : Pos} (hN : X.N[i]? = some x) (hv : Vis X.env.scope x) (hd : (x == ("__debug__" : Str)) = false := by decide) (hcd : (x == ("__classdict__" : Str)) = false := by decide) : PE X (.Name x pos) (tVar i) := by
  intro pins s σ H Q I h
  obtain ⟨v, e, h⟩ := h
  obtain ⟨m, hn, hl⟩ := I.loc
  obtain ⟨u, r, l⟩ := hl i x v hN e hv
  have fin : EP X pins σ Q u s := ⟨v, H, I, r, h⟩
  rcases l with ⟨hk, hm⟩ | ⟨hk, c, hc, hcell⟩
  · exact wpAny_Name (wpAny_loadName_local I.ok.kind hk hn hm fin) hd
  · rcases hk with hk | hk
    · exact wpAny_Name (wpAny_loadName_cell I.ok.kind hk hc hcell fin) hd
    · exact wpAny_Name (wpAny_loadName_free I.ok.kind hk hc hcell fin hcd) hd
theorem pe_int {i j pos} : PE X (.Constant (.int i) j pos) (tC (.int i)) := fun _ _ _ H _ I h => wpAny_Constant_int ⟨.int i, H, I.tok _, ⟨_, rfl⟩, h⟩
theorem pe_bl {b j pos} : PE X (.Constant (.bool b) j pos) (tC (.bl b)) := fun _ _ _ H _ I h => Constant_bool ⟨.bl b, H, I, rfl, h⟩
theorem pe_non {j pos} : PE X (.Constant .none j pos) (tC .non) := fun _ _ _ H _ I h => Constant_none ⟨.non, H, I, rfl, h⟩
theorem pe_str {x j pos} : PE X (.Constant (.str x) j pos) (tC (.str x)) := fun _ _ _ H _ I h => Calls.Constant_str ⟨.str x, H, I.tok _, ⟨_, rfl⟩, h⟩

def Gl (X : Cx) (x : Str) : Prop := X.env.kindOf x = some .globalImplicit
theorem ld_glob {E : Value → Shared → Prop} {pins : List (Addr × Obj)} {s : Shared} {σ : St} {H : Hp} {x : Str} {u : Value} {pos : Pos} {Q : Value → Shared → Prop} (I : Inv X pins σ H s) (hg : Gl X x) (hm : X.mg x = some u) (h : Q u s)
    (hd : (x == ("__debug__" : Str)) = false := by decide) : wpAny (model X.prog X.w) X.A (eval (.Name x pos) X.env) Q E s :=
  Calls.Name_function_global I.ok.kind hg (Calls.loadGlobal_global (by rw [I.ok.glob]; exact I.mod.glob.keeps I.bk) hm h) hd
theorem ld_blt {E : Value → Shared → Prop} {pins : List (Addr × Obj)} {s : Shared} {σ : St} {H : Hp} {x : Str} {u : Value} {pos : Pos} {Q : Value → Shared → Prop} (I : Inv X pins σ H s) (hg : Gl X x) (hm : X.mg x = none) (hv : bootBuiltins x = some u) (h : Q u s)
    (hn : x ≠ "__name__" := by decide) (hd : (x == ("__debug__" : Str)) = false := by decide) : wpAny (model X.prog X.w) X.A (eval (.Name x pos) X.env) Q E s := by
  obtain ⟨mb, h1, h2⟩ := I.mod.blt
  exact Calls.Name_function_global I.ok.kind hg (Calls.loadGlobal_builtin (by rw [I.ok.glob]; exact I.mod.glob.keeps I.bk) hm (by rw [I.ok.blt]; exact h1.keeps I.bk) ((h2 x hn).trans hv) h) hd
theorem pe_glob {x : Str} {v : V} {u : Value} {pos : Pos} (hg : Gl X x) (hm : X.mg x = some u) (r : RelV v u) (hd : (x == ("__debug__" : Str)) = false := by decide) : PE X (.Name x pos) (tC v) :=
  fun _ _ _ H _ I h => ld_glob I hg hm ⟨v, H, I, r, h⟩ hd
theorem pe_bltn {x : Str} {v : V} {u : Value} {pos : Pos} (hg : Gl X x) (hm : X.mg x = none) (hv : bootBuiltins x = some u) (r : RelV v u) (hn : x ≠ "__name__" := by decide) (hd : (x == ("__debug__" : Str)) = false := by decide) : PE X (.Name x pos) (tC v) :=
  fun _ _ _ H _ I h => ld_blt I hg hm hv ⟨v, H, I, r, h⟩ hn hd

variable {a b : Expr} {ta tb : TE} {pos : Pos}
def tB (t : TE) : TT := fun σ H Q => t σ H fun x H1 => ∃ c, x = .bl c ∧ Q c H1
theorem pt_val {e : Expr} {t : TE} (h : PE X e t) (he : ∀ whole, isTrue e X.env whole = (do let v ← whole; standAt e.pos; holding [v] (truthy v)) := by intro _; rfl) : PT X e (tB t) := by
  intro pins s σ H Q I hw
  refine isTrue_plain (thn (h pins s σ H _ I hw) fun v s1 ⟨x, H1, I1, r1, q1⟩ => ?_) (he _)
  obtain ⟨d, rfl, q⟩ := q1
  cases r1
  exact wpAny_truthy_bool ⟨H1, I1, q⟩

variable {tA tB' : TT} {rest : List Expr}
def tOr (t u : TT) : TT := fun σ H Q => t σ H fun c H1 => if c = true then Q true H1 else u σ H1 Q
def tNot (t : TT) : TT := fun σ H Q => t σ H fun c H1 => Q (!c) H1
theorem pw_or1 (ha : PT X a tA) : PW X (.BoolOp .Or [a] pos) tA := by
  intro wh pins s σ H Q I h
  refine isTrue_or (thn (ha pins s σ H Q I h) fun c s1 e => ?_)
  cases c with
  | false => exact isTrue_or_nil e
  | true => exact e
theorem pw_or (ha : PT X a tA) (hb : PW X (.BoolOp .Or (b :: rest) pos) tB') : PW X (.BoolOp .Or (a :: b :: rest) pos) (tOr tA tB') := by
  intro wh pins s σ H Q I h
  refine isTrue_or (thn (ha pins s σ H _ I h) fun c s1 ⟨H1, I1, q1⟩ => ?_)
  cases c with
  | true => exact ⟨H1, I1, q1⟩
  | false => exact hb wh pins s1 σ H1 Q I1 q1
theorem pt_not (ha : PT X a tA) : PT X (.UnaryOp .Not a pos) (tNot tA) := by
  intro pins s σ H Q I h
  exact isTrue_not (ha pins s σ H (fun c H1 => Q (!c) H1) I h)
def tAndV (ta tb : TE) : TE := fun σ H Q => ta σ H fun x H1 => ∃ c, x = .bl c ∧ if c = true then tb σ H1 Q else Q (.bl false) H1
def tNotV (ta : TE) : TE := fun σ H Q => ta σ H fun x H1 => ∃ c, x = .bl c ∧ Q (.bl (!c)) H1
theorem pe_one {op} {t : TE} (h : PE X a t) : PE X (.BoolOp op [a] pos) t := fun pins s σ H Q I hw => BoolOp_one (h pins s σ H Q I hw)
theorem pe_and (ha : PE X a ta) (hb : PE X (.BoolOp .And (b :: rest) pos) tb) : PE X (.BoolOp .And (a :: b :: rest) pos) (tAndV ta tb) := by
  intro pins s σ H Q I h
  refine BoolOp_and (thn (ha pins s σ H _ I h) fun v s1 ⟨x, H1, I1, r1, q1⟩ => ?_)
  obtain ⟨c, rfl, q1⟩ := q1
  cases r1
  refine wpAny_truthy_bool ?_
  cases c with
  | true => exact hb pins s1 σ H1 Q I1 q1
  | false => exact ⟨.bl false, H1, I1, rfl, q1⟩
theorem pe_not (ha : PE X a ta) : PE X (.UnaryOp .Not a pos) (tNotV ta) := by
  intro pins s σ H Q I h
  refine UnaryOp_ (thn (ha pins s σ H _ I h) fun v s1 ⟨x, H1, I1, r1, q1⟩ => ?_)
  obtain ⟨c, rfl, q1⟩ := q1
  cases r1
  exact not_of (wpAny_truthy_bool ⟨.bl (!c), H1, I1, rfl, q1⟩)
end
end L2

namespace L2
open PySem PySem.Spec PyProof.Rows

def SqL (K : PySem.W.Frag) (H : Hp) (a : Addr) (xs : List V) : Prop :=
  Rd H a (.lst xs) ∨
    ∃ (o : Obj) (its : Array Value) (n : Nat), K.lookup a = some o ∧ o.cls = .type "list" ∧ o.dict = none ∧ o.data = .seq its n ∧ its.size ≤ sizeLine ∧ Vals xs its.toList
def SqT (K : PySem.W.Frag) (H : Hp) (a : Addr) (xs : List V) : Prop :=
  Rd H a (.tup xs) ∨
    ∃ (o : Obj) (its : Array Value) (n : Nat), K.lookup a = some o ∧ o.cls = .type "tuple" ∧ o.data = .seq its n ∧ its.size ≤ sizeLine ∧ Vals xs its.toList
def absV : Value → Option V
  | .none => some .non
  | .bool b => some (.bl b)
  | .int i _ => some (.int i)
  | .str x _ => some (.str x)
  | .bytes b _ => some (.byt b)
  | .float b _ => some (.flt b)
  | .ref a => some (.ref a)
  | .type n => some (.ty n)
  | _ => none
theorem RelV.abs {x : V} {u : Value} (r : RelV x u) : absV u = some x := by
  cases x with
  | non => cases r; rfl
  | bl _ => cases r; rfl
  | int _ => obtain ⟨t, rfl⟩ := r; rfl
  | str _ => obtain ⟨t, rfl⟩ := r; rfl
  | byt _ => obtain ⟨t, rfl⟩ := r; rfl
  | flt _ => obtain ⟨t, rfl⟩ := r; rfl
  | ref _ => cases r; rfl
  | ty _ => cases r; rfl
theorem RelV.inj {x y : V} {u : Value} (r : RelV x u) (q : RelV y u) : x = y := Option.some.inj (r.abs.symm.trans q.abs)
theorem Vals.inj : ∀ {xs ys : List V} {us : List Value}, Vals xs us → Vals ys us → xs = ys
  | _, _, _, .nil, .nil => rfl
  | _, _, _, .cons r t, .cons r' t' => by rw [r.inj r', Vals.inj t t']
section
variable {X : Cx} {pins : List (Addr × Obj)} {σ : St} {H : Hp} {s : Shared} {a : Addr} {xs ys : List V}
theorem SqL.of {K : PySem.W.Frag} (h : H a = some (.lst xs)) : SqL K H a xs := .inl (.inl h)
theorem SqT.of {K : PySem.W.Frag} (h : H a = some (.tup xs)) : SqT K H a xs := .inl (.inl h)
theorem Inv.list (I : Inv X pins σ H s) (h : SqL X.K H a xs) : ∃ its : List Value, Vals xs its ∧ PlainL s.heap a its.toArray ∧ xs.length ≤ sizeLine := by
  rcases h with h | ⟨o, its, n, hk, hc, hd, hs, hz, r⟩
  · obtain ⟨z, its, n, r, e⟩ := h.ok I.hok
    exact ⟨its, r, ⟨_, n, e, rfl, rfl, rfl⟩, z⟩
  · refine ⟨its.toList, r, ⟨o, n, I.kIn a o hk, hc, hd, by simpa using hs⟩, ?_⟩
    have e := r.length
    simp only [Array.length_toList] at e
    (first | lia | omega)
theorem Inv.tuple (I : Inv X pins σ H s) (h : SqT X.K H a xs) : ∃ its : List Value, Vals xs its ∧ IsTup s.heap a its.toArray ∧ xs.length ≤ sizeLine := by
  rcases h with h | ⟨o, its, n, hk, hc, hs, hz, r⟩
  · obtain ⟨z, its, r, p⟩ := h.ok I.hok
    exact ⟨its, r, p, z⟩
  · refine ⟨its.toList, r, ⟨o, I.kIn a o hk, hc, n, by simpa using hs⟩, ?_⟩
    have e := r.length
    simp only [Array.length_toList] at e
    (first | lia | omega)
theorem Inv.list_inj (I : Inv X pins σ H s) (h : SqL X.K H a xs) (h' : SqL X.K H a ys) : xs = ys := by
  obtain ⟨its, r, ⟨o, n, e, _, _, d⟩, _⟩ := I.list h
  obtain ⟨its', r', ⟨o', n', e', _, _, d'⟩, _⟩ := I.list h'
  rw [e] at e'; cases e'
  rw [d] at d'
  injection d' with d1 _
  have : its = its' := by simpa using congrArg Array.toList d1
  subst this
  exact r.inj r'
theorem Inv.tuple_inj (I : Inv X pins σ H s) (h : SqT X.K H a xs) (h' : SqT X.K H a ys) : xs = ys := by
  obtain ⟨its, r, ⟨o, e, _, n, d⟩, _⟩ := I.tuple h
  obtain ⟨its', r', ⟨o', e', _, n', d'⟩, _⟩ := I.tuple h'
  rw [e] at e'; cases e'
  rw [d] at d'
  injection d' with d1 _
  have : its = its' := by simpa using congrArg Array.toList d1
  subst this
  exact r.inj r'
end

abbrev Cx.wish (X : Cx) (E : Value → Shared → Prop) : Cx := { X with xe := E }
abbrev Cx.nox (X : Cx) : Cx := X.wish fun _ _ => False
theorem Cx.Ok.wish {X : Cx} (ok : X.Ok) (E : Value → Shared → Prop) : (X.wish E).Ok :=
  ⟨ok.mod, ok.kind, ok.glob, ok.blt, ok.above, ok.inj, ok.has, ok.cab, ok.hd, ok.frames, ok.stk, ok.exf, ok.bs, ok.bsz, ok.noex, ok.exfs, ok.funs, ok.frf⟩
theorem Cx.Ok.unwish {X : Cx} {E : Value → Shared → Prop} (ok : (X.wish E).Ok) : X.Ok :=
  ⟨ok.mod, ok.kind, ok.glob, ok.blt, ok.above, ok.inj, ok.has, ok.cab, ok.hd, ok.frames, ok.stk, ok.exf, ok.bs, ok.bsz, ok.noex, ok.exfs, ok.funs, ok.frf⟩
section
variable {X : Cx} {pins : List (Addr × Obj)} {σ : St} {H : Hp} {s : Shared} {E : Value → Shared → Prop}
theorem Inv.wish (I : Inv X pins σ H s) (E : Value → Shared → Prop) : Inv (X.wish E) pins σ H s := ⟨I.ok.wish E, I.os, I.bare, I.base, I.loc, I.cell, I.free, I.freeC, I.pin, I.hok, I.len⟩
theorem Inv.unwish (I : Inv (X.wish E) pins σ H s) : Inv X pins σ H s := ⟨I.ok.unwish, I.os, I.bare, I.base, I.loc, I.cell, I.free, I.freeC, I.pin, I.hok, I.len⟩
theorem SP.unwish {D : Ends} {f : Flow} {s' : Shared} (h : SP (X.wish E) pins D f s') : SP X pins D f s' := by
  cases f with
  | next => obtain ⟨σ', H', I, q⟩ := h; exact ⟨σ', H', I.unwish, q⟩
  | brk => obtain ⟨σ', H', I, q⟩ := h; exact ⟨σ', H', I.unwish, q⟩
  | cont => obtain ⟨σ', H', I, q⟩ := h; exact ⟨σ', H', I.unwish, q⟩
  | ret u => obtain ⟨v, σ', H', I, r, q⟩ := h; exact ⟨v, σ', H', I.unwish, r, q⟩
theorem PSs.nox {st : List Stmt} {t : TS} (h : PSs X.nox st t) : PSs X st t := fun pins s σ H D I hw =>
  wpAny_mono (h pins s σ H D (I.wish _) hw) (fun _ _ q => q.unwish) fun _ _ z => False.elim z
end

section
variable {X : Cx} {st : Stmt} {rest : List Stmt} {t u : TS} {e : Expr} {te : TE} {pos : Pos}
def tNext : TS := fun D σ H => D.nx σ H
def tSeq (t u : TS) : TS := fun D σ H => t { D with nx := u D } σ H
theorem pss_nil : PSs X [] tNext := fun _ _ σ H _ I h => wpAny_execs_nil ⟨σ, H, I, h⟩
theorem pss_cons (h1 : PS X st t) (h2 : PSs X rest u) : PSs X (st :: rest) (tSeq t u) := by
  intro pins s σ H D I h
  refine wpAny_execs_cons (thn (h1 pins s σ H { D with nx := u D } I h) fun f s1 q => ?_)
  cases f with
  | next =>
    obtain ⟨σ', H', I', q⟩ := q
    exact h2 pins s1 σ' H' D I' q
  | ret v => exact q
  | brk => exact q
  | cont => exact q
theorem pss_one (h1 : PS X st t) : PSs X [st] t := by
  intro pins s σ H D I h
  refine wpAny_execs_cons (thn (h1 pins s σ H D I h) fun f s1 q => ?_)
  cases f with
  | next => exact wpAny_execs_nil q
  | ret v => exact q
  | brk => exact q
  | cont => exact q
theorem Inv.quiet {pins : List (Addr × Obj)} {σ : St} {H : Hp} {s : Shared} (I : Inv X pins σ H s) : interactive X.env = false := by simp [interactive, I.ok.kind]
def tDrop (te : TE) : TS := fun D σ H => te σ H fun _ H1 => D.nx σ H1
theorem ps_expr (he : PE X e te) (hs : swapsWith e none pos.line X.env = pure false := by rfl) : PS X (.Expr e pos) (tDrop te) := by
  intro pins s σ H D I h
  exact wpAny_Expr_any (thn (he pins s σ H _ I h) fun v s1 ⟨x, H1, I1, r1, q1⟩ => ⟨σ, H1, I1, q1⟩) I.quiet hs
def tRet (te : TE) : TS := fun D σ H => te σ H D.rt
theorem ps_ret (he : PE X e te) : PS X (.Return (some e) pos) (tRet te) := by
  intro pins s σ H D I h
  exact wpAny_Return_some (thn (he pins s σ H _ I h) fun v s1 ⟨x, H1, I1, r1, q1⟩ => ⟨x, σ, H1, I1, r1, q1⟩)
def tIfS (c : TT) (t u : TS) : TS := fun D σ H => c σ H fun b H1 => if b = true then t D σ H1 else u D σ H1
theorem ps_if {c : Expr} {a b : List Stmt} {tc : TT} (hc : PT X c tc) (ha : PSs X a t) (hb : PSs X b u) : PS X (.If c a b pos) (tIfS tc t u) := by
  intro pins s σ H D I h
  refine wpAny_If (thn (hc pins s σ H _ I h) fun d s1 ⟨H1, I1, q1⟩ => ?_)
  cases d with
  | true => exact ha pins s1 σ H1 D I1 q1
  | false => exact hb pins s1 σ H1 D I1 q1
end

abbrev TG := V → St → Hp → (St → Hp → Prop) → Prop
abbrev TGs := List V → St → Hp → (St → Hp → Prop) → Prop
def PG (X : Cx) (target : Expr) (t : TG) : Prop :=
  ∀ (pins : List (Addr × Obj)) (s : Shared) (σ : St) (H : Hp) (v : V) (u : Value) (Q : St → Hp → Prop), Inv X pins σ H s → RelV v u → t v σ H Q →
    wpAny (model X.prog X.w) X.A (assign target X.env u) (fun _ s' => ∃ σ' H', Inv X pins σ' H' s' ∧ Q σ' H') X.xe s
def PGs (X : Cx) (ts : List Expr) (t : TGs) : Prop :=
  ∀ (pins : List (Addr × Obj)) (s : Shared) (σ : St) (H : Hp) (vs : List V) (us : List Value) (Q : St → Hp → Prop), Inv X pins σ H s → Vals vs us → t vs σ H Q →
    wpAny (model X.prog X.w) X.A (assignInOrder ((assignEach ts X.env).map (·.2)) us) (fun _ s' => ∃ σ' H', Inv X pins σ' H' s' ∧ Q σ' H') X.xe s
abbrev TSet := V → V → V → Hp → (Hp → Prop) → Prop
def PSet (X : Cx) (t : TSet) : Prop :=
  ∀ (pins : List (Addr × Obj)) (s : Shared) (σ : St) (H : Hp) (o i v : V) (ov iv u : Value) (Q : Hp → Prop), Inv X pins σ H s → RelV o ov → RelV i iv → RelV v u → t o i v H Q →
    wpAny (model X.prog X.w) X.A (setItem ov iv u) (fun _ s' => ∃ H', Inv X pins σ H' s' ∧ Q H') X.xe s
abbrev TIp := V → V → Hp → VK → Prop
def PIp (X : Cx) (op : Operator) (t : TIp) : Prop :=
  ∀ (pins : List (Addr × Obj)) (s : Shared) (σ : St) (H : Hp) (x y : V) (v u : Value) (Q : VK), Inv X pins σ H s → RelV x v → RelV y u → t x y H Q →
    wpAny (model X.prog X.w) X.A (inplaceOp op v u) (EP X pins σ Q) X.xe s
section
variable {X : Cx} {pos : Pos}
def gName (i : Nat) : TG := fun v σ H Q => Q (σ.set i (some v)) H
theorem pg_name {i : Nat} {x : Str} (hN : X.N.Nodup) (hi : X.N[i]? = some x) (hx : Loc X.env.scope x) (hf : X.fn x = true ∨ X.env.scope.names.lookup x = some .local := by first | exact .inl rfl | exact .inr rfl | assumption) : PG X (.Name x pos) (gName i) := by
  intro pins s σ H v u Q I r h
  exact wpAny_assign_Name (store_ok I hN hi hx r (fun s' I' => ⟨_, H, I', h⟩) hf)
def gNil : TGs := fun vs σ H Q => vs = [] ∧ Q σ H
def gCons (t : TG) (u : TGs) : TGs := fun vs σ H Q => ∃ v r, vs = v :: r ∧ t v σ H fun σ' H' => u r σ' H' Q
theorem pgs_nil : PGs X [] gNil := by
  intro pins s σ H vs us Q I r h
  obtain ⟨e, h⟩ := h
  subst e
  cases r
  exact assignInOrder_nil ⟨σ, H, I, h⟩
theorem pgs_cons {e : Expr} {es : List Expr} {t : TG} {u : TGs} (h1 : PG X e t) (h2 : PGs X es u)
    (hs : (assignEach (e :: es) X.env).map (·.2) = assign e X.env :: (assignEach es X.env).map (·.2) := by rfl) : PGs X (e :: es) (gCons t u) := by
  intro pins s σ H vs us Q I r h
  obtain ⟨v, vr, e1, h⟩ := h
  subst e1
  cases r with
  | cons r rr =>
    rw [hs]
    refine assignInOrder_cons (thn (h1 pins s σ H _ _ _ I r h) fun _ s1 ⟨σ1, H1, I1, q1⟩ => ?_)
    exact h2 pins s1 σ1 H1 _ _ Q I1 rr q1
def gTup (K : PySem.W.Frag) (n : Nat) (t : TGs) : TG := fun v σ H Q => ∃ a xs, v = .ref a ∧ SqT K H a xs ∧ xs.length = n ∧ t xs σ H Q
theorem pg_tup {es : List Expr} {k : Nat} {t : TGs} {n : Nat} (hc : X.calm = true) (h : PGs X es t)
    (hn : (assignEach es X.env).length = n := by rfl) (hst : (assignEach es X.env).findIdx? (·.1) = none := by rfl) : PG X (.Tuple es k pos) (gTup X.K n t) := by
  intro pins s σ H v u Q I r hw
  obtain ⟨a, xs, e1, hq, hl, hw⟩ := hw
  subst e1
  cases r
  obtain ⟨its, rv, ht, hz⟩ := I.tuple hq
  refine assign_Tuple_tuple (I.ok.hd hc) ht (by simp [hn, ← hl, rv.length]) hst fun h' hx => ?_
  have I1 : Inv X pins σ H { s with heap := h' } := I.kept (t' := s.toks) fun b o e => hx b o (Nat.ne_of_lt (Heap.lt_size e)) e
  exact h pins _ σ H xs _ Q I1 (by simpa using rv) hw
def gSub (to ti : TE) (t : TSet) : TG := fun v σ H Q => to σ H fun o H1 => ti σ H1 fun i H2 => t o i v H2 fun H3 => Q σ H3
theorem pg_sub {o i : Expr} {to ti : TE} {t : TSet} (ho : PE X o to) (hi : PE X i ti) (hs : PSet X t)
    (ha : ∀ v, assign (.Subscript o i pos) X.env v = (do
      let ov ← holding [v] (eval o X.env)
      let iv ← holding [v, ov] (eval i X.env)
      standAt pos
      holding [v, ov, iv] (setItem ov iv v)
      release [v, ov, iv] []) := by intro _; rfl) : PG X (.Subscript o i pos) (gSub to ti t) := by
  intro pins s σ H v u Q I r h
  rw [ha]
  refine wpAny_bind (wpAny_holding (thn (ho pins s σ H _ I h) fun ov s1 ⟨x, H1, I1, r1, q1⟩ => ?_))
  refine wpAny_bind (wpAny_holding (thn (hi pins s1 σ H1 _ I1 q1) fun iv s2 ⟨y, H2, I2, r2, q2⟩ => ?_))
  refine wpAny_bind (wpAny_standAt (wpAny_bind (wpAny_holding (thn (hs pins s2 σ H2 x y v ov iv u _ I2 r1 r2 r q2) fun _ s3 ⟨H3, I3, q3⟩ => ?_))))
  exact wpAny_release ⟨σ, H3, I3, q3⟩
def tAsg (te : TE) (g : TG) : TS := fun D σ H => te σ H fun x H1 => g x σ H1 D.nx
theorem ps_asg {tg e : Expr} {te : TE} {g : TG} (he : PE X e te) (hg : PG X tg g) (hs : swapsWithSole [tg] e pos.line X.env = pure false := by rfl) (hw : swappedStores [tg] e X.env = pure none := by rfl)
    (h1 : (assignEach [tg] X.env).map (·.2) = [assign tg X.env] := by rfl) : PS X (.Assign [tg] e pos) (tAsg te g) := by
  intro pins s σ H D I h
  refine wpAny_Assign_stores (thn (he pins s σ H _ I h) fun v s1 ⟨x, H1, I1, r1, q1⟩ => ?_) hs hw
  rw [h1]
  exact thn (hg pins s1 σ H1 x v _ I1 r1 q1) fun _ s2 q => q
theorem ps_set {i : Nat} {x : Str} {e : Expr} {te : TE} {pos' : Pos} (hN : X.N.Nodup) (hi : X.N[i]? = some x) (hx : Loc X.env.scope x) (he : PE X e te) (hs : swapsWith e (some (.Name x pos')) pos.line X.env = pure false := by rfl) (hf : X.fn x = true ∨ X.env.scope.names.lookup x = some .local := by first | exact .inl rfl | exact .inr rfl | assumption) :
    PS X (.Assign [.Name x pos'] e pos) (tAsg te (gName i)) := by
  intro pins s σ H D I h
  refine wpAny_Assign_Name (thn (he pins s σ H _ I h) fun v s1 ⟨y, H1, I1, r1, q1⟩ => ?_) hs
  exact store_ok I1 hN hi hx r1 (fun s2 I2 => ⟨_, H1, I2, q1⟩) hf
def tAug (i : Nat) (te : TE) (ti : TIp) : TS := fun D σ H => ∃ x, σ[i]? = some (some x) ∧ te σ H fun y H1 => ti x y H1 fun z H2 => D.nx (σ.set i (some z)) H2
theorem ps_aug {i : Nat} {x : Str} {e : Expr} {te : TE} {op : Operator} {ti : TIp} {pos' : Pos} (hN : X.N.Nodup) (hi : X.N[i]? = some x) (hx : Loc X.env.scope x) (he : PE X e te) (ho : PIp X op ti) (hf : X.fn x = true ∨ X.env.scope.names.lookup x = some .local := by first | exact .inl rfl | exact .inr rfl | assumption) :
    PS X (.AugAssign (.Name x pos') op e pos) (tAug i te ti) := by
  intro pins s σ H D I h
  obtain ⟨v, e1, h⟩ := h
  obtain ⟨m, hn, hl⟩ := I.loc
  have vis : Vis X.env.scope x := by rcases hx with k | k; exact .inl k; exact .inr (.inl k)
  obtain ⟨u, r, l⟩ := hl i x v hi e1 vis
  refine wpAny_AugAssign_Name ?_
  have go : wpAny (model X.prog X.w) X.A (eval e X.env) (fun w s₂ => wpAny (model X.prog X.w) X.A (inplaceOp op u w) (fun r s₃ => wpAny (model X.prog X.w) X.A (storeName X.env x r) (fun _ => SP X pins D .next) X.xe s₃) X.xe s₂) X.xe s := by
    refine thn (he pins s σ H _ I h) fun w s1 ⟨y, H1, I1, r1, q1⟩ => ?_
    refine thn (ho pins s1 σ H1 v y u w _ I1 r r1 q1) fun z s2 ⟨zv, H2, I2, r2, q2⟩ => ?_
    exact store_ok I2 hN hi hx r2 (fun s3 I3 => ⟨_, H2, I3, q2⟩) hf
  rcases l with ⟨hk, hm⟩ | ⟨hk, c, hc, hcell⟩
  · exact wpAny_loadName_local I.ok.kind hk hn hm go
  · rcases hk with hk | hk
    · exact wpAny_loadName_cell I.ok.kind hk hc hcell go
    · rcases hx with k | k
      · have : X.env.scope.names.lookup x = some .free := hk
        rw [k] at this; cases this
      · have : X.env.scope.names.lookup x = some .free := hk
        rw [k] at this; cases this
end

section
variable {X : Cx} {pos : Pos}
def tWhile (c : TT) (tb : TS) : TS := fun D σ H => ∃ W : Nat → St → Hp → Prop, (∃ m, W m σ H) ∧ ∀ m σ H, W m σ H →
  c σ H fun b H1 => if b = true then ∃ N : St → Hp → Prop, (∀ σ' H', N σ' H' → ∃ m', m' < m ∧ W m' σ' H') ∧ tb { D with nx := N, ct := N, bk := D.nx } σ H1 else D.nx σ H1
theorem ps_while {c : Expr} {body : List Stmt} {tc : TT} {tb : TS} (hp : PassesOwn (model X.prog X.w) X.A X.env X.xe) (hc : PT X c tc) (hb : PSs X body tb) : PS X (.While c body [] pos) (tWhile tc tb) := by
  intro pins s σ H D I h
  obtain ⟨W, ⟨m0, w0⟩, turn⟩ := h
  refine wpAny_While (codeAny_whileLoop (fun n s' => ∃ σ' H', Inv X pins σ' H' s' ∧ W n σ' H') ?_ m0 ⟨σ, H, I, w0⟩)
  rintro n s1 ⟨σ1, H1, I1, w1⟩
  refine wpAny_passesOwn hp (thn (hc pins s1 σ1 H1 _ I1 (turn n σ1 H1 w1)) fun b s2 ⟨H2, I2, q2⟩ => ?_)
  cases b with
  | true =>
    obtain ⟨N, hN, q2⟩ := q2
    rw [if_pos rfl]
    refine wpAny_passesOwn hp (thn (hb pins s2 σ1 H2 _ I2 q2) fun f s3 q3 => ?_)
    cases f with
    | next =>
      obtain ⟨σ3, H3, I3, n3⟩ := q3
      obtain ⟨m', hm, w3⟩ := hN σ3 H3 n3
      exact ⟨m', hm, σ3, H3, I3, w3⟩
    | cont =>
      obtain ⟨σ3, H3, I3, n3⟩ := q3
      obtain ⟨m', hm, w3⟩ := hN σ3 H3 n3
      exact ⟨m', hm, σ3, H3, I3, w3⟩
    | brk => exact q3
    | ret v => exact q3
  | false =>
    rw [if_neg Bool.false_ne_true]
    exact wpAny_execs_nil ⟨σ1, H2, I2, q2⟩
end

structure It where
  go : Nat → Hp → Prop
  yld : Nat → Hp → V → Hp → Prop
  stop : Nat → Hp → Prop
def FpOk (X : Cx) (pins : List (Addr × Obj)) (H : Hp) (b : Addr) : Prop :=
  H b = none ∧ b ≠ X.env.locals ∧ b ∉ X.fs ∧ (b ∈ X.ex ∨ X.s₀.heap.objs.size ≤ b) ∧ (∀ x c, X.env.cells.lookup x = some c → c ≠ b) ∧ ∀ p ∈ X.pn ++ pins, p.1 ≠ b
theorem Inv.fpOk {X : Cx} {pins : List (Addr × Obj)} {σ : St} {H H' : Hp} {s : Shared} {b : Addr} (I : Inv X pins σ H s) (hb : s.heap.objs.size ≤ b) (hn : H' b = none) : FpOk X pins H' b := by
  refine ⟨hn, Nat.ne_of_gt (Nat.lt_of_lt_of_le I.lt hb), I.nofs hb, .inr (Nat.le_trans I.sz hb), fun x c e z => ?_, fun p hp z => ?_⟩
  · obtain ⟨v, q⟩ := I.cell x c e
    exact absurd (Nat.lt_of_lt_of_le q.lt (by rw [z]; exact hb)) (Nat.lt_irrefl _)
  · exact absurd (Nat.lt_of_lt_of_le (Heap.lt_size (I.pin p hp).1) (by rw [z]; exact hb)) (Nat.lt_irrefl _)
structure Turn (P : Program) (w : World) (K : PySem.W.Frag) (tg : Expr) (J : It) (fp : List Addr) (it : Addr) (tn : Nat → Heap → Prop) : Prop where
  mem : it ∈ fp
  obj : ∀ i h, tn i h → ∀ b ∈ fp, ∃ o, h.get? b = some o ∧ ∀ v, o.data ≠ .cell v
  keep : ∀ i h h', tn i h → (∀ b ∈ fp, ∀ o, h.get? b = some o → h'.get? b = some o) → tn i h'
  item : ∀ (X : Cx), X.prog = P → X.w = w → X.K = K → X.calm = true → ∀ (i : Nat) (pins : List (Addr × Obj)) (s : Shared) (σ : St) (H : Hp) (E : Value → Shared → Prop), Inv X pins σ H s → (∀ b ∈ fp, FpOk X pins H b) → tn i s.heap → J.go i H →
    wpAny (model P w) X.A (pyNext (.ref it)) (fun r s1 => ∃ u, r = some u ∧
      wpAny (model P w) X.A (letOwnedTupleGo tg (.ref it) u) (fun _ s2 => ∃ x H', Inv X pins σ H' s2 ∧ RelV x u ∧ J.yld i H x H' ∧ tn (i + 1) s2.heap ∧ ∀ b ∈ fp, H' b = none) E s1) E s
  done : ∀ (X : Cx), X.prog = P → X.w = w → X.K = K → X.calm = true → ∀ (i : Nat) (pins : List (Addr × Obj)) (s : Shared) (σ : St) (H : Hp) (E : Value → Shared → Prop), Inv X pins σ H s → (∀ b ∈ fp, FpOk X pins H b) → tn i s.heap → J.stop i H →
    wpAny (model P w) X.A (pyNext (.ref it)) (fun r s1 => r = none ∧ Inv X pins σ H s1) E s
  self : ∀ (A : Around) (i : Nat) (s : Shared) (Q : Value → Shared → Prop) (E : Value → Shared → Prop), tn i s.heap → Q (.ref it) s → wpAny (model P w) A (pyIter (.ref it)) Q E s
abbrev TI := St → Hp → (It → Hp → Prop) → Prop
def PIE (X : Cx) (pins : List (Addr × Obj)) (σ : St) (tg : Expr) (R : It → Hp → Prop) (itv : Value) (s2 : Shared) : Prop :=
  ∃ (it : Addr) (fp : List Addr) (tn : Nat → Heap → Prop) (J : It) (H' : Hp), itv = .ref it ∧ Inv X pins σ H' s2 ∧ Turn X.prog X.w X.K tg J fp it tn ∧ tn 0 s2.heap ∧ (∀ b ∈ fp, FpOk X pins H' b) ∧ R J H'
def PI (X : Cx) (tg iter : Expr) (wi : TI) : Prop :=
  ∀ (pins : List (Addr × Obj)) (s : Shared) (σ : St) (H : Hp) (R : It → Hp → Prop), Inv X pins σ H s → wi σ H R →
    wpAny (model X.prog X.w) X.A (eval iter X.env) (fun v s1 => wpAny (model X.prog X.w) X.A (pyIter v) (PIE X pins σ tg R) X.xe s1) X.xe s

theorem go_of {M : Model} {A : Around} {E : Value → Shared → Prop} {s : Shared} {tg : Expr} {it : Addr} {u : Value} {o : Obj} {n : String} {vs : Array Value} {Q : Unit → Shared → Prop} (ho : s.heap.get? it = some o) (hc : o.cls = .type n) (hd : o.data = .fields vs)
    (hn : ["enumerate", "zip", "dict_itemiterator", "dict_reverseitemiterator", "odict_iterator", "itertools.zip_longest", "itertools.pairwise"].contains n = false) (hQ : Q () s) : wpAny M A (letOwnedTupleGo tg (.ref it) u) Q E s := by
  unfold letOwnedTupleGo
  cases tg <;> first
    | exact wpAny_pure hQ
    | (cases u <;> first
        | exact wpAny_pure hQ
        | (refine wpAny_bind (wpAny_load ho ?_)
           rw [hc, hd]
           show wpAny M A (if (["enumerate", "zip", "dict_itemiterator", "dict_reverseitemiterator", "odict_iterator", "itertools.zip_longest", "itertools.pairwise"].contains n && vs[0]? == some (rawInt _)) = true then _ else _) Q E s
           rw [if_neg (by intro h; rw [hn, Bool.false_and] at h; cases h)]
           exact wpAny_pure hQ))

def Itl (K : PySem.W.Frag) (a : Addr) : It :=
  ⟨fun i H => ∃ xs x, SqL K H a xs ∧ xs[i]? = some x, fun i H x H' => H' = H ∧ ∀ xs, SqL K H a xs → xs[i]? = some x, fun i H => ∃ xs, SqL K H a xs ∧ xs.length ≤ i⟩
def Itt (K : PySem.W.Frag) (a : Addr) : It :=
  ⟨fun i H => ∃ xs x, SqT K H a xs ∧ xs[i]? = some x, fun i H x H' => H' = H ∧ ∀ xs, SqT K H a xs → xs[i]? = some x, fun i H => ∃ xs, SqT K H a xs ∧ xs.length ≤ i⟩
def Itr (lo : Int) (n : Nat) : It := ⟨fun i _ => i < n, fun i H x H' => H' = H ∧ x = .int (lo + i), fun i _ => n ≤ i⟩
theorem turn_list {P : Program} {w : World} {K : PySem.W.Frag} {tg : Expr} (a it : Addr) : Turn P w K tg (Itl K a) [it] it (fun i h => h.IsListIter it a i) where
  mem := by simp
  obj := fun i h st b hb => by
    have e : b = it := by simpa using hb
    subst e
    obtain ⟨o, e, c, d⟩ := st
    exact ⟨o, e, fun v z => by rw [d] at z; cases z⟩
  keep := fun i h h' st k => st.at fun o e => k it (by simp) o e
  item := by
    intro X hP hw hK hc i pins s σ H E I hf st hg
    subst hP hw hK
    obtain ⟨xs, x, hq, hx⟩ := hg
    obtain ⟨its, rv, p, hz⟩ := I.list hq
    obtain ⟨u, hu, ru⟩ := rv.get hx
    obtain ⟨f0, f1, f2, f3, f4, f5⟩ := hf it (by simp)
    refine wpAny_pyNext_list_item st p.isList (x := u) (by simpa using hu) fun h' st' sb => ?_
    have I1 : Inv X pins σ H { s with heap := h' } := I.turned (t' := s.toks) (fun b o hb e => (sb.2 b hb).trans e) f0 f1 f3 f4 f5
    obtain ⟨o, e, c, d⟩ := id st'
    exact ⟨u, rfl, go_of (s := { s with heap := h' }) e c d (by decide) ⟨x, H, I1, ru, ⟨rfl, fun ys hy => by rw [I.list_inj hy hq]; exact hx⟩, st', fun b hb => (hf b hb).1⟩⟩
  done := by
    intro X hP hw hK hc i pins s σ H E I hf st hg
    subst hP hw hK
    obtain ⟨xs, hq, hx⟩ := hg
    obtain ⟨its, rv, p, hz⟩ := I.list hq
    obtain ⟨f0, f1, f2, f3, f4, f5⟩ := hf it (by simp)
    have hl := rv.length
    exact wpAny_pyNext_list_end (I.ok.hd hc) st p.isList (by simp; (first | lia | omega)) fun h' eb => ⟨rfl, I.turned (t' := s.toks) (fun b o hb e => eb b o hb e) f0 f1 f3 f4 f5⟩
  self := fun _ _ _ _ _ st h => wpAny_pyIter_listiter st h
theorem turn_tuple {P : Program} {w : World} {K : PySem.W.Frag} {tg : Expr} (a it : Addr) : Turn P w K tg (Itt K a) [it] it (fun i h => h.IsTupleIter it a i) where
  mem := by simp
  obj := fun i h st b hb => by
    have e : b = it := by simpa using hb
    subst e
    obtain ⟨o, e, c, d⟩ := st
    exact ⟨o, e, fun v z => by rw [d] at z; cases z⟩
  keep := fun i h h' st k => st.at fun o e => k it (by simp) o e
  item := by
    intro X hP hw hK hc i pins s σ H E I hf st hg
    subst hP hw hK
    obtain ⟨xs, x, hq, hx⟩ := hg
    obtain ⟨its, rv, p, hz⟩ := I.tuple hq
    obtain ⟨u, hu, ru⟩ := rv.get hx
    obtain ⟨f0, f1, f2, f3, f4, f5⟩ := hf it (by simp)
    refine wpAny_pyNext_tuple_item st (show s.heap.IsTuple a its.toArray from p) (x := u) (by simpa using hu) fun h' st' sb => ?_
    have I1 : Inv X pins σ H { s with heap := h' } := I.turned (t' := s.toks) (fun b o hb e => (sb.2 b hb).trans e) f0 f1 f3 f4 f5
    obtain ⟨o, e, c, d⟩ := id st'
    exact ⟨u, rfl, go_of (s := { s with heap := h' }) e c d (by decide) ⟨x, H, I1, ru, ⟨rfl, fun ys hy => by rw [I.tuple_inj hy hq]; exact hx⟩, st', fun b hb => (hf b hb).1⟩⟩
  done := by
    intro X hP hw hK hc i pins s σ H E I hf st hg
    subst hP hw hK
    obtain ⟨xs, hq, hx⟩ := hg
    obtain ⟨its, rv, p, hz⟩ := I.tuple hq
    obtain ⟨f0, f1, f2, f3, f4, f5⟩ := hf it (by simp)
    have hl := rv.length
    exact wpAny_pyNext_tuple_end (I.ok.hd hc) st (show s.heap.IsTuple a its.toArray from p) (by simp; (first | lia | omega)) fun h' eb => ⟨rfl, I.turned (t' := s.toks) (fun b o hb e => eb b o hb e) f0 f1 f3 f4 f5⟩
  self := fun _ _ _ _ _ st h => wpAny_pyIter_tupleiter st h
theorem turn_range {P : Program} {w : World} {K : PySem.W.Frag} {tg : Expr} (it : Addr) (lo : Int) (n : Nat) : Turn P w K tg (Itr lo n) [it] it (fun i h => IsRangeIter h it (lo + (i : Nat) * 1) ((n : Int) - (i : Nat)) 1) where
  mem := by simp
  obj := fun i h st b hb => by
    have e : b = it := by simpa using hb
    subst e
    exact ⟨_, st, fun v z => by
      have z' : Data.fields _ = Data.cell v := z
      cases z'⟩
  keep := fun i h h' st k => k it (by simp) _ st
  item := by
    intro X hP hw hK hc i pins s σ H E I hf st hg
    subst hP hw hK
    obtain ⟨f0, f1, f2, f3, f4, f5⟩ := hf it (by simp)
    have W := Walks.range (prog := X.prog) (w := X.w) (I.ok.hd hc) it lo 1 n
    refine W.item i s _ _ hg st fun v h' tk hv st' kk => ?_
    obtain ⟨t, rfl⟩ := hv
    have I1 : Inv X pins σ H { s with heap := h', toks := tk } := I.turned (fun b o hb e => kk b o (by simpa using hb) e) f0 f1 f3 f4 f5
    refine ⟨_, rfl, go_of (s := { s with heap := h', toks := tk }) (n := "range_iterator") st' rfl rfl (by decide) ⟨.int (lo + i), H, I1, ⟨t, ?_⟩, ⟨rfl, rfl⟩, st', fun b hb => (hf b hb).1⟩⟩
    rw [Int.mul_one]
  done := by
    intro X hP hw hK hc i pins s σ H E I hf st hg
    subst hP hw hK
    obtain ⟨f0, f1, f2, f3, f4, f5⟩ := hf it (by simp)
    exact wpAny_pyNext_range_end (I.ok.hd hc) st (by have : n ≤ i := hg; (first | lia | omega)) fun h' eb => ⟨rfl, I.turned (t' := s.toks) (fun b o hb e => eb b o hb e) f0 f1 f3 f4 f5⟩
  self := fun _ _ _ _ _ st h => wpAny_pyIter_rangeiter st h
end L2

namespace L2
open PySem PySem.Spec PyProof.Rows
section
variable {X : Cx} {tg : Expr}
def iList (K : PySem.W.Frag) (tl : TE) : TI := fun σ H R => tl σ H fun x H1 => ∃ a, x = .ref a ∧ (∃ xs, SqL K H1 a xs) ∧ R (Itl K a) H1
def iTup (K : PySem.W.Frag) (tl : TE) : TI := fun σ H R => tl σ H fun x H1 => ∃ a, x = .ref a ∧ (∃ xs, SqT K H1 a xs) ∧ R (Itt K a) H1
theorem pi_list {l : Expr} {tl : TE} (hl : PE X l tl) : PI X tg l (iList X.K tl) := by
  intro pins s σ H R I h
  refine thn (hl pins s σ H _ I h) fun v s1 ⟨x, H1, I1, r1, q1⟩ => ?_
  obtain ⟨a, e, ⟨xs, hq⟩, q⟩ := q1
  subst e
  cases r1
  obtain ⟨its, rv, p, hz⟩ := I1.list hq
  refine wpAny_pyIter_list p.isList ?_
  refine ⟨s1.heap.objs.size, [s1.heap.objs.size], _, _, H1, rfl, I1.kept (t' := s1.toks) fun b o e => Heap.get?_push_of_some _ e, turn_list a _, ⟨_, Heap.get?_push_size _ rfl, rfl, rfl⟩, fun b hb => ?_, q⟩
  have e : b = s1.heap.objs.size := by simpa using hb
  subst e
  exact I1.fpOk (Nat.le_refl _) (I1.hok.fresh (Nat.le_refl _))
theorem pi_tup {l : Expr} {tl : TE} (hl : PE X l tl) : PI X tg l (iTup X.K tl) := by
  intro pins s σ H R I h
  refine thn (hl pins s σ H _ I h) fun v s1 ⟨x, H1, I1, r1, q1⟩ => ?_
  obtain ⟨a, e, ⟨xs, hq⟩, q⟩ := q1
  subst e
  cases r1
  obtain ⟨its, rv, p, hz⟩ := I1.tuple hq
  refine wpAny_pyIter_tuple (show s1.heap.IsTuple a its.toArray from p) ?_
  refine ⟨s1.heap.objs.size, [s1.heap.objs.size], _, _, H1, rfl, I1.kept (t' := s1.toks) fun b o e => Heap.get?_push_of_some _ e, turn_tuple a _, ⟨_, Heap.get?_push_size _ rfl, rfl, rfl⟩, fun b hb => ?_, q⟩
  have e : b = s1.heap.objs.size := by simpa using hb
  subst e
  exact I1.fpOk (Nat.le_refl _) (I1.hok.fresh (Nat.le_refl _))
theorem range_it {pins : List (Addr × Obj)} {σ : St} {H : Hp} {s : Shared} {R : It → Hp → Prop} {E : Value → Shared → Prop} {lo hi : Int} {t u v : Tok} {tk : Nat} (I : Inv X pins σ H s) (h1 : -(2 ^ 62) ≤ lo) (h2 : lo < 2 ^ 62) (h3 : -(2 ^ 62) ≤ hi) (h4 : hi < 2 ^ 62)
    (q : R (Itr lo (hi - lo).toNat) H) : wpAny (model X.prog X.w) X.A (pyIter (.ref s.heap.objs.size)) (PIE X pins σ tg R) E { s with heap := s.heap.push { cls := .type "range", data := .fields #[.int lo t, .int hi u, .int 1 v] }, toks := tk } := by
  refine wpAny_pyIter_range (IsRange.new ..) (small_one h1 h2 h3 h4) ?_
  have I1 : Inv X pins σ H { s with heap := s.heap.push { cls := .type "range", data := .fields #[.int lo t, .int hi u, .int 1 v] }, toks := tk } := I.kept fun b o e => Heap.get?_push_of_some _ e
  refine ⟨(s.heap.push { cls := .type "range", data := .fields #[.int lo t, .int hi u, .int 1 v] }).objs.size, [(s.heap.push { cls := .type "range", data := .fields #[.int lo t, .int hi u, .int 1 v] }).objs.size], _, _, H, rfl,
    I1.kept (t' := tk) fun b o e => Heap.get?_push_of_some _ e, turn_range _ lo (hi - lo).toNat, ?_, fun b hb => ?_, q⟩
  · have e1 : lo + ((0 : Nat) : Int) * 1 = lo := by simp
    have e2 : (((hi - lo).toNat : Nat) : Int) - ((0 : Nat) : Int) = Builtin.Range.rangeSize lo hi 1 := by rw [rangeSize_one]; split <;> (first | lia | omega)
    show IsRangeIter _ _ (lo + ((0 : Nat) : Int) * 1) ((((hi - lo).toNat : Nat) : Int) - ((0 : Nat) : Int)) 1
    rw [e1, e2]
    exact Heap.get?_push_size _ rfl
  · have e : b = (s.heap.push { cls := .type "range", data := .fields #[.int lo t, .int hi u, .int 1 v] }).objs.size := by simpa using hb
    subst e
    exact I1.fpOk (Nat.le_refl _) (I1.hok.fresh (Nat.le_refl _))
def iRng1 (ta : TA) : TI := fun σ H R => ta σ H fun vs H1 => ∃ j : Int, vs = [.int j] ∧ -(2 ^ 62) ≤ j ∧ j < 2 ^ 62 ∧ R (Itr 0 j.toNat) H1
theorem pi_range1 {a : Expr} {ta : TA} {p pos : Pos} (hg : Gl X "range") (hm : X.mg "range" = none) (ha : PA X [a] ta) (hs : starEach [a] X.env = [(false, eval a X.env)] := by rfl) : PI X tg (.Call (.Name "range" p) [a] [] pos) (iRng1 ta) := by
  intro pins s σ H R I h
  refine Call_ (ld_blt I hg hm boot_range (PyProof.Rows.callWith_type1 (thn (ha pos pins s σ H _ I h) fun us s1 ⟨vs, H1, I1, r1, q1⟩ => ?_) hs rfl))
  obtain ⟨j, e, q1, q2, q⟩ := q1
  subst e
  cases r1 with
  | cons r rr =>
    cases rr
    obtain ⟨t, rfl⟩ := r
    exact call_range_1 (range_it I1 (by (first | lia | omega)) (by (first | lia | omega)) q1 q2 (by simpa using q))
def tFor (wi : TI) (g : TG) (tb : TS) : TS := fun D σ H => wi σ H fun J H1 => ∃ W : Nat → Nat → St → Hp → Prop, (∃ m, W 0 m σ H1) ∧ ∀ i m σ H, W i m σ H →
  (J.stop i H ∧ D.nx σ H) ∨ (J.go i H ∧ ∃ N : St → Hp → Prop, (∀ σ' H', N σ' H' → ∃ m', m' < m ∧ W (i + 1) m' σ' H') ∧ ∀ x H', J.yld i H x H' → g x σ H' fun σ2 H2 => tb { D with nx := N, ct := N, bk := D.nx } σ2 H2)
def pinsAt (fp : List Addr) (h : Heap) : List (Addr × Obj) := fp.filterMap fun b => (h.get? b).map fun o => (b, o)
theorem mem_pinsAt {fp : List Addr} {h : Heap} {b : Addr} {o : Obj} (hb : b ∈ fp) (e : h.get? b = some o) : (b, o) ∈ pinsAt fp h := List.mem_filterMap.mpr ⟨b, hb, by rw [e]; rfl⟩
theorem of_pinsAt {fp : List Addr} {h : Heap} {p : Addr × Obj} (hp : p ∈ pinsAt fp h) : p.1 ∈ fp ∧ h.get? p.1 = some p.2 := by
  obtain ⟨b, hb, e⟩ := List.mem_filterMap.mp hp
  cases q : h.get? b with
  | none => rw [q] at e; cases e
  | some o =>
    rw [q] at e
    have e' : (b, o) = p := Option.some.inj e
    subst e'
    exact ⟨hb, q⟩
theorem Inv.pinned {pins : List (Addr × Obj)} {σ : St} {H : Hp} {s : Shared} {fp : List Addr} (I : Inv X pins σ H s) (hf : ∀ b ∈ fp, FpOk X pins H b) (ho : ∀ b ∈ fp, ∃ o, s.heap.get? b = some o ∧ ∀ v, o.data ≠ .cell v) : Inv X (pins ++ pinsAt fp s.heap) σ H s :=
  I.pins_of fun p hp => (List.mem_append.mp hp).elim (fun z => I.pin p (List.mem_append_right _ z)) fun z => by
    obtain ⟨hb, e⟩ := of_pinsAt z
    obtain ⟨f0, f1, f2, _⟩ := hf p.1 hb
    obtain ⟨o, e', d⟩ := ho p.1 hb
    rw [e] at e'; cases e'
    exact ⟨e, f0, f1, f2, d⟩
theorem Inv.unpinned {pins pl : List (Addr × Obj)} {σ : St} {H : Hp} {s : Shared} (I : Inv X (pins ++ pl) σ H s) : Inv X pins σ H s := I.pins_of fun p hp => I.pin p (List.mem_append_right _ (List.mem_append_left _ hp))
theorem ps_for {iter : Expr} {body : List Stmt} {wi : TI} {g : TG} {tb : TS} {pos : Pos} (hp : PassesOwn (model X.prog X.w) X.A X.env X.xe) (hc : X.calm = true) (hi : PI X tg iter wi) (hg : PG X tg g) (hb : PSs X body tb)
    (hs : ∀ x, foldedSetIterable iter X.env x = pure x := by intro _; rfl) : PS X (.For tg iter body [] pos) (tFor wi g tb) := by
  intro pins s σ H D I h
  refine wpAny_For (thn (hi pins s σ H _ I h) fun v s1 h1 => thn h1 fun itv s2 h2 => ?_) hs
  obtain ⟨it, fp, tn, J, H2, e, I2, T, st2, f2, W, ⟨m0, w0⟩, turn⟩ := h2
  subst e
  -- what stays true of the iterator's objects through the loop
  have stat : ∀ {H' : Hp}, (∀ b ∈ fp, H' b = none) → ∀ b ∈ fp, FpOk X pins H' b := fun hn b hb => ⟨hn b hb, (f2 b hb).2⟩
  refine codeAny_forLoop_any (fun n s' => ∃ i σ' H', Inv X pins σ' H' s' ∧ tn i s'.heap ∧ (∀ b ∈ fp, H' b = none) ∧ W i n σ' H') ?_ m0 ⟨0, σ, H2, I2, st2, fun b hb => (f2 b hb).1, w0⟩
  rintro n s3 ⟨i, σ3, H3, I3, st3, fr3, w3⟩
  rcases turn i n σ3 H3 w3 with ⟨stop, qn⟩ | ⟨go, N, hN, step⟩
  · refine wpAny_passesOwn hp (thn (T.done X rfl rfl rfl hc i pins s3 σ3 H3 X.xe I3 (stat fr3) st3 stop) fun r s4 ⟨hr, I4⟩ => ?_)
    subst hr
    exact wpAny_execs_nil ⟨σ3, H3, I4, qn⟩
  · refine wpAny_passesOwn hp (thn (T.item X rfl rfl rfl hc i pins s3 σ3 H3 X.xe I3 (stat fr3) st3 go) fun r s4 ⟨u, hr, h4⟩ => ?_)
    subst hr
    refine wpAny_passesOwn hp (thn h4 fun _ s5 ⟨x, H5, I5, r5, y5, st5, fr5⟩ => ?_)
    have I5' := I5.pinned (stat fr5) (T.obj _ _ st5)
    refine wpAny_passesOwn hp (thn (hg _ s5 σ3 H5 x u _ I5' r5 (step x H5 y5)) fun _ s6 ⟨σ6, H6, I6, q6⟩ => ?_)
    refine wpAny_passesOwn hp (thn (hb _ s6 σ6 H6 _ I6 q6) fun f s7 q7 => ?_)
    have again : ∀ {σ7 : St} {H7 : Hp}, Inv X (pins ++ pinsAt fp s5.heap) σ7 H7 s7 → N σ7 H7 → ∃ m, m < n ∧ ∃ i σ' H', Inv X pins σ' H' s7 ∧ tn i s7.heap ∧ (∀ b ∈ fp, H' b = none) ∧ W i m σ' H' := fun {σ7 H7} I7 n7 => by
      obtain ⟨m', hm, w7⟩ := hN σ7 H7 n7
      refine ⟨m', hm, i + 1, σ7, H7, I7.unpinned, T.keep _ _ _ st5 fun b hb o e => (I7.pin (b, o) (List.mem_append_right _ (List.mem_append_right _ (mem_pinsAt hb e)))).1, fun b hb => ?_, w7⟩
      obtain ⟨o, e, d⟩ := T.obj _ _ st5 b hb
      exact (I7.pin (b, o) (List.mem_append_right _ (List.mem_append_right _ (mem_pinsAt hb e)))).2.1
    cases f with
    | next => obtain ⟨σ7, H7, I7, n7⟩ := q7; exact again I7 n7
    | cont => obtain ⟨σ7, H7, I7, n7⟩ := q7; exact again I7 n7
    | brk => obtain ⟨σ7, H7, I7, q7⟩ := q7; exact ⟨σ7, H7, I7.unpinned, q7⟩
    | ret v => obtain ⟨x7, σ7, H7, I7, r7, q7⟩ := q7; exact ⟨x7, σ7, H7, I7.unpinned, r7, q7⟩
end

theorem for_range {lo : Int} {n : Nat} {g : TG} {tb : TS} {D : Ends} {σ : St} {H : Hp} (Pv : Nat → St → Hp → Prop) (h0 : Pv 0 σ H)
    (hs : ∀ i σ H, i < n → Pv i σ H → g (.int (lo + i)) σ H fun σ2 H2 => tb { D with nx := Pv (i + 1), ct := Pv (i + 1), bk := D.nx } σ2 H2) (hd : ∀ σ H, Pv n σ H → D.nx σ H) :
    ∃ W : Nat → Nat → St → Hp → Prop, (∃ m, W 0 m σ H) ∧ ∀ i m σ H, W i m σ H →
      ((Itr lo n).stop i H ∧ D.nx σ H) ∨ ((Itr lo n).go i H ∧ ∃ N : St → Hp → Prop, (∀ σ' H', N σ' H' → ∃ m', m' < m ∧ W (i + 1) m' σ' H') ∧ ∀ x H', (Itr lo n).yld i H x H' → g x σ H' fun σ2 H2 => tb { D with nx := N, ct := N, bk := D.nx } σ2 H2) := by
  refine ⟨fun i m σ H => m = n - i ∧ i ≤ n ∧ Pv i σ H, ⟨n, by simp, Nat.zero_le _, h0⟩, ?_⟩
  rintro i m σ H ⟨rfl, hi, p⟩
  by_cases hlt : i < n
  · refine .inr ⟨hlt, Pv (i + 1), fun σ' H' p' => ⟨n - (i + 1), by (first | lia | omega), rfl, hlt, p'⟩, fun x H' y => ?_⟩
    obtain ⟨e, y⟩ := y
    subst e y
    exact hs i σ _ hlt p
  · have e : i = n := by (first | lia | omega)
    subst e
    exact .inl ⟨Nat.le_refl _, hd σ H p⟩
end L2

namespace L2
open PySem PySem.Spec PyProof.Rows

abbrev R2 := V → V → Hp → VK → Prop
def OpR (X : Cx) (f : Value → Value → Sem Value) (r : R2) : Prop :=
  ∀ (pins : List (Addr × Obj)) (s : Shared) (σ : St) (H : Hp) (x y : V) (v u : Value) (Q : VK), Inv X pins σ H s → RelV x v → RelV y u → r x y H Q →
    wpAny (model X.prog X.w) X.A (f v u) (EP X pins σ Q) X.xe s
def UnR (X : Cx) (f : Value → Sem Value) (r : V → Hp → VK → Prop) : Prop :=
  ∀ (pins : List (Addr × Obj)) (s : Shared) (σ : St) (H : Hp) (x : V) (v : Value) (Q : VK), Inv X pins σ H s → RelV x v → r x H Q →
    wpAny (model X.prog X.w) X.A (f v) (EP X pins σ Q) X.xe s
def CallR (X : Cx) (f : Value) (r : List V → Hp → VK → Prop) : Prop :=
  ∀ (pins : List (Addr × Obj)) (s : Shared) (σ : St) (H : Hp) (xs : List V) (us : List Value) (Q : VK), Inv X pins σ H s → Vals xs us → r xs H Q →
    wpAny (model X.prog X.w) X.A (call f us) (EP X pins σ Q) X.xe s
def tOp (r : R2) (ta tb : TE) : TE := fun σ H Q => ta σ H fun x H1 => tb σ H1 fun y H2 => r x y H2 Q
def tUn (r : V → Hp → VK → Prop) (ta : TE) : TE := fun σ H Q => ta σ H fun x H1 => r x H1 Q
def rI (C : Int → Int → Prop) (g : Int → Int → V) : R2 := fun x y H Q => ∃ i j, x = .int i ∧ y = .int j ∧ C i j ∧ Q (g i j) H
def rI0 (g : Int → Int → V) : R2 := fun x y H Q => ∃ i j, x = .int i ∧ y = .int j ∧ Q (g i j) H
def rU (g : Int → V) : V → Hp → VK → Prop := fun x H Q => ∃ i, x = .int i ∧ Q (g i) H

section
variable {X : Cx} {a b c : Expr} {ta tb tc : TE} {pos : Pos}

theorem binT (ha : PE X a ta) (hb : PE X b tb) {pins : List (Addr × Obj)} {s : Shared} {σ : St} {H : Hp} {R : V → V → Hp → Prop} (I : Inv X pins σ H s)
    (h : ta σ H fun x H1 => tb σ H1 fun y H2 => R x y H2) {Q : Value → Shared → Prop} {f : Value → Value → Sem Value}
    (hf : ∀ v u s2 x y H2, Inv X pins σ H2 s2 → RelV x v → RelV y u → R x y H2 → wpAny (model X.prog X.w) X.A (f v u) Q X.xe s2) :
    wpAny (model X.prog X.w) X.A (eval a X.env) (fun v s₁ => wpAny (model X.prog X.w) X.A (eval b X.env) (fun u s₂ => wpAny (model X.prog X.w) X.A (f v u) Q X.xe s₂) X.xe s₁) X.xe s := by
  refine thn (ha pins s σ H _ I h) fun v s1 ⟨x, H1, I1, r1, q1⟩ => ?_
  refine thn (hb pins s1 σ H1 _ I1 q1) fun u s2 ⟨y, H2, I2, r2, q2⟩ => ?_
  exact hf v u s2 x y H2 I2 r1 r2 q2

theorem pe_op {op : Operator} {r : R2} (ho : OpR X (binaryOp op) r) (ha : PE X a ta) (hb : PE X b tb) : PE X (.BinOp a op b pos) (tOp r ta tb) := by
  intro pins s σ H Q I h
  exact wpAny_BinOp (binT ha hb I h fun v u s2 x y H2 I2 rx ry q => ho pins s2 σ H2 x y v u Q I2 rx ry q)
theorem pe_un {op : UnaryOp} {r : V → Hp → VK → Prop} (ho : UnR X (unaryOp op) r) (ha : PE X a ta) : PE X (.UnaryOp op a pos) (tUn r ta) := by
  intro pins s σ H Q I h
  exact UnaryOp_ (thn (ha pins s σ H _ I h) fun v s1 ⟨x, H1, I1, r1, q1⟩ => ho pins s1 σ H1 x v Q I1 r1 q1)
theorem opI {f : Value → Value → Sem Value} {C : Int → Int → Prop} {g : Int → Int → Int}
    (rule : ∀ (i j : Int) (t u : Tok) (s : Shared) (Q : Value → Shared → Prop) (E : Value → Shared → Prop), C i j → Q (.int (g i j) s.toks) { s with toks := s.toks + 1 } → wpAny (model X.prog X.w) X.A (f (.int i t) (.int j u)) Q E s) :
    OpR X f (rI C fun i j => .int (g i j)) := by
  intro pins s σ H x y v u Q I rx ry h
  obtain ⟨i, j, rfl, rfl, hc, q⟩ := h
  obtain ⟨t, rfl⟩ := rx
  obtain ⟨t', rfl⟩ := ry
  exact rule i j t t' s _ _ hc ⟨.int (g i j), H, I.tok _, ⟨_, rfl⟩, q⟩
theorem opI0 {f : Value → Value → Sem Value} {g : Int → Int → Int}
    (rule : ∀ (i j : Int) (t u : Tok) (s : Shared) (Q : Value → Shared → Prop) (E : Value → Shared → Prop), Q (.int (g i j) s.toks) { s with toks := s.toks + 1 } → wpAny (model X.prog X.w) X.A (f (.int i t) (.int j u)) Q E s) :
    OpR X f (rI0 fun i j => .int (g i j)) := by
  intro pins s σ H x y v u Q I rx ry h
  obtain ⟨i, j, rfl, rfl, q⟩ := h
  obtain ⟨t, rfl⟩ := rx
  obtain ⟨t', rfl⟩ := ry
  exact rule i j t t' s _ _ ⟨.int (g i j), H, I.tok _, ⟨_, rfl⟩, q⟩
theorem opB0 {f : Value → Value → Sem Value} {g : Int → Int → Bool}
    (rule : ∀ (i j : Int) (t u : Tok) (s : Shared) (Q : Value → Shared → Prop) (E : Value → Shared → Prop), Q (.bool (g i j)) s → wpAny (model X.prog X.w) X.A (f (.int i t) (.int j u)) Q E s) :
    OpR X f (rI0 fun i j => .bl (g i j)) := by
  intro pins s σ H x y v u Q I rx ry h
  obtain ⟨i, j, rfl, rfl, q⟩ := h
  obtain ⟨t, rfl⟩ := rx
  obtain ⟨t', rfl⟩ := ry
  exact rule i j t t' s _ _ ⟨.bl (g i j), H, I, rfl, q⟩

def CDiv (i j : Int) : Prop := 0 < j ∧ j < 1073741824
def CPow (i j : Int) : Prop := 0 ≤ j ∧ j ≤ 1000000 ∧ i.natAbs < 2 ^ 64
def CMul (i j : Int) : Prop := (-(2 ^ 64) < i ∧ i < 2 ^ 64) ∨ (-(2 ^ 64) < j ∧ j < 2 ^ 64)
theorem CMul.ok {i j : Int} (h : CMul i j) : IntMulOk i j := by
  rcases h with ⟨h1, h2⟩ | ⟨h1, h2⟩
  · exact .of_left (intBits_le_64 h1 h2)
  · exact .of_right (intBits_le_64 h1 h2)
theorem op_add : OpR X (binaryOp .Add) (rI0 fun i j => .int (i + j)) := opI0 fun _ _ _ _ _ _ _ q => add_int q
theorem op_sub : OpR X (binaryOp .Sub) (rI0 fun i j => .int (i - j)) := opI0 fun _ _ _ _ _ _ _ q => sub_int q
theorem op_mul : OpR X (binaryOp .Mult) (rI CMul fun i j => .int (i * j)) := opI fun _ _ _ _ _ _ _ hc q => mul_int q hc.ok
theorem op_fdiv : OpR X (binaryOp .FloorDiv) (rI CDiv fun i j => .int (i / j)) := opI fun i j _ _ _ _ _ hc q => by
  have h1 : (0 : Int) < j := hc.1
  have h2 : j < 1073741824 := hc.2
  exact floordiv_int (by (first | lia | omega)) (by rw [Int.fdiv_eq_ediv_of_nonneg i (by (first | lia | omega))]; exact q) (.inl (PyProof.noPylong_small (by (first | lia | omega))))
theorem op_mod : OpR X (binaryOp .Mod) (rI (fun _ j => 0 < j) fun i j => .int (i % j)) := opI fun i j _ _ _ _ _ hc q => by
  have h1 : (0 : Int) < j := hc
  exact mod_int' (by (first | lia | omega)) (by rw [Int.fmod_eq_emod_of_nonneg i (by (first | lia | omega))]; exact q)
theorem op_pow : OpR X (binaryOp .Pow) (rI CPow fun i j => .int (i ^ j.toNat)) := opI fun _ _ _ _ _ _ _ hc q => pow_int_small hc.1 hc.2.1 hc.2.2 q
theorem iop_fdiv : OpR X (inplaceOp .FloorDiv) (rI CDiv fun i j => .int (i / j)) := opI fun i j _ _ _ _ _ hc q => by
  have h1 : (0 : Int) < j := hc.1
  have h2 : j < 1073741824 := hc.2
  exact ifloordiv_int (by (first | lia | omega)) (by rw [Int.fdiv_eq_ediv_of_nonneg i (by (first | lia | omega))]; exact q) (.inl (PyProof.noPylong_small (by (first | lia | omega))))
theorem unI {f : Value → Sem Value} {g : Int → Int}
    (rule : ∀ (i : Int) (t : Tok) (s : Shared) (Q : Value → Shared → Prop) (E : Value → Shared → Prop), Q (.int (g i) s.toks) { s with toks := s.toks + 1 } → wpAny (model X.prog X.w) X.A (f (.int i t)) Q E s) :
    UnR X f (rU fun i => .int (g i)) := by
  intro pins s σ H x v Q I rx h
  obtain ⟨i, rfl, q⟩ := h
  obtain ⟨t, rfl⟩ := rx
  exact rule i t s _ _ ⟨.int (g i), H, I.tok _, ⟨_, rfl⟩, q⟩
theorem un_neg : UnR X (unaryOp .USub) (rU fun i => .int (-i)) := unI fun _ _ _ _ _ q => neg_int q
end

def scal : V → V → Bool
  | .non, .non => true | .non, .int _ => true | .int _, .non => true | .non, .bl _ => true | .bl _, .non => true | .non, .str _ => true | .str _, .non => true
  | .int _, .int _ => true | .bl _, .bl _ => true | .str _, .str _ => true | .byt _, .byt _ => true
  | .int _, .str _ => true | .str _, .int _ => true | .bl _, .str _ => true | .str _, .bl _ => true
  | _, _ => false
def rEq : R2 := fun x y H Q => scal x y = true ∧ Q (.bl (decide (x = y))) H
def rNe : R2 := fun x y H Q => scal x y = true ∧ Q (.bl (!decide (x = y))) H

theorem dec_int {i j : Int} : decide (V.int i = V.int j) = (i == j) := by
  rw [Bool.eq_iff_iff]
  simp
theorem dec_bl {i j : Bool} : decide (V.bl i = V.bl j) = (i == j) := by
  rw [Bool.eq_iff_iff]
  simp
theorem dec_str {i j : Str} : decide (V.str i = V.str j) = (i == j) := by
  rw [Bool.eq_iff_iff]
  simp
theorem dec_byt {i j : Array UInt8} : decide (V.byt i = V.byt j) = (i.toList == j.toList) := by
  rw [Bool.eq_iff_iff]
  cases i
  cases j
  simp

section
variable {X : Cx} {a b c : Expr} {ta tb tc : TE} {pos : Pos}
theorem fin_bl {pins : List (Addr × Obj)} {σ : St} {H : Hp} {s : Shared} {Q : VK} {k k' : Bool} (I : Inv X pins σ H s) (q : Q (.bl k) H) (e : k = k') : EP X pins σ Q (.bool k') s := by
  subst e
  exact ⟨.bl k, H, I, rfl, q⟩
theorem op_eq : OpR X (compareOp .Eq) rEq := by
  intro pins s σ H x y v u Q I rx ry h
  obtain ⟨hs, q⟩ := h
  cases x with
  | non =>
    cases rx
    cases y with
    | non => cases ry; exact PySem.EqNone.eq_none_none (fin_bl I q (by simp))
    | bl j => cases ry; exact PySem.EqNone.eq_none_bool (fin_bl I q (by simp))
    | int j => obtain ⟨t', rfl⟩ := ry; exact PySem.EqNone.eq_none_int (fin_bl I q (by simp))
    | str j => obtain ⟨t', rfl⟩ := ry; exact PySem.EqNone.eq_none_str (fin_bl I q (by simp))
    | _ => exact absurd (show false = true from hs) Bool.false_ne_true
  | bl i =>
    cases rx
    cases y with
    | non => cases ry; exact PySem.EqNone.eq_bool_none (fin_bl I q (by simp))
    | bl j => cases ry; exact eq_bool (fin_bl I q dec_bl)
    | str j => obtain ⟨t', rfl⟩ := ry; exact PySem.EqMixed.eq_bool_str (fin_bl I q (by simp))
    | _ => exact absurd (show false = true from hs) Bool.false_ne_true
  | int i =>
    obtain ⟨t, rfl⟩ := rx
    cases y with
    | non => cases ry; exact PySem.EqNone.eq_int_none (fin_bl I q (by simp))
    | int j => obtain ⟨t', rfl⟩ := ry; exact eq_int (fin_bl I q dec_int)
    | str j => obtain ⟨t', rfl⟩ := ry; exact PySem.EqMixed.eq_int_str (fin_bl I q (by simp))
    | _ => exact absurd (show false = true from hs) Bool.false_ne_true
  | str i =>
    obtain ⟨t, rfl⟩ := rx
    cases y with
    | non => cases ry; exact PySem.EqNone.eq_str_none (fin_bl I q (by simp))
    | bl j => cases ry; exact PySem.EqMixed.eq_str_bool (fin_bl I q (by simp))
    | int j => obtain ⟨t', rfl⟩ := ry; exact PySem.EqMixed.eq_str_int (fin_bl I q (by simp))
    | str j => obtain ⟨t', rfl⟩ := ry; exact eq_str (fin_bl I q dec_str)
    | _ => exact absurd (show false = true from hs) Bool.false_ne_true
  | byt i =>
    obtain ⟨t, rfl⟩ := rx
    cases y with
    | byt j => obtain ⟨t', rfl⟩ := ry; exact PySem.W.eq_bytes (fin_bl I q dec_byt)
    | _ => exact absurd (show false = true from hs) Bool.false_ne_true
  | _ => cases y <;> exact absurd (show false = true from hs) Bool.false_ne_true
theorem op_ne : OpR X (compareOp .NotEq) rNe := by
  intro pins s σ H x y v u Q I rx ry h
  obtain ⟨hs, q⟩ := h
  cases x with
  | non =>
    cases rx
    cases y with
    | non => cases ry; exact PySem.EqNone.ne_none_none (fin_bl I q (by simp))
    | bl j => cases ry; exact PySem.EqNone.ne_none_bool (fin_bl I q (by simp))
    | int j => obtain ⟨t', rfl⟩ := ry; exact PySem.EqNone.ne_none_int (fin_bl I q (by simp))
    | str j => obtain ⟨t', rfl⟩ := ry; exact PySem.EqNone.ne_none_str (fin_bl I q (by simp))
    | _ => exact absurd (show false = true from hs) Bool.false_ne_true
  | bl i =>
    cases rx
    cases y with
    | non => cases ry; exact PySem.EqNone.ne_bool_none (fin_bl I q (by simp))
    | bl j => cases ry; exact ne_bool (fin_bl I q (congrArg not dec_bl))
    | str j => obtain ⟨t', rfl⟩ := ry; exact PySem.EqMixed.ne_bool_str (fin_bl I q (by simp))
    | _ => exact absurd (show false = true from hs) Bool.false_ne_true
  | int i =>
    obtain ⟨t, rfl⟩ := rx
    cases y with
    | non => cases ry; exact PySem.EqNone.ne_int_none (fin_bl I q (by simp))
    | int j => obtain ⟨t', rfl⟩ := ry; exact ne_int (fin_bl I q (congrArg not dec_int))
    | str j => obtain ⟨t', rfl⟩ := ry; exact PySem.EqMixed.ne_int_str (fin_bl I q (by simp))
    | _ => exact absurd (show false = true from hs) Bool.false_ne_true
  | str i =>
    obtain ⟨t, rfl⟩ := rx
    cases y with
    | non => cases ry; exact PySem.EqNone.ne_str_none (fin_bl I q (by simp))
    | bl j => cases ry; exact PySem.EqMixed.ne_str_bool (fin_bl I q (by simp))
    | int j => obtain ⟨t', rfl⟩ := ry; exact PySem.EqMixed.ne_str_int (fin_bl I q (by simp))
    | str j => obtain ⟨t', rfl⟩ := ry; exact ne_str (fin_bl I q (congrArg not dec_str))
    | _ => exact absurd (show false = true from hs) Bool.false_ne_true
  | byt i =>
    obtain ⟨t, rfl⟩ := rx
    cases y with
    | byt j => obtain ⟨t', rfl⟩ := ry; exact PySem.W.ne_bytes (fin_bl I q (congrArg not dec_byt))
    | _ => exact absurd (show false = true from hs) Bool.false_ne_true
  | _ => cases y <;> exact absurd (show false = true from hs) Bool.false_ne_true

theorem op_lt : OpR X (compareOp .Lt) (rI0 fun i j => .bl (decide (i < j))) := opB0 fun _ _ _ _ _ _ _ q => lt_int q
theorem op_le : OpR X (compareOp .LtE) (rI0 fun i j => .bl (decide (i ≤ j))) := opB0 fun _ _ _ _ _ _ _ q => le_int q
theorem op_gt : OpR X (compareOp .Gt) (rI0 fun i j => .bl (decide (j < i))) := opB0 fun _ _ _ _ _ _ _ q => gt_int q
theorem op_ge : OpR X (compareOp .GtE) (rI0 fun i j => .bl (decide (j ≤ i))) := opB0 fun _ _ _ _ _ _ _ q => ge_int q
theorem nomark (b : Expr) {op : CmpOp} (h : op ≠ .In := by decide) (h2 : op ≠ .NotIn := by decide) : behindInMarks op b = false := by
  have e1 : (op == CmpOp.In) = false := by cases op <;> first | rfl | exact absurd rfl h
  have e2 : (op == CmpOp.NotIn) = false := by cases op <;> first | rfl | exact absurd rfl h2
  cases b <;> simp [behindInMarks, e1, e2]
theorem pe_cmpR {op : CmpOp} {r : R2} (ho : OpR X (compareOp op) r) (ha : PE X a ta) (hb : PE X b tb) (hm : behindInMarks op b = false) : PE X (.Compare a [op] [b] pos) (tOp r ta tb) := by
  intro pins s σ H Q I h
  exact wpAny_Compare1 (binT ha hb I h fun v u s2 x y H2 I2 rx ry q => ho pins s2 σ H2 x y v u Q I2 rx ry q) hm
def tTest (t : TE) : TT := fun σ H Q => t σ H fun x H' => ∃ k, x = .bl k ∧ Q k H'
theorem pt_cmpR {op : CmpOp} {r : R2} (ho : OpR X (compareOp op) r) (ha : PE X a ta) (hb : PE X b tb) (hm : behindInMarks op b = false) : PT X (.Compare a [op] [b] pos) (tTest (tOp r ta tb)) := by
  intro pins s σ H Q I h
  refine wpAny_isTrue_Compare1 (thn (ha pins s σ H _ I h) fun v s1 ⟨x, H1, I1, r1, q1⟩ => thn (hb pins s1 σ H1 _ I1 q1) fun u s2 ⟨y, H2, I2, r2, q2⟩ =>
    thn (ho pins s2 σ H2 x y v u _ I2 r1 r2 q2) fun c s3 ⟨z, H3, I3, r3, k, e, q3⟩ => ?_) hm
  subst e
  cases r3
  exact wpAny_truthy_bool ⟨H3, I3, q3⟩
def tChain (r r' : R2) (ta tb tc : TE) : TE := fun σ H Q => ta σ H fun x H1 => tb σ H1 fun y H2 => r x y H2 fun z H3 => ∃ k, z = .bl k ∧
  (if k = true then tc σ H3 fun w' H4 => r' y w' H4 Q else Q (.bl false) H3)
theorem pe_chain {op op' : CmpOp} {r r' : R2} (ho : OpR X (compareOp op) r) (ho' : OpR X (compareOp op') r') (ha : PE X a ta) (hb : PE X b tb) (hc : PE X c tc)
    (hm : lastMarks [op, op'] [b, c] = false := by with_unfolding_all rfl) : PE X (.Compare a [op, op'] [b, c] pos) (tChain r r' ta tb tc) := by
  intro pins s σ H Q I h
  refine Compare_chain (thn (ha pins s σ H _ I h) fun v s1 ⟨x, H1, I1, r1, q1⟩ => chain_link (thn (hb pins s1 σ H1 _ I1 q1) fun u s2 ⟨y, H2, I2, r2, q2⟩ =>
    thn (ho pins s2 σ H2 x y v u _ I2 r1 r2 q2) fun d s3 ⟨z, H3, I3, r3, k, e, q3⟩ => ?_)) hm
  subst e
  cases r3
  refine wpAny_truthy_bool ?_
  cases k with
  | false => exact ite_ff ⟨.bl false, H3, I3, rfl, q3⟩
  | true => exact ite_tt (chain_last (thn (hc pins s3 σ H3 _ I3 q3) fun w' s4 ⟨z', H4, I4, r4, q4⟩ => ho' pins s4 σ H4 y z' u w' Q I4 r2 r4 q4))
theorem pt_chain {op op' : CmpOp} {r r' : R2} (ho : OpR X (compareOp op) r) (ho' : OpR X (compareOp op') r') (ha : PE X a ta) (hb : PE X b tb) (hc : PE X c tc)
    (hm : lastMarks [op, op'] [b, c] = false := by with_unfolding_all rfl) : PT X (.Compare a [op, op'] [b, c] pos) (tTest (tChain r r' ta tb tc)) := by
  intro pins s σ H Q I h
  refine isTrue_chain (thn (ha pins s σ H _ I h) fun v s1 ⟨x, H1, I1, r1, q1⟩ => test_link (thn (hb pins s1 σ H1 _ I1 q1) fun u s2 ⟨y, H2, I2, r2, q2⟩ =>
    thn (ho pins s2 σ H2 x y v u _ I2 r1 r2 q2) fun d s3 ⟨z, H3, I3, r3, k, e, q3⟩ => ?_)) hm
  subst e
  cases r3
  refine wpAny_truthy_bool ?_
  cases k with
  | false =>
    obtain ⟨k', e', q'⟩ := q3
    cases e'
    exact ite_ff ⟨H3, I3, q'⟩
  | true =>
    refine ite_tt (test_last (thn (hc pins s3 σ H3 _ I3 q3) fun w' s4 ⟨z', H4, I4, r4, q4⟩ => thn (ho' pins s4 σ H4 y z' u w' _ I4 r2 r4 q4) fun d' s5 ⟨z2, H5, I5, r5, k2, e2, q5⟩ => ?_))
    subst e2
    cases r5
    exact wpAny_truthy_bool ⟨H5, I5, q5⟩

theorem line63 : (sizeLine : Nat) < 2 ^ 63 := by rw [sizeLine_eq]; decide
theorem vals1 {x : V} {us : List Value} (r : Vals [x] us) : ∃ u, us = [u] ∧ RelV x u := by
  cases r with
  | cons r1 r2 => cases r2; exact ⟨_, rfl, r1⟩
end
end L2

namespace L2
open PySem PySem.Spec PyProof.Rows

structure ObjM (h : Heap) (x dx C : Addr) (mA : Str → Option Value) : Prop where
  obj : h.get? x = some (PySem.W.instObj C dx)
  ns : h.Ns1 dx mA
  ne : dx ≠ x

theorem lookIn_ns {h : Heap} {dx : Addr} {mA : Str → Option Value} (n : h.Ns1 dx mA) : ∃ od, h.get? dx = some od ∧ ∀ name, PySem.W.lookIn name od = some (mA name) := by
  obtain ⟨o, es, ep, ho, hd, hk, _, hm⟩ := n
  refine ⟨o, ho, fun name => ?_⟩
  have e := hm name
  unfold nsFind findBy at e
  rw [← Array.find?_toList] at e
  unfold PySem.W.lookIn
  rw [hd]
  dsimp only
  split
  · rename_i y q
    rw [q] at e
    exact congrArg some e
  · rename_i q
    rw [q] at e
    have a : es.toList.any (·.refKey) = false := by
      rw [List.any_eq_false]
      intro y hy
      obtain ⟨z, t, hkey⟩ := hk y (Array.mem_toList_iff.mp hy)
      simp [DictEntry.refKey, hkey]
    have a' : ¬ es.toList.any (·.refKey) = true := by rw [a]; exact Bool.false_ne_true
    rw [if_neg a']
    exact congrArg some e

theorem ObjM.look {h : Heap} {x dx C : Addr} {mA : Str → Option Value} (I : ObjM h x dx C mA) : ∃ od, PySem.W.InstAt h x (PySem.W.instObj C dx) C (some od) ∧ ∀ name, PySem.W.lookIn name od = some (mA name) :=
  let ⟨od, ho, hl⟩ := lookIn_ns I.ns
  ⟨od, ⟨I.obj, rfl, rfl, ho⟩, hl⟩

section
variable {prog : Program} {w : World} {A : Around} {E : Value → Shared → Prop} {s : Shared} {K : PySem.W.Frag} {x dx C f : Addr} {mA : Str → Option Value} {name : Str} {v : Value}

end

section
variable {P : Program} {w : World} {H H' : Hp} {h h' : Heap} {a C dx : Addr} {fs fs' : List (Str × V)}
theorem ins_get (hok : HOk P w H h) (e : H a = some (.ins C dx fs)) : ∃ mA, ObjM h a dx C mA ∧ (∀ f, RelO (fs.lookup f) (mA f)) ∧ PySem.Within mA (fs.map (·.1)) ∧ fs.length ≤ 1000 ∧ H dx = some (.own a) := by
  obtain ⟨d, z, ne, ob, mA, n, r, q⟩ := (show ObjOk P w H h a (.ins C dx fs) from hok a _ e)
  exact ⟨mA, ⟨ob, n, ne⟩, r, q, z, d⟩
end

structure Cls (K : PySem.W.Frag) (C : Addr) : Prop where
  pg : PySem.W.plainGet K C Str.empty = true
  hd : PySem.W.hasDictIn K C = true
  po : PySem.W.plainOver K C = true
  sa : PySem.W.findIn K (.ref C) "__setattr__" = some (some (.builtin "object.__setattr__"))
theorem Cls.get {K : PySem.W.Frag} {C : Addr} (c : Cls K C) (f : Str) : PySem.W.plainGet K C f = true := c.pg
section
variable {X : Cx} {pins : List (Addr × Obj)} {σ : St} {H : Hp} {s : Shared} {a C dx : Addr} {fs : List (Str × V)} {f : Str} {v : V} {A : Around} {E : Value → Shared → Prop}

end

section
variable {X : Cx} {o e value : Expr} {f : Str} {pos pos' tpos : Pos} {ta tv : TE}
end

section
variable {X : Cx} {pins : List (Addr × Obj)} {σ : St} {H : Hp} {s : Shared} {A : Around} {E : Value → Shared → Prop} {Q : Value → Shared → Prop} {c : Value} {b : Bool}
inductive TyOf (K : PySem.W.Frag) (H : Hp) : V → Value → Prop where
  | non : TyOf K H .non (.type "NoneType")
  | bl (x : Bool) : TyOf K H (.bl x) (.type "bool")
  | int (i : Int) : TyOf K H (.int i) (.type "int")
  | str (x : Str) : TyOf K H (.str x) (.type "str")
  | flt (x : UInt64) : TyOf K H (.flt x) (.type "float")
  | lst {a : Addr} {xs : List V} (e : H a = some (.lst xs)) : TyOf K H (.ref a) (.type "list")
  | frz {a : Addr} {o : Obj} {xs : List V} (e : H a = some (.frz o (.lst xs))) : TyOf K H (.ref a) (.type "list")
  | tup {a : Addr} {xs : List V} (e : H a = some (.tup xs)) : TyOf K H (.ref a) (.type "tuple")
  | dK {a : Addr} {kvs : List (Key × V)} (e : H a = some (.dK kvs)) : TyOf K H (.ref a) (.type "dict")
  | dT {a : Addr} {kvs : List (List Key × V)} (e : H a = some (.dT kvs)) : TyOf K H (.ref a) (.type "dict")
  | ins {a C dx : Addr} {fs : List (Str × V)} (e : H a = some (.ins C dx fs)) (cl : Cls K C) (ha : PySem.W.findIn K (.ref C) "__class__" = some (some (.builtin "object.__class__")))
      (hn : PySem.W.specialIn K (.builtin "object.__class__") "__get__" = some (some (.builtin "getset_descriptor.__get__"))) (htk : PySem.W.takesIn K (.builtin "object.__class__") = some true)
      (hm : PySem.W.mroIn K C (.type "object") = some true) : TyOf K H (.ref a) (.ref C)
theorem isinst_ok {x : V} {u t : Value} (I : Inv X pins σ H s) (rx : RelV x u) (ty : TyOf X.K H x t) (e : PySem.W.kitOne X.K t c = some b) (h : ∀ tk, Q (.bool b) { s with toks := tk }) :
    wpAny (model X.prog X.w) A (call (.builtin "isinstance") [u, c]) Q E s := by
  cases ty with
  | non => cases (show u = Value.none from rx); exact PySem.W.kia_one PySem.W.kitx_none I.kIn True.intro e (fun z => nomatch z) h
  | bl y => cases (show u = Value.bool y from rx); exact PySem.W.kia_one PySem.W.kitx_bool I.kIn True.intro e (fun z => nomatch z) h
  | int i => obtain ⟨t, q⟩ := (show ∃ t, u = Value.int i t from rx); cases q; exact PySem.W.kia_one PySem.W.kitx_int I.kIn True.intro e (fun z => nomatch z) h
  | str y => obtain ⟨t, q⟩ := (show ∃ t, u = Value.str y t from rx); cases q; exact PySem.W.kia_one PySem.W.kitx_str I.kIn True.intro e (fun z => nomatch z) h
  | flt y => obtain ⟨t, q⟩ := (show ∃ t, u = Value.float y t from rx); cases q; exact PySem.W.kia_one PySem.W.kitx_float I.kIn True.intro e (fun z => nomatch z) h
  | @lst a xs ea =>
    cases (show u = Value.ref a from rx)
    obtain ⟨_, _, n, _, h1⟩ := (show ObjOk X.prog X.w H s.heap a (.lst xs) from I.hok a _ ea)
    exact PySem.W.kia_one PySem.W.kitx_list I.kIn ⟨_, h1, rfl⟩ e (fun z => nomatch z) h
  | @frz a ob xs ea =>
    cases (show u = Value.ref a from rx)
    obtain ⟨_, _, _, n, _, h1⟩ := (show ObjOk X.prog X.w H s.heap a (.frz ob (.lst xs)) from I.hok a _ ea)
    exact PySem.W.kia_one PySem.W.kitx_list I.kIn ⟨_, h1, rfl⟩ e (fun z => nomatch z) h
  | @tup a xs ea =>
    cases (show u = Value.ref a from rx)
    obtain ⟨_, _, _, p⟩ := (show ObjOk X.prog X.w H s.heap a (.tup xs) from I.hok a _ ea)
    obtain ⟨o, h1, h2, _⟩ := p
    exact PySem.W.kia_one PySem.W.kitx_tuple I.kIn ⟨o, h1, h2⟩ e (fun z => nomatch z) h
  | @dK a kvs ea =>
    cases (show u = Value.ref a from rx)
    obtain ⟨_, _, vs, _, p⟩ := (show ObjOk X.prog X.w H s.heap a (.dK kvs) from I.hok a _ ea)
    obtain ⟨o, es, ep, h1, h2, _⟩ := p
    exact PySem.W.kia_one PySem.W.kitx_dict I.kIn ⟨o, h1, h2.1⟩ e (fun z => nomatch z) h
  | @dT a kvs ea =>
    cases (show u = Value.ref a from rx)
    obtain ⟨_, _, xs, _, o, es, ep, h1, h2, _⟩ := (show ObjOk X.prog X.w H s.heap a (.dT kvs) from I.hok a _ ea)
    exact PySem.W.kia_one PySem.W.kitx_dict I.kIn ⟨o, h1, h2.1⟩ e (fun z => nomatch z) h
  | @ins a C dx fs ea cl ha hn htk hm =>
    cases (show u = Value.ref a from rx)
    obtain ⟨mA, O, _⟩ := ins_get I.hok ea
    obtain ⟨od, J, _⟩ := O.look
    exact PySem.W.kia_one (PySem.W.kitx_own (cl.get _) cl.hd ha hn htk hm) I.kIn J e (fun z => nomatch z) h
end
end L2

namespace L2
open PySem PySem.Spec PyProof.Rows

structure Room (k : Nat) (A : Around) : Prop where
  hd : A.handled = none
  dp : A.depth + 3 * k + 5 < recursionLimit
  un : A.units + 16 * k + 200 < cLine
  gd : A.guards = some []
theorem Room.mono {j k : Nat} {A : Around} (r : Room k A) (h : j ≤ k) : Room j A := ⟨r.hd, by have := r.dp; (first | lia | omega), by have := r.un; (first | lia | omega), r.gd⟩
theorem Room.deeper {k : Nat} {A : Around} (r : Room (k + 1) A) (env : Env) : Room k (A.deeper env) :=
  ⟨r.hd, by have := r.dp; show A.depth + 1 + 3 * k + 5 < _; (first | lia | omega), by have := r.un; show A.units + 3 + 16 * k + 200 < _; (first | lia | omega), r.gd⟩
theorem Room.depth {k : Nat} {A : Around} (r : Room k A) : A.depth < recursionLimit := by have := r.dp; (first | lia | omega)
theorem Room.units {k : Nat} {A : Around} (r : Room k A) : A.units + 64 < cLine := by have := r.un; (first | lia | omega)
def tNil : TA := fun _ H Q => Q [] H
def tCons (ta : TE) (tr : TA) : TA := fun σ H Q => ta σ H fun x H1 => tr σ H1 fun xs H2 => Q (x :: xs) H2
section
variable {X : Cx} {e : Expr} {es : List Expr} {te : TE} {t : TA} {pos : Pos}
theorem pa_nil : PA X [] tNil := fun _ _ _ _ H Q I h => Calls.spliced_nil ⟨[], H, I, .nil, h⟩
theorem pa_cons (ha : PE X e te) (hr : PA X es t) (hs : starEach (e :: es) X.env = (false, eval e X.env) :: starEach es X.env := by rfl) : PA X (e :: es) (tCons te t) := by
  intro pos pins s σ H Q I h
  rw [hs]
  show wpAny _ _ (spliced ((false, eval e X.env) :: backTo pos (starEach es X.env))) _ _ s
  refine Calls.spliced_cons (thn (ha pins s σ H _ I h) fun u s1 ⟨x, H1, I1, r1, q1⟩ => ?_)
  exact thn (hr pos pins s1 σ H1 _ I1 q1) fun us s2 ⟨xs, H2, I2, r2, q2⟩ => ⟨x :: xs, H2, I2, .cons r1 r2, q2⟩

def tTup (t : TA) : TE := fun σ H Q => t σ H fun xs H1 => xs.length ≤ sizeLine ∧ ∀ p, H1 p = none → Q (.ref p) (upd H1 p (.tup xs))
def tLst (t : TA) : TE := fun σ H Q => t σ H fun xs H1 => xs.length ≤ sizeLine ∧ ∀ p, H1 p = none → Q (.ref p) (upd H1 p (.lst xs))
theorem pe_tup {x1} (h : PA X es t) : PE X (.Tuple es x1 pos) (tTup t) := by
  intro pins s σ H Q I hq
  refine wpAny_Tuple_spliced (thn (h pos pins s σ H _ I hq) fun us s1 ⟨xs, H1, I1, r, z, q⟩ => ⟨by rw [← r.length]; exact z, ?_⟩)
  have hf : H1 s1.heap.objs.size = none := I1.hok.fresh (Nat.le_refl _)
  refine ⟨.ref s1.heap.objs.size, upd H1 s1.heap.objs.size (.tup xs), I1.laid (t' := s1.toks) (fun b u e => Heap.get?_push_of_some _ e) (Nat.le_refl _) ?_, rfl, q _ hf⟩
  exact ⟨z, us, r, ⟨_, Heap.get?_push_size _ rfl, rfl, _, rfl⟩⟩
theorem pe_lst (h : PA X es t) : PE X (.List es pos) (tLst t) := by
  intro pins s σ H Q I hq
  refine wpAny_List_spliced (thn (h pos pins s σ H _ I hq) fun us s1 ⟨xs, H1, I1, r, z, q⟩ => ⟨by rw [← r.length]; exact z, ?_⟩)
  have hf : H1 s1.heap.objs.size = none := I1.hok.fresh (Nat.le_refl _)
  refine ⟨.ref s1.heap.objs.size, upd H1 s1.heap.objs.size (.lst xs), I1.laid (t' := s1.toks) (fun b u e => Heap.get?_push_of_some _ e) (Nat.le_refl _) ?_, rfl, q _ hf⟩
  exact ⟨z, us, 0, r, Heap.get?_push_size _ rfl⟩
end

abbrev Sp := List V → Hp → VK → XK → Prop
abbrev CXT := List Env → Hp → Shared → XK → Value → Shared → Prop

structure Env0 (P : Program) (w : World) (K : PySem.W.Frag) (mg : Str → Option Value) (base : Heap) (A : Around) (outer : List Env) (s : Shared) (H : Hp) : Prop where
  frames : A.frames = some outer
  mod : Mod K mg base
  bs : ∀ b o, base.get? b = some o → s.heap.get? b = some o ∧ H b = none
  bsz : base.objs.size ≤ s.heap.objs.size
  funs : s.heap.FunFrames base outer
  frf : ∀ b ∈ frs outer, H b = none
  hok : HOk P w H s.heap
  bare : AllBare s.gens
def CE (outer : List Env) (P : Program) (w : World) (H : Hp) (s : Shared) (Q : VK) (u : Value) (s' : Shared) : Prop :=
  ∃ v H', s'.os = s.os ∧ AllBare s'.gens ∧ Un (frs outer) [] H H' s.heap s'.heap ∧ HOk P w H' s'.heap ∧ RelV v u ∧ Q v H'
def CR (CX : CXT) (outer : List Env) (P : Program) (w : World) (H : Hp) (s : Shared) (Q : VK) (E : XK) (r : Result) (s' : Shared) : Prop :=
  match r with
  | .ok (.ret u) => CE outer P w H s Q u s'
  | .ok _ => False
  | .error e => CX outer H s E e s'
structure FnOk (P : Program) (w : World) (K : PySem.W.Frag) (mg : Str → Option Value) (base : Heap) (CX : CXT) (k : Nat) (f : Addr) (fd : FuncData) (ps : List Str) (sp : Sp) : Prop where
  len : ∀ vs H Q E, sp vs H Q E → vs.length = ps.length
  run : ∀ (A : Around) (outer : List Env) (s : Shared) (H : Hp) (args : Args) (us : List Value) (vs : List V) (Q : VK) (E : XK), Room k A → Env0 P w K mg base A outer s H → BindsTo s fd args (ps.zip us) → Vals vs us → sp vs H Q E →
    codeAny (model P w) A (.call (.ref f) args) (CR CX outer P w H s Q E) s
theorem FnOk.mono {P : Program} {w : World} {K : PySem.W.Frag} {mg : Str → Option Value} {base : Heap} {CX : CXT} {j k : Nat} {f : Addr} {fd : FuncData} {ps : List Str} {sp : Sp} (F : FnOk P w K mg base CX j f fd ps sp) (h : j ≤ k) :
    FnOk P w K mg base CX k f fd ps sp := ⟨F.len, fun A outer s H args us vs Q E hr => F.run A outer s H args us vs Q E (hr.mono h)⟩
theorem FnOk.imp {P : Program} {w : World} {K : PySem.W.Frag} {mg : Str → Option Value} {base : Heap} {CX : CXT} {k : Nat} {f : Addr} {fd : FuncData} {ps : List Str} {sp sp' : Sp} (F : FnOk P w K mg base CX k f fd ps sp)
    (h : ∀ vs H Q E, sp' vs H Q E → sp vs H Q E) : FnOk P w K mg base CX k f fd ps sp' :=
  ⟨fun vs H Q E q => F.len vs H Q E (h _ _ _ _ q), fun A outer s H args us vs Q E hr he hb hv hs => F.run A outer s H args us vs Q E hr he hb hv (h _ _ _ _ hs)⟩

section
variable {X : Cx} {pins : List (Addr × Obj)} {σ : St} {H : Hp} {s s' : Shared}
theorem Inv.env0 (I : Inv X pins σ H s) : Env0 X.prog X.w X.K X.mg X.base X.A X.stack s H :=
  ⟨I.ok.frames, I.ok.mod, I.bs, Nat.le_trans I.ok.bsz I.sz, I.stack, I.stkFree, I.hok, I.bare⟩
theorem Inv.after {Q : VK} {u : Value} (I : Inv X pins σ H s) (h : CE X.stack X.prog X.w H s Q u s') : EP X pins σ Q u s' := by
  obtain ⟨v, H', os, bare, un, hok, r, q⟩ := h
  obtain ⟨hh, g, d, t, os'⟩ := s'
  obtain rfl : os' = s.os := os
  exact ⟨v, H', I.call (h' := hh) (g' := g) (d' := d) (t' := t) (ch := []) un hok bare (fun b z => absurd z (by simp)), r, q⟩
end

def tCall (sp : Sp) (dvs : List V) (E : XK) (t : TA) : TE := fun σ H Q => t σ H fun vs H1 => sp (vs ++ dvs) H1 Q E
def Binds (K : PySem.W.Frag) (fd : FuncData) (ps : List Str) (ds : List Value) : Prop :=
  ∀ (s : Shared) (us : List Value), K.In s.heap → (us ++ ds).length = ps.length → BindsTo s fd ⟨us, []⟩ (ps.zip (us ++ ds))
theorem Binds.all {K : PySem.W.Frag} {fd : FuncData} {ps : List Str} (h : ∀ us : List Value, us.length = ps.length → bindArgs fd ⟨us, []⟩ = pure (ps.zip us)) : Binds K fd ps [] := fun s us _ hl => by
  rw [List.append_nil] at hl ⊢
  exact .of_eq (h us hl)

def Passes (CX : CXT) (X : Cx) (E : XK) : Prop := ∀ (pins : List (Addr × Obj)) (σ : St) (H : Hp) (s : Shared) (e : Value) (s' : Shared), Inv X pins σ H s → CX X.stack H s E e s' → X.xe e s'

section
variable {X : Cx} {CX : CXT} {k : Nat} {f C : Addr} {fd : FuncData} {ps : List Str} {sp : Sp} {dvs : List V} {ds : List Value} {E : XK} {x m : Str} {p pos apos : Pos} {e o : Expr} {es : List Expr} {ta : TE} {t : TA}

theorem run_fn {pins : List (Addr × Obj)} {σ : St} {H : Hp} {s : Shared} {Q : VK} {us : List Value} {vs : List V} (F : FnOk X.prog X.w X.K X.mg X.base CX k f fd ps sp) (hr : Room k X.A) (hb : Binds X.K fd ps ds) (hd : Vals dvs ds) (hx : Passes CX X E)
    (I : Inv X pins σ H s) (r : Vals vs us) (h : sp (vs ++ dvs) H Q E) : wpAny (model X.prog X.w) X.A (call (.ref f) us) (EP X pins σ Q) X.xe s := by
  have r2 : Vals (vs ++ dvs) (us ++ ds) := r.append hd
  have hl : (us ++ ds).length = ps.length := by rw [← r2.length]; exact F.len _ _ _ _ h
  refine wpAny_call (codeAny_mono (F.run X.A X.stack s H ⟨us, []⟩ (us ++ ds) (vs ++ dvs) Q E hr I.env0 (hb s us I.kIn hl) r2 h) fun r s' hq => ?_)
  cases r with
  | error e => exact hx pins σ H s e s' I hq
  | ok fl =>
    cases fl with
    | ret u => exact I.after hq
    | next => exact False.elim hq
    | brk => exact False.elim hq
    | cont => exact False.elim hq

theorem pe_call (F : FnOk X.prog X.w X.K X.mg X.base CX k f fd ps sp) (hr : Room k X.A) (hg : Gl X x) (hm : X.mg x = some (.ref f)) (hk : PySem.W.keepIn X.K (.ref f) = true) (hb : Binds X.K fd ps ds) (hd : Vals dvs ds) (hx : Passes CX X E)
    (ha : PA X (e :: es) t) (hdb : (x == ("__debug__" : Str)) = false := by decide) (he : starEach (e :: es) X.env = (false, eval e X.env) :: starEach es X.env := by rfl) (hpl : (backTo pos (starEach es X.env)).any (·.1) = false := by rfl) :
    PE X (.Call (.Name x p) (e :: es) [] pos) (tCall sp dvs E t) := by
  intro pins s σ H Q I h
  refine wpAny_Call_Name_kw (ld_glob I hg hm ?_ hdb)
  refine PySem.W.callWith_K (h₀ := X.base) I.ok.mod.kin hk (thn (ha pos pins s σ H _ I h) fun us s1 ⟨vs, H1, I1, r, q⟩ => ⟨I1.kIn, ?_⟩) he hpl
  exact run_fn F hr hb hd hx I1 r q
end

section
variable {X : Cx} {CX : CXT} {k : Nat} {f C : Addr} {fd : FuncData} {ps ks : List Str} {sp : Sp} {E : XK} {x m : Str} {p pos apos kpos : Pos} {e o : Expr} {es : List Expr} {kws : List Keyword} {te ta : TE} {t tk : TA} {nm : Option Str}
variable {g : List Value → List Value → List Value} {gV : List V → List V → List V}
end

structure FnScope (N P : List Str) (sc : Scope) : Prop where
  kind : sc.kind = .function
  co : sc.isCoroutine = false
  gen : sc.isGenerator = false
  nd : N.Nodup
  pre : N.take P.length = P
  par : ∀ x ∈ P, sc.names.lookup x = some .local ∨ sc.names.lookup x = some .cell
  nofree : ∀ y ∈ sc.names, y.2 ≠ .free

theorem bindL_out {kindOf : Str → Option NameKind} {x : Str} : ∀ {binds : List (Str × Value)} {m : Str → Option Value}, (∀ v, (x, v) ∉ binds) → bindL kindOf binds m x = m x
  | [], _, _ => rfl
  | (n, v) :: r, m, h => by
    unfold bindL
    rw [bindL_out fun w hw => h w (List.mem_cons_of_mem _ hw)]
    split
    · have : x ≠ n := by rintro rfl; exact h v List.mem_cons_self
      simp [this]
    · rfl
theorem bindC_out {kindOf : Str → Option NameKind} {x : Str} : ∀ {binds : List (Str × Value)} {m : Str → Option Value}, (∀ v, (x, v) ∉ binds) → bindC kindOf binds m x = m x
  | [], _, _ => rfl
  | (n, v) :: r, m, h => by
    unfold bindC
    rw [bindC_out fun w hw => h w (List.mem_cons_of_mem _ hw)]
    split
    · rfl
    · have : x ≠ n := by rintro rfl; exact h v List.mem_cons_self
      simp [this]
theorem bindL_get {kindOf : Str → Option NameKind} {x : Str} {v : Value} : ∀ {P : List Str} {vs : List Value} {i : Nat} {m : Str → Option Value}, P.Nodup → P[i]? = some x → vs[i]? = some v → kindOf x = some .local →
    bindL kindOf (P.zip vs) m x = some v
  | [], _, _, _, _, h, _, _ => by simp at h
  | _ :: _, [], _, _, _, _, h, _ => by simp at h
  | p :: P, w :: vs, 0, m, nd, h1, h2, hk => by
    simp at h1 h2; subst h1; subst h2
    show bindL kindOf ((p, w) :: P.zip vs) m p = _
    unfold bindL
    rw [bindL_out fun v hv => (List.nodup_cons.mp nd).1 (List.of_mem_zip hv).1, if_pos hk]
    simp
  | p :: P, w :: vs, i + 1, m, nd, h1, h2, hk => by
    show bindL kindOf ((p, w) :: P.zip vs) m x = _
    unfold bindL
    exact bindL_get (i := i) (List.nodup_cons.mp nd).2 (by simpa using h1) (by simpa using h2) hk
theorem bindC_get {kindOf : Str → Option NameKind} {x : Str} {v : Value} : ∀ {P : List Str} {vs : List Value} {i : Nat} {m : Str → Option Value}, P.Nodup → P[i]? = some x → vs[i]? = some v → kindOf x ≠ some .local →
    bindC kindOf (P.zip vs) m x = some v
  | [], _, _, _, _, h, _, _ => by simp at h
  | _ :: _, [], _, _, _, _, h, _ => by simp at h
  | p :: P, w :: vs, 0, m, nd, h1, h2, hk => by
    simp at h1 h2; subst h1; subst h2
    show bindC kindOf ((p, w) :: P.zip vs) m p = _
    unfold bindC
    rw [bindC_out fun v hv => (List.nodup_cons.mp nd).1 (List.of_mem_zip hv).1, if_neg hk]
    simp
  | p :: P, w :: vs, i + 1, m, nd, h1, h2, hk => by
    show bindC kindOf ((p, w) :: P.zip vs) m x = _
    unfold bindC
    exact bindC_get (i := i) (List.nodup_cons.mp nd).2 (by simpa using h1) (by simpa using h2) hk

def start (N : List Str) (vs : List V) : St := vs.map some ++ List.replicate (N.length - vs.length) none

def cxOf (CX : CXT) (P : Program) (w : World) (K : PySem.W.Frag) (mg : Str → Option Value) (base : Heap) (N : List Str) (qual : Str) (scope : Scope) (f : Addr) (cd : Value) (A : Around) (outer : List Env) (s : Shared) (H : Hp) (E : XK) : Cx where
  prog := P
  w := w
  K := K
  mg := mg
  base := base
  A := A.deeper (envOfC qual scope s.heap.objs.size f cd)
  N := N
  s₀ := s
  H₀ := H
  env := envOfC qual scope s.heap.objs.size f cd
  outer := outer
  stack := envOfC qual scope s.heap.objs.size f cd :: outer
  ex := []
  calm := true
  fn := fun _ => true
  pn := []
  xe := fun e s' => wpAny (model P w) (A.deeper (envOfC qual scope s.heap.objs.size f cd)) (leaving (envOfC qual scope s.heap.objs.size f cd) e) (fun _ s'' => CX outer H s E e s'') (fun e' s'' => CX outer H s E e' s'') s'

theorem cell_has {sc : Scope} {n : Nat} {x : Str} (h : sc.names.lookup x = some .cell) : ∃ c, (cellsFrom n sc.names []).lookup x = some c := by
  have q := PySem.W.cellsFrom_some sc.names n [] (.inl h)
  exact Option.isSome_iff_exists.mp q

theorem inv_start {CX : CXT} {P : Program} {w : World} {K : PySem.W.Frag} {mg : Str → Option Value} {base : Heap} {N ps : List Str} {qual : Str} {scope : Scope} {f : Addr} {cd : Value} {A : Around} {outer : List Env} {s s1 : Shared} {H : Hp} {E : XK} {us : List Value} {vs : List V}
    (S : FnScope N ps scope) (hd : A.handled = none) (e0 : Env0 P w K mg base A outer s H) (hl : vs.length = ps.length) (r : Vals vs us)
    (x : InCallC s s.heap.objs.size (bindL (envOfC qual scope s.heap.objs.size f cd).kindOf (ps.zip us) fun _ => none) (cellsFrom (s.heap.objs.size + 1) scope.names []) (bindC (envOfC qual scope s.heap.objs.size f cd).kindOf (ps.zip us) fun _ => none) s1) :
    Inv (cxOf CX P w K mg base N qual scope f cd A outer s H E) [] (start N vs) H s1 := by
  have hpl : ps.length ≤ N.length := by have := congrArg List.length S.pre; rw [List.length_take] at this; (first | lia | omega)
  obtain ⟨h1, tk, rfl, hk⟩ := x.done
  have noA : ∀ b : Addr, b ∉ (cxOf CX P w K mg base N qual scope f cd A outer s H E).ex := fun b z => absurd (show b ∈ ([] : List Addr) from z) (by simp)
  refine ⟨⟨e0.mod, S.kind, rfl, rfl, Nat.le_refl _, fun y z c h1 h2 => ?_, fun y hy => ?_, fun y c _ h => ?_, fun _ => hd, Around.frames_deeper e0.frames, .inr ⟨rfl, rfl⟩, fun b z => absurd z (noA b), e0.bs, e0.bsz, fun b _ _ => noA b, fun b z => absurd z (noA b), e0.funs, e0.frf⟩,
    rfl, e0.bare, Un.kept hk, ⟨_, x.toInCall.ns, fun i y v h1 h2 h3 => ?_⟩, fun y c h => ⟨_, x.cell y c h⟩, e0.hok.fresh (Nat.le_refl _), fun y c h => ?_, fun p hp => absurd (show p ∈ ([] : List (Addr × Obj)) from hp) (by simp), e0.hok.kept hk, ?_⟩
  · exact name_of_addr x.apart (PySem.mem_of_lookup h1) (PySem.mem_of_lookup h2)
  · have hy : scope.names.lookup y = some .cell ∨ scope.names.lookup y = some .free := hy
    rcases hy with hy | hy
    · exact cell_has hy
    · exact absurd rfl (S.nofree _ (PySem.mem_of_lookup hy))
  · exact Nat.le_of_lt (x.above y c (PySem.mem_of_lookup h))
  · have hi : i < vs.length := by
      unfold start at h2
      by_cases hi : i < vs.length
      · exact hi
      · rw [List.getElem?_append_right (by simpa using hi)] at h2
        rw [List.getElem?_replicate] at h2
        split at h2 <;> cases h2
    have ha : vs[i]? = some v := by
      unfold start at h2
      rw [List.getElem?_append_left (by simpa using hi), List.getElem?_map] at h2
      cases e : vs[i]? with
      | none => rw [e] at h2; cases h2
      | some a => rw [e] at h2; cases h2; rfl
    obtain ⟨u, hu, rv⟩ := r.get ha
    have hp : ps[i]? = some y := by
      rw [← S.pre, List.getElem?_take_of_lt (by (first | lia | omega))]; exact h1
    have ndP : ps.Nodup := by rw [← S.pre]; exact S.nd.sublist (List.take_sublist _ _)
    refine ⟨u, rv, ?_⟩
    rcases S.par y (List.mem_of_getElem? hp) with k | k
    · exact .inl ⟨k, bindL_get ndP hp hu k⟩
    · obtain ⟨c, e⟩ := cell_has (n := s.heap.objs.size + 1) k
      refine .inr ⟨.inl k, c, e, ?_⟩
      have q := x.cell y c e
      rw [bindC_get ndP hp hu (by show scope.names.lookup y ≠ _; rw [k]; decide)] at q
      exact q
  · exact e0.hok.fresh (Nat.le_of_lt (x.above y c (PySem.mem_of_lookup h)))
  · unfold start
    show _ = N.length
    rw [List.length_append, List.length_map, List.length_replicate]
    (first | lia | omega)

theorem fn_of {CX : CXT} {P : Program} {w : World} {K : PySem.W.Frag} {mg : Str → Option Value} {base : Heap} {k : Nat} {f : Addr} {name qual : Str} {params : Arguments} {body : List Stmt} {scope : Scope} {dV kV doc pm cdv ct oc : Value} {an od : Option Addr}
    {osl : Array (Option Value)} {N ps : List Str} {sp : Sp} (lk : K.lookup f = some ⟨oc, od, .func (PySem.W.fnOf name qual params body scope dV kV doc pm an cdv ct), osl⟩) (hcd : PySem.W.codeIn K cdv qual = true) (S : FnScope N ps scope)
    (len : ∀ vs H Q E, sp vs H Q E → vs.length = ps.length)
    (hbody : ∀ (A : Around) (outer : List Env) (s : Shared) (H : Hp) (vs : List V) (Q : VK) (E : XK), Room k (A.deeper (envOfC qual scope s.heap.objs.size f cdv)) → sp vs H Q E →
      ∃ t, PSs (cxOf CX P w K mg base N qual scope f cdv A outer s H E) body t ∧ t { nx := fun _ H' => Q .non H', rt := Q } (start N vs) H) :
    FnOk P w K mg base CX (k + 1) f (PySem.W.fnOf name qual params body scope dV kV doc pm an cdv ct) ps sp := by
  refine ⟨len, fun A outer s H args us vs Q E hr e0 hb r hsp => ?_⟩
  have hl := len _ _ _ _ hsp
  have KX : K.In s.heap := e0.mod.kin.keeps fun b o e => (e0.bs b o e).1
  have lim : s.heap.NoLimit := e0.mod.nolimit.keeps fun b o e => (e0.bs b o e).1
  have hkind : ∀ y ∈ ps.zip us, scope.names.lookup y.1 = some .local ∨ (scope.names.lookup y.1 = some .cell ∧ ((cellsFrom (s.heap.objs.size + 1) scope.names []).lookup y.1).isSome = true) := fun ⟨n, v⟩ hy => by
    rcases S.par n (List.of_mem_zip hy).1 with q | q
    · exact .inl q
    · exact .inr ⟨q, PySem.W.cellsFrom_some _ _ _ (.inl q)⟩
  refine codeAny_call_function hr.depth (KX _ _ lk) rfl S.co S.gen rfl (PySem.W.codeRec_of KX hcd) (hb _ _ _ _ ?_)
  refine wpAny_newFunctionEnv_cells S.kind hkind fun env he s1 x => ?_
  subst he
  refine ⟨lim.keeps x.toInCall.keep, codeAny_func ?_⟩
  obtain ⟨t, ht, hq⟩ := hbody A outer s H vs Q E (hr.deeper _) hsp
  have I : Inv (cxOf CX P w K mg base N qual scope f cdv A outer s H E) [] (start N vs) H s1 := inv_start S hr.hd e0 hl r x
  refine wpAny_mono (ht [] s1 (start N vs) H _ I hq) (fun fl s' hs => ?_) fun e s' hs => hs
  have fin : ∀ {σ' : St} {H' : Hp} {v : V} {u : Value}, Inv (cxOf CX P w K mg base N qual scope f cdv A outer s H E) [] σ' H' s' → RelV v u → Q v H' → CE outer P w H s Q u s' :=
    fun {σ' H' v u} J rv q => ⟨v, H', J.os, J.bare, J.base, J.hok, rv, q⟩
  cases fl with
  | ret u =>
    obtain ⟨v, σ', H', J, rv, q⟩ := hs
    exact fin J rv q
  | next =>
    obtain ⟨σ', H', J, q⟩ := hs
    exact fin (v := V.non) (u := Value.none) J rfl q
  | brk =>
    obtain ⟨_, _, _, q⟩ := hs
    exact False.elim q
  | cont =>
    obtain ⟨_, _, _, q⟩ := hs
    exact False.elim q
end L2

namespace L2
open PySem PySem.Spec PyProof.Rows
section
variable {X : Cx} {x : Str} {p pos : Pos} {e : Expr} {es : List Expr} {t : TA} {id T : String} {r : List V → Hp → VK → Prop}

def tCB (r : List V → Hp → VK → Prop) (t : TA) : TE := fun σ H Q => t σ H fun vs H1 => r vs H1 Q
theorem pe_callB (hc : CallR X (.builtin id) r) (hg : Gl X x) (hm : X.mg x = none) (hv : bootBuiltins x = some (.builtin id)) (ha : PA X (e :: es) t) (hn : x ≠ "__name__" := by decide) (hdb : (x == ("__debug__" : Str)) = false := by decide)
    (he : starEach (e :: es) X.env = (false, eval e X.env) :: starEach es X.env := by rfl) (hpl : (backTo pos (starEach es X.env)).any (·.1) = false := by rfl) : PE X (.Call (.Name x p) (e :: es) [] pos) (tCB r t) := by
  intro pins s σ H Q I h
  refine wpAny_Call_Name_kw (ld_blt I hg hm hv ?_ hn hdb)
  exact PyProof.Rows.callWith_builtin1 (thn (ha pos pins s σ H _ I h) fun us s1 ⟨vs, H1, I1, r1, q1⟩ => hc pins s1 σ H1 vs us Q I1 r1 q1) he hpl
theorem pe_callTy (hc : CallR X (.type T) r) (hg : Gl X x) (hm : X.mg x = none) (hv : bootBuiltins x = some (.type T)) (ha : PA X (e :: es) t) (hn : x ≠ "__name__" := by decide) (hdb : (x == ("__debug__" : Str)) = false := by decide)
    (he : starEach (e :: es) X.env = (false, eval e X.env) :: starEach es X.env := by rfl) (hpl : (backTo pos (starEach es X.env)).any (·.1) = false := by rfl) : PE X (.Call (.Name x p) (e :: es) [] pos) (tCB r t) := by
  intro pins s σ H Q I h
  refine wpAny_Call_Name_kw (ld_blt I hg hm hv ?_ hn hdb)
  exact PyProof.Rows.callWith_type1 (thn (ha pos pins s σ H _ I h) fun us s1 ⟨vs, H1, I1, r1, q1⟩ => hc pins s1 σ H1 vs us Q I1 r1 q1) he hpl
end
end L2

namespace HT
open PySem PyProof.Rows

section
open PySem.SeqAt
open PySem.AutoSeq1 (wpAny_loadPart')
open PySem.MeetsSeq PySem.MeetsSeq2 PySem.MeetsSeq3

end

section
variable {prog : Program} {w : World} {A : Around} {E : Value → Shared → Prop} {s : Shared}

def sIx (n d : Nat) : Option Int → Nat
  | none => d
  | some v => if v < 0 then (v + (n : Int)).toNat else min v.toNat n
end
end HT

namespace L2
open PySem PySem.Spec PyProof.Rows

abbrev TO := St → Hp → (Option Int → Hp → Prop) → Prop
section
variable {X : Cx} {e : Expr} {te : TE} {lo hi : Option Expr} {tl th : TO} {pos p2 : Pos}

end
end L2

namespace L2
open PySem PySem.Spec PyProof.Rows

def ixN (n : Nat) (i : Int) : Option Nat := if 0 ≤ i then (if i < n then some i.toNat else none) else if -(n : Int) ≤ i then some (i + n).toNat else none
def atI {α : Type} (xs : List α) (i : Int) : Option α := (ixN xs.length i).bind fun j => xs[j]?
theorem ixN_seq {n : Nat} {i : Int} {j : Nat} (h : ixN n i = some j) : seqIndex? i n = some j ∧ j < n ∧ -(n : Int) ≤ i ∧ i < n := by
  unfold ixN at h
  by_cases h0 : 0 ≤ i
  · rw [if_pos h0] at h
    by_cases h1 : i < n
    · rw [if_pos h1] at h
      have e : i.toNat = j := Option.some.inj h
      exact ⟨by rw [seqIndex_of h0 h1, e], by (first | lia | omega), by (first | lia | omega), h1⟩
    · rw [if_neg h1] at h; cases h
  · rw [if_neg h0] at h
    by_cases h1 : -(n : Int) ≤ i
    · rw [if_pos h1] at h
      have e : (i + n).toNat = j := Option.some.inj h
      exact ⟨by rw [seqIndex_neg (by (first | lia | omega)) h1, e], by (first | lia | omega), h1, by (first | lia | omega)⟩
    · rw [if_neg h1] at h; cases h
theorem atI_get {α : Type} {xs : List α} {i : Int} {v : α} (h : atI xs i = some v) : ∃ j, seqIndex? i xs.length = some j ∧ xs[j]? = some v ∧ j < xs.length ∧ -(xs.length : Int) ≤ i ∧ i < xs.length := by
  unfold atI at h
  cases e : ixN xs.length i with
  | none => rw [e] at h; cases h
  | some j =>
    rw [e] at h
    obtain ⟨h1, h2, h3, h4⟩ := ixN_seq e
    exact ⟨j, h1, h, h2, h3, h4⟩
theorem atI_nat {α : Type} {xs : List α} {j : Nat} {v : α} (h : xs[j]? = some v) : atI xs (j : Int) = some v := by
  have hj : j < xs.length := (List.getElem?_eq_some_iff.mp h).1
  have e : ixN xs.length (j : Int) = some j := by
    unfold ixN
    rw [if_pos (by (first | lia | omega)), if_pos (by (first | lia | omega))]; simp
  unfold atI; rw [e]; exact h
def PlainIx (b : Expr) : Prop := ∀ o i, subscripted b false o i = operate [o, i] (getItem o i)
def IxR (X : Cx) (r : R2) : Prop :=
  ∀ (value slice : Expr) (pins : List (Addr × Obj)) (s : Shared) (σ : St) (H : Hp) (x y : V) (v u : Value) (Q : VK), Inv X pins σ H s → RelV x v → RelV y u → r x y H Q →
    subscripted slice false v u = operate [v, u] (getItem v u) → wpAny (model X.prog X.w) X.A (subscriptTail value slice v u) (EP X pins σ Q) X.xe s
def MtR (X : Cx) (id : String) (r : V → List V → Hp → VK → Prop) : Prop :=
  ∀ (pins : List (Addr × Obj)) (s : Shared) (σ : St) (H : Hp) (x : V) (xs : List V) (v : Value) (us : List Value) (Q : VK), Inv X pins σ H s → RelV x v → Vals xs us → r x xs H Q →
    wpAny (model X.prog X.w) X.A (call (.builtin id) (v :: us)) (EP X pins σ Q) X.xe s
section
variable {X : Cx} {a b : Expr} {ta tb : TE} {pos : Pos}
theorem pe_ix {r : R2} (hr : IxR X r) (ha : PE X a ta) (hb : PE X b tb) (hs : PlainIx b) : PE X (.Subscript a b pos) (tOp r ta tb) := by
  intro pins s σ H Q I h
  exact Subscript_ (binT ha hb I h fun v u s2 x y H2 I2 rx ry q => hr a b pins s2 σ H2 x y v u Q I2 rx ry q (hs _ _))

def rIxL (K : PySem.W.Frag) : R2 := fun x y H Q => ∃ p xs i v, x = .ref p ∧ y = .int i ∧ SqL K H p xs ∧ atI xs i = some v ∧ Q v H
def rIxT (K : PySem.W.Frag) : R2 := fun x y H Q => ∃ p xs i v, x = .ref p ∧ y = .int i ∧ SqT K H p xs ∧ atI xs i = some v ∧ Q v H
theorem ix_list : IxR X (rIxL X.K) := by
  intro value slice pins s σ H x y v u Q I rx ry h hs
  obtain ⟨p, xs, i, z, rfl, rfl, hq, he, q⟩ := h
  cases rx
  obtain ⟨t, rfl⟩ := ry
  obtain ⟨its, r, pl, hz⟩ := I.list hq
  obtain ⟨j, h1, h2, h3, h4, h5⟩ := atI_get he
  obtain ⟨w, ew, rw'⟩ := r.get h2
  have hl := r.length
  have hn := line63
  have fin : EP X pins σ Q w s := ⟨z, H, I, rw', q⟩
  by_cases h0 : 0 ≤ i
  · have hj : i.toNat = j := by
      rw [seqIndex_of h0 h5] at h1
      exact Option.some.inj h1
    exact item_listR pl.isList h0 (by (first | lia | omega)) (by rw [hj]; simpa using ew) fin hs
  · have hj : (i + (its.toArray.size : Int)).toNat = j := by
      rw [seqIndex_neg (by (first | lia | omega)) h4] at h1
      rw [List.size_toArray, ← hl]
      exact Option.some.inj h1
    exact subscriptTail_builtinR (x := w) pl.isList.typeIs slot_list_getitem.lookup
      (wpAny_getItem_list_neg (Q := fun r s' => r = w ∧ EP X pins σ Q r s') pl.isList (by (first | lia | omega)) (by rw [List.size_toArray] <;> (first | lia | omega)) (by (first | lia | omega)) (by rw [hj]; simpa using ew) ⟨rfl, fin⟩) hs
theorem ix_tup : IxR X (rIxT X.K) := by
  intro value slice pins s σ H x y v u Q I rx ry h hs
  obtain ⟨p, xs, i, z, rfl, rfl, hq, he, q⟩ := h
  cases rx
  obtain ⟨t, rfl⟩ := ry
  obtain ⟨its, r, pl, hz⟩ := I.tuple hq
  obtain ⟨j, h1, h2, h3, h4, h5⟩ := atI_get he
  obtain ⟨w, ew, rw'⟩ := r.get h2
  have hl := r.length
  have hn := line63
  have fin : EP X pins σ Q w s := ⟨z, H, I, rw', q⟩
  exact subscriptTail_builtinR (x := w) pl.typeIs slot_tuple_getitem.lookup
    (getItem_tuple (j := j) (Q := fun r s' => r = w ∧ EP X pins σ Q r s') pl (by (first | lia | omega)) (by (first | lia | omega)) (by rw [List.size_toArray, ← hl]; exact h1) (by simpa using ew) ⟨rfl, fin⟩) hs
theorem mapSeq_set (its : List Value) (n j : Nat) (u : Value) : Obj.mapSeq (·.setIfInBounds j u) { cls := .type "list", data := .seq its.toArray n } = { cls := .type "list", data := .seq (its.set j u).toArray n } := by
  simp [Obj.mapSeq]
theorem Inv.lst {pins : List (Addr × Obj)} {σ : St} {H : Hp} {s : Shared} {p : Addr} {xs : List V} (I : Inv X pins σ H s) (h : H p = some (.lst xs)) :
    ∃ (its : List Value) (n : Nat), Vals xs its ∧ s.heap.get? p = some { cls := .type "list", data := .seq its.toArray n } ∧ xs.length ≤ sizeLine := by
  obtain ⟨z, its, n, r, e⟩ := I.hok p _ h
  exact ⟨its, n, r, e, z⟩
theorem Inv.lstUpd {pins : List (Addr × Obj)} {σ : St} {H : Hp} {s : Shared} {p : Addr} {xs ys : List V} {its its' : List Value} {n n' : Nat} {f : Obj → Obj} (I : Inv X pins σ H s) (h : H p = some (.lst xs))
    (ho : s.heap.get? p = some { cls := .type "list", data := .seq its.toArray n }) (hf : f { cls := .type "list", data := .seq its.toArray n } = { cls := .type "list", data := .seq its'.toArray n' }) (r : Vals ys its') (hz : ys.length ≤ sizeLine) (t : Nat) :
    Inv X pins σ (upd H p (.lst ys)) { s with heap := s.heap.update p f, toks := t } := by
  have e : (s.heap.update p f).get? p = some { cls := .type "list", data := .seq its'.toArray n' } := by
    rw [Heap.get?_update_self f ho (by rw [hf] <;> rfl), hf]
  refine I.write (x := p) (e := p) (by rw [h]; trivial) (.inl rfl) (fun b u hb q => (Heap.get?_update_other _ _ (Ne.symm hb)).trans q) ⟨_, e⟩ ?_
  exact ⟨hz, its', n', r, e⟩
def rSetL : V → V → V → Hp → (Hp → Prop) → Prop := fun o i v H Q => ∃ p xs k j, o = .ref p ∧ i = .int k ∧ H p = some (.lst xs) ∧ ixN xs.length k = some j ∧ Q (upd H p (.lst (xs.set j v)))
theorem set_list : PSet X rSetL := by
  intro pins s σ H o i v ov iv u Q I ro ri rv h
  obtain ⟨p, xs, k, j, rfl, rfl, hp, hj, q⟩ := h
  cases ro
  obtain ⟨t, rfl⟩ := ri
  obtain ⟨its, n, r, ho, hz⟩ := I.lst hp
  obtain ⟨h1, h2, h3, h4⟩ := ixN_seq hj
  have hl := r.length
  have hn := line63
  have I' : Inv X pins σ (upd H p (.lst (xs.set j v))) { s with heap := s.heap.update p (Obj.mapSeq (·.setIfInBounds j u)) } :=
    I.lstUpd hp ho (mapSeq_set its n j u) (r.set rv j) (by rw [List.length_set]; exact hz) s.toks
  by_cases h0 : 0 ≤ k
  · have hk : k.toNat = j := by
      rw [seqIndex_of h0 h4] at h1
      exact Option.some.inj h1
    exact PySem.W.ki_setAt ho h0 (by (first | lia | omega)) (by rw [List.size_toArray, ← hl]; exact h4) (by rw [hk]; exact ⟨_, I', q⟩)
  · have hk : (k + (its.toArray.size : Int)).toNat = j := by
      rw [seqIndex_neg (by (first | lia | omega)) h3] at h1
      rw [List.size_toArray, ← hl]
      exact Option.some.inj h1
    exact PySem.W.ki_setBack ho (by (first | lia | omega)) (by rw [List.size_toArray, ← hl]; exact h3) (by (first | lia | omega)) (by rw [hk]; exact ⟨_, I', q⟩)

def flatV : V → Bool
  | .non => true
  | .bl _ => true
  | .int _ => true
  | .str _ => true
  | _ => false
def eqV : V → V → Bool
  | .non, .non => true
  | .bl a, .bl b => a == b
  | .bl a, .int b => (if a then 1 else 0) == b
  | .int a, .bl b => a == (if b then 1 else 0)
  | .int a, .int b => a == b
  | .str a, .str b => a == b
  | _, _ => false
theorem eqAt_V {A : Around} {s : Shared} {y x : V} {u v : Value} (ry : RelV y u) (rx : RelV x v) (fy : flatV y = true) (fx : flatV x = true) : SeqAt.EqAt A s u v (eqV y x) := by
  cases y with
  | non =>
    cases ry
    cases x with
    | non => cases rx; exact SeqAt.EqAt.same _
    | bl b => cases rx; exact SeqAt.EqAt.none_bool b
    | int b => obtain ⟨t, rfl⟩ := rx; exact SeqAt.EqAt.none_int b t
    | str b => obtain ⟨t, rfl⟩ := rx; exact SeqAt.EqAt.none_str b t
    | _ => exact absurd (show false = true from fx) Bool.false_ne_true
  | bl a =>
    cases ry
    cases x with
    | non => cases rx; exact SeqAt.EqAt.bool_none a
    | bl b => cases rx; exact SeqAt.EqAt.bool_bool a b
    | int b => obtain ⟨t, rfl⟩ := rx; exact SeqAt.EqAt.bool_int a b t
    | str b => obtain ⟨t, rfl⟩ := rx; exact SeqAt.EqAt.bool_str a b t
    | _ => exact absurd (show false = true from fx) Bool.false_ne_true
  | int a =>
    obtain ⟨t', rfl⟩ := ry
    cases x with
    | non => cases rx; exact SeqAt.EqAt.int_none a t'
    | bl b => cases rx; exact SeqAt.EqAt.int_bool a t' b
    | int b => obtain ⟨t, rfl⟩ := rx; exact SeqAt.EqAt.int_int a t' b t
    | str b => obtain ⟨t, rfl⟩ := rx; exact SeqAt.EqAt.int_str a t' b t
    | _ => exact absurd (show false = true from fx) Bool.false_ne_true
  | str a =>
    obtain ⟨t', rfl⟩ := ry
    cases x with
    | non => cases rx; exact SeqAt.EqAt.str_none a t'
    | bl b => cases rx; exact SeqAt.EqAt.str_bool a t' b
    | int b => obtain ⟨t, rfl⟩ := rx; exact SeqAt.EqAt.str_int a t' b t
    | str b => obtain ⟨t, rfl⟩ := rx; exact SeqAt.EqAt.str_str a t' b t
    | _ => exact absurd (show false = true from fx) Bool.false_ne_true
  | _ => exact absurd (show false = true from fy) Bool.false_ne_true
def eqU (x : V) (u : Value) : Bool := match u with
  | .none => eqV .non x
  | .bool b => eqV (.bl b) x
  | .int i _ => eqV (.int i) x
  | .str z _ => eqV (.str z) x
  | _ => false
theorem eqU_of {x y : V} {u : Value} (r : RelV y u) (f : flatV y = true) : eqU x u = eqV y x := by
  cases y with
  | non => cases r; rfl
  | bl b => cases r; rfl
  | int i => obtain ⟨t, rfl⟩ := r; rfl
  | str z => obtain ⟨t, rfl⟩ := r; rfl
  | _ => exact absurd (show false = true from f) Bool.false_ne_true
theorem any_eqU {x : V} : ∀ {xs : List V} {us : List Value}, Vals xs us → xs.all flatV = true → us.any (eqU x) = xs.any fun y => eqV y x
  | _, _, .nil, _ => rfl
  | y :: xs, u :: us, .cons r t, f => by
    rw [List.all_cons, Bool.and_eq_true] at f
    rw [List.any_cons, List.any_cons, eqU_of r f.1, any_eqU t f.2]
theorem mem_eqAt {A : Around} {s : Shared} {x : V} {v : Value} (rx : RelV x v) (fx : flatV x = true) : ∀ {xs : List V} {us : List Value}, Vals xs us → xs.all flatV = true → ∀ u ∈ us, SeqAt.EqAt A s u v (eqU x u)
  | _, _, .nil, _ => fun u hu => by cases hu
  | y :: xs, u :: us, .cons r t, f => fun u' hu => by
    rw [List.all_cons, Bool.and_eq_true] at f
    rcases List.mem_cons.mp hu with rfl | hu
    · rw [eqU_of r f.1]; exact eqAt_V r rx f.1 fx
    · exact mem_eqAt rx fx t f.2 u' hu
def inV (x : V) (xs : List V) : Bool := xs.any fun y => eqV y x
def rIn (K : PySem.W.Frag) (neg : Bool) : R2 := fun x y H Q => ∃ p xs, y = .ref p ∧ (SqL K H p xs ∨ SqT K H p xs) ∧ flatV x = true ∧ xs.all flatV = true ∧ Q (.bl (if neg then !inV x xs else inV x xs)) H
theorem op_notIn_seq : OpR X (compareOp .NotIn) (rIn X.K true) := by
  intro pins s σ H x y v u Q I rx ry h
  obtain ⟨p, xs, rfl, hq, fx, fs, q⟩ := h
  cases ry
  rcases hq with hq | hq
  · obtain ⟨its, r, pl, hz⟩ := I.list hq
    refine SeqAt.notIn_listAt (eqU x) pl.isList (fun w hw => mem_eqAt rx fx r fs w (by simpa using hw)) ⟨.bl _, H, I, rfl, ?_⟩
    rw [show its.toArray.any (eqU x) = its.any (eqU x) by simp, any_eqU r fs]
    exact q
  · obtain ⟨its, r, pl, hz⟩ := I.tuple hq
    refine SeqAt.notIn_tupleAt (eqU x) pl (fun w hw => mem_eqAt rx fx r fs w (by simpa using hw)) ⟨.bl _, H, I, rfl, ?_⟩
    rw [show its.toArray.any (eqU x) = its.any (eqU x) by simp, any_eqU r fs]
    exact q
theorem call_len_seq : CallR X (.builtin "len") (fun xs H Q => ∃ p ys, xs = [.ref p] ∧ (SqL X.K H p ys ∨ SqT X.K H p ys) ∧ Q (.int ys.length) H) := by
  intro pins s σ H xs us Q I r h
  obtain ⟨p, ys, rfl, hq, q⟩ := h
  obtain ⟨u, rfl, rx⟩ := vals1 r
  cases rx
  have hn := line63
  rcases hq with hq | hq
  · obtain ⟨its, r', pl, hz⟩ := I.list hq
    have hlen := r'.length
    exact Calls.call_len_list pl.isList (by simp only [List.size_toArray] <;> (first | lia | omega)) ⟨.int ys.length, H, I.tok _, ⟨s.toks + 1, by rw [List.size_toArray, hlen]⟩, q⟩
  · obtain ⟨its, r', pl, hz⟩ := I.tuple hq
    have hlen := r'.length
    exact len_tuple pl (by simp only [List.size_toArray] <;> (first | lia | omega)) ⟨.int ys.length, H, I.tok _, ⟨s.toks + 1, by rw [List.size_toArray, hlen]⟩, q⟩
theorem call_list_of : CallR X (.type "list") (fun xs H Q => ∃ p ys, xs = [.ref p] ∧ (SqL X.K H p ys ∨ SqT X.K H p ys) ∧ ∀ l, H l = none → Q (.ref l) (upd H l (.lst ys))) := by
  intro pins s σ H xs us Q I r h
  obtain ⟨p, ys, rfl, hq, q⟩ := h
  obtain ⟨u, rfl, rx⟩ := vals1 r
  cases rx
  have fin : ∀ (its : List Value), Vals ys its → ys.length ≤ sizeLine → ∀ (h' : Heap) (c' : Nat), (∀ b o', s.heap.get? b = some o' → h'.get? b = some o') →
      h'.get? s.heap.objs.size = some { cls := .type "list", dict := none, data := .seq its.toArray c', slots := #[] } → EP X pins σ Q (.ref s.heap.objs.size) { s with heap := h' } := fun its r' hz h' c' kp e =>
    ⟨.ref s.heap.objs.size, _, I.laid (t' := s.toks) kp (Nat.le_refl _) (show ObjOk X.prog X.w _ h' _ (.lst ys) from ⟨hz, its, c', r', e⟩), rfl, q _ (I.hok.fresh (Nat.le_refl _))⟩
  rcases hq with hq | hq
  · obtain ⟨its, r', pl, hz⟩ := I.list hq
    have hlen := r'.length
    obtain ⟨o, ho, hc, n, hd⟩ := pl.isList
    exact call_list_seq p (.inl rfl) ho hc hd (fun h' c' kp e => fin its r' hz h' c' kp e) (by simp only [List.size_toArray] <;> (first | lia | omega))
  · obtain ⟨its, r', pl, hz⟩ := I.tuple hq
    have hlen := r'.length
    obtain ⟨o, ho, hc, n, hd⟩ := pl
    exact call_list_seq p (.inr rfl) ho hc hd (fun h' c' kp e => fin its r' hz h' c' kp e) (by simp only [List.size_toArray] <;> (first | lia | omega))
theorem call_tuple_of : CallR X (.type "tuple") (fun xs H Q => ∃ p ys, xs = [.ref p] ∧ ((SqL X.K H p ys ∧ ∀ l, H l = none → Q (.ref l) (upd H l (.tup ys))) ∨ (SqT X.K H p ys ∧ Q (.ref p) H))) := by
  intro pins s σ H xs us Q I r h
  obtain ⟨p, ys, rfl, h⟩ := h
  obtain ⟨u, rfl, rx⟩ := vals1 r
  cases rx
  rcases h with ⟨hq, q⟩ | ⟨hq, q⟩
  · obtain ⟨its, r', pl, hz⟩ := I.list hq
    have hlen := r'.length
    refine call_tuple_list pl.isList (fun h' kp => ?_) (by simp only [List.size_toArray] <;> (first | lia | omega))
    have I1 : Inv X pins σ H { s with heap := h' } := I.kept (t' := s.toks) kp
    have I2 : Inv X pins σ (upd H h'.objs.size (.tup ys)) { s with heap := h'.push { cls := .type "tuple", data := .seq its.toArray } } :=
      I1.laid (t' := s.toks) (fun b o e => Heap.get?_push_of_some _ e) (Nat.le_refl _) (show ObjOk X.prog X.w _ _ _ (.tup ys) from ⟨hz, its, r', IsTup.new _ _⟩)
    exact ⟨.ref h'.objs.size, _, I2, rfl, q _ (I1.hok.fresh (Nat.le_refl _))⟩
  · obtain ⟨its, r', pl, hz⟩ := I.tuple hq
    exact call_tuple_same pl ⟨.ref p, H, I, rfl, q⟩

def tyV (K : PySem.W.Frag) (T : String) (x : V) (H : Hp) : Prop := match x with
  | .str _ => T = "str"
  | .int _ => T = "int"
  | .ref p => (T = "list" ∧ ∃ xs, SqL K H p xs) ∨ (T = "tuple" ∧ ∃ o, K.lookup p = some o ∧ o.cls = .type "tuple" ∧ o.dict = none) ∨
      (T = "dict" ∧ ((∃ kvs, H p = some (.dK kvs)) ∨ ∃ kvs, H p = some (.dT kvs))) ∨ (T = "set" ∧ ∃ S n, H p = some (.set S n))
  | _ => False
theorem tyV_is {pins : List (Addr × Obj)} {σ : St} {H : Hp} {s : Shared} {T : String} {x : V} {v : Value} (I : Inv X pins σ H s) (r : RelV x v) (ty : tyV X.K T x H) :
    s.TypeIs v T ∧ ∀ a, v = .ref a → ∃ ob, s.heap.get? a = some ob ∧ ob.dict = none := by
  cases x with
  | str z =>
    obtain ⟨t, rfl⟩ := r
    cases (show T = "str" from ty)
    exact ⟨typeIs_str s z t, fun _ e => nomatch e⟩
  | int i =>
    obtain ⟨t, rfl⟩ := r
    cases (show T = "int" from ty)
    exact ⟨typeIs_int s i t, fun _ e => nomatch e⟩
  | ref p =>
    cases r
    rcases ty with ⟨rfl, xs, hq⟩ | ⟨rfl, o, hk, hc, hd⟩ | ⟨rfl, hk⟩ | ⟨rfl, S, n, hk⟩
    · obtain ⟨its, _, pl, _⟩ := I.list hq
      refine ⟨pl.isList.typeIs, fun a e => ?_⟩
      cases e
      obtain ⟨o, n, e, c, hd, _⟩ := pl
      exact ⟨o, e, hd⟩
    · refine ⟨⟨o, I.kIn p o hk, hc⟩, fun a e => ?_⟩
      cases e
      exact ⟨o, I.kIn _ o hk, hd⟩
    · have z : ∃ o, s.heap.get? p = some o ∧ o.ExactDict := by
        rcases hk with ⟨kvs, hk⟩ | ⟨kvs, hk⟩
        · obtain ⟨_, _, _, _, o, _, _, e, ex, _⟩ := I.hok p _ hk
          exact ⟨o, e, ex⟩
        · obtain ⟨_, _, _, _, o, _, _, e, ex, _⟩ := I.hok p _ hk
          exact ⟨o, e, ex⟩
      obtain ⟨o, e, ex⟩ := z
      refine ⟨⟨o, e, ex.1⟩, fun a e2 => ?_⟩
      cases e2
      exact ⟨o, e, ex.2.1⟩
    · obtain ⟨o, _, _, _, e, ex, _⟩ := I.hok p _ hk
      refine ⟨⟨o, e, ex.1⟩, fun a e2 => ?_⟩
      cases e2
      exact ⟨o, e, ex.2.1⟩
  | _ => exact False.elim ty
def tBM (K : PySem.W.Frag) (T : String) (r : V → List V → Hp → VK → Prop) (to : TE) (t : TA) : TE := fun σ H Q => to σ H fun x H1 => tyV K T x H1 ∧ t σ H1 fun xs H2 => r x xs H2 Q
variable {o e : Expr} {es : List Expr} {to : TE} {t : TA} {name : Str} {apos cpos : Pos} {T id : String} {r : V → List V → Hp → VK → Prop}
theorem pe_bm (pa : PlainAttrs T) (slot : Slot T name id) (hty : typeOf (.builtin id) = pure (.type "method_descriptor")) (hm : MtR X id r) (ho : PE X o to) (ha : PA X (e :: es) t)
    (hbase : attributeBase o name X.env (eval o X.env) = eval o X.env := by rfl)
    (hfew : ((backTo cpos (starEach (e :: es) X.env)).all (fun x => !x.1) && (backToKw cpos (keywordEach [] X.env)).all (fun x => x.1.isSome)
      && decide ((e :: es).length + ([] : List Keyword).length + (if ([] : List Keyword).isEmpty then 0 else 1) < 30)) = true := by rfl)
    (hline : (apos.endLine == cpos.line) = true := by rfl) (hs : starEach (e :: es) X.env = (false, eval e X.env) :: starEach es X.env := by rfl) (hplain : (backTo cpos (starEach es X.env)).any (·.1) = false := by rfl) :
    PE X (.Call (.Attribute o name apos) (e :: es) [] cpos) (tBM X.K T r to t) := by
  intro pins s σ H Q I h
  refine wpAny_Call_method_late hbase hfew hline rfl (thn (ho pins s σ H _ I h) fun v s1 ⟨x, H1, I1, r1, ty, q1⟩ => ?_)
  obtain ⟨h1, h2⟩ := tyV_is I1 r1 ty
  refine ⟨T, id, pa, slot, hty, h1, h2, ?_⟩
  have hA := ha cpos pins s1 σ H1 _ I1 q1
  rw [hs] at hA ⊢
  refine Calls.callWith_builtin (by show (false || (backTo cpos (starEach es X.env)).any (·.1)) = false; rw [hplain] <;> rfl) (Calls.evalArgs_plain ?_)
  exact thn hA fun us s2 ⟨vs, H2, I2, r2, q2⟩ => hm pins s2 σ H2 x vs v us Q I2 r1 r2 q2
/- xs.append(e), list.index on a module's tuple .. are MtR facts of 06m -/
end
end L2

namespace L2
open PySem PySem.Spec PyProof.Rows

def MtM (X : Cx) (id : String) (r : V → List V → Hp → VK → Prop) : Prop :=
  ∀ (pins : List (Addr × Obj)) (s : Shared) (σ : St) (H : Hp) (x : V) (xs : List V) (v : Value) (us : List Value) (Q : VK), Inv X pins σ H s → RelV x v → Vals xs us → r x xs H Q →
    wpAny (model X.prog X.w) X.A (call (.builtin id) (v :: us)) (EP X pins σ Q) X.xe s

theorem Vals.one : ∀ {x : V} {us : List Value}, Vals [x] us → ∃ u, us = [u] ∧ RelV x u
  | _, _, .cons r .nil => ⟨_, rfl, r⟩
theorem Vals.two : ∀ {x y : V} {us : List Value}, Vals [x, y] us → ∃ u v, us = [u, v] ∧ RelV x u ∧ RelV y v
  | _, _, _, .cons r (.cons q .nil) => ⟨_, _, rfl, r, q⟩
theorem Vals.rep {xs : List V} {us : List Value} (h : Vals xs us) : ∀ k : Nat, Vals (List.replicate k xs).flatten (List.replicate k us).flatten
  | 0 => .nil
  | k + 1 => by
    rw [List.replicate_succ, List.replicate_succ, List.flatten_cons, List.flatten_cons]
    exact Vals.append h (Vals.rep h k)
theorem foldl_rep (its : List Value) : ∀ (k : Nat) (acc : List Value),
    List.foldl (fun x1 x2 => x1 ++ x2) acc.toArray (List.replicate k its.toArray) = (acc ++ (List.replicate k its).flatten).toArray
  | 0, acc => by simp
  | k + 1, acc => by
    have e : acc.toArray ++ its.toArray = (acc ++ its).toArray := by simp
    have e2 : (acc ++ its) ++ (List.replicate k its).flatten = acc ++ (List.replicate (k + 1) its).flatten := by
      rw [List.replicate_succ, List.flatten_cons, List.append_assoc]
    rw [← e2, ← foldl_rep its k (acc ++ its), ← e, List.replicate_succ, List.foldl_cons]

section
variable {X : Cx} {pins : List (Addr × Obj)} {σ : St} {H : Hp} {s : Shared} {l b : Addr} {xs ys zs : List V}

theorem Inv.lset {its its' : List Value} {n : Nat} {f : Array Value → Array Value} {t' : Nat} (I : Inv X pins σ H s) (hH : H l = some (.lst xs))
    (e : s.heap.get? l = some { cls := .type "list", data := .seq its.toArray n }) (hf : f its.toArray = its'.toArray) (hv : Vals ys its') (hz : ys.length ≤ sizeLine) :
    Inv X pins σ (upd H l (.lst ys)) { s with heap := s.heap.update l (Obj.mapSeq f), toks := t' } := by
  have q := PySem.IsL.update e f
  rw [hf] at q
  refine I.write (x := l) (e := l) (by rw [hH]; exact trivial) (.inl rfl) (fun b' u hb hu => (Heap.get?_update_other s.heap (Obj.mapSeq f) (Ne.symm hb)).trans hu) ⟨_, q⟩ ?_
  exact ⟨hz, its', _, hv, q⟩
theorem Inv.lnew {its : List Value} {t' : Nat} (I : Inv X pins σ H s) (hv : Vals ys its) (hz : ys.length ≤ sizeLine) :
    Inv X pins σ (upd H s.heap.objs.size (.lst ys)) { s with heap := s.heap.push { cls := .type "list", data := .seq its.toArray }, toks := t' } :=
  I.laid (fun _ _ q => Heap.get?_push_of_some _ q) (Nat.le_refl _) ⟨hz, its, 0, hv, Heap.get?_push_size _ rfl⟩
theorem Inv.fresh (I : Inv X pins σ H s) : H s.heap.objs.size = none := I.hok.fresh (Nat.le_refl _)
theorem Inv.lstM (I : Inv X pins σ H s) (hH : H l = some (.lst xs)) : xs.length ≤ sizeLine ∧ ∃ (its : List Value) (n : Nat), Vals xs its ∧ xs.length = its.length ∧ s.heap.get? l = some { cls := .type "list", data := .seq its.toArray n } := by
  obtain ⟨z, its, n, r, e⟩ := I.hok l _ hH
  exact ⟨z, its, n, r, r.length, e⟩

theorem notLongL {n : Nat} (h : n ≤ sizeLine) : Builtin.List.listTooLong n = false := by
  unfold Builtin.List.listTooLong
  exact decide_eq_false (by (first | lia | omega))
end

section
variable {X : Cx}

def rAppend : V → List V → Hp → VK → Prop := fun x vs H Q => ∃ l xs y, x = .ref l ∧ vs = [y] ∧ H l = some (.lst xs) ∧ xs.length < sizeLine ∧ Q .non (upd H l (.lst (xs ++ [y])))
theorem mt_append : MtM X "list.append" rAppend := by
  intro pins s σ H x vs v us Q I rx rv h
  obtain ⟨l, xs, y, rfl, rfl, hH, hz, q⟩ := h
  cases rx
  obtain ⟨u, rfl, ru⟩ := rv.one
  obtain ⟨z, its, n, r, hl, e⟩ := I.lstM hH
  refine call_meets F.slot_list_append ⟨_, e, rfl⟩ F.entry_list_append (F.args_list_append_2 _ _) (PySem.list_append l its.toArray n u (by rw [List.size_toArray]; (first | lia | omega))) ⟨e, ?_⟩
  refine ⟨.non, _, I.lset (its' := its ++ [u]) hH e (by simp) (r.append (.cons ru .nil)) ?_, rfl, q⟩
  rw [List.length_append, List.length_singleton]
  (first | lia | omega)

def rExtend : V → List V → Hp → VK → Prop := fun x vs H Q => ∃ l b xs zs, x = .ref l ∧ vs = [.ref b] ∧ H l = some (.lst xs) ∧ H b = some (.lst zs) ∧ xs.length + zs.length ≤ sizeLine ∧ Q .non (upd H l (.lst (xs ++ zs)))
theorem mt_extend : MtM X "list.extend" rExtend := by
  intro pins s σ H x vs v us Q I rx rv h
  obtain ⟨l, b, xs, zs, rfl, rfl, hH, hB, hz, q⟩ := h
  cases rx
  obtain ⟨u, rfl, ru⟩ := rv.one
  cases ru
  obtain ⟨z, its, n, r, hl, e⟩ := I.lstM hH
  obtain ⟨z2, its2, n2, r2, hl2, e2⟩ := I.lstM hB
  have hsz : its.toArray.size + its2.toArray.size ≤ sizeLine := by rw [List.size_toArray, List.size_toArray]; (first | lia | omega)
  have hlong : ¬ (!its.toArray.isEmpty && Builtin.List.listTooLong (its.toArray.size + its2.toArray.size)) = true := by
    rw [notLongL hsz, Bool.and_false]
    exact Bool.false_ne_true
  refine call_meets F.slot_list_extend ⟨_, e, rfl⟩ F.entry_list_extend (F.args_list_extend_2 _ _)
    (AutoSeq1.list_extend_list_list_0 l its.toArray n b its2.toArray n2 hlong (by rw [List.size_toArray]; (first | lia | omega)) (by (first | lia | omega))) ⟨e, e2, ?_⟩
  refine ⟨.non, _, I.lset (its' := its ++ its2) hH e (by simp) (r.append r2) ?_, rfl, q⟩
  rw [List.length_append]
  (first | lia | omega)

def rCat : R2 := fun x y H Q => ∃ l b xs zs, x = .ref l ∧ y = .ref b ∧ H l = some (.lst xs) ∧ H b = some (.lst zs) ∧ xs.length + zs.length ≤ sizeLine ∧ ∀ p, H p = none → Q (.ref p) (upd H p (.lst (xs ++ zs)))
theorem op_cat : OpR X (binaryOp .Add) rCat := by
  intro pins s σ H x y v u Q I rx ry h
  obtain ⟨l, b, xs, zs, rfl, rfl, hH, hB, hz, q⟩ := h
  cases rx
  cases ry
  obtain ⟨z, its, n, r, hl, e⟩ := I.lstM hH
  obtain ⟨z2, its2, n2, r2, hl2, e2⟩ := I.lstM hB
  refine PySem.P.add_list e e2 ?_ (by rw [List.size_toArray, List.size_toArray]; (first | lia | omega))
  have ea : its.toArray ++ its2.toArray = (its ++ its2).toArray := by simp
  rw [ea]
  exact ⟨.ref _, _, I.lnew (t' := s.toks) (r.append r2) (by rw [List.length_append]; (first | lia | omega)), rfl, q _ I.fresh⟩
def rRep : R2 := fun x y H Q => ∃ l k xs, x = .ref l ∧ y = .int k ∧ H l = some (.lst xs) ∧ -(2 ^ 63) ≤ k ∧ k < 2 ^ 63 ∧ xs.length * k.toNat ≤ sizeLine ∧
  ∀ p, H p = none → Q (.ref p) (upd H p (.lst (List.replicate k.toNat xs).flatten))
theorem len_rep {α : Type} (xs : List α) (k : Nat) : (List.replicate k xs).flatten.length = k * xs.length := by
  induction k with
  | zero => simp
  | succ k ih => rw [List.replicate_succ, List.flatten_cons, List.length_append, ih, Nat.succ_mul, Nat.add_comm]
theorem op_rep : OpR X (binaryOp .Mult) rRep := by
  intro pins s σ H x y v u Q I rx ry h
  obtain ⟨l, k, xs, rfl, rfl, hH, h1, h2, hz, q⟩ := h
  cases rx
  obtain ⟨t, rfl⟩ := ry
  obtain ⟨z, its, n, r, hl, e⟩ := I.lstM hH
  have hlen : its.toArray.size * k.toNat ≤ sizeLine := by rw [List.size_toArray, ← hl]; exact hz
  have hcap : ¬ its.toArray.size * k.toNat > (2 ^ 63 - 1) / 8 := by
    have : (sizeLine : Nat) ≤ (2 ^ 63 - 1) / 8 := by decide
    (first | lia | omega)
  have hfit : ¬ (!Builtin.List.listFitsIndex k) = true := by
    rw [fitsIndex_both h1 h2]
    exact Bool.false_ne_true
  have hlong : ¬ Builtin.List.listTooLong (its.toArray.size * k.toNat) = true := by
    rw [notLongL hlen]
    exact Bool.false_ne_true
  have hnew : List.foldl (fun x1 x2 => x1 ++ x2) #[] (List.replicate (if its.toArray.isEmpty = true then 0 else k.toNat) its.toArray) = (List.replicate k.toNat its).flatten.toArray := by
    have f0 : ∀ m : Nat, List.foldl (fun x1 x2 => x1 ++ x2) #[] (List.replicate m its.toArray) = (List.replicate m its).flatten.toArray := fun m => by
      have := foldl_rep its m []
      rw [List.nil_append] at this
      exact this
    rw [f0]
    cases its with
    | nil => simp
    | cons a r' => rw [if_neg (by simp)]
  refine wpAny_binaryOp_repeat_ref (T := "list") (U := "int") (by decide) ⟨_, e, rfl⟩ (fun s' => typeIs_int s' k t) noFill_list_mul F.fills_int_mul F.slot_int_rmul repeat_list F.slot_int_index.lookup
    (call_meets F.slot_int_rmul (typeIs_int s k t) F.entry_int_rmul (F.args_int_rmul_2 _ _) (int___rmul___int_list k t l its.toArray n)
      ⟨e, rfl, ⟨_, e, rfl⟩, call_meets F.slot_list_mul ⟨_, e, rfl⟩ F.entry_list_mul (F.args_list_mul_2 _ _) (AutoListH.list___mul___list_int_3 l its.toArray n k t hfit hcap hlong) ⟨e, ?_⟩⟩)
  rw [hnew]
  exact ⟨.ref _, _, I.lnew (t' := s.toks) (r.rep k.toNat) (by rw [len_rep, Nat.mul_comm]; exact hz), rfl, q _ I.fresh⟩

end

section
variable {prog : Program} {w : World} {A : Around} {E : Value → Shared → Prop} {s : Shared}
end

section
variable {X : Cx}
end
end L2

namespace Att
open PySem PySem.W PySem.Calls PyProof.Rows

theorem ints_of_wellAll {P : Params} {h : Heap} : ∀ (ns : List Int) (vs : List Value), WellAll P h vs (ns.map WData.int) → IntsAre vs ns := by
  intro ns
  induction ns with
  | nil =>
    intro vs w
    rw [List.map_nil] at w
    cases w
    exact .nil
  | cons n ns ih =>
    intro vs w
    rw [List.map_cons] at w
    cases w with
    | cons a b =>
      cases a
      exact .cons _ _ (ih _ b)

theorem script_of {l : OpenLaw} {n : Nat} (hn : l.most = some n) {P : Params} {h : Heap} {args : List WData} {vals : List Value}
    (hpre : l.row.toRowW.claim.pre args = true) (hwl : WellAll P h vals args) :
    ∃ a vs ns, vals = [Value.ref a] ∧ args = [WData.list (ns.map WData.int)] ∧ h.get? a = some { cls := .type "list", data := .seq vs.toArray } ∧ IntsAre vs ns ∧ ns.length ≤ n := by
  have hsh : WShape.hasAll [] args [.list .int] = true := (pre_splitW hpre).1
  have hc : l.pre.holds [] { args := args } = true := (pre_splitW hpre).2
  obtain ⟨d, r, rfl, h1, h2⟩ := hasAllW_cons hsh
  obtain rfl := hasAllW_nil h2
  obtain ⟨xs, rfl, h3⟩ := hasW_list h1
  obtain ⟨ns, rfl⟩ := items_int h3
  have hlen : ns.length ≤ n := by
    unfold OpenLaw.pre at hc
    have h4 : (WTm.not (.lt (.lit (.int (n : Int))) (.len (.arg 0)))).holds [] { args := [.list (ns.map .int)] } = true := by
      have h4 := (holds_andW hc).1
      rw [hn] at h4
      exact h4
    have h5 := condW_of h4 (w_not (w_lt w_lit (w_len_list (w_arg rfl))))
    rw [List.length_map] at h5
    refine Nat.le_of_not_lt fun q => ?_
    have q' : (n : Int) < ((ns.length : Nat) : Int) := by (first | lia | omega)
    first
      | (rw [decide_eq_true q'] at h5; exact absurd h5 (by decide))
      | (simp at h5; (first | lia | omega))
  cases hwl with
  | cons w1 w2 =>
    cases w2
    cases w1 with
    | list ho hall => exact ⟨_, _, ns, rfl, rfl, ho, ints_of_wellAll ns _ hall, hlen⟩

theorem post_true (l : OpenLaw) (args : List WData) : l.row.toRowW.claim.post args (.bool true) args = true :=
  postW_of (r := l.row.toRowW) (X := (true == true))
    (show WShape.has [] (.bool true) .bool = true by first | rfl | decide | simp [WShape.has, WShape.arms, WShape.armsAll])
    (show (WTm.eq .res (.lit (.bool true))).value [] { args := args, res := some (.bool true), after := args } = some (.bool (true == true)) from w_eq_bool (w_res rfl) w_lit) rfl

theorem attach_call {l : OpenLaw} {n : Nat} {q : Program} {loose : List Str} {XP : (Str → Option Value) → Heap → Prop} {YP : World → Heap → Prop} {d : DefRec}
    (hn : l.most = some n) (hdf : d.params.defaults = [])
    (call : ∀ (w : World) (s₀ s₁ : Shared) (mg mb : Str → Option Value) (fa : Addr) (o : Obj) (pm cd doc : Value) (a : Addr) (vs : List Value) (ns : List Int),
      Ground q loose [] XP w s₀ mg mb s₁.heap → YP w s₁.heap →
      s₁.heap.get? fa = some o → o.data = .func (docDef d.name d.params d.body d.scope pm cd doc) → s₁.heap.CodeRec cd d.name → mg d.name = some (.ref fa) →
      s₁.heap.get? a = some { cls := .type "list", data := .seq vs.toArray } → IntsAre vs ns → ns.length ≤ n → s₁.gens = #[] →
      codeAny (model l.prog w) callerA (.call (.ref fa) ⟨[.ref a], []⟩) (fun r s' => r = .ok (.ret (.bool true)) ∧ OldK s₁.heap s'.heap ∧ s'.os = s₁.os ∧ AllBare s'.gens) s₁) :
    WalkO q loose XP YP l.row.toRowW d [] (fun f vs => PySem.call f vs) := by
  intro w s₀ s₁ mg mb G Y fa o pm cd doc dV kV ho hd hcd hD hmg hg args vals as hpre hlay hrd hwl hlo
  obtain rfl : dV = .none := Dflts.none hD hdf
  obtain rfl : kV = .none := Dflts.noKw hD
  obtain ⟨a, vs, ns, rfl, rfl, hobj, hints, hlen⟩ := script_of hn hpre hwl
  refine enter_call (codeAny_mono (call w s₀ s₁ mg mb fa o pm cd doc a vs ns G Y ho (fd_plain hd) hcd hmg hobj hints hlen hg) fun r s' hq => ?_)
  obtain ⟨rfl, h2, h3, h4⟩ := hq
  exact ⟨.inl ⟨.bool true, .bool true, [], rfl, fun _ => rfl, .bool true, post_true l _, fun _ => ⟨List.Pairwise.nil, fun _ hm => (nomatch hm)⟩⟩, h2, h3, h4⟩

section
variable {prog : Program} {w : World} {A : Around} {E : Value → Shared → Prop} {s : Shared} {K : Frag}

def ledger (h : Heap) (L d : Addr) : List (Addr × Obj) := (List.range h.objs.size).filterMap fun a => if a = L ∨ a = d then none else (h.get? a).map fun o => (a, o)
end
end Att

namespace L2
open PySem PySem.Spec PyProof.Rows

theorem vals_ints : ∀ {vs : List Value} {ns : List Int}, IntsAre vs ns → Vals (ns.map V.int) vs
  | _, _, .nil => .nil
  | _, _, .cons n t h => .cons ⟨t, rfl⟩ (vals_ints h)

def Only (H : Hp) : Prop := ∀ b, H b = none ∨ ∃ o xs, H b = some (.frz o (.lst xs))

theorem law_call {P : Program} {w : World} {K : PySem.W.Frag} {mg mb : Str → Option Value} {CX : CXT} {k : Nat} {fa a : Addr} {fd : FuncData} {x : Str} {sp : Sp} {s₁ : Shared} {vs : List Value} {ns : List Int}
    (KX : K.In s₁.heap) (hns : s₁.heap.Ns mainGlobals mg) (hb : s₁.heap.Ns builtinsNs mb) (hbb : ∀ x : Str, x ≠ "__name__" → mb x = bootBuiltins x) (hlim : s₁.heap.NoLimit) (hg : s₁.gens = #[])
    (ha : s₁.heap.get? a = some { cls := .type "list", data := .seq vs.toArray }) (hi : IntsAre vs ns) (hl : ns.length ≤ sizeLine) (hr : Room k callerA)
    (F : ∀ base : Heap, K.In base → base.Ns mainGlobals mg → FnOk P w K mg base CX k fa fd [x] sp) (hbind : ∀ (s : Shared) (u : Value), BindsTo s fd ⟨[u], []⟩ [(x, u)])
    (hsp : ∀ H : Hp, Only H → SqL K H a (ns.map V.int) → sp [.ref a] H (fun v _ => v = .bl true) fun _ _ _ => False)
    (hCX : ∀ H e s', CX [] H s₁ (fun _ _ _ => False) e s' → False) :
    codeAny (model P w) callerA (.call (.ref fa) ⟨[.ref a], []⟩) (fun r s' => r = .ok (.ret (.bool true)) ∧ OldK s₁.heap s'.heap ∧ s'.os = s₁.os ∧ AllBare s'.gens) s₁ := by
  have rv := vals_ints hi
  have lenV := hi.length
  -- from an abstract heap in which nothing but the script may be tracked
  have core : ∀ H : Hp, Only H → SqL K H a (ns.map V.int) → HOk P w H s₁.heap → (∀ b, H b ≠ none → b = a) → (H a ≠ none → K.lookup a = none) →
      codeAny (model P w) callerA (.call (.ref fa) ⟨[.ref a], []⟩) (fun r s' => r = .ok (.ret (.bool true)) ∧ OldK s₁.heap s'.heap ∧ s'.os = s₁.os ∧ AllBare s'.gens) s₁ := by
    intro H hO hS hok hA hK
    have base_of : ∀ {b : Addr} {o : Obj}, s₁.heap.get? b = some o → H b = none → (hidT s₁.heap H).get? b = some o := fun e n => hidT_get e n
    have noA : ∀ {b : Addr} {o : Obj} {es : Array DictEntry} {ep : Nat}, s₁.heap.get? b = some o → o.data = .dict es ep → H b = none := fun {b o es ep} e d => by
      cases q : H b with
      | none => rfl
      | some u =>
        have e' : b = a := hA b (by rw [q]; simp)
        subst e'
        rw [ha] at e; cases e
        have d' : Data.seq vs.toArray _ = Data.dict es ep := d
        cases d'
    have nsK : ∀ {b : Addr} {m : Str → Option Value}, s₁.heap.Ns b m → (hidT s₁.heap H).Ns b m := fun {b m} ⟨o, es, ep, e, d, r⟩ => ⟨o, es, ep, base_of e (noA e d), d, r⟩
    have hKb : K.In (hidT s₁.heap H) := fun b o e => base_of (KX b o e) (by
      cases q : H b with
      | none => rfl
      | some u =>
        have e' : b = a := hA b (by rw [q]; simp)
        subst e'
        rw [hK (by rw [q]; simp)] at e; cases e)
    have hM : Mod K mg (hidT s₁.heap H) := ⟨hKb, nsK hns, ⟨mb, nsK hb, hbb⟩, let ⟨mc, h1, h2⟩ := hlim; ⟨mc, nsK h1, h2⟩⟩
    have e0 : Env0 P w K mg (hidT s₁.heap H) callerA [] s₁ H := ⟨rfl, hM, fun b o e => of_hidT e, Nat.le_of_eq (hidT_size _ _), trivial, fun b hb => absurd (show b ∈ ([] : List Addr) from hb) (by simp), hok, .of_eq hg⟩
    refine codeAny_mono ((F _ hKb (nsK hns)).run callerA [] s₁ H ⟨[.ref a], []⟩ [.ref a] [.ref a] _ _ hr e0 (hbind s₁ (.ref a)) (.cons rfl .nil) (hsp H hO hS)) fun r s' h => ?_
    cases r with
    | error e => exact (hCX H e s' h).elim
    | ok fl =>
      cases fl with
      | next => exact False.elim h
      | brk => exact False.elim h
      | cont => exact False.elim h
      | ret u =>
        obtain ⟨v, H', os, bare, un, hok', r', q⟩ := h
        have q' : v = .bl true := q
        subst q'
        obtain rfl : u = Value.bool true := r'
        refine ⟨rfl, OldK.of_keep fun b o e => ?_, os, bare⟩
        cases q : H b with
        | none => exact un.keep b o e q (by intro z; exact absurd (show b ∈ ([] : List Addr) from z) (by simp)) (by simp)
        | some u =>
          rcases hO b with z | ⟨ob, xs, z⟩
          · rw [q] at z; cases z
          · have z2 := un.frzs b ob _ z
            obtain ⟨e1, _⟩ := hok b _ z
            obtain ⟨e2, _⟩ := hok' b _ z2
            rw [e] at e1; cases e1
            exact e2
  cases hk : K.lookup a with
  | some o =>
    -- the script is one of the module's own objects
    have e := KX a o hk
    rw [ha] at e
    cases e
    refine core (fun _ => none) (fun _ => .inl rfl) (.inr ⟨_, vs.toArray, _, hk, rfl, rfl, rfl, by rw [List.size_toArray, lenV]; exact hl, by simpa using rv⟩) (fun b u z => by have z' : (none : Option HO) = some u := z; cases z') (fun b z => absurd rfl z) fun z => absurd rfl z
  | none =>
    refine core (fun b => if b = a then some (.frz { cls := .type "list", data := .seq vs.toArray } (.lst (ns.map V.int))) else none) (fun b => ?_) (.inl (.inr ⟨{ cls := .type "list", data := .seq vs.toArray }, if_pos rfl⟩)) (fun b u z => ?_) (fun b z => ?_) fun _ => hk
    · by_cases hb : b = a
      · exact .inr ⟨_, _, if_pos hb⟩
      · exact .inl (if_neg hb)
    · by_cases hb : b = a
      · have z' := (if_pos hb).symm.trans z
        cases z'
        subst hb
        exact ⟨ha, by rw [List.length_map]; exact hl, vs, _, rv, ha⟩
      · have z' := (if_neg hb).symm.trans z
        cases z'
    · by_cases hb : b = a
      · exact hb
      · exact absurd (if_neg hb) z
end L2

namespace L2
open PySem PySem.Spec PyProof.Rows

theorem walk_of {l : PySem.W.OpenLaw} {n k : Nat} {q : Program} {loose : List Str} {XP : (Str → Option Value) → Heap → Prop} {YP : World → Heap → Prop} {d : DefRec} {K : Params → PySem.W.Frag} {CX : World → CXT} {sp : World → Sp} {x : Str}
    (hn : l.most = some n) (hn2 : n ≤ sizeLine) (hdf : d.params.defaults = []) (hr : Room k callerA)
    (hY : ∀ (w : World) (h : Heap), YP w h → (K w.params).In h)
    (F : ∀ (w : World) (mg : Str → Option Value) (fa : Addr) (h : Heap), (K w.params).In h → h.Ns mainGlobals mg → mg d.name = some (.ref fa) →
      ∃ fd : FuncData, (∀ (s : Shared) (u : Value), BindsTo s fd ⟨[u], []⟩ [(x, u)]) ∧
        ∀ base : Heap, (K w.params).In base → base.Ns mainGlobals mg → FnOk l.prog w (K w.params) mg base (CX w) k fa fd [x] (sp w))
    (hsp : ∀ (w : World) (H : Hp) (a : Addr) (ns : List Int), ns.length ≤ n → Only H → SqL (K w.params) H a (ns.map V.int) → sp w [.ref a] H (fun v _ => v = .bl true) fun _ _ _ => False)
    (hCX : ∀ (w : World) (H : Hp) (s : Shared) (e : Value) (s' : Shared), CX w [] H s (fun _ _ _ => False) e s' → False) :
    PySem.W.WalkO q loose XP YP l.row.toRowW d [] (fun f vs => PySem.call f vs) := by
  refine Att.attach_call hn hdf fun w s₀ s₁ mg mb fa o pm cd doc a vs ns G Y ho hd hcd hmg hobj hints hlen hg => ?_
  have KX := hY w _ Y
  obtain ⟨fd, hb, hF⟩ := F w mg fa _ KX G.T.g hmg
  exact law_call KX G.T.g G.T.b G.T.builtins G.T.nolimit hg hobj hints (Nat.le_trans hlen hn2) hr hF hb (fun H hO hS => hsp w H a ns hlen hO hS) fun H e s' => hCX w H s₁ e s'
end L2

namespace L2
open PySem PySem.Spec PyProof.Rows

def defArgs (s : Stmt) : Arguments := match s with
  | .FunctionDef _ a _ _ _ _ _ _ _ _ => a
  | _ => { posonlyargs := [], args := [], vararg := none, kwonlyargs := [], kw_defaults := [], kwarg := none, defaults := [] }
def defBody (s : Stmt) : List Stmt := match s with
  | .FunctionDef _ _ b _ _ _ _ _ _ _ => b
  | _ => []
def defScope (s : Stmt) : Scope := match s with
  | .FunctionDef _ _ _ _ _ _ sc _ _ _ => sc
  | _ => { kind := .function, names := [], isGenerator := false, isCoroutine := false }

abbrev CX0 : CXT := fun _ _ _ _ _ _ => False
abbrev E0 : XK := fun _ _ _ => False
theorem pass0 {X : Cx} : Passes CX0 X E0 := fun _ _ _ _ _ _ _ h => h.elim

structure Fun (K : PySem.W.Frag) (x qual : Str) (st : Stmt) (f : Addr) (fd : FuncData) : Prop where
  ex : ∃ (oc : Value) (od : Option Addr) (kV doc pm : Value) (an : Option Addr) (cdv ct : Value) (osl : Array (Option Value)),
    fd = PySem.W.fnOf x qual (defArgs st) (defBody st) (defScope st) .none kV doc pm an cdv ct ∧ K.lookup f = some ⟨oc, od, .func fd, osl⟩ ∧ PySem.W.codeIn K cdv qual = true
  kp : PySem.W.keepIn K (.ref f) = true
section
variable {P : Program} {w : World} {K : PySem.W.Frag} {mg : Str → Option Value} {base : Heap}
theorem Fun.ok {x qual : Str} {st : Stmt} {f : Addr} {fd : FuncData} {N ps : List Str} {k : Nat} {sp : Sp} (F : Fun K x qual st f fd) (S : FnScope N ps (defScope st)) (len : ∀ vs H Q E, sp vs H Q E → vs.length = ps.length)
    (hbody : ∀ (cdv : Value) (A : Around) (outer : List Env) (s : Shared) (H : Hp) (vs : List V) (Q : VK) (E : XK), Room k (A.deeper (envOfC qual (defScope st) s.heap.objs.size f cdv)) → sp vs H Q E →
      ∃ t, PSs (cxOf CX0 P w K mg base N qual (defScope st) f cdv A outer s H E).nox (defBody st) t ∧ t { nx := fun _ H' => Q .non H', rt := Q } (start N vs) H) : FnOk P w K mg base CX0 (k + 1) f fd ps sp := by
  obtain ⟨oc, od, kV, doc, pm, an, cdv, ct, osl, rfl, lk, hcd⟩ := F.ex
  refine fn_of lk hcd S len fun A outer s H vs Q E hr hsp => ?_
  obtain ⟨t, h, q⟩ := hbody cdv A outer s H vs Q E hr hsp
  exact ⟨t, h.nox, q⟩
theorem Fun.binds {x qual : Str} {st : Stmt} {f : Addr} {fd : FuncData} {ps : List Str} (F : Fun K x qual st f fd)
    (h : ∀ (kV doc pm : Value) (an : Option Addr) (cdv ct : Value) (us : List Value), us.length = ps.length → bindArgs (PySem.W.fnOf x qual (defArgs st) (defBody st) (defScope st) .none kV doc pm an cdv ct) ⟨us, []⟩ = pure (ps.zip us)) : Binds K fd ps [] := by
  obtain ⟨oc, od, kV, doc, pm, an, cdv, ct, osl, rfl, lk, hcd⟩ := F.ex
  exact .all (h kV doc pm an cdv ct)
theorem fun_mk {x qual : Str} {st : Stmt} {f : Addr} {oc : Value} {od an : Option Addr} {osl : Array (Option Value)} {kV doc pm cdv ct : Value} (l : K.lookup f = some ⟨oc, od, .func (PySem.W.fnOf x qual (defArgs st) (defBody st) (defScope st) .none kV doc pm an cdv ct), osl⟩)
    (c : PySem.W.codeIn K cdv qual = true) (k : PySem.W.keepIn K (.ref f) = true) : Fun K x qual st f (PySem.W.fnOf x qual (defArgs st) (defBody st) (defScope st) .none kV doc pm an cdv ct) := ⟨⟨oc, od, kV, doc, pm, an, cdv, ct, osl, rfl, l, c⟩, k⟩
end
theorem small1000 {n : Nat} (h : n ≤ 1000) : n < sizeLine := Nat.lt_of_le_of_lt h (by decide)

section
variable {X : Cx}
theorem pv (i : Nat) {x : Str} {pos : Pos} (hN : X.N[i]? = some x := by rfl) (hv : Vis X.env.scope x := by first | exact Or.inl rfl | exact Or.inr (Or.inl rfl) | exact Or.inr (Or.inr rfl)) (hd : (x == ("__debug__" : Str)) = false := by decide)
    (hcd : (x == ("__classdict__" : Str)) = false := by decide) : PE X (.Name x pos) (tVar i) := pe_var hN hv hd hcd
end

theorem ite2 {c A B : Prop} [Decidable c] (h1 : c → A) (h2 : ¬ c → B) : if c then A else B := by
  by_cases h : c
  · rw [if_pos h]
    exact h1 h
  · rw [if_neg h]
    exact h2 h
def Same (H H' : Hp) : Prop := ∀ b o, H b = some o → H' b = some o
theorem Same.refl (H : Hp) : Same H H := fun _ _ h => h
theorem Same.trans {H H1 H2 : Hp} (a : Same H H1) (b : Same H1 H2) : Same H H2 := fun c o h => b c o (a c o h)
theorem Same.free {H H' : Hp} (e : Same H H') {l : Addr} (h : H' l = Option.none) : H l = Option.none := by
  cases q : H l with
  | none => rfl
  | some o =>
    rw [e l o q] at h
    cases h
theorem Same.seq {K : PySem.W.Frag} {H H' : Hp} {a : Addr} {xs : List V} (e : Same H H') (h : SqL K H a xs) : SqL K H' a xs := by
  rcases h with (h | ⟨o, h⟩) | h
  · exact .inl (.inl (e _ _ h))
  · exact .inl (.inr ⟨o, e _ _ h⟩)
  · exact .inr h

end L2

namespace L2
open PySem PySem.Spec PyProof.Rows

def clo (env : Env) : List (Str × NameKind) → List (Str × Addr) → List (Str × Addr)
  | [], acc => acc
  | (n, k) :: r, acc => if k == .free then clo env r ((n, (env.cells.lookup n).getD 0) :: acc) else clo env r acc
theorem clo_run {env : Env} {f : Str × NameKind → List (Str × Addr) → Sem (ForInStep (List (Str × Addr)))}
    (hf : ∀ n k acc, f (n, k) acc = if k == .free then (do let a ← cellOf env n; pure (ForInStep.yield ((n, a) :: acc))) else pure (ForInStep.yield acc)) :
    ∀ (names : List (Str × NameKind)) (acc : List (Str × Addr)), (∀ p ∈ names, p.2 = .free → ∃ a, env.cells.lookup p.1 = some a) →
    (forIn names acc f : Sem (List (Str × Addr))) = pure (clo env names acc)
  | [], acc, _ => rfl
  | (n, k) :: r, acc, h => by
    rw [List.forIn_cons, hf]
    unfold clo
    by_cases hk : (k == NameKind.free) = true
    · rw [if_pos hk, if_pos hk]
      obtain ⟨a, ha⟩ := h (n, k) List.mem_cons_self (by simpa using hk)
      have e : cellOf env n = pure a := by
        unfold cellOf
        rw [show env.cells.lookup n = some a from ha]
      rw [e, show env.cells.lookup n = some a from ha]
      simp only [pure_bind]
      exact clo_run hf r _ fun p hp => h p (List.mem_cons_of_mem _ hp)
    · rw [if_neg hk, if_neg hk, pure_bind]
      exact clo_run hf r _ fun p hp => h p (List.mem_cons_of_mem _ hp)
theorem closureFor_clo {env : Env} {scope : Scope} (h : ∀ p ∈ scope.names, p.2 = .free → ∃ a, env.cells.lookup p.1 = some a) : closureFor scope env = pure (clo env scope.names []) := by
  simp only [closureFor]
  rw [clo_run (env := env) (fun n k acc => ?_) scope.names [] h]
  · rfl
  · by_cases hk : (k == NameKind.free) = true
    · simp only [hk, if_true]
    · simp only [hk, if_false]
theorem clo_mem {env : Env} : ∀ {names : List (Str × NameKind)} {acc : List (Str × Addr)}, (∀ p ∈ names, p.2 = .free → ∃ a, env.cells.lookup p.1 = some a) → ∀ p ∈ clo env names acc, p ∈ acc ∨ (env.cells.lookup p.1 = some p.2)
  | [], acc, _, p, hp => .inl hp
  | (n, k) :: r, acc, h, p, hp => by
    unfold clo at hp
    have hr : ∀ p ∈ r, p.2 = .free → ∃ a, env.cells.lookup p.1 = some a := fun p hp => h p (List.mem_cons_of_mem _ hp)
    by_cases hk : (k == NameKind.free) = true
    · rw [if_pos hk] at hp
      obtain ⟨a, ha⟩ := h (n, k) List.mem_cons_self (by simpa using hk)
      rcases clo_mem hr p hp with q | q
      · rcases List.mem_cons.mp q with q | q
        · subst q
          right
          show env.cells.lookup n = some ((env.cells.lookup n).getD 0)
          rw [show env.cells.lookup n = some a from ha]; rfl
        · exact .inl q
      · exact .inr q
    · rw [if_neg hk] at hp
      exact clo_mem hr p hp
theorem clo_acc {env : Env} : ∀ {names : List (Str × NameKind)} {acc : List (Str × Addr)}, ∀ p ∈ acc, p ∈ clo env names acc
  | [], acc, p, hp => hp
  | (n, k) :: r, acc, p, hp => by
    unfold clo
    by_cases hk : (k == NameKind.free) = true
    · rw [if_pos hk]; exact clo_acc p (List.mem_cons_of_mem _ hp)
    · rw [if_neg hk]; exact clo_acc p hp
theorem clo_has {env : Env} : ∀ {names : List (Str × NameKind)} {acc : List (Str × Addr)} {x : Str}, (x, NameKind.free) ∈ names → ∃ a, (x, a) ∈ clo env names acc
  | [], _, _, h => by cases h
  | (n, k) :: r, acc, x, h => by
    unfold clo
    rcases List.mem_cons.mp h with q | q
    · cases q
      rw [if_pos (show (NameKind.free == NameKind.free) = true from rfl)]
      exact ⟨_, clo_acc _ List.mem_cons_self⟩
    · by_cases hk : (k == NameKind.free) = true
      · rw [if_pos hk]; exact clo_has q
      · rw [if_neg hk]; exact clo_has q
theorem look_of_mem {β : Type} : ∀ {l : List (Str × β)} {x : Str} {b : β}, (x, b) ∈ l → ∃ b', l.lookup x = some b'
  | [], _, _, h => by cases h
  | (n, k) :: r, x, b, h => by
    rw [List.lookup_cons]
    cases hx : x == n with
    | true => exact ⟨k, rfl⟩
    | false =>
      rcases List.mem_cons.mp h with q | q
      · cases q; simp at hx
      · exact look_of_mem q
theorem mem_of_look {β : Type} : ∀ {l : List (Str × β)} {x : Str} {b : β}, l.lookup x = some b → (x, b) ∈ l
  | [], _, _, h => by simp at h
  | (n, k) :: r, x, b, h => by
    rw [List.lookup_cons] at h
    cases hx : x == n with
    | true =>
      rw [hx] at h
      have : x = n := by simpa using hx
      subst this
      cases h
      exact List.mem_cons_self
    | false =>
      rw [hx] at h
      exact List.mem_cons_of_mem _ (mem_of_look h)

theorem relabel_lookup {env : Env} {x : Str} : ∀ (names : List (Str × NameKind)),
    (names.map fun (p : Str × NameKind) => match p with | (n, k) => if (k == .free && env.scope.kind == .function && env.kindOf n == some .cell) then (n, NameKind.cell) else (n, k)).lookup x =
      (names.lookup x).map fun k => if (k == .free && env.scope.kind == .function && env.kindOf x == some .cell) then NameKind.cell else k
  | [] => rfl
  | (n, k) :: r => by
    have ih := @relabel_lookup env x r
    rw [List.map_cons]
    show List.lookup x ((if (k == NameKind.free && env.scope.kind == .function && env.kindOf n == some .cell) = true then (n, NameKind.cell) else (n, k)) :: _) = _
    cases hx : x == n with
    | true =>
      have e : x = n := by simpa using hx
      subst e
      by_cases hc : (k == NameKind.free && env.scope.kind == .function && env.kindOf x == some .cell) = true
      · rw [if_pos hc]; simp only [List.lookup_cons, hx, Option.map_some, if_pos hc]
      · rw [if_neg hc]; simp only [List.lookup_cons, hx, Option.map_some, if_neg hc]
    | false =>
      by_cases hc : (k == NameKind.free && env.scope.kind == .function && env.kindOf n == some .cell) = true
      · rw [if_pos hc]; simp only [List.lookup_cons, hx]; exact ih
      · rw [if_neg hc]; simp only [List.lookup_cons, hx]; exact ih
theorem relabel_names {env : Env} {scope : Scope} {x : Str} : (relabel scope env).names.lookup x = (scope.names.lookup x).map fun k => if (k == .free && env.scope.kind == .function && env.kindOf x == some .cell) then NameKind.cell else k :=
  relabel_lookup scope.names

def cxComp (X : Cx) (N' : List Str) (scope : Scope) (cl : List (Str × Addr)) (C : Addr) (s : Shared) (H : Hp) (fp : List Addr) (pn : List (Addr × Obj)) : Cx :=
  { X with N := N', s₀ := s, H₀ := H, env := compEnvC scope cl C X.env, outer := X.stack, stack := X.stack, ex := fp, fn := fun _ => false, pn := pn, xe := fun _ _ => False }

def Wk : St → St → Prop
  | [], [] => True
  | a :: r, b :: q => (a = none ∨ a = b) ∧ Wk r q
  | _, _ => False
theorem Wk.len : ∀ {a b : St}, Wk a b → a.length = b.length
  | [], [], _ => rfl
  | _ :: _, _ :: _, h => by simp [Wk.len h.2]
  | [], _ :: _, h => False.elim h
  | _ :: _, [], h => False.elim h
theorem Wk.get : ∀ {a b : St}, Wk a b → ∀ (i : Nat) v, a[i]? = some (some v) → b[i]? = some (some v)
  | [], [], _, i, v, h => by simp at h
  | x :: r, y :: q, h, 0, v, e => by
    simp at e
    rcases h.1 with z | z
    · rw [z] at e; cases e
    · simp [← z, e]
  | x :: r, y :: q, h, i + 1, v, e => by
    simp at e ⊢
    exact Wk.get h.2 i v e
  | [], _ :: _, h, _, _, _ => False.elim h
  | _ :: _, [], h, _, _, _ => False.elim h

def stC (own : Nat) (caps : List Nat) (σ : St) : St := List.replicate own none ++ caps.map fun j => (σ[j]?).join

def PTs (X : Cx) (ifs : List Expr) (t : TT) : Prop :=
  ∀ (pins : List (Addr × Obj)) (s : Shared) (σ : St) (H : Hp) (Q : Bool → Hp → Prop), Inv X pins σ H s → t σ H Q →
    wpAny (model X.prog X.w) X.A (forIn ifs true fun c r => if r = true then do let ok ← isTrue c X.env (eval c X.env); pure (ForInStep.yield ok) else pure (ForInStep.yield r)) (TP X pins σ Q) X.xe s
def tTru : TT := fun _ H Q => Q true H
theorem tru_if {σ : St} {H : Hp} {A B : Hp → Prop} (h : A H) : tTru σ H (fun b H3 => if b = true then A H3 else B H3) := by
  show if true = true then A H else B H
  rw [if_pos rfl]
  exact h
theorem pts_nil {X : Cx} : PTs X [] tTru := fun _ _ _ H _ I h => wpAny_tests_nil ⟨H, I, h⟩
theorem pts_one {X : Cx} {c : Expr} {t : TT} (h : PT X c t) : PTs X [c] t := fun pins s σ H Q I q => wpAny_tests_one (h pins s σ H Q I q)

theorem compLoop_go {prog : Program} {w : World} {A : Around} {R : Result → Shared → Prop} {s : Shared} {elt target iter : Expr} {ifs : List Expr} {scope : Scope} {pos : Pos} {it acc : Value} {env : Env} (I : Nat → Shared → Prop)
    (turn : ∀ n s, I n s → wpAny (model prog w) A (pyNext it) (fun r s₁ => match r with
      | none => R (.ok .next) s₁
      | some v => wpAny (model prog w) A (letOwnedTupleGo target it v) (fun _ s₁' => wpAny (model prog w) A (assign target env v) (fun _ s₂ =>
          wpAny (model prog w) A (forIn ifs true fun c r => if r = true then do let ok ← isTrue c env (eval c env); pure (ForInStep.yield ok) else pure (ForInStep.yield r)) (fun ok s₃ =>
            if ok = true then wpAny (model prog w) A (eval elt env) (fun x s₄ =>
              wpAny (model prog w) A (call (.builtin "list.append") [acc, x]) (fun _ s₅ => ∃ m, m < n ∧ I m s₅) (fun _ _ => False) s₄) (fun _ _ => False) s₃
            else ∃ m, m < n ∧ I m s₃) (fun _ _ => False) s₂) (fun _ _ => False) s₁') (fun _ _ => False) s₁) (fun _ _ => False) s)
    (n : Nat) (h : I n s) :
    codeAny (model prog w) A (.compLoop (.ListComp elt [⟨target, iter, ifs, 0⟩] scope pos) 0 it acc env) R s := by
  refine codeAny_loop rfl I (fun n s hI => ?_) n h
  show wpAny _ A ((compTurn (.ListComp elt [⟨target, iter, ifs, 0⟩] scope pos) 0 it acc env).onRaise (fun x => do noteFrame x env; theTreesLotGoes x)) _ _ s
  refine wpAny_noted ?_
  rw [compTurn_list]
  refine wpAny_bind (wpAny_standAt (wpAny_bind (wpAny_mono (turn n s hI) (fun r s₁ h₁ => ?_) fun _ _ h' => False.elim h')))
  cases r with
  | none => exact wpAny_pure h₁
  | some v =>
    refine wpAny_bind (wpAny_mono h₁ (fun _ s₁' h₁' => ?_) fun _ _ h' => False.elim h')
    refine wpAny_bind (wpAny_mono h₁' (fun _ s₂ h₂ => wpAny_bind (wpAny_mono h₂ (fun ok s₃ h₃ => ?_) fun _ _ h' => False.elim h')) fun _ _ h' => False.elim h')
    cases ok with
    | false => exact wpAny_pure ⟨rfl, h₃⟩
    | true =>
      exact wpAny_bind (wpAny_bind (wpAny_mono h₃ (fun x s₄ h₄ => wpAny_bind (wpAny_mono h₄ (fun _ s₅ h₅ => wpAny_pure (wpAny_pure ⟨rfl, h₅⟩)) fun _ _ h' => False.elim h')) fun _ _ h' => False.elim h'))

def tComp (wi : TI) (own : Nat) (caps : List Nat) (g : TG) (tt : TT) (te : TE) : TE := fun σ H Q => wi σ H fun J H1 => ∀ l, H1 l = none → ∃ W : Nat → Nat → List V → Hp → Prop, (∃ m, W 0 m [] (upd H1 l (.lst []))) ∧
  ∀ i m ys H, W i m ys H → H l = some (.lst ys) ∧ ((J.stop i H ∧ Q (.ref l) H) ∨ (J.go i H ∧ ys.length < sizeLine ∧ ∃ N : List V → Hp → Prop, (∀ ys' H', N ys' H' → ∃ m', m' < m ∧ W (i + 1) m' ys' H') ∧
    ∀ x H', J.yld i H x H' → g x (stC own caps σ) H' fun σ2 H2 => Wk (stC own caps σ) σ2 ∧
    tt σ2 H2 fun b H3 => if b = true then te σ2 H3 fun y H4 => H4 l = some (.lst ys) ∧ N (ys ++ [y]) (upd H4 l (.lst (ys ++ [y]))) else N ys H3))

section
variable {X : Cx} {tg elt iter : Expr} {ifs : List Expr} {scope : Scope} {pos : Pos} {wi : TI} {g : TG} {tt : TT} {te : TE} {ownN : List Str} {caps : List (Str × Nat)}
theorem inv_comp {pins : List (Addr × Obj)} {σ : St} {H : Hp} {s : Shared} {fp : List Addr} {h₁ : Heap}
    (I : Inv X pins σ H s) (hf : ∀ b ∈ fp, FpOk X pins H b) (hfl : ∀ b ∈ fp, b < s.heap.objs.size)
    (hkind : scope.kind = .function) (hcell : ∀ y ∈ scope.names, y.2 ≠ .cell)
    (hfree : ∀ p ∈ scope.names, p.2 = .free → X.env.scope.names.lookup p.1 = some .cell)
    (hcaps : ∀ c ∈ caps, X.N[c.2]? = some c.1 ∧ X.env.scope.names.lookup c.1 = some .cell ∧ scope.names.lookup c.1 = some .free)
    (hn : h₁.Ns s.heap.objs.size (fun _ => none)) (hk : ∀ b o, s.heap.get? b = some o → h₁.get? b = some o) {tk : Nat} :
    Inv (cxComp X (ownN ++ caps.map (·.1)) scope (clo X.env scope.names []) s.heap.objs.size s H fp (X.pn ++ pins)) [] (stC ownN.length (caps.map (·.2)) σ) H { s with heap := h₁, toks := tk } := by
  have has : ∀ p ∈ scope.names, p.2 = .free → ∃ a, X.env.cells.lookup p.1 = some a := fun p hp hfr => I.ok.has p.1 (.inl (hfree p hp hfr))
  have cmem : ∀ {x : Str} {c : Addr}, (clo X.env scope.names []).lookup x = some c → X.env.cells.lookup x = some c := fun {x c} e => by
    rcases clo_mem has _ (mem_of_look e) with q | q
    · cases q
    · exact q
  have clt : ∀ {x : Str} {c : Addr}, X.env.cells.lookup x = some c → c < s.heap.objs.size := fun {x c} e => by
    obtain ⟨v, q⟩ := I.cell x c e
    exact q.lt
  refine ⟨⟨I.ok.mod, ?_, I.ok.glob, I.ok.blt, Nat.le_refl _, fun x y c h1 h2 => I.ok.inj x y c (cmem h1) (cmem h2), fun x hx => ?_, fun x c h => (by cases h), I.ok.hd, I.ok.frames, .inl rfl, fun b hb => ⟨Nat.ne_of_lt (hfl b hb), fun x c e => (hf b hb).2.2.2.2.1 x c (cmem e)⟩,
    fun b o e => I.bs b o e, Nat.le_trans I.ok.bsz I.sz, fun b o e z => ?_, fun b hb z => ?_, I.stack, I.stkFree⟩, rfl, I.bare, Un.kept hk, ⟨_, hn, fun i x v h1 h2 h3 => ?_⟩, fun x c e => ?_, I.hok.fresh (Nat.le_refl _), fun x c e => I.freeC x c (cmem e), fun p hp => ?_, I.hok.kept hk, ?_⟩
  · show (relabel scope X.env).kind = .function
    exact hkind
  · -- a cell for each free name
    have e0 : (relabel scope X.env).names.lookup x = some .cell ∨ (relabel scope X.env).names.lookup x = some .free := hx
    rw [relabel_names] at e0
    have e1 : scope.names.lookup x = some .free := by
      cases q : scope.names.lookup x with
      | none => rw [q] at e0; simp at e0
      | some k =>
        have hk' := hcell _ (mem_of_look q)
        rw [q] at e0
        cases k with
        | free => rfl
        | cell => exact absurd rfl hk'
        | _ => simp at e0
    obtain ⟨a, ha⟩ := clo_has (env := X.env) (acc := []) (mem_of_look e1)
    exact look_of_mem ha
  · -- the base has no iterator of ours
    rcases (hf b z).2.2.2.1 with q | q
    · exact I.ok.noex b o e q
    · exact absurd (Nat.lt_of_lt_of_le (Heap.lt_size e) (Nat.le_trans I.ok.bsz q)) (Nat.lt_irrefl _)
  · rcases List.mem_cons.mp (I.stkSub b z) with q | q
    · exact (hf b hb).2.1 q
    · exact (hf b hb).2.2.1 q
  · -- captured names
    have hi : ownN.length ≤ i := by
      unfold stC at h2
      by_cases hi : ownN.length ≤ i
      · exact hi
      · rw [List.getElem?_append_left (by simp; (first | lia | omega)), List.getElem?_replicate] at h2
        split at h2 <;> cases h2
    have h1' : (ownN ++ caps.map (·.1))[i]? = some x := h1
    unfold stC at h2
    rw [List.getElem?_append_right (by simp; (first | lia | omega)), List.length_replicate, List.getElem?_map, List.getElem?_map] at h2
    rw [List.getElem?_append_right hi, List.getElem?_map] at h1'
    cases hc : caps[i - ownN.length]? with
    | none => rw [hc] at h1'; cases h1'
    | some c =>
      rw [hc] at h1' h2
      have ex : c.1 = x := Option.some.inj h1'
      have ev : (σ[c.2]?).join = some v := Option.some.inj h2
      have ev' : σ[c.2]? = some (some v) := by
        cases q : σ[c.2]? with
        | none => rw [q] at ev; cases ev
        | some z => rw [q] at ev; simp at ev; rw [ev]
      obtain ⟨k1, k2, k3⟩ := hcaps c (List.mem_of_getElem? hc)
      rw [ex] at k1 k2 k3
      obtain ⟨m, hm, hl⟩ := I.loc
      obtain ⟨u, ru, lk⟩ := hl c.2 x v k1 ev' (.inr (.inl k2))
      refine ⟨u, ru, .inr ⟨.inl ?_, ?_⟩⟩
      · show (relabel scope X.env).names.lookup x = some .cell
        rw [relabel_names, k3]
        have e1 : X.env.scope.kind = .function := I.ok.kind
        have e2 : X.env.kindOf x = some .cell := k2
        simp [e1, e2]
      · rcases lk with ⟨z, _⟩ | ⟨_, cc, e1, e2⟩
        · have z' : X.env.scope.names.lookup x = some .local := z
          rw [k2] at z'; cases z'
        · obtain ⟨a, ha⟩ := clo_has (env := X.env) (acc := []) (mem_of_look k3)
          obtain ⟨a', ha'⟩ := look_of_mem ha
          have e3 : a' = cc := Option.some.inj ((cmem ha').symm.trans e1)
          rw [e3] at ha'
          obtain ⟨o, ho, hd⟩ := e2
          exact ⟨cc, ha', o, hk _ _ ho, hd⟩
  · obtain ⟨v, o, ho, hd⟩ := I.cell x c (cmem e)
    exact ⟨v, o, hk _ _ ho, hd⟩
  · have hp' : p ∈ X.pn ++ pins := by
      have : p ∈ (X.pn ++ pins) ++ [] := hp
      simpa using this
    obtain ⟨e, n, ne, nf, d⟩ := I.pin p hp'
    refine ⟨hk _ _ e, n, Nat.ne_of_lt (Heap.lt_size e), fun z => ?_, d⟩
    rcases List.mem_cons.mp (I.stkSub p.1 z) with q | q
    · exact ne q
    · exact nf q
  · show (stC ownN.length (caps.map (·.2)) σ).length = (ownN ++ caps.map (·.1)).length
    unfold stC
    simp

theorem pe_comp (ownN : List Str) (caps : List (Str × Nat)) (hc : X.calm = true) (hi : PI X tg iter wi)
    (hg : ∀ cl C s H fp pn, PG (cxComp X (ownN ++ caps.map (·.1)) scope cl C s H fp pn) tg g)
    (ht : ∀ cl C s H fp pn, PTs (cxComp X (ownN ++ caps.map (·.1)) scope cl C s H fp pn) ifs tt)
    (he : ∀ cl C s H fp pn, PE (cxComp X (ownN ++ caps.map (·.1)) scope cl C s H fp pn) elt te)
    (hkind : scope.kind = .function := by rfl) (hcell : ∀ y ∈ scope.names, y.2 ≠ .cell := by decide)
    (hfr : (scope.names.all fun p => p.2 != .free || X.env.scope.names.lookup p.1 == some .cell) = true := by rfl)
    (hcp : (caps.all fun c => X.N[c.2]? == some c.1 && (X.env.scope.names.lookup c.1 == some .cell && scope.names.lookup c.1 == some .free)) = true := by rfl)
    (hnames : ∀ x ∈ scope.names, x.2 = .local → scope.names.lookup x.1 = some .local := by decide)
    (hs : ∀ x, foldedSetIterable iter X.env x = pure x := by intro _; rfl) :
    PE X (.ListComp elt [⟨tg, iter, ifs, 0⟩] scope pos) (tComp wi ownN.length (caps.map (·.2)) g tt te) := by
  intro pins s σ H Q I h
  have hfree : ∀ p ∈ scope.names, p.2 = .free → X.env.scope.names.lookup p.1 = some .cell := fun p hp e => by
    have z := List.all_eq_true.mp hfr p hp
    rw [e] at z
    simpa using z
  have hcaps : ∀ c ∈ caps, X.N[c.2]? = some c.1 ∧ X.env.scope.names.lookup c.1 = some .cell ∧ scope.names.lookup c.1 = some .free := fun c hc => by
    have z := List.all_eq_true.mp hcp c hc
    simpa using z
  have has : ∀ p ∈ scope.names, p.2 = .free → ∃ a, X.env.cells.lookup p.1 = some a := fun p hp hfr => I.ok.has p.1 (.inl (hfree p hp hfr))
  rw [eval_ListComp]
  refine wpAny_comprehension_free (use := none) rfl hs (closureFor_clo has) hkind hnames (thn (hi pins s σ H _ I h) fun v s1 h1 => thn h1 fun itv s2 h2 => ?_)
  obtain ⟨it, fp, tn, J, H2, rfl, I2, T, st2, f2, red⟩ := h2
  have hf2 : H2 s2.heap.objs.size = none := I2.hok.fresh (Nat.le_refl _)
  obtain ⟨W, ⟨m0, w0⟩, turn⟩ := red s2.heap.objs.size hf2
  refine wpAny_newObj_type ?_
  generalize hac : s2.heap.objs.size = ac at hf2 turn w0 ⊢
  have I3 : Inv X pins σ (upd H2 ac (.lst [])) { s2 with heap := s2.heap.push { cls := .type "list", dict := none, data := .seq ([] : List Value).toArray } } := by
    subst hac
    exact I2.laid (t' := s2.toks) (o := .lst []) (fun b u e => Heap.get?_push_of_some _ e) (Nat.le_refl _) ⟨Nat.zero_le _, [], 0, .nil, Heap.get?_push_size _ rfl⟩
  generalize hs3 : ({ s2 with heap := s2.heap.push { cls := .type "list", dict := none, data := .seq ([] : List Value).toArray } } : Shared) = s3 at I3 ⊢
  have obj2 := T.obj 0 s2.heap st2
  have fne : ∀ b ∈ fp, b ≠ ac := fun b hb z => by
    obtain ⟨o, e, _⟩ := obj2 b hb
    exact absurd (Heap.lt_size e) (by rw [z, hac]; exact Nat.lt_irrefl _)
  have f3 : ∀ b ∈ fp, FpOk X pins (upd H2 ac (.lst [])) b := fun b hb => ⟨by rw [upd_ne (fne b hb)]; exact (f2 b hb).1, (f2 b hb).2⟩
  have st3 : tn 0 s3.heap := T.keep 0 _ _ st2 fun b hb o e => by subst hs3; exact Heap.get?_push_of_some _ e
  have fl3 : ∀ b ∈ fp, b < s3.heap.objs.size := fun b hb => by
    obtain ⟨o, e, _⟩ := T.obj 0 s3.heap st3 b hb
    exact Heap.lt_size e
  have acl : ac < s3.heap.objs.size := by subst hs3; subst hac; simp [Heap.size_push]
  refine wpAny_newFunctionEnv hcell (by intro y hy; simp at hy) (fun h₁ hns₁ hsb₁ => ?_) hkind
  have old : ∀ b o, s3.heap.get? b = some o → h₁.get? b = some o := fun b o e => hsb₁.extBut b o (Nat.ne_of_lt (Heap.lt_size e)) (Heap.get?_push_of_some _ e)
  have I4 := inv_comp (ownN := ownN) (caps := caps) (tk := s3.toks + ([] : List (Str × Value)).length) I3 f3 fl3 hkind hcell hfree hcaps hns₁ old
  have st4 : tn 0 h₁ := T.keep 0 _ _ st3 fun b hb o e => old b o e
  -- behind the block
  have after : ∀ (s5 : Shared) (σ5 : St) (H5 : Hp), Inv (cxComp X (ownN ++ caps.map (·.1)) scope (clo X.env scope.names []) s3.heap.objs.size s3 (upd H2 ac (.lst [])) fp (X.pn ++ pins)) [] σ5 H5 s5 → Q (.ref ac) H5 →
      compPost (model X.prog X.w) X.A X.xe none (EP X pins σ Q) (.ref ac) s3.heap.objs.size (.ok .next) s5 := by
    intro s5 σ5 H5 J5 q
    obtain ⟨m, hm, _⟩ := J5.loc
    refine ⟨m, hm, fun h' hs' => ?_⟩
    have nC : H5 s3.heap.objs.size = none := J5.free
    refine ⟨.ref ac, H5, ?_, rfl, q⟩
    have ub := J5.base
    have u : Un (frs X.stack) fp (upd H2 ac (.lst [])) H5 s3.heap h' :=
      ⟨fun b o e n hb hx => hs'.extBut b o (Nat.ne_of_lt (Heap.lt_size e)) (ub.keep b o e n hb hx), fun b o e n hb hx => by
        obtain ⟨sl, z⟩ := ub.slot b o e n hb hx
        exact ⟨sl, hs'.extBut b _ (Nat.ne_of_lt (Heap.lt_size e)) z⟩, ub.free, fun b o e hx => by
        obtain ⟨o', z⟩ := ub.there b o e hx
        exact ⟨o', hs'.extBut b _ (Nat.ne_of_lt (Heap.lt_size e)) z⟩, ub.tups, ub.frzs, ub.tbls⟩
    refine I3.call' (s' := { s5 with heap := h' }) (ch := fp) J5.os u (fun b u e => ?_) J5.bare (fun b hb => ⟨(f3 b hb).2.2.2.1, (f3 b hb).2.1, (f3 b hb).2.2.2.2.1, (f3 b hb).2.2.2.2.2⟩)
    refine (J5.hok b u e).stay (fun c v hc z => hs'.extBut c v ?_ z) (fun _ z => z) fun _ _ z => z
    rintro rfl
    rcases hc with z' | z'
    · rw [z', e] at nC; cases nC
    · rw [nC] at z'; cases z'
  have loop : ∀ s4 : Shared, s4 = { s3 with heap := h₁, toks := s3.toks + ([] : List (Str × Value)).length } → codeAny (model X.prog X.w) X.A (.compLoop (.ListComp elt [⟨tg, iter, ifs, 0⟩] scope pos) 0 (.ref it) (.ref ac) (compEnvC scope (clo X.env scope.names []) s3.heap.objs.size X.env))
      (compPost (model X.prog X.w) X.A X.xe none (EP X pins σ Q) (.ref ac) s3.heap.objs.size) s4 := by
    rintro s4 rfl
    refine compLoop_go (fun n s' => ∃ i ys H', Inv (cxComp X (ownN ++ caps.map (·.1)) scope (clo X.env scope.names []) s3.heap.objs.size s3 (upd H2 ac (.lst [])) fp (X.pn ++ pins)) [] (stC ownN.length (caps.map (·.2)) σ) H' s' ∧ tn i s'.heap ∧ (∀ b ∈ fp, H' b = none) ∧ W i n ys H') ?_ m0
      ⟨0, [], _, I4, st4, fun b hb => (f3 b hb).1, w0⟩
    rintro n s6 ⟨i, ys, H6, I6, st6, fr6, w6⟩
    obtain ⟨hl6, alt⟩ := turn i n ys H6 w6
    have fpok : ∀ {H' : Hp}, (∀ b ∈ fp, H' b = none) → ∀ b ∈ fp, FpOk (cxComp X (ownN ++ caps.map (·.1)) scope (clo X.env scope.names []) s3.heap.objs.size s3 (upd H2 ac (.lst [])) fp (X.pn ++ pins)) [] H' b := fun {H'} hn b hb =>
      ⟨hn b hb, Nat.ne_of_lt (fl3 b hb), I6.ok.exfs b hb, .inl hb, (I6.ok.exf b hb).2, fun p hp z => (f3 b hb).2.2.2.2.2 p (by
        have hp' : p ∈ (X.pn ++ pins) ++ [] := hp
        simpa using hp') z⟩
    rcases alt with ⟨stop, qn⟩ | ⟨go, hsz, N, hN, step⟩
    · refine thn (T.done (cxComp X (ownN ++ caps.map (·.1)) scope (clo X.env scope.names []) s3.heap.objs.size s3 (upd H2 ac (.lst [])) fp (X.pn ++ pins)) rfl rfl rfl hc i [] s6 _ H6 _ I6 (fpok fr6) st6 stop) fun r s7 ⟨hr, I7⟩ => ?_
      subst hr
      exact after s7 _ H6 I7 qn
    · refine thn (T.item (cxComp X (ownN ++ caps.map (·.1)) scope (clo X.env scope.names []) s3.heap.objs.size s3 (upd H2 ac (.lst [])) fp (X.pn ++ pins)) rfl rfl rfl hc i [] s6 _ H6 _ I6 (fpok fr6) st6 go) fun r s7 ⟨u, hr, h7⟩ => ?_
      subst hr
      refine thn h7 fun _ s8 ⟨x, H8, I8, r8, y8, st8, fr8⟩ => ?_
      have I8' := I8.pinned (fpok fr8) (T.obj _ _ st8)
      have fin : ∀ {σ' : St} {H' : Hp} {s' : Shared}, Inv (cxComp X (ownN ++ caps.map (·.1)) scope (clo X.env scope.names []) s3.heap.objs.size s3 (upd H2 ac (.lst [])) fp (X.pn ++ pins)) ([] ++ pinsAt fp s8.heap) σ' H' s' → tn (i + 1) s'.heap ∧ ∀ b ∈ fp, H' b = none := fun {σ' H' s'} J =>
        ⟨T.keep _ _ _ st8 fun b hb o e => (J.pin (b, o) (List.mem_append_right _ (List.mem_append_right _ (mem_pinsAt hb e)))).1, fun b hb => by
          obtain ⟨o, e, _⟩ := T.obj _ _ st8 b hb
          exact (J.pin (b, o) (List.mem_append_right _ (List.mem_append_right _ (mem_pinsAt hb e)))).2.1⟩
      refine thn (hg _ _ _ _ _ _ _ s8 _ H8 x u _ I8' r8 (step x H8 y8)) fun _ s9 ⟨σ9, H9, I9, wk, q9⟩ => ?_
      refine thn (ht _ _ _ _ _ _ _ s9 σ9 H9 _ I9 q9) fun b s10 ⟨H10, I10, q10⟩ => ?_
      cases b with
      | false =>
        rw [if_neg Bool.false_ne_true] at q10 ⊢
        obtain ⟨m', hm', w'⟩ := hN _ _ q10
        obtain ⟨e1, e2⟩ := fin I10
        exact ⟨m', hm', i + 1, ys, H10, (I10.weak wk.len wk.get).unpinned, e1, e2, w'⟩
      | true =>
        rw [if_pos rfl] at q10 ⊢
        refine thn (he _ _ _ _ _ _ _ s10 σ9 H10 _ I10 q10) fun y s11 ⟨yv, H11, I11, r11, hl11, q11⟩ => ?_
        obtain ⟨m', hm', w'⟩ := hN _ _ q11
        refine thn (mt_append (X := cxComp X (ownN ++ caps.map (·.1)) scope (clo X.env scope.names []) s3.heap.objs.size s3 (upd H2 ac (.lst [])) fp (X.pn ++ pins)) (pinsAt fp s8.heap) s11 σ9 H11 (.ref ac) [yv] (.ref ac) [y] (fun v H' => H' = upd H11 ac (.lst (ys ++ [yv]))) I11 rfl (.cons r11 .nil) ⟨ac, ys, yv, rfl, rfl, hl11, hsz, rfl⟩) fun _ s12 ⟨v12, H12, I12, _, e12⟩ => ?_
        subst e12
        obtain ⟨e1, e2⟩ := fin I12
        exact ⟨m', hm', i + 1, _, _, (I12.weak wk.len wk.get).unpinned, e1, e2, w'⟩
  exact codeAny_compStart_list (loop _ rfl) (T.self _ 0 _ _ _ st4 (loop _ rfl))

theorem comp_range {lo : Int} {n own : Nat} {caps : List Nat} {g : TG} {tt : TT} {te : TE} {σ : St} {R : Hp → Prop} {l : Addr} {H1 : Hp} (Pv : Nat → List V → Hp → Prop) (h0 : Pv 0 [] (upd H1 l (.lst []))) (hz : n ≤ sizeLine)
    (hl : ∀ i ys H, Pv i ys H → H l = some (.lst ys) ∧ ys.length ≤ i)
    (hs : ∀ i ys H, i < n → Pv i ys H → g (.int (lo + i)) (stC own caps σ) H fun σ2 H2 => Wk (stC own caps σ) σ2 ∧
      tt σ2 H2 fun b H3 => if b = true then te σ2 H3 fun y H4 => H4 l = some (.lst ys) ∧ Pv (i + 1) (ys ++ [y]) (upd H4 l (.lst (ys ++ [y]))) else Pv (i + 1) ys H3)
    (hd : ∀ ys H, Pv n ys H → R H) :
    ∃ W : Nat → Nat → List V → Hp → Prop, (∃ m, W 0 m [] (upd H1 l (.lst []))) ∧
      ∀ i m ys H, W i m ys H → H l = some (.lst ys) ∧ (((Itr lo n).stop i H ∧ R H) ∨ ((Itr lo n).go i H ∧ ys.length < sizeLine ∧ ∃ N : List V → Hp → Prop, (∀ ys' H', N ys' H' → ∃ m', m' < m ∧ W (i + 1) m' ys' H') ∧
        ∀ x H', (Itr lo n).yld i H x H' → g x (stC own caps σ) H' fun σ2 H2 => Wk (stC own caps σ) σ2 ∧
        tt σ2 H2 fun b H3 => if b = true then te σ2 H3 fun y H4 => H4 l = some (.lst ys) ∧ N (ys ++ [y]) (upd H4 l (.lst (ys ++ [y]))) else N ys H3)) := by
  refine ⟨fun i m ys H => m = n - i ∧ i ≤ n ∧ Pv i ys H, ⟨n, by simp, Nat.zero_le _, h0⟩, ?_⟩
  rintro i m ys H ⟨rfl, hi, p⟩
  obtain ⟨e1, e2⟩ := hl i ys H p
  refine ⟨e1, ?_⟩
  by_cases hlt : i < n
  · refine .inr ⟨hlt, by (first | lia | omega), Pv (i + 1), fun ys' H' p' => ⟨n - (i + 1), by (first | lia | omega), rfl, hlt, p'⟩, fun x H' y => ?_⟩
    obtain ⟨e, y⟩ := y
    subst e y
    exact hs i ys _ hlt p
  · have e : i = n := by (first | lia | omega)
    subst e
    exact .inl ⟨Nat.le_refl _, hd ys H p⟩
theorem comp_list {K : PySem.W.Frag} {a : Addr} {xs : List V} {own : Nat} {caps : List Nat} {g : TG} {tt : TT} {te : TE} {σ : St} {R : Hp → Prop} {l : Addr} {H1 : Hp} (Pv : Nat → List V → Hp → Prop) (h0 : Pv 0 [] (upd H1 l (.lst []))) (hz : xs.length ≤ sizeLine)
    (hl : ∀ i ys H, i ≤ xs.length → Pv i ys H → SqL K H a xs ∧ H l = some (.lst ys) ∧ ys.length ≤ i)
    (hs : ∀ i x ys H, xs[i]? = some x → Pv i ys H → g x (stC own caps σ) H fun σ2 H2 => Wk (stC own caps σ) σ2 ∧
      tt σ2 H2 fun b H3 => if b = true then te σ2 H3 fun y H4 => H4 l = some (.lst ys) ∧ Pv (i + 1) (ys ++ [y]) (upd H4 l (.lst (ys ++ [y]))) else Pv (i + 1) ys H3)
    (hd : ∀ ys H, Pv xs.length ys H → R H) :
    ∃ W : Nat → Nat → List V → Hp → Prop, (∃ m, W 0 m [] (upd H1 l (.lst []))) ∧
      ∀ i m ys H, W i m ys H → H l = some (.lst ys) ∧ (((Itl K a).stop i H ∧ R H) ∨ ((Itl K a).go i H ∧ ys.length < sizeLine ∧ ∃ N : List V → Hp → Prop, (∀ ys' H', N ys' H' → ∃ m', m' < m ∧ W (i + 1) m' ys' H') ∧
        ∀ x H', (Itl K a).yld i H x H' → g x (stC own caps σ) H' fun σ2 H2 => Wk (stC own caps σ) σ2 ∧
        tt σ2 H2 fun b H3 => if b = true then te σ2 H3 fun y H4 => H4 l = some (.lst ys) ∧ N (ys ++ [y]) (upd H4 l (.lst (ys ++ [y]))) else N ys H3)) := by
  refine ⟨fun i m ys H => m = xs.length - i ∧ i ≤ xs.length ∧ Pv i ys H, ⟨xs.length, by simp, Nat.zero_le _, h0⟩, ?_⟩
  rintro i m ys H ⟨rfl, hi, p⟩
  obtain ⟨q, e1, e2⟩ := hl i ys H hi p
  refine ⟨e1, ?_⟩
  by_cases hlt : i < xs.length
  · refine .inr ⟨⟨xs, xs[i], q, by simp [hlt]⟩, by (first | lia | omega), Pv (i + 1), fun ys' H' p' => ⟨xs.length - (i + 1), by (first | lia | omega), rfl, hlt, p'⟩, fun x H' y => ?_⟩
    obtain ⟨e, y⟩ := y
    subst e
    exact hs i x ys _ (y xs q) p
  · have e : i = xs.length := by (first | lia | omega)
    subst e
    exact .inl ⟨⟨xs, q, Nat.le_refl _⟩, hd ys H p⟩
theorem comp_tup {K : PySem.W.Frag} {a : Addr} {xs : List V} {own : Nat} {caps : List Nat} {g : TG} {tt : TT} {te : TE} {σ : St} {R : Hp → Prop} {l : Addr} {H1 : Hp} (Pv : Nat → List V → Hp → Prop) (h0 : Pv 0 [] (upd H1 l (.lst []))) (hz : xs.length ≤ sizeLine)
    (hl : ∀ i ys H, i ≤ xs.length → Pv i ys H → SqT K H a xs ∧ H l = some (.lst ys) ∧ ys.length ≤ i)
    (hs : ∀ i x ys H, xs[i]? = some x → Pv i ys H → g x (stC own caps σ) H fun σ2 H2 => Wk (stC own caps σ) σ2 ∧
      tt σ2 H2 fun b H3 => if b = true then te σ2 H3 fun y H4 => H4 l = some (.lst ys) ∧ Pv (i + 1) (ys ++ [y]) (upd H4 l (.lst (ys ++ [y]))) else Pv (i + 1) ys H3)
    (hd : ∀ ys H, Pv xs.length ys H → R H) :
    ∃ W : Nat → Nat → List V → Hp → Prop, (∃ m, W 0 m [] (upd H1 l (.lst []))) ∧
      ∀ i m ys H, W i m ys H → H l = some (.lst ys) ∧ (((Itt K a).stop i H ∧ R H) ∨ ((Itt K a).go i H ∧ ys.length < sizeLine ∧ ∃ N : List V → Hp → Prop, (∀ ys' H', N ys' H' → ∃ m', m' < m ∧ W (i + 1) m' ys' H') ∧
        ∀ x H', (Itt K a).yld i H x H' → g x (stC own caps σ) H' fun σ2 H2 => Wk (stC own caps σ) σ2 ∧
        tt σ2 H2 fun b H3 => if b = true then te σ2 H3 fun y H4 => H4 l = some (.lst ys) ∧ N (ys ++ [y]) (upd H4 l (.lst (ys ++ [y]))) else N ys H3)) := by
  refine ⟨fun i m ys H => m = xs.length - i ∧ i ≤ xs.length ∧ Pv i ys H, ⟨xs.length, by simp, Nat.zero_le _, h0⟩, ?_⟩
  rintro i m ys H ⟨rfl, hi, p⟩
  obtain ⟨q, e1, e2⟩ := hl i ys H hi p
  refine ⟨e1, ?_⟩
  by_cases hlt : i < xs.length
  · refine .inr ⟨⟨xs, xs[i], q, by simp [hlt]⟩, by (first | lia | omega), Pv (i + 1), fun ys' H' p' => ⟨xs.length - (i + 1), by (first | lia | omega), rfl, hlt, p'⟩, fun x H' y => ?_⟩
    obtain ⟨e, y⟩ := y
    subst e
    exact hs i x ys _ (y xs q) p
  · have e : i = xs.length := by (first | lia | omega)
    subst e
    exact .inl ⟨⟨xs, q, Nat.le_refl _⟩, hd ys H p⟩
end
end L2

namespace L2
open PySem PySem.Spec PyProof.Rows

section
variable {X : Cx}
theorem call_isinst : CallR X (.builtin "isinstance") (fun xs H Q => ∃ x T t b, xs = [x, .ty T] ∧ TyOf X.K H x t ∧ PySem.W.kitOne X.K t (.type T) = some b ∧ Q (.bl b) H) := by
  intro pins s σ H xs us Q I r h
  obtain ⟨x, T, t, b, rfl, ty, e, q⟩ := h
  obtain ⟨u, v, rfl, ru, rv⟩ := r.two
  cases rv
  exact isinst_ok I ru ty e fun tk => ⟨.bl b, H, I.tok tk, rfl, q⟩

theorem call_allB (hc : X.calm = true) : CallR X (.builtin "all") (fun xs H Q => ∃ (p : Addr) (bs : List Bool), xs = [.ref p] ∧ SqL X.K H p (bs.map V.bl) ∧ Q (.bl (bs.all id)) H) := by
  intro pins s σ H xs us Q I r h
  obtain ⟨p, bs, rfl, hp, q⟩ := h
  obtain ⟨u, rfl, ru⟩ := r.one
  cases ru
  obtain ⟨its, rv, pl, hz⟩ := I.list hp
  have lts : p < s.heap.objs.size := by
    obtain ⟨o, n, e, _⟩ := pl
    exact Heap.lt_size e
  refine call_all_walk (wpAny_pyIter_list pl.isList ?_)
  refine ⟨_, _, _, _, _, _, fun i => bs.getD i true, rfl, Walks.list (A := X.A.in1) (I.ok.hd hc) s.heap.objs.size p (Nat.ne_of_lt lts) its.toArray, ⟨⟨_, Heap.get?_push_size _ rfl, rfl, rfl⟩, ?_⟩, ?_, fun h' tk hk => ?_⟩
  · obtain ⟨o, n, e, c, d, e2⟩ := pl
    exact ⟨o, Heap.get?_push_of_some _ e, c, n, e2⟩
  · intro i v s' Q' E' hP hQ
    have hi : its[i]? = some v := by simpa using hP
    have hl := rv.length
    cases e : bs[i]? with
    | none =>
      have h1 : its.length ≤ i := by
        have := List.getElem?_eq_none_iff.mp e
        rw [← hl, List.length_map]; exact this
      rw [List.getElem?_eq_none_iff.mpr h1] at hi; cases hi
    | some b =>
      have e' : (bs.map V.bl)[i]? = some (.bl b) := by rw [List.getElem?_map, e]; rfl
      obtain ⟨u, hu, ru⟩ := rv.get e'
      rw [hi] at hu; cases hu
      cases ru
      have eg : bs.getD i true = b := by simp [List.getD, e]
      have hQ2 : Q' (bs.getD i true) s' := hQ
      rw [eg] at hQ2
      exact wpAny_truthy_bool hQ2
  · have hl : its.toArray.size = bs.length := by
      have := rv.length
      rw [List.length_map] at this
      simp [this]
    have e : (List.range its.toArray.size).all (fun i => bs.getD i true) = bs.all id := by
      rw [hl]
      clear q hl rv hp hk
      rw [Bool.eq_iff_iff, List.all_eq_true, List.all_eq_true]
      constructor
      · intro h b hb
        obtain ⟨i, hi, rfl⟩ := List.mem_iff_getElem.mp hb
        have := h i (by simpa using hi)
        simpa [List.getD, hi] using this
      · intro h i hi
        have hi' : i < bs.length := by simpa using hi
        have := h bs[i] (List.getElem_mem hi')
        simpa [List.getD, hi'] using this
    refine ⟨.bl (bs.all id), H, ?_, congrArg Value.bool e, q⟩
    · exact I.kept (t' := tk) fun b o e => hk b o (by
        intro z
        have : b = s.heap.objs.size := by simpa using z
        exact absurd (Heap.lt_size e) (by rw [this]; exact Nat.lt_irrefl _)) (Heap.get?_push_of_some _ e)

end
end L2

namespace L2
open PySem PySem.Spec PyProof.Rows

structure Callee (P : Program) (w : World) (K : PySem.W.Frag) (mg : Str → Option Value) (base : Heap) (x : Str) (k : Nat) (ps : List Str) (sp : Sp) : Prop where
  ex : ∃ (f : Addr) (fd : FuncData), FnOk P w K mg base CX0 k f fd ps sp ∧ Binds K fd ps [] ∧ PySem.W.keepIn K (.ref f) = true ∧ mg x = some (.ref f)
theorem Callee.mono {P : Program} {w : World} {K : PySem.W.Frag} {mg : Str → Option Value} {base : Heap} {x : Str} {k j : Nat} {ps : List Str} {sp : Sp} (C : Callee P w K mg base x k ps sp) (h : k ≤ j) : Callee P w K mg base x j ps sp :=
  let ⟨f, fd, a, b, c, d⟩ := C.ex
  ⟨f, fd, a.mono h, b, c, d⟩
theorem Callee.imp {P : Program} {w : World} {K : PySem.W.Frag} {mg : Str → Option Value} {base : Heap} {x : Str} {k : Nat} {ps : List Str} {sp sp' : Sp} (C : Callee P w K mg base x k ps sp) (h : ∀ vs H Q E, sp' vs H Q E → sp vs H Q E) : Callee P w K mg base x k ps sp' :=
  let ⟨f, fd, a, b, c, d⟩ := C.ex
  ⟨f, fd, a.imp h, b, c, d⟩
theorem pe_callC {X : Cx} {x : Str} {k : Nat} {ps : List Str} {sp : Sp} {e : Expr} {es : List Expr} {t : TA} {p pos : Pos} (C : Callee X.prog X.w X.K X.mg X.base x k ps sp) (hr : Room k X.A) (hg : Gl X x) (ha : PA X (e :: es) t)
    (hdb : (x == ("__debug__" : Str)) = false := by decide) (he : starEach (e :: es) X.env = (false, eval e X.env) :: starEach es X.env := by rfl) (hpl : (backTo pos (starEach es X.env)).any (·.1) = false := by rfl) :
    PE X (.Call (.Name x p) (e :: es) [] pos) (tCall sp [] E0 t) := by
  obtain ⟨f, fd, F, hb, hk, hm⟩ := C.ex
  exact pe_call F hr hg hm hk hb .nil pass0 ha hdb he hpl
structure Here (K : PySem.W.Frag) (mg : Str → Option Value) (x : Str) (st : Stmt) (f : Addr) (fd : FuncData) : Prop where
  fn : Fun K x x st f fd
  at_ : mg x = some (.ref f)
theorem Here.callee {P : Program} {w : World} {K : PySem.W.Frag} {mg : Str → Option Value} {base : Heap} {x : Str} {st : Stmt} {f : Addr} {fd : FuncData} {k : Nat} {ps : List Str} {sp : Sp} (h : Here K mg x st f fd) (F : FnOk P w K mg base CX0 k f fd ps sp)
    (hb : ∀ (kV doc pm : Value) (an : Option Addr) (cdv ct : Value) (us : List Value), us.length = ps.length → bindArgs (PySem.W.fnOf x x (defArgs st) (defBody st) (defScope st) .none kV doc pm an cdv ct) ⟨us, []⟩ = pure (ps.zip us)) : Callee P w K mg base x k ps sp :=
  ⟨f, fd, F, h.fn.binds hb, h.fn.kp, h.at_⟩

theorem boot_listT : bootBuiltins "list" = some (.type "list") := by decide +kernel
theorem boot_tupleT : bootBuiltins "tuple" = some (.type "tuple") := by decide +kernel
theorem boot_isinstance : bootBuiltins "isinstance" = some (.builtin "isinstance") := by decide +kernel
theorem boot_all : bootBuiltins "all" = some (.builtin "all") := by decide +kernel

section
variable {X : Cx} (K : PySem.W.Frag) (hK : X.K = K)
include hK
theorem ix_tupK : IxR X (rIxT K) := by subst hK; exact ix_tup
theorem pg_tupK {es : List Expr} {k : Nat} {t : TGs} {n : Nat} {pos : Pos} (hc : X.calm = true) (h : PGs X es t)
    (hn : (assignEach es X.env).length = n := by rfl) (hst : (assignEach es X.env).findIdx? (·.1) = none := by rfl) : PG X (.Tuple es k pos) (gTup K n t) := by subst hK; exact pg_tup hc h hn hst
end

theorem same_new {H : Hp} {p : Addr} (h : H p = none) (o : HO) : Same H (upd H p o) := fun b u q => by rw [upd_ne (ne_of_none q h)]; exact q
def Kp (m : Addr) (H H' : Hp) : Prop := ∀ b o, H b = some o → b ≠ m → H' b = some o
theorem Kp.trans {m : Addr} {H H1 H2 : Hp} (a : Kp m H H1) (b : Kp m H1 H2) : Kp m H H2 := fun c o h n => b c o (a c o h n) n
theorem Kp.same {m : Addr} {H H' : Hp} (h : Same H H') : Kp m H H' := fun b o e _ => h b o e
theorem Kp.upd {m : Addr} {H : Hp} {o : HO} : Kp m H (upd H m o) := fun b u e n => by rw [upd_ne n]; exact e
def Refs (H : Hp) : List V → List (Int × Int) → Prop := Paired fun r w => ∃ t, r = .ref t ∧ H t = some (.tup [.int w.1, .int w.2])
theorem Refs.mono {H H' : Hp} (k : ∀ b xs, H b = some (.tup xs) → H' b = some (.tup xs)) : ∀ {rs : List V} {ws : List (Int × Int)}, Refs H rs ws → Refs H' rs ws
  | _, _, .nil => .nil
  | _, _, .cons ⟨t, e, h⟩ r => .cons ⟨t, e, k t _ h⟩ (Refs.mono k r)
theorem Refs.same {H H' : Hp} (k : Same H H') {rs : List V} {ws : List (Int × Int)} (h : Refs H rs ws) : Refs H' rs ws := h.mono fun b xs e => k b _ e
theorem Refs.len {H : Hp} {rs : List V} {ws : List (Int × Int)} (h : Refs H rs ws) : rs.length = ws.length := Paired.length h
theorem Refs.app {H : Hp} : ∀ {rs qs : List V} {ws us : List (Int × Int)}, Refs H rs ws → Refs H qs us → Refs H (rs ++ qs) (ws ++ us)
  | _, _, _, _, .nil, s => s
  | _, _, _, _, .cons r t, s => .cons r (Refs.app t s)
theorem Refs.get {H : Hp} : ∀ {rs : List V} {ws : List (Int × Int)} {i : Nat} {r : V}, Refs H rs ws → rs[i]? = some r → ∃ w t, ws[i]? = some w ∧ r = .ref t ∧ H t = some (.tup [.int w.1, .int w.2])
  | _, _, _, _, .nil, e => by simp at e
  | _, _, 0, _, .cons ⟨t, e1, h⟩ _, e => by simp at e; subst e; exact ⟨_, t, rfl, e1, h⟩
  | _, _, i + 1, r, .cons _ q, e => by
    obtain ⟨w, t, a, b⟩ := Refs.get (i := i) (r := r) q (by simpa using e)
    exact ⟨w, t, by simpa using a, b⟩
theorem Refs.rep {H : Hp} {rs : List V} {ws : List (Int × Int)} (h : Refs H rs ws) : ∀ k : Nat, Refs H (List.replicate k rs).flatten (List.replicate k ws).flatten
  | 0 => .nil
  | k + 1 => by
    rw [List.replicate_succ, List.replicate_succ, List.flatten_cons, List.flatten_cons]
    exact h.app (Refs.rep h k)
def WsL (H : Hp) (l : Addr) (ws : List (Int × Int)) : Prop := ∃ rs, H l = some (.lst rs) ∧ Refs H rs ws
def WOk (wide : Int) (ws : List (Int × Int)) : Prop := ∀ w ∈ ws, 0 ≤ w.1 ∧ w.1 < wide ∧ 0 ≤ w.2 ∧ w.2 < wide ∧ w.1 ≠ w.2
def Net (H : Hp) (v : V) (wide : Int) (ws : List (Int × Int)) : Prop := ∃ n t rs, v = .ref n ∧ H n = some (.tup [.int wide, .ref t]) ∧ H t = some (.tup rs) ∧ Refs H rs ws
theorem Net.mono {H H' : Hp} (k : ∀ b xs, H b = some (.tup xs) → H' b = some (.tup xs)) {v : V} {wide : Int} {ws : List (Int × Int)} (h : Net H v wide ws) : Net H' v wide ws :=
  let ⟨n, t, rs, a, b, c, d⟩ := h
  ⟨n, t, rs, a, k _ _ b, k _ _ c, d.mono k⟩
theorem lenLine {n : Nat} (h : n ≤ 100000) : n ≤ sizeLine := Nat.le_trans h (by rw [sizeLine_eq]; decide)
end L2

namespace Ep
open PySem L2
structure Bn (mg : Str → Option Value) : Prop where
  n_len : mg "len" = none
  n_max : mg "max" = none
  n_min : mg "min" = none
  n_int : mg "int" = none
  n_bool : mg "bool" = none
  n_list : mg "list" = none
  n_tuple : mg "tuple" = none
  n_str : mg "str" = none
  n_dict : mg "dict" = none
  n_range : mg "range" = none
  n_isinstance : mg "isinstance" = none
  n_all : mg "all" = none
  n_any : mg "any" = none
  n_enumerate : mg "enumerate" = none
  n_sum : mg "sum" = none
  n_abs : mg "abs" = none
  n_sorted : mg "sorted" = none
  n_reversed : mg "reversed" = none
  n_zip : mg "zip" = none
  n_ord : mg "ord" = none
  n_repr : mg "repr" = none
  n_set : mg "set" = none
  n_divmod : mg "divmod" = none
  n_ValueError : mg "ValueError" = none
  n_KeyError : mg "KeyError" = none
def CDivB (i j : Int) : Prop := 0 < j ∧ j < 2 ^ 250
theorem op_fdivB {X : Cx} : OpR X (binaryOp .FloorDiv) (rI CDivB fun i j => .int (i / j)) := opI fun i j _ _ _ _ _ hc q => by
  have h1 : (0 : Int) < j := hc.1
  have h2 : j.natAbs < 2 ^ 250 := by have := hc.2; (first | lia | omega)
  refine PyProof.Rows.floordiv_int (by (first | lia | omega)) (by rw [Int.fdiv_eq_ediv_of_nonneg i (by (first | lia | omega))]; exact q) (.inl (PyProof.noPylong_of_log2 ?_))
  have h3 : j.natAbs.log2 < 250 := (Nat.log2_lt (by (first | lia | omega))).mpr h2
  (first | lia | omega)
theorem _root_.L2.Same.put {l : Addr} {H H1 : Hp} {o : HO} (hl : H l = none) (k : Same H H1) : Same H (upd H1 l o) := fun b u e => by rw [upd_ne (ne_of_none e hl)]; exact k b u e
theorem atI_int {ns : List Int} {i : Int} (h0 : 0 ≤ i) (h1 : i < ns.length) : atI (ns.map V.int) i = some (.int (ns.getD i.toNat 0)) := by
  obtain ⟨j, rfl⟩ : ∃ j : Nat, i = (j : Int) := ⟨i.toNat, by (first | lia | omega)⟩
  have h2 : j < ns.length := by (first | lia | omega)
  refine atI_nat ?_
  rw [List.getElem?_map, Int.toNat_natCast]
  simp [List.getD, h2]
theorem iteFd {c A B : Prop} [Decidable c] (h : ¬ c) (b : B) : if c then A else B := by rw [if_neg h]; exact b
theorem iteTd {c A B : Prop} [Decidable c] (h : c) (a : A) : if c then A else B := by rw [if_pos h]; exact a
theorem fresh_step {p u : Addr} {H : Hp} {xs : List V} (hp : H p = some (.lst xs)) (fu : H u = none) (o : HO) : Kp p H (upd H u o) ∧ (upd H u o) p = some (.lst xs) ∧ (upd H u o) u = some o ∧ u ≠ p :=
  ⟨Kp.same (same_new fu o), (same_new fu o) _ _ hp, upd_same, Ne.symm (ne_of_none hp fu)⟩
def spPen (K : PySem.W.Frag) : Sp := fun vs H Q _ => ∃ (a : Addr) (ns : List Int) (k : Int), vs = [.ref a, .int k] ∧ SqL K H a (ns.map V.int) ∧ ns.length ≤ 63 ∧ 0 ≤ k ∧ k < 100 ∧
  ∀ (p : Addr) (a' b' c' : Int), H p = none → Q (.ref p) (upd H p (.lst [.int a', .int b', .int c']))
def spTake : Sp := fun vs H Q _ => ∃ (p : Addr) (a b c n : Int), vs = [.ref p, .int n] ∧ H p = some (.lst [.int a, .int b, .int c]) ∧ 0 < n ∧ n < 2 ^ 250 ∧
  ∀ (v a' b' c' : Int), 0 ≤ v → v < n → Q (.int v) (upd H p (.lst [.int a', .int b', .int c']))
def lift (by_ : Int) (w : Int × Int) : Int × Int := (w.1 + by_, w.2 + by_)
def spLifted : Sp := fun vs H Q _ => ∃ (a : Addr) (ws : List (Int × Int)) (k : Int), vs = [.ref a, .int k] ∧ WsL H a ws ∧ ws.length ≤ 1000 ∧
  ∀ (l : Addr) (H' : Hp), H l = none → Same H H' → WsL H' l (ws.map (lift k)) → Q (.ref l) H'
theorem ne1 {H : Hp} {a b : Addr} {o : HO} (n : H b = none) (h : H a = some o) : a ≠ b := ne_of_none h n
theorem ne2 {H : Hp} {a b : Addr} {o : HO} (n : H a = none) (h : H b = some o) : a ≠ b := Ne.symm (ne_of_none h n)
theorem ne3 {H : Hp} {a b : Addr} {xs ys : List V} (h1 : H a = some (.tup xs)) (h2 : H b = some (.lst ys)) : a ≠ b := ne_of h1 h2 (by intro z; cases z)
theorem ne4 {H : Hp} {a b : Addr} {xs ys : List V} (h1 : H a = some (.lst xs)) (h2 : H b = some (.tup ys)) : a ≠ b := ne_of h1 h2 (by intro z; cases z)
theorem free2 {H H' : Hp} {l : Addr} (n : H' l = none) (s : Same H H') : H l = none := s.free n
theorem trans2 {H H1 H2 : Hp} (b : Same H1 H2) (a : Same H H1) : Same H H2 := Same.trans a b
def KT (H H' : Hp) : Prop := ∀ b xs, H b = some (.tup xs) → H' b = some (.tup xs)
theorem KT.refl (H : Hp) : KT H H := fun _ _ h => h
theorem KT.same {G H H' : Hp} (s : Same H H') (k : KT G H) : KT G H' := fun b xs h => s b _ (k b xs h)
theorem KT.lst {G H : Hp} {l : Addr} {o : HO} {ys : List V} (n : H l = some (.lst ys)) (k : KT G H) : KT G (upd H l o) := fun b xs h => by rw [upd_ne (ne3 (k b xs h) n)]; exact k b xs h
theorem _root_.L2.Net.kt {H H' : Hp} {v : V} {wide : Int} {ws : List (Int × Int)} (n : Net H v wide ws) (k : KT H H') : Net H' v wide ws := n.mono k
theorem _root_.L2.Refs.kt {H H' : Hp} {rs : List V} {ws : List (Int × Int)} (n : Refs H rs ws) (k : KT H H') : Refs H' rs ws := n.mono k
end Ep

namespace Ep
open PySem L2
def maxI (a b : Int) : Int := if b ≤ a then a else b
def layT (st : List Int × List Int) (w : Int × Int) : List Int × List Int :=
  let layer := 1 + maxI (st.1.getD w.1.toNat 0) (st.1.getD w.2.toNat 0)
  ((st.1.set w.1.toNat layer).set w.2.toNat layer, st.2 ++ [layer])
def layS (wide : Int) (ws : List (Int × Int)) : List Int × List Int := ws.foldl layT (List.replicate wide.toNat 0, [])
def wAt (ws : List (Int × Int)) (j : Nat) : Int × Int := ws.getD j (0, 0)
def spLaw (K : PySem.W.Frag) : Sp := fun vs H Q _ => ∃ (a : Addr) (ns : List Int), vs = [.ref a] ∧ SqL K H a (ns.map V.int) ∧ ns.length ≤ 63 ∧ ∀ H', Q (.bl true) H'
end Ep

namespace L2
open PySem PySem.Spec PyProof.Rows
section
variable {P : Program} {w : World} {A : Around} {s : Shared}
end
section
variable {X : Cx} {elts : List Expr} {kk : Nat} {ps : Pos}
end
end L2

namespace L2
open PySem PySem.Spec PyProof.Rows HT
section
variable {prog : Program} {w : World} {A : Around} {E : Value → Shared → Prop} {s : Shared}
end
section
variable {X : Cx}
def whole (n : Nat) (lo hi : Option Int) : Prop := sIx n 0 lo = 0 ∧ sIx n n hi = n
end
end L2

namespace Ep
open PySem L2
def both (cs : List Int) (w : Int × Int) : Int := cs.getD w.1.toNat 0 + cs.getD w.2.toNat 0
theorem take_snoc {α : Type} {ws : List α} {i : Nat} {w : α} (h : ws[i]? = some w) : ws.take (i + 1) = ws.take i ++ [w] := by rw [List.take_add_one, h]; rfl
theorem all_true (n : Nat) : (List.replicate n true).all id = true := by simp
end Ep

namespace L2
open PySem PySem.Spec PyProof.Rows
section
variable {prog : Program} {w : World} {A : Around} {s : Shared}
end
section
variable {X : Cx}
end
end L2

namespace L2
open PySem PySem.Spec PyProof.Rows
section
variable {X : Cx} {tg : Expr}
end
end L2

namespace L2
open PySem PySem.Spec PyProof.Rows
section
variable {X : Cx} {elts : List Expr} {kk : Nat} {ps : Pos}
end
end L2

namespace L2
open PySem PySem.Spec PyProof.Rows
section
variable {X : Cx}
end
end L2

namespace Ep
open PySem L2
end Ep
namespace Ep
open PySem L2
def mxL (L : List Int) : Int := L.foldl maxI 0
def depM (wide : Int) (ws : List (Int × Int)) : Nat := (mxL (layS wide ws).2).toNat
abbrev whole (wide : Int) (ws : List (Int × Int)) : Int := ((2 ^ depM wide ws : Nat) : Int)
def Rows (H : Hp) : List V → List (List Int) → Prop := Paired fun r w => ∃ t, r = .ref t ∧ H t = some (.lst (w.map V.int))
end Ep
namespace Ep
open PySem L2
end Ep

namespace Ep
open PySem L2
end Ep
namespace Ep
open PySem L2
end Ep

namespace L2
open PySem PySem.Spec PyProof.Rows PyProof.V PySem.SeqAt
mutual
inductive Dat (H : Hp) : V → PyData → Prop
  | non : Dat H .non .none
  | bl (b : Bool) : Dat H (.bl b) (.bool b)
  | int (i : Int) : Dat H (.int i) (.int i)
  | str (x : Str) : Dat H (.str x) (.str x)
  | lst {a : Addr} {xs : List V} {ds : List PyData} : H a = some (.lst xs) → Dats H xs ds → Dat H (.ref a) (.list ds)
  | tup {a : Addr} {xs : List V} {ds : List PyData} : H a = some (.tup xs) → Dats H xs ds → Dat H (.ref a) (.tuple ds)
inductive Dats (H : Hp) : List V → List PyData → Prop
  | nil : Dats H [] []
  | cons {v : V} {vs : List V} {d : PyData} {ds : List PyData} : Dat H v d → Dats H vs ds → Dats H (v :: vs) (d :: ds)
end
theorem Dat.reads {X : Cx} {pins : List (Addr × Obj)} {σ : St} {H : Hp} {s : Shared} (I : Inv X pins σ H s) {v : V} {d : PyData} (h : Dat H v d) : ∀ u, RelV v u → ∃ as, Reads s.heap u d as := by
  refine Dat.rec (H := H) (motive_1 := fun v d _ => ∀ u, RelV v u → ∃ as, Reads s.heap u d as) (motive_2 := fun vs ds _ => ∀ us, Vals vs us → ∃ as, ReadsAll s.heap us ds as) ?_ ?_ ?_ ?_ ?_ ?_ ?_ ?_ h
  · intro u r; cases r; exact ⟨_, .none⟩
  · intro b u r; cases r; exact ⟨_, .bool b⟩
  · intro i u r; obtain ⟨t, rfl⟩ := r; exact ⟨_, .int i t⟩
  · intro x u r; obtain ⟨t, rfl⟩ := r; exact ⟨_, .str x t⟩
  · intro a xs ds e _ ih u r
    cases r
    obtain ⟨its, rv, pl, _⟩ := I.list (SqL.of (K := X.K) e)
    obtain ⟨as, ra⟩ := ih its rv
    obtain ⟨o, ho, hc, n, hd⟩ := pl.isList
    exact ⟨_, .list ho hc hd (by simpa using ra)⟩
  · intro a xs ds e _ ih u r
    cases r
    obtain ⟨its, rv, pl, _⟩ := I.tuple (SqT.of (K := X.K) e)
    obtain ⟨as, ra⟩ := ih its rv
    obtain ⟨o, ho, hc, n, hd⟩ := (show s.heap.IsTuple a its.toArray from pl)
    exact ⟨_, .tuple ho hc hd (by simpa using ra)⟩
  · intro us r; cases r; exact ⟨_, .nil⟩
  · intro v vs d ds _ _ ih1 ih2 us r
    cases r with
    | cons r1 r2 =>
      obtain ⟨as, ra⟩ := ih1 _ r1
      obtain ⟨bs, rb⟩ := ih2 _ r2
      exact ⟨_, .cons ra rb⟩
section
variable {X : Cx}
def rEqD (neg : Bool) : R2 := fun x y H Q => ∃ dx dy, Dat H x dx ∧ Dat H y dy ∧ shaped dx = true ∧ shaped dy = true ∧ noMix dx dy = true ∧ Q (.bl (if neg then !same dx dy else same dx dy)) H
theorem op_neD (hu : X.A.units + 64 < cLine) : OpR X (compareOp .NotEq) (rEqD true) := by
  intro pins s σ H x y v u Q I rx ry h
  obtain ⟨dx, dy, d1, d2, s1, s2, nm, q⟩ := h
  obtain ⟨as, r1⟩ := d1.reads I v rx
  obtain ⟨bs, r2⟩ := d2.reads I u ry
  exact ne_dataH_same r1 r2 s1 s2 hu nm ⟨.bl _, H, I, rfl, q⟩
end
end L2

namespace L2
open PySem PySem.Spec PyProof.Rows PyProof.V PySem.SeqAt
section
variable {X : Cx} {a : Expr} {ta : TE} {pos : Pos}
theorem op_isB : OpR X (compareOp .Is) (fun x y H Q => ∃ i j, x = .bl i ∧ y = .bl j ∧ Q (.bl (decide (i = j))) H) := by
  intro pins s σ H x y v u Q I rx ry h
  obtain ⟨i, j, rfl, rfl, q⟩ := h
  cases rx
  cases ry
  refine wpAny_is_plain rfl ⟨.bl (decide (i = j)), H, I, ?_, q⟩
  cases i <;> cases j <;> rfl
end
end L2

namespace Ep
open PySem L2 PySem.SeqAt
end Ep

namespace Ep
open PySem L2
def Falls (c : List Int) : Prop := ∀ i, i + 1 < c.length → c.getD (i + 1) 0 ≤ c.getD i 0
end Ep
namespace Ep
open PySem L2
end Ep

namespace Ep
open PySem L2 PySem.SeqAt
def minI (a b : Int) : Int := if b < a then b else a
def put1 (cs : List Int) (w : Int × Int) : List Int := (cs.set w.1.toNat (maxI (cs.getD w.1.toNat 0) (cs.getD w.2.toNat 0))).set w.2.toNat (minI (cs.getD w.1.toNat 0) (cs.getD w.2.toNat 0))
def putM (cs : List Int) (ws : List (Int × Int)) : List Int := ws.foldl put1 cs
def longM (M : List (List Int)) (ns : List Int) : List (List Int) := M.flatMap fun r => ns.map fun n => r ++ [n]
def rowsM (C : List (List Int)) : List (List Int) := C.foldl longM [[]]
theorem rowsM_snoc (C : List (List Int)) (ns : List Int) : rowsM (C ++ [ns]) = longM (rowsM C) ns := by
  unfold rowsM
  rw [List.foldl_append]
  rfl
def RowOf (C : List (List Int)) (r : List Int) : Prop := r.length = C.length ∧ ∀ i, i < C.length → r.getD i 0 ∈ C.getD i []
theorem rowsM_mem (C : List (List Int)) : ∀ r, r ∈ rowsM C ↔ RowOf C r := by
  have key : ∀ (k : Nat) (C : List (List Int)), C.length = k → ∀ r, r ∈ rowsM C ↔ RowOf C r := by
    intro k
    induction k with
    | zero =>
      intro C hC r
      have : C = [] := List.length_eq_zero_iff.mp hC
      subst this
      show r ∈ [[]] ↔ _
      constructor
      · intro h
        have : r = [] := by simpa using h
        subst this
        exact ⟨rfl, fun i hi => absurd hi (by simp)⟩
      · intro h
        have : r = [] := List.length_eq_zero_iff.mp h.1
        simp [this]
    | succ k ih =>
      intro C hC r
      obtain ⟨D, ns, rfl⟩ : ∃ D ns, C = D ++ [ns] := ⟨C.dropLast, C.getLast (by intro z; rw [z] at hC; simp at hC), (List.dropLast_concat_getLast _).symm⟩
      have hD : D.length = k := by simpa using hC
      rw [rowsM_snoc]
      unfold longM
      rw [List.mem_flatMap]
      constructor
      · rintro ⟨q, hq, hr⟩
        obtain ⟨n, hn, rfl⟩ := List.mem_map.mp hr
        obtain ⟨l, g⟩ := (ih D hD q).mp hq
        refine ⟨by simp [l], fun i hi => ?_⟩
        by_cases c : i < D.length
        · rw [show (q ++ [n]).getD i 0 = q.getD i 0 by simp [List.getD, List.getElem?_append_left (show i < q.length by (first | lia | omega))], show (D ++ [ns]).getD i [] = D.getD i [] by simp [List.getD, List.getElem?_append_left c]]
          exact g i c
        · have : i = D.length := by simp at hi; (first | lia | omega)
          subst this
          rw [show (q ++ [n]).getD D.length 0 = n by rw [← l]; simp [List.getD], show (D ++ [ns]).getD D.length [] = ns by simp [List.getD]]
          exact hn
      · rintro ⟨l, g⟩
        have lr : r.length = k + 1 := by rw [l]; simp [hD]
        have ne : r ≠ [] := fun z => by rw [z] at lr; simp at lr
        have e : r = r.dropLast ++ [r.getLast ne] := (List.dropLast_concat_getLast ne).symm
        have ld : r.dropLast.length = k := by rw [List.length_dropLast]; (first | lia | omega)
        refine ⟨r.dropLast, (ih D hD _).mpr ⟨by (first | lia | omega), fun i hi => ?_⟩, List.mem_map.mpr ⟨r.getLast ne, ?_, e.symm⟩⟩
        · have := g i (by simp; (first | lia | omega))
          rw [e, show (r.dropLast ++ [r.getLast ne]).getD i 0 = r.dropLast.getD i 0 by simp only [List.getD]; rw [List.getElem?_append_left (by (first | lia | omega))], show (D ++ [ns]).getD i [] = D.getD i [] by simp [List.getD, List.getElem?_append_left hi]] at this
          exact this
        · have := g D.length (by simp)
          rw [e, show (r.dropLast ++ [r.getLast ne]).getD D.length 0 = r.getLast ne by simp only [List.getD]; rw [hD, ← ld, List.getElem?_append_right (Nat.le_refl _), Nat.sub_self]; rfl, show (D ++ [ns]).getD D.length [] = ns by simp [List.getD]] at this
          exact this
  exact key C.length C rfl
def Bits (n : Nat) (r : List Int) : Prop := r.length = n ∧ ∀ i, i < n → r.getD i 0 = 0 ∨ r.getD i 0 = 1
theorem bits_rows (n : Nat) (r : List Int) : r ∈ rowsM (List.replicate n [0, 1]) ↔ Bits n r := by
  rw [rowsM_mem]
  unfold RowOf Bits
  rw [List.length_replicate]
  refine and_congr_right fun l => ⟨fun h i hi => ?_, fun h i hi => ?_⟩
  · have := h i hi
    rw [show (List.replicate n ([0, 1] : List Int)).getD i [] = [0, 1] by simp [List.getD, hi]] at this
    simpa using this
  · rw [show (List.replicate n ([0, 1] : List Int)).getD i [] = [0, 1] by simp [List.getD, hi]]
    simpa using h i hi
def AllF (n : Nat) (ws : List (Int × Int)) : Prop := ∀ r, Bits n r → Falls (putM r ws)
end Ep
namespace Ep
open PySem L2
end Ep
namespace Ep
open PySem L2 PySem.SeqAt
end Ep

namespace L2
open PySem PySem.Spec PyProof.Rows
end L2
namespace Ep
open PySem L2 PySem.SeqAt
end Ep

namespace L2
open PySem PySem.Spec PyProof.Rows
section
variable {X : Cx} {C : Addr} {x m : Str} {k : Nat} {ps : List Str} {sp : Sp} {o e : Expr} {es : List Expr} {ta : TE} {t : TA} {p pos apos : Pos}
end
end L2
namespace Ep
open PySem L2 PySem.SeqAt
inductive Place where
  | before (k : Nat) (l : Int)
  | exit (l : Int)
  | out (l n : Int)
def hasL (w : Int × Int) (l : Int) : Bool := decide (l = w.1) || decide (l = w.2)
structure PlS where
  fac : List Int
  tal : List Int
  pla : List Place
  chg : List Int
structure PlL where
  dx : Addr
  lf : Addr
  lt : Addr
  lp : Addr
  lc : Addr
def spIsWhole : Sp := fun vs H Q _ => ∃ (i : Int), vs = [.int i] ∧ Q (.bl true) H
def spIsLane : Sp := fun vs H Q _ => ∃ (wide i : Int), vs = [.int wide, .int i] ∧ 0 ≤ i ∧ i < wide ∧ Q (.bl true) H
end Ep
namespace L2
open PySem PySem.Spec PyProof.Rows
end L2
namespace Ep
open PySem L2 PySem.SeqAt
end Ep
namespace Ep
open PySem L2 PySem.SeqAt
end Ep
namespace Ep
open PySem L2
end Ep
namespace Ep
open PySem L2 PySem.SeqAt
theorem dats_refs {H : Hp} : ∀ {rs : List V} {ws : List (Int × Int)}, Refs H rs ws → Dats H rs (ws.map fun x => PyData.tuple [.int x.1, .int x.2])
  | _, _, .nil => .nil
  | _, _, .cons ⟨t, e, h⟩ r => by
    subst e
    exact .cons (.tup h (.cons (.int _) (.cons (.int _) .nil))) (dats_refs r)
theorem lay_pairs : ∀ ws : List (Int × Int), PyData.canLayAll0 (ws.map fun x => PyData.tuple [.int x.1, .int x.2]) = true ∧ PyData.depthAll (ws.map fun x => PyData.tuple [.int x.1, .int x.2]) ≤ 5
  | [] => by simp [PyData.canLayAll0, PyData.depthAll]
  | w :: r => by
    obtain ⟨a, b⟩ := lay_pairs r
    constructor
    · simp [PyData.canLayAll0, PyData.canLay0, a]
    · simp only [List.map_cons, PyData.depthAll, PyData.depth]
      (first | lia | omega)
theorem shaped_net (wide : Int) (ws : List (Int × Int)) : shaped (.tuple [.int wide, .tuple (ws.map fun x => .tuple [.int x.1, .int x.2])]) = true := by
  obtain ⟨a, b⟩ := lay_pairs ws
  show (PyData.canLay0 _ && decide (PyData.depth _ ≤ 64)) = true
  rw [Bool.and_eq_true]
  constructor
  · simp only [PyData.canLay0, PyData.canLayAll0, a, Bool.and_true]
  · refine decide_eq_true ?_
    simp only [PyData.depth, PyData.depthAll]
    (first | lia | omega)
theorem mix_pairs : ∀ ws : List (Int × Int), noMixAll (ws.map fun x => PyData.tuple [.int x.1, .int x.2]) (ws.map fun x => PyData.tuple [.int x.1, .int x.2]) = true
  | [] => by simp [noMixAll]
  | w :: r => by simp [noMixAll, noMix, mix_pairs r]
theorem mix_net (wide : Int) (ws : List (Int × Int)) : noMix (.tuple [.int wide, .tuple (ws.map fun x => .tuple [.int x.1, .int x.2])]) (.tuple [.int wide, .tuple (ws.map fun x => .tuple [.int x.1, .int x.2])]) = true := by
  simp only [noMix, noMixAll, mix_pairs ws, Bool.and_true]
end Ep

namespace Ep
open PySem L2 PySem.SeqAt
structure Sts where
  sa : Addr
  a0 : Addr
  a1 : Addr
  a2 : Addr
def z1 (w : Int × Int) (f : Int) : Int := if f = w.1 then 0 else 1
end Ep
namespace Ep
open PySem L2 PySem.SeqAt
theorem Kp.sameOf {G H H' : Hp} {p : Addr} (k : Kp p H H') (s : Same G H) (f : G p = none) : Same G H' := fun b o e => k b o (s b o e) (ne_of_none e f)
end Ep
namespace L2
open PySem
section
variable {X : Cx} (K : PySem.W.Frag) (hK : X.K = K) {tg : Expr}
include hK
end
end L2

namespace Ep
open PySem L2 PySem.SeqAt
def Vf (ws : List (Int × Int)) (e : Int → Int) (P : Nat → Int) : Nat → Int → Int
  | 0, x => e x
  | k + 1, x => if x = (wAt ws k).1 then (P k + 1) / 2 else if x = (wAt ws k).2 then P k / 2 else Vf ws e P k x
def sumC (p : Place → Bool) : List Int → List Place → Int
  | c :: cs, pl :: ps => (if p pl then c else 0) + sumC p cs ps
  | _, _ => 0
def isB (k : Nat) : Place → Bool
  | .before j _ => decide (j = k)
  | _ => false
def isX (l : Int) : Place → Bool
  | .exit x => decide (x = l)
  | _ => false
structure Flow (wide : Int) (ws : List (Int × Int)) (st : PlS) (e : Int → Int) (P : Nat → Int) : Prop where
  fa : ∀ k w, ws[k]? = some w → st.fac.getD k 0 = if P k % 2 = 0 then w.1 else w.2
  pa : ∀ k, k < ws.length → P k = Vf ws e P k (wAt ws k).1 + Vf ws e P k (wAt ws k).2 - sumC (isB k) st.chg st.pla
  ta : ∀ l, 0 ≤ l → l < wide → st.tal.getD l.toNat 0 = Vf ws e P ws.length l - sumC (isX l) st.chg st.pla
def clear (ws : List (Int × Int)) (l : Int) (s k : Nat) : Prop := ∀ j, s ≤ j → j < k → hasL (wAt ws j) l = false
-- one more on lane l from level s on, and its place
end Ep
namespace L2
open PySem PySem.Spec PyProof.Rows
theorem while_m {c : TT} {tb : TS} {D : Ends} {σ : St} {H : Hp} (Pv : Nat → St → Hp → Prop) (m0 : Nat) (h0 : Pv m0 σ H)
    (hs : ∀ m σ H, Pv m σ H → c σ H fun b H1 => if b = true then tb { D with nx := fun σ' H' => ∃ m', m' < m ∧ Pv m' σ' H', ct := fun σ' H' => ∃ m', m' < m ∧ Pv m' σ' H', bk := D.nx } σ H1 else D.nx σ H1)
    (mono : ∀ σ H Q Q', (∀ b H1, Q b H1 → Q' b H1) → c σ H Q → c σ H Q') : tWhile c tb D σ H := by
  refine ⟨Pv, ⟨m0, h0⟩, ?_⟩
  rintro m σ H p
  refine mono σ H _ _ (fun b H1 q => ?_) (hs m σ H p)
  cases b with
  | true => exact ⟨_, fun σ' H' z => z, q⟩
  | false => exact q
end L2
namespace Ep
open PySem L2 PySem.SeqAt
end Ep
namespace Ep
open PySem L2 PySem.SeqAt
section
variable {C : Addr} {H H' : Hp} {p : Addr} {v : V} {wide : Int} {ws : List (Int × Int)} {L : PlL} {A : Sts} {st : PlS} {en : Addr} {cs : List Int}
end
end Ep

namespace L2
open PySem PySem.Spec PyProof.Rows
variable {X : Cx}
end L2
namespace Ep
open PySem L2 PySem.SeqAt
end Ep
namespace L2
open PySem
theorem seq_gen {a b : TS} {D : Ends} {σ : St} {H : Hp} (h : ∀ N : St → Hp → Prop, (∀ σ H, b D σ H → N σ H) → a { D with nx := N } σ H) : tSeq a b D σ H := h (b D) (fun _ _ z => z)
end L2

namespace L2
open PySem PySem.Spec PyProof.Rows
variable {X : Cx}
end L2
namespace Ep
open PySem L2 PySem.SeqAt
def netD (wide : Int) (ws : List (Int × Int)) : PyData := .tuple [.int wide, .tuple (ws.map fun x => .tuple [.int x.1, .int x.2])]
theorem _root_.L2.Net.dat {H : Hp} {v : V} {wide : Int} {ws : List (Int × Int)} (h : Net H v wide ws) : Dat H v (netD wide ws) := by
  obtain ⟨n, t, rs, rfl, hn, ht, hrs⟩ := h
  exact .tup hn (.cons (.int _) (.cons (.tup ht (dats_refs hrs)) .nil))
end Ep

namespace Ep
open PySem L2 PySem.SeqAt
def meets (w o : Int × Int) : Bool := (o.1 == w.1 || o.1 == w.2) || (o.2 == w.1 || o.2 == w.2)
def lastW (p : Int × Int → Bool) (l : List (Int × Int)) : Option (Int × Int) := l.foldl (fun acc o => if p o then some o else acc) none
def idle (k : List (Int × Int)) (w : Int × Int) : Prop := lastW (meets w) k = some w
instance (k : List (Int × Int)) (w : Int × Int) : Decidable (idle k w) := by unfold idle; infer_instance
end Ep
namespace Ep
open PySem L2 PySem.SeqAt
end Ep

namespace Ep
open PySem L2 PySem.SeqAt
end Ep
namespace Ep
open PySem L2 PySem.SeqAt
end Ep

namespace Ep
open PySem L2 PySem.SeqAt
end Ep

namespace L2
open PySem PySem.Spec PyProof.Rows
theorem ObjOk.ex {P : Program} {w : World} {H : Hp} {h : Heap} {a : Addr} {o : HO} (x : ObjOk P w H h a o) : ∃ ob, h.get? a = some ob := by
  cases o with
  | lst xs => exact let ⟨_, _, _, _, e⟩ := x; ⟨_, e⟩
  | tup xs => exact let ⟨_, _, _, ob, e, _⟩ := x; ⟨ob, e⟩
  | dK kvs => exact let ⟨_, _, _, _, ob, _, _, e, _⟩ := x; ⟨ob, e⟩
  | dT kvs => exact let ⟨_, _, _, _, ob, _, _, e, _⟩ := x; ⟨ob, e⟩
  | set S n => exact let ⟨ob, _, _, _, e, _⟩ := x; ⟨ob, e⟩
  | ins C dx fs => exact let ⟨_, _, _, e, _⟩ := x; ⟨_, e⟩
  | own y => exact x
  | xd fs => exact let ⟨_, ⟨ob, _, _, e, _⟩, _⟩ := x; ⟨ob, e⟩
  | rng lo hi => exact let ⟨_, _, _, e⟩ := x; ⟨_, e⟩
  | frz ob u => exact ⟨ob, x.1⟩
  | tbl ps => exact ⟨_, x⟩
  | met f y => exact ⟨_, x⟩
  | ext φ => exact x.2.1
def CX1 (P : Program) (w : World) : CXT := fun outer H s E e s' => ∃ (ea : Addr) (cls a0 : Value) (B : Heap) (H' : Hp), e = .ref ea ∧ s'.os = s.os ∧ AllBare s'.gens ∧ Un (frs outer) [] H H' s.heap s'.heap ∧ HOk P w H' s'.heap ∧
  Heap.FlyingW B outer ea cls a0 s'.heap ∧ H' ea = none ∧ (∀ b o, s'.heap.get? b = some o → b ∉ frs outer → ((∃ u, s.heap.get? b = some u) ∨ ∃ u, H' b = some u) → B.get? b = some o) ∧ E cls none H'
theorem Un.left {L : Addr} {fs : List Addr} {H₀ H' : Hp} {g h h2 : Heap} (tr : Un (L :: fs) [] H₀ H' g h) (hL : ∀ b o, g.get? b = some o → b ≠ L)
    (k2 : ∀ b o, h.get? b = some o → b ∉ L :: fs → (∃ u, g.get? b = some u) → h2.get? b = some o) (up : ∀ b o, b ∈ fs → h.get? b = some o → ∃ sl, h2.get? b = some { o with slots := sl }) : Un fs [] H₀ H' g h2 := by
  have nm : ∀ {b o}, g.get? b = some o → b ∉ fs → b ∉ L :: fs := fun q n z => by
    rcases List.mem_cons.mp z with z | z
    · exact hL _ _ q z
    · exact n z
  refine ⟨fun b o q n hb hx => k2 b o (tr.keep b o q n (nm q hb) hx) (nm q hb) ⟨o, q⟩, fun b o q n hb hx => ?_, tr.free, fun b o q hx => ?_, tr.tups, tr.frzs, tr.tbls⟩
  · obtain ⟨sl, e⟩ := tr.slot b o q n (List.mem_cons_of_mem _ hb) hx
    obtain ⟨sl', e'⟩ := up b _ hb e
    exact ⟨sl', e'⟩
  · obtain ⟨o', e⟩ := tr.there b o q hx
    by_cases hb : b ∈ fs
    · obtain ⟨sl, e'⟩ := up b o' hb e
      exact ⟨_, e'⟩
    · exact ⟨o', k2 b o' e (nm q hb) ⟨o, q⟩⟩
section
variable {P : Program} {w : World} {K : PySem.W.Frag} {mg : Str → Option Value} {base : Heap} {N : List Str} {qual : Str} {scope : Scope} {f : Addr} {cd : Value} {A : Around} {outer : List Env} {s₀ : Shared} {H₀ : Hp} {E : XK}
  {pins : List (Addr × Obj)} {σ : St} {H : Hp} {s : Shared}
abbrev XC (P : Program) (w : World) (K : PySem.W.Frag) (mg : Str → Option Value) (base : Heap) (N : List Str) (qual : Str) (scope : Scope) (f : Addr) (cd : Value) (A : Around) (outer : List Env) (s₀ : Shared) (H₀ : Hp) (E : XK) : Cx :=
  cxOf (CX1 P w) P w K mg base N qual scope f cd A outer s₀ H₀ E
theorem frame_mem {l : List Env} {env : Env} (he : env ∈ l) {b : Addr} (hb : env.frame = some b) : b ∈ frs l := List.mem_filterMap.mpr ⟨env, he, hb⟩
theorem Inv.notL (I : Inv (XC P w K mg base N qual scope f cd A outer s₀ H₀ E) pins σ H s) : ∀ b o, s₀.heap.get? b = some o → b ≠ s₀.heap.objs.size := fun b o q z => by
  have := Heap.lt_size q
  rw [z] at this
  exact Nat.lt_irrefl _ this
theorem xe_raise (I : Inv (XC P w K mg base N qual scope f cd A outer s₀ H₀ E) pins σ H s) {h' : Heap} {ea : Addr} {cls : Value} {vs : List Value} (hx : Heap.MadeExcOf s.heap h' ea cls vs) (hE : E cls none H) :
    (XC P w K mg base N qual scope f cd A outer s₀ H₀ E).xe (.ref ea) { s with heap := h' } := by
  have hst := I.stack
  have hfr := I.ok.frames
  have mem : ∀ {b : Addr}, b ∈ frs (envOfC qual scope s₀.heap.objs.size f cd :: outer) ↔ b = s₀.heap.objs.size ∨ b ∈ frs outer := fun {b} => by
    show b ∈ s₀.heap.objs.size :: frs outer ↔ _
    exact List.mem_cons
  refine wpAny_leaves_madeW (base := PySem.W.hideAll s.heap (frs (envOfC qual scope s₀.heap.objs.size f cd :: outer))) (h := s.heap) (outer := outer) hfr rfl (fun b o q => PySem.W.of_hideAll _ q)
    (PySem.W.funFrames_hide hst (fun env he b hb => frame_mem he hb)) hx fun h2 t fl tup bt ups => ?_
  have kB : ∀ b o, s.heap.get? b = some o → b ∉ frs (envOfC qual scope s₀.heap.objs.size f cd :: outer) → h2.get? b = some o := fun b o q n => fl.1 _ _ (PySem.W.hideAll_get _ q n)
  have free := I.stkFree
  have trk : ∀ b u, H b = some u → b ∉ frs (envOfC qual scope s₀.heap.objs.size f cd :: outer) := fun b u q z => by
    rw [free b z] at q
    cases q
  refine ⟨ea, cls, .ref t, _, H, rfl, I.os, I.bare, ?_, ?_, fl, ?_, ?_, hE⟩
  · refine Un.left (I.base.mono (fs' := s₀.heap.objs.size :: frs outer) (fun b hb => List.mem_cons_of_mem _ hb) (fun b hb => hb)) I.notL (fun b o q n _ => kB b o q n) fun b o hb q => ?_
    obtain ⟨_, o', ho', hd⟩ := hst.mem (b := b) (mem.mpr (.inr hb))
    rw [q] at ho'
    cases ho'
    exact ups b o (hx.keeps b o q) hd
  · exact fun a o e => (I.hok a o e).stay (fun b u hb q => by
      rcases hb with rfl | hb
      · exact kB b u q (trk b _ e)
      · exact kB b u q (trk b _ hb)) (fun _ q => q) fun _ _ q => q
  · cases e : H ea with
    | none => rfl
    | some u =>
      obtain ⟨ob, z⟩ := (I.hok ea u e).ex
      rw [hx.new] at z
      cases z
  · intro b o q n c
    have key : ∀ ob, s.heap.get? b = some ob → b ∉ frs (envOfC qual scope s₀.heap.objs.size f cd :: outer) → (PySem.W.hideAll s.heap (frs (envOfC qual scope s₀.heap.objs.size f cd :: outer))).get? b = some o := fun ob z nb => by
      have := kB b ob z nb
      rw [q] at this
      cases this
      exact PySem.W.hideAll_get _ z nb
    rcases c with ⟨u, c⟩ | ⟨u, c⟩
    · obtain ⟨ob, z⟩ := I.base.there b u c (List.not_mem_nil (a := b))
      refine key ob z fun hm => ?_
      rcases mem.mp hm with e | e
      · exact I.notL b u c e
      · exact n e
    · obtain ⟨ob, z⟩ := (I.hok b u c).ex
      exact key ob z (trk b u c)
theorem pass1 : Passes (CX1 P w) (XC P w K mg base N qual scope f cd A outer s₀ H₀ E) E := by
  rintro pins σ H s e s' I ⟨ea, cls, a0, B, H', rfl, os, bare, un, hok, fl, hea, kB, hE⟩
  have hst := I.stack
  have hfr := I.ok.frames
  have mem : ∀ {b : Addr}, b ∈ frs (envOfC qual scope s₀.heap.objs.size f cd :: outer) ↔ b = s₀.heap.objs.size ∨ b ∈ frs outer := fun {b} => by
    show b ∈ s₀.heap.objs.size :: frs outer ↔ _
    exact List.mem_cons
  have free : ∀ b ∈ frs (envOfC qual scope s₀.heap.objs.size f cd :: outer), H' b = none := fun b hb => by
    obtain ⟨_, o, ho, _⟩ := hst.mem (b := b) hb
    exact un.free b o ho (I.stkFree b hb) (List.not_mem_nil (a := b))
  have trk : ∀ b u, H' b = some u → b ∉ frs (envOfC qual scope s₀.heap.objs.size f cd :: outer) := fun b u q z => by
    rw [free b z] at q
    cases q
  have tr : Un (s₀.heap.objs.size :: frs outer) [] H₀ H' s₀.heap s'.heap := (I.base.mono (fs' := s₀.heap.objs.size :: frs outer) (fun b hb => List.mem_cons_of_mem _ hb) (fun b hb => hb)).trans un
  refine wpAny_leaves_onW (outer := outer) hfr rfl fl fun h2 fl' ups => ?_
  have k2 : ∀ b o, s'.heap.get? b = some o → b ∉ frs (envOfC qual scope s₀.heap.objs.size f cd :: outer) → ((∃ u, s.heap.get? b = some u) ∨ ∃ u, H' b = some u) → h2.get? b = some o := fun b o q n c => fl'.1 _ _ (kB b o q n c)
  refine ⟨ea, cls, a0, B, H', rfl, os.trans I.os, bare, ?_, ?_, fl', hea, ?_, hE⟩
  · refine Un.left tr I.notL (fun b o q n ⟨u, c⟩ => k2 b o q n (.inl (I.base.there b u c (List.not_mem_nil (a := b))))) fun b o hb q => ?_
    obtain ⟨_, o', ho', hd⟩ := fl.2.2.1.mem (b := b) (mem.mpr (.inr hb))
    rw [q] at ho'
    cases ho'
    exact ups b o q hd
  · exact fun a o e => (hok a o e).stay (fun b u hb q => by
      rcases hb with rfl | hb
      · exact k2 b u q (trk b _ e) (.inr ⟨_, e⟩)
      · exact k2 b u q (trk b _ hb) (.inr ⟨_, hb⟩)) (fun _ q => q) fun _ _ q => q
  · intro b o q n c
    have key : ∀ ob, s'.heap.get? b = some ob → b ∉ frs (envOfC qual scope s₀.heap.objs.size f cd :: outer) → ((∃ u, s.heap.get? b = some u) ∨ ∃ u, H' b = some u) → B.get? b = some o := fun ob z nb c => by
      have := k2 b ob z nb c
      rw [q] at this
      cases this
      exact kB b _ z nb c
    rcases c with ⟨u, c⟩ | ⟨u, c⟩
    · obtain ⟨ob, z⟩ := tr.there b u c (List.not_mem_nil (a := b))
      refine key ob z (fun hm => ?_) (.inl (I.base.there b u c (List.not_mem_nil (a := b))))
      rcases mem.mp hm with e | e
      · exact I.notL b u c e
      · exact n e
    · obtain ⟨ob, z⟩ := (hok b u c).ex
      exact key ob z (trk b u c) (.inr ⟨u, c⟩)
end
theorem Fun.okE {P : Program} {w : World} {K : PySem.W.Frag} {mg : Str → Option Value} {base : Heap} {x qual : Str} {st : Stmt} {f : Addr} {fd : FuncData} {N ps : List Str} {k : Nat} {sp : Sp} (F : Fun K x qual st f fd) (S : FnScope N ps (defScope st)) (len : ∀ vs H Q E, sp vs H Q E → vs.length = ps.length)
    (hbody : ∀ (cdv : Value) (A : Around) (outer : List Env) (s : Shared) (H : Hp) (vs : List V) (Q : VK) (E : XK), Room k (A.deeper (envOfC qual (defScope st) s.heap.objs.size f cdv)) → sp vs H Q E →
      ∃ t, PSs (XC P w K mg base N qual (defScope st) f cdv A outer s H E) (defBody st) t ∧ t { nx := fun _ H' => Q .non H', rt := Q } (start N vs) H) : FnOk P w K mg base (CX1 P w) (k + 1) f fd ps sp := by
  obtain ⟨oc, od, kV, doc, pm, an, cdv, ct, osl, rfl, lk, hcd⟩ := F.ex
  exact fn_of lk hcd S len fun A outer s H vs Q E hr hsp => hbody cdv A outer s H vs Q E hr hsp
structure CalleeE (P : Program) (w : World) (K : PySem.W.Frag) (mg : Str → Option Value) (base : Heap) (x : Str) (k : Nat) (ps : List Str) (sp : Sp) : Prop where
  ex : ∃ (f : Addr) (fd : FuncData), FnOk P w K mg base (CX1 P w) k f fd ps sp ∧ Binds K fd ps [] ∧ PySem.W.keepIn K (.ref f) = true ∧ mg x = some (.ref f)
theorem Here.calleeE {P : Program} {w : World} {K : PySem.W.Frag} {mg : Str → Option Value} {base : Heap} {x : Str} {st : Stmt} {f : Addr} {fd : FuncData} {k : Nat} {ps : List Str} {sp : Sp} (h : Here K mg x st f fd) (F : FnOk P w K mg base (CX1 P w) k f fd ps sp)
    (hb : ∀ (kV doc pm : Value) (an : Option Addr) (cdv ct : Value) (us : List Value), us.length = ps.length → bindArgs (PySem.W.fnOf x x (defArgs st) (defBody st) (defScope st) .none kV doc pm an cdv ct) ⟨us, []⟩ = pure (ps.zip us)) : CalleeE P w K mg base x k ps sp :=
  ⟨f, fd, F, h.fn.binds hb, h.fn.kp, h.at_⟩
theorem pe_callE {P : Program} {w : World} {K : PySem.W.Frag} {mg : Str → Option Value} {base : Heap} {N : List Str} {qual : Str} {scope : Scope} {f : Addr} {cd : Value} {A : Around} {outer : List Env} {s₀ : Shared} {H₀ : Hp} {E : XK}
    {x : Str} {k : Nat} {ps : List Str} {sp : Sp} {e : Expr} {es : List Expr} {t : TA} {p pos : Pos} (C : CalleeE P w K mg base x k ps sp) (hr : Room k (XC P w K mg base N qual scope f cd A outer s₀ H₀ E).A) (hg : Gl (XC P w K mg base N qual scope f cd A outer s₀ H₀ E) x)
    (ha : PA (XC P w K mg base N qual scope f cd A outer s₀ H₀ E) (e :: es) t)
    (hdb : (x == ("__debug__" : Str)) = false := by decide) (he : starEach (e :: es) (XC P w K mg base N qual scope f cd A outer s₀ H₀ E).env = (false, eval e (XC P w K mg base N qual scope f cd A outer s₀ H₀ E).env) :: starEach es (XC P w K mg base N qual scope f cd A outer s₀ H₀ E).env := by rfl)
    (hpl : (backTo pos (starEach es (XC P w K mg base N qual scope f cd A outer s₀ H₀ E).env)).any (·.1) = false := by rfl) :
    PE (XC P w K mg base N qual scope f cd A outer s₀ H₀ E) (.Call (.Name x p) (e :: es) [] pos) (tCall sp [] E t) := by
  obtain ⟨f', fd, F, hb, hk, hm⟩ := C.ex
  exact pe_call F hr hg hm hk hb .nil pass1 ha hdb he hpl
end L2

namespace L2
open PySem PySem.Spec PyProof.Rows
structure ExcAt (h : Heap) (C : Addr) (bmB : List Value) (newId : String) : Prop where
  ex : ∃ (bm : List Value) (N : Addr) (nm qn : Str) (bs : List Value) (hd : Bool) (sn : List Str) (sub : List Value) (ab : Bool) (col : Option Bool) (dd : Option Addr) (k0 k1 k2 k3 k5 : Option Value) (mN : Str → Option Value),
    h.get? C = some (excClassObj nm qn C N bs bm hd sn sub ab col dd k0 k1 k2 k3 k5 newId) ∧ h.Ns N mN ∧ mN "__init__" = none ∧ OwnTail h bmB bm
theorem excAt_of {K : PySem.W.Frag} {h : Heap} {C : Addr} {bmB : List Value} {newId : String} (X : K.In h) (q : PySem.W.excIn K C bmB newId = true) : ExcAt h C bmB newId := by
  unfold PySem.W.excIn at q
  split at q
  case h_1 dd cd sl ho =>
    split at q
    case h_1 C' bm k0 k1 k2 k3 n k5 hm hs =>
      simp only [Bool.and_eq_true, beq_iff_eq, Bool.not_eq_true'] at q
      obtain ⟨⟨⟨⟨⟨e1, e2⟩, e3⟩, e4⟩, e5⟩, e6⟩ := q
      subst e1 e2
      cases cd with
      | mk nm bs mro ns qn hd sn sub ab col del =>
        dsimp only at hm e3 e5 e6
        subst hm e3
        have es : sl = #[k0, k1, k2, k3, some (.builtin n), k5] := by
          cases sl with
          | mk l => exact congrArg Array.mk hs
        subst es
        exact ⟨bm, ns, nm, qn, bs, hd, sn, sub, ab, col, dd, k0, k1, k2, k3, k5, _, X _ _ ho, .of_isNs (PySem.W.isNs_of_in X e5), PySem.W.nsMap_none_of_in X e5 e6, PySem.W.tail_of_in X e4⟩
    all_goals cases q
  all_goals cases q
section
variable {P : Program} {w : World} {K : PySem.W.Frag} {mg : Str → Option Value} {base : Heap} {N : List Str} {qual : Str} {scope : Scope} {f : Addr} {cd : Value} {A : Around} {outer : List Env} {s₀ : Shared} {H₀ : Hp} {E : XK}
abbrev veB : List Value := [.type "ValueError", .type "Exception", .type "BaseException", .type "object"]
theorem ps_raise {x : Str} {C : Addr} {e : Expr} {ta : TA} {np cpos pos : Pos} (hq : PySem.W.excIn K C veB "ValueError.__new__" = true) (hg : Gl (XC P w K mg base N qual scope f cd A outer s₀ H₀ E) x) (hm : mg x = some (.ref C))
    (ha : PA (XC P w K mg base N qual scope f cd A outer s₀ H₀ E) [e] ta) (hd : (x == ("__debug__" : Str)) = false := by decide)
    (he : starEach [e] (XC P w K mg base N qual scope f cd A outer s₀ H₀ E).env = [(false, eval e (XC P w K mg base N qual scope f cd A outer s₀ H₀ E).env)] := by rfl) :
    PS (XC P w K mg base N qual scope f cd A outer s₀ H₀ E) (.Raise (some (.Call (.Name x np) [e] [] cpos)) none pos) (fun _ σ H => ta σ H fun vs H1 => vs.length ≤ 1000 ∧ E (.ref C) none H1) := by
  intro pins s σ H D I h
  obtain ⟨bm, N', nm, qn, bs, hdc, sn, sub, ab, col, dd, k0, k1, k2, k3, k5, mN, hC, hN, hni, T⟩ := (excAt_of I.ok.mod.kin hq).ex
  refine wpAny_Raise_call_subT (C := C) (nm := nm) (q := qn) (N := N') (bs := bs) (bm := bm) (hdct := hdc) (sn := sn) (sub := sub) (ab := ab) (col := col) (dd := dd) (k0 := k0) (k1 := k1) (k2 := k2) (k3 := k3) (k5 := k5)
    PySem.F.excBase_ValueError (mN := mN) (T.hasType PySem.F.excBase_ValueError.hasBase) (I.ok.hd rfl) (by rw [he]; rfl) hni (ld_glob I hg hm ⟨rfl, ?_⟩ hd)
  have hA := ha cpos pins s σ H _ I h
  rw [he] at hA ⊢
  refine Calls.evalArgs_plain (thn hA fun us s1 ⟨vs, H1, I1, r, l, q⟩ => ⟨rfl, ?_, I1.bk _ _ hC, hN.keeps I1.bk, T.keeps I1.bk, fun h' ea hx => xe_raise I1 hx q⟩)
  rw [← r.length]
  exact Nat.le_of_lt (small1000 l)
end
def excO (ea : Addr) (cls : Value) : HO := .ext fun h => ∃ o, h.get? ea = some o ∧ o.cls = cls
section
variable {X : Cx} {pins : List (Addr × Obj)} {σ : St} {H H' : Hp} {s s' : Shared} {B h5 : Heap} {ea : Addr} {cls a0 : Value}
theorem landed (I : Inv X pins σ H s) (os : s'.os = s.os) (bare : AllBare s'.gens) (un : Un (frs X.stack) [] H H' s.heap s'.heap) (hok : HOk X.prog X.w H' s'.heap) (fl : Heap.FlyingW B X.stack ea cls a0 s'.heap) (hea : H' ea = none)
    (kB : ∀ b o, s'.heap.get? b = some o → b ∉ frs X.stack → ((∃ u, s.heap.get? b = some u) ∨ ∃ u, H' b = some u) → B.get? b = some o) (fl5 : Heap.FlyingW B X.stack ea cls a0 h5) (up : s'.heap.UpToSlots h5) :
    Inv X pins σ (upd H' ea (excO ea cls)) { s' with heap := h5 } := by
  have nn : ∀ b : Addr, b ∉ ([] : List Addr) := fun b => List.not_mem_nil (a := b)
  have free : ∀ b ∈ frs X.stack, H' b = none := fun b hb => by
    obtain ⟨_, o, ho, _⟩ := I.stack.mem (b := b) hb
    exact un.free b o ho (I.stkFree b hb) (nn b)
  have trk : ∀ b u, H' b = some u → b ∉ frs X.stack := fun b u q z => by
    rw [free b z] at q
    cases q
  have k5 : ∀ b o, s'.heap.get? b = some o → b ∉ frs X.stack → ((∃ u, s.heap.get? b = some u) ∨ ∃ u, H' b = some u) → h5.get? b = some o := fun b o q n c => fl5.1 _ _ (kB b o q n c)
  have nea : ∀ b o, s.heap.get? b = some o → b ≠ ea := fun b o q z => by
    subst z
    obtain ⟨o', e'⟩ := un.there b o q (nn b)
    by_cases hm : b ∈ frs X.stack
    · obtain ⟨_, o2, ho2, hd⟩ := fl.2.2.1.mem (b := b) hm
      obtain ⟨oe, vs, h1, _, h2, _⟩ := fl.first
      rw [ho2] at h1
      cases h1
      exact hd vs h2
    · have := kB b o' e' hm (.inl ⟨o, q⟩)
      rw [fl.2.1] at this
      cases this
  have slo : ∀ b o, b ∈ frs X.stack → s'.heap.get? b = some o → ∃ sl, h5.get? b = some { o with slots := sl } := fun b o hb e => by
    obtain ⟨_, o', ho', hd⟩ := fl.2.2.1.mem (b := b) hb
    rw [e] at ho'
    cases ho'
    exact up b o e hd
  refine I.call' (ch := []) os ⟨fun b o q n hb hx => k5 b o (un.keep b o q n hb hx) hb (.inl ⟨o, q⟩), fun b o q n hb hx => ?_, fun b o q n hx => by rw [upd_ne (nea b o q)]; exact un.free b o q n hx, fun b o q hx => ?_,
    fun b xs q => by rw [upd_ne (ne_of_none (un.tups b xs q) hea)]; exact un.tups b xs q, fun b u xs q => by rw [upd_ne (ne_of_none (un.frzs b u xs q) hea)]; exact un.frzs b u xs q, fun b ps q => ?_⟩ ?_ bare (fun b z => absurd z (nn b))
  · obtain ⟨sl, e⟩ := un.slot b o q n hb hx
    obtain ⟨sl', e'⟩ := slo b _ hb e
    exact ⟨sl', e'⟩
  · obtain ⟨o', e⟩ := un.there b o q hx
    by_cases hb : b ∈ frs X.stack
    · obtain ⟨sl, e'⟩ := slo b o' hb e
      exact ⟨_, e'⟩
    · exact ⟨o', k5 b o' e hb (.inl ⟨o, q⟩)⟩
  · obtain ⟨m, e⟩ := un.tbls b ps q
    exact ⟨m, by rw [upd_ne (ne_of_none e hea)]; exact e⟩
  · intro a o e
    by_cases c : a = ea
    · subst c
      rw [upd_same] at e
      cases e
      obtain ⟨ob, hob, hc⟩ := fl5.there
      exact ⟨⟨ob, hob, hc⟩, ⟨ob, hob⟩, fun h1 h2 ⟨o1, z1, z2⟩ k => ⟨o1, k o1 z1, z2⟩⟩
    · rw [upd_ne c] at e
      have ne : ∀ b u, H' b = some u → b ≠ ea := fun b u q => ne_of_none q hea
      exact (hok a o e).stay (fun b u hb q => by
        rcases hb with rfl | hb
        · exact k5 b u q (trk b _ e) (.inr ⟨_, e⟩)
        · exact k5 b u q (trk b _ hb) (.inr ⟨_, hb⟩)) (fun b q => by rw [upd_ne (ne b _ q)]; exact q) fun b xs q => by rw [upd_ne (ne b _ q)]; exact q
abbrev Cx.inside (X : Cx) (ea : Addr) : Cx := { X with A := X.A.mark (some (.ref ea)), calm := false, xe := fun _ _ => False }
theorem Inv.inside (I : Inv X pins σ H s) (ea : Addr) : Inv (X.inside ea) pins σ H s :=
  ⟨⟨I.ok.mod, I.ok.kind, I.ok.glob, I.ok.blt, I.ok.above, I.ok.inj, I.ok.has, I.ok.cab, (fun z => by cases z), I.ok.frames, I.ok.stk, I.ok.exf, I.ok.bs, I.ok.bsz, I.ok.noex, I.ok.exfs, I.ok.funs, I.ok.frf⟩, I.os, I.bare, I.base, I.loc, I.cell, I.free, I.freeC, I.pin, I.hok, I.len⟩
theorem Inv.outside {ea : Addr} (ok : X.Ok) (I : Inv (X.inside ea) pins σ H s) : Inv X pins σ H s := ⟨ok, I.os, I.bare, I.base, I.loc, I.cell, I.free, I.freeC, I.pin, I.hok, I.len⟩
end
def PX (X : Cx) (e : Expr) (t : St → Hp → VK → XK → Prop) : Prop := ∀ (pins : List (Addr × Obj)) (s : Shared) (σ : St) (H : Hp) (Q : VK) (E : XK) (xe : Value → Shared → Prop), Inv X pins σ H s → t σ H Q E →
  (∀ H1 s1 e s', Inv X pins σ H1 s1 → CX1 X.prog X.w X.stack H1 s1 E e s' → xe e s') → wpAny (model X.prog X.w) X.A (eval e X.env) (EP X pins σ Q) xe s
def PSX (X : Cx) (st : Stmt) (t : Ends → XK → St → Hp → Prop) : Prop := ∀ (pins : List (Addr × Obj)) (s : Shared) (σ : St) (H : Hp) (D : Ends) (E : XK) (xe : Value → Shared → Prop), Inv X pins σ H s → t D E σ H →
  (∀ H1 s1 e s', Inv X pins σ H1 s1 → CX1 X.prog X.w X.stack H1 s1 E e s' → xe e s') → wpAny (model X.prog X.w) X.A (exec st X.env) (SP X pins D) xe s
section
variable {X : Cx}
theorem px_call {x : Str} {k : Nat} {ps : List Str} {sp : Sp} {e : Expr} {es : List Expr} {t : TA} {p pos : Pos} (C : CalleeE X.prog X.w X.K X.mg X.base x k ps sp) (hr : Room k X.A) (hg : Gl X x) (ha : PA X.nox (e :: es) t)
    (hdb : (x == ("__debug__" : Str)) = false := by decide) (he : starEach (e :: es) X.env = (false, eval e X.env) :: starEach es X.env := by rfl) (hpl : (backTo pos (starEach es X.env)).any (·.1) = false := by rfl) :
    PX X (.Call (.Name x p) (e :: es) [] pos) (fun σ H Q E => t σ H fun vs H1 => sp vs H1 Q E) := by
  intro pins s σ H Q E xe I h hx
  obtain ⟨f, fd, F, hb, hk, hm⟩ := C.ex
  refine wpAny_Call_Name_kw (ld_glob I hg hm ?_ hdb)
  refine PySem.W.callWith_K (h₀ := X.base) I.ok.mod.kin hk (wpAny_mono (ha pos pins s σ H _ (I.wish _) h) (fun us s1 ⟨vs, H1, I1, r, q⟩ => ⟨I1.unwish.kIn, ?_⟩) (fun _ _ z => False.elim z)) he hpl
  have I2 := I1.unwish
  have hl : us.length = ps.length := by rw [← r.length]; exact F.len _ _ _ _ q
  have hbb := hb s1 us I2.kIn (by rw [List.append_nil]; exact hl)
  rw [List.append_nil] at hbb
  refine wpAny_call (codeAny_mono (F.run X.A X.stack s1 H1 ⟨us, []⟩ us vs Q E hr I2.env0 hbb r q) fun res s' hq => ?_)
  cases res with
  | error e => exact hx H1 s1 e s' I2 hq
  | ok fl => cases fl with
    | ret u => exact I2.after hq
    | next => exact hq.elim
    | brk => exact hq.elim
    | cont => exact hq.elim
end
end L2

namespace L2
open PySem PySem.Spec PyProof.Rows PySem.W Builtin Builtin.ObjectAttr Builtin.Getset_descriptor
structure ExcLook (K : PySem.W.Frag) (C : Addr) : Prop where
  ga : PySem.W.findIn K (.ref C) "__getattribute__" = some (some (.builtin "BaseException.__getattribute__"))
  hk : PySem.W.findIn K (.ref C) "__getattr__" = some none
  cl : PySem.W.findIn K (.ref C) "__class__" = some (some (.builtin "object.__class__"))
  sp : PySem.W.specialIn K (.builtin "object.__class__") "__get__" = some (some (.builtin "getset_descriptor.__get__"))
  tk : PySem.W.takesIn K (.builtin "object.__class__") = some true
  ob : PySem.W.mroIn K C (.type "object") = some true
  be : PySem.W.mroIn K C (.type "BaseException") = some true
  cs : (PySem.W.clsIn K C).isSome = true
section
variable {prog : Program} {w : World} {A : Around} {E : Value → Shared → Prop} {K : PySem.W.Frag} {x C : Addr} {s : Shared}
theorem find_cls {M : Model} {h : Heap} (L : ExcLook K C) (X : K.In h) : PySem.W.Looks M h (Builtin.ObjectAttr.find (.ref x) (.ref C) "__class__") (.bind (.builtin "getset_descriptor.__get__") (.builtin "object.__class__")) := by
  have L1 := PySem.W.looks_findIn (M := M) X L.cl
  have L2 : PySem.W.Looks M h (Builtin.ObjectAttr.getOf (some (.builtin "object.__class__"))) (some (.builtin "getset_descriptor.__get__")) := PySem.W.looks_specialIn X L.sp
  have L3 := PySem.W.looks_takesIn (M := M) X L.tk
  intro A' Q' E' s' k q
  unfold Builtin.ObjectAttr.find
  refine wpAny_bind (L1 _ _ _ _ k (wpAny_bind (L2 _ _ _ _ k ?_)))
  unfold Builtin.ObjectAttr.dataDescriptor?
  refine wpAny_bind (wpAny_bind (L3 _ _ _ _ k ?_))
  rw [if_pos rfl]
  exact wpAny_pure (wpAny_bind (wpAny_rule (wpAny_pure q)))
theorem cls_get {R : Result → Shared → Prop} {tp : Value} (L : ExcLook K C) (X : K.In s.heap) (L0 : PySem.W.Looks (model prog w) s.heap (typeOf (.ref x)) (.ref C)) (h : R (.ok (.ret (.ref C))) s) :
    codeAny (model prog w) A (.call (.builtin "getset_descriptor.__get__") ⟨[.builtin "object.__class__", .ref x, tp], []⟩) R s := by
  cases s with
  | mk hh g dr t os =>
    have L1 := PySem.W.looks_mroIn (M := model prog w) X L.ob
    refine codeAny_call_builtin PySem.W.KF.slot_gs.plain PySem.W.KF.entry_gs
      (PySem.W.KF.slot_gs.check _ _ _ _ _ _ _ _ PySem.W.KF.type_class (PySem.W.KF.args_gs _ _ _) ?_)
    unfold Builtin.«getset_descriptor.__get__» descrGet
    rw [PySem.W.dga_obj]
    refine wpAny_bind (wpAny_pure ?_)
    unfold descrGetter descrCheckInstance descrNameAndClass isInstance
    simp only [PySem.W.KF.owner_class]
    repeat lk
    refine ⟨Code.quiet_builtin _ (by decide +kernel), codeAny_builtin PySem.W.KF.entry_class ?_⟩
    unfold Builtin.«object.__class__» shownTypeOf; repeat lk
    exact h
theorem exc_ga {tk : Tok} {R : Result → Shared → Prop} (L : ExcLook K C) (X : K.In s.heap) (L0 : PySem.W.Looks (model prog w) s.heap (typeOf (.ref x)) (.ref C)) (hx : ∃ o, s.heap.get? x = some o ∧ o.cls = .ref C) (h : R (.ok (.ret (.ref C))) s) :
    codeAny (model prog w) A (.call (.builtin "BaseException.__getattribute__") ⟨[.ref x, .str "__class__" tk], []⟩) R s := by
  cases s with
  | mk hh g d t os =>
    have L1 := PySem.W.looks_mroIn (M := model prog w) X L.be
    have L2 := find_cls (x := x) (M := model prog w) L X
    have kd : builtinKind "BaseException.__getattribute__" = some .slot := by decide +kernel
    have spl : splitId "BaseException.__getattribute__" = some ("BaseException", "__getattribute__") := by decide +kernel
    have aok := PySem.F.args_bexc_ga (.ref x) (.str "__class__" tk)
    have LI : PySem.W.Looks (model prog w) hh (isInstance (.ref x) (.type "BaseException")) true := L0.andThen L1
    refine codeAny_call_builtin PySem.F.attr_ValueError.ga.plain PySem.F.entry_bexc_ga ?_
    simp only [checkBuiltinCall, kd, spl]
    refine wpAny_bind (LI.at ?_)
    repeat (any_goals (first | assumption | wp_step))
    obtain ⟨ox, hox, hcl⟩ := hx
    refine wpAny_loadPart_at (show (Shared.heap ⟨hh, g, d, t, os⟩).get? x = some ox from hox) ?_
    refine wpAny_pure ?_
    rw [hcl]
    refine wpAny_bind (L2.at ?_)
    show wpAny _ _ (holding [Value.builtin "object.__class__"] (call (.builtin "getset_descriptor.__get__") [.builtin "object.__class__", .ref x, .ref C]) >>= ret) _ _ _
    exact wpAny_bind (wpAny_holding (wpAny_call (cls_get (s := ⟨hh, g, d, t, os⟩) L X L0 (wpAny_pure h))))
theorem exc_class {Q : Option Value → Shared → Prop} (L : ExcLook K C) (X : K.In s.heap) (hx : ∃ o, s.heap.get? x = some o ∧ o.cls = .ref C) (h : Q (some (.ref C)) { s with toks := s.toks + 1 }) : wpAny (model prog w) A (getAttr? (.ref x) "__class__") Q E s := by
  cases s with
  | mk hh g d t os =>
    obtain ⟨ox, hox, hcl⟩ := id hx
    have L0 : PySem.W.Looks (model prog w) hh (typeOf (.ref x)) (.ref C) := hcl ▸ (PySem.W.Looks.ld hox).andThen .now
    have L1 := PySem.W.looks_findIn (M := model prog w) X L.ga
    have L2 := PySem.W.looks_findIn (M := model prog w) X L.hk
    unfold getAttr? getAttrBy? getAttrBy
    refine wpAny_bind (wpAny_mkText (wpAny_bind (wpAny_attempt (wpAny_holding ?_))))
    refine wpAny_bind (L0.at (wpAny_bind (L1.at ?_)))
    show wpAny _ _ (getAttrByItsOwn _ _ _ _ _ _) _ _ _
    unfold getAttrByItsOwn hookBefore
    refine wpAny_bind (L2.at (wpAny_bind (wpAny_attempt (wpAny_holding ?_))))
    show wpAny _ _ (boundAndCalled (.builtin "BaseException.__getattribute__") (.ref x) _) _ _ _
    unfold boundAndCalled
    rw [PySem.F.attr_ValueError.ga.bind (.ref x)]
    refine wpAny_bind (wpAny_pure ?_)
    exact wpAny_call (exc_ga (s := ⟨hh, g, d, t + 1, os⟩) L X L0 hx (wpAny_pure (wpAny_pure h)))
theorem cls_there {h : Heap} (L : ExcLook K C) (X : K.In h) : ∃ c d cd sl, h.get? C = some ⟨c, d, .cls cd, sl⟩ := by
  obtain ⟨cd, e⟩ := Option.isSome_iff_exists.mp L.cs
  unfold PySem.W.clsIn at e
  split at e
  case h_1 c d cd' sl ho => exact ⟨c, d, cd', sl, X _ _ ho⟩
  all_goals cases e
theorem kitx_exc (L : ExcLook K C) : PySem.W.KitX K (.ref x) (.ref C) (fun h => ∃ o, h.get? x = some o ∧ o.cls = .ref C) where
  ty := fun _ _ _ ⟨_, e, c⟩ => c ▸ (PySem.W.Looks.ld e).andThen .now
  it := fun _ _ X _ A' Q' E' s' k q => by
    obtain ⟨c, d, cd, sl, ho⟩ := cls_there L X
    unfold isType loadHead; exact wpAny_bind (wpAny_loadPart (k _ _ ho) (wpAny_pure q))
  ne := fun h tp dd its n sl X htp => by
    obtain ⟨c, d, cd, sl', ho⟩ := cls_there L X
    refine Bool.eq_false_iff.mpr fun q => ?_
    rw [← Value.ref.inj (beq_iff_eq.mp q), ho] at htp
    cases htp
  ca := fun X p k => exc_class L X p k
end
end L2

namespace L2
open PySem PySem.Spec PyProof.Rows
section
variable {X : Cx} {pins : List (Addr × Obj)} {σ : St} {H : Hp} {s : Shared}
theorem name_goes {M : Model} {A : Around} {E : Value → Shared → Prop} {j : Nat} {n : Str} {pos : Pos} {Q : Unit → Shared → Prop} (I : Inv X pins σ H s) (hN : X.N.Nodup) (hj : X.N[j]? = some n) (hk : X.env.scope.names.lookup n = some .local)
    (h : ∀ s', Inv X pins (σ.set j none) H s' → Q () s') : wpAny M A (do bindName X.env n .none; unbindBehindTheSuite X.env n pos) Q E s := by
  obtain ⟨m, hn, hl⟩ := id I.loc
  have hcls : (X.env.scope.kind == .class || (X.env.scope.kind == .module && X.env.locals != X.env.globals)) = false := by rw [I.ok.kind]; rfl
  have hjσ : j < σ.length := by rw [I.len]; exact (List.getElem?_eq_some_iff.mp hj).1
  have cne := I.cne
  obtain ⟨oL, _, _, hoL, _⟩ := id hn
  refine wpAny_nameGoes_keeps hk hn hcls fun h' v hn' hs => h _ ?_
  have lt : ∀ {b : Addr} {o : Obj}, X.s₀.heap.get? b = some o → b ≠ X.env.locals := fun e => Nat.ne_of_lt (Nat.lt_of_lt_of_le (Heap.lt_size e) I.ok.above)
  refine ⟨I.ok, I.os, I.bare, ⟨fun b o e nn hb hx => (hs.2 b (lt e)).trans (I.base.keep b o e nn hb hx), fun b o e nn hb hx => ?_, I.base.free, fun b o e hx => ?_, I.base.tups, I.base.frzs, I.base.tbls⟩, ⟨_, hn', fun i y v' e1 e2 e3 => ?_⟩, fun y c e => ?_, I.free, I.freeC, fun p hp => ?_, fun b ob e => ?_, by simpa using I.len⟩
  · obtain ⟨sl, e1⟩ := I.base.slot b o e nn hb hx
    exact ⟨sl, (hs.2 b (lt e)).trans e1⟩
  · obtain ⟨o', e1⟩ := I.base.there b o e hx
    exact ⟨o', (hs.2 b (lt e)).trans e1⟩
  · by_cases hji : i = j
    · subst hji
      rw [List.getElem?_set_self hjσ] at e2
      cases e2
    · rw [List.getElem?_set_ne (Ne.symm hji)] at e2
      obtain ⟨u', r', q⟩ := hl i y v' e1 e2 e3
      refine ⟨u', r', ?_⟩
      rcases q with ⟨k, e⟩ | ⟨k, c, e, z⟩
      · refine .inl ⟨k, ?_⟩
        have ny : y ≠ n := fun e => hji (nodup_ix hN e1 (e ▸ hj))
        show (if y = n then v else m y) = _
        rw [if_neg ny]
        exact e
      · exact .inr ⟨k, c, e, z.sameBut hs (cne y c e)⟩
  · obtain ⟨w', z⟩ := I.cell y c e
    exact ⟨w', z.sameBut hs (cne y c e)⟩
  · obtain ⟨e, nn, ne, nf, d⟩ := I.pin p hp
    exact ⟨(hs.2 p.1 ne).trans e, nn, ne, nf, d⟩
  · refine (I.hok b ob e).stay (fun c w' hc q => (hs.2 c ?_).trans q) (fun _ q => q) fun _ _ q => q
    rintro rfl
    rcases hc with rfl | hc
    · rw [I.free] at e; cases e
    · rw [I.free] at hc; cases hc
end
section
variable {X : Cx}
def asEnds (j : Nat) (D : Ends) : Ends := { nx := fun σ H => D.nx (σ.set j none) H, rt := D.rt, bk := fun σ H => D.bk (σ.set j none) H, ct := fun σ H => D.ct (σ.set j none) H }
theorem ps_tryAs {st : Stmt} {tx : Ends → XK → St → Hp → Prop} {x n : Str} {j : Nat} {C : Addr} {b₀ : Stmt} {suite : List Stmt} {np hpos pos : Pos} {ts : TS} (hst : X.stack = X.env :: X.outer) (hf : X.env.frame = some X.env.locals) (hN : X.N.Nodup) (hj : X.N[j]? = some n) (hk : X.env.scope.names.lookup n = some .local)
    (hb : PSX X st tx) (hg : Gl X x) (hm : X.mg x = some (.ref C)) (hs : ∀ ea, PSs (X.inside ea) (b₀ :: suite) ts) (hd : (x == ("__debug__" : Str)) = false := by decide) :
    PS X (.Try [st] [.ExceptHandler (some (.Name x np)) (some n) (b₀ :: suite) hpos] [] [] pos) (fun D σ H => tx D (fun cls _ H1 => PySem.W.exmOne X.K cls (.ref C) = some true ∧ ∀ ea, H1 ea = none → ts (asEnds j D) (σ.set j (some (.ref ea))) (upd H1 ea (excO ea cls))) σ H) := by
  intro pins s σ H D I h
  refine wpAny_Try_except (wpAny_execs_cons (thn (hb pins s σ H D _ _ I h fun H1 s1 e s' I1 c => ?_) fun fl s1 q => ?_))
  · obtain ⟨ea, cls, a0, B, H', rfl, os, bare, un, hok, fl, hea, kB, hE⟩ := c
    have hfr := I1.ok.frames
    rw [hst] at hfr
    have fl' := fl
    rw [hst] at fl'
    refine wpAny_looks_onW hfr hf fl' fun h4 held up4 => ?_
    refine wpAny_landsW held fun h5 fl5 up5 => ?_
    have up45 := up4.trans up5
    rw [← hst] at fl5
    have I5 := (landed I1 os bare un hok fl hea kB fl5 up45).inside ea
    obtain ⟨ob, hob, hc⟩ := fl5.there
    have LT : PySem.W.Looks (model X.prog X.w) h5 (typeOf (.ref ea)) cls := hc ▸ (PySem.W.Looks.ld hob).andThen .now
    refine wpAny_handleBy_cons (codeAny_handlers_test (ld_glob I5 hg hm ?_ hd)) (by intro q; cases q)
    refine PySem.W.exm_one (h := h5) I5.kIn LT hE.1 _ _ _ _ (fun _ _ z => z) ?_
    refine codeAny_handlers_suite_as ?_
    refine lands_againW fl5 fun h6 fl6 up6 => ?_
    have I6 := landed I1 os bare un hok fl hea kB fl6 (up45.trans up6)
    refine store_ok I6 hN hj (.inl hk) (v := .ref ea) rfl (fun s7 I7 => ?_) (.inr hk)
    refine wpAny_mono (hs ea pins _ _ _ (asEnds j D) (I7.inside ea) (hE.2 ea hea)) (fun f s2 q => ?_) (fun _ _ z => z.elim)
    cases f with
    | next =>
      obtain ⟨a, b, J, q⟩ := q
      exact name_goes (J.outside I.ok) hN hj hk fun s3 J3 => ⟨_, _, J3, q⟩
    | brk =>
      obtain ⟨a, b, J, q⟩ := q
      exact name_goes (J.outside I.ok) hN hj hk fun s3 J3 => ⟨_, _, J3, q⟩
    | cont =>
      obtain ⟨a, b, J, q⟩ := q
      exact name_goes (J.outside I.ok) hN hj hk fun s3 J3 => ⟨_, _, J3, q⟩
    | ret u =>
      obtain ⟨v, a, b, J, r, q⟩ := q
      exact name_goes (J.outside I.ok) hN hj hk fun s3 J3 => ⟨v, _, _, J3, r, q⟩
  · cases fl with
    | next => exact wpAny_execs_nil (wpAny_execs_nil q)
    | brk => exact q
    | cont => exact q
    | ret u => exact q
def clV : V → Option Value
  | .ref a => some (.ref a)
  | .ty n => some (.type n)
  | _ => none
theorem clV_rel {c : V} {u t : Value} (e : clV c = some t) (r : RelV c u) : u = t := by
  cases c with
  | ref a => cases e; exact r
  | ty n => cases e; exact r
  | _ => cases e
def clVs : List V → Option (List Value)
  | [] => some []
  | c :: r => match clV c, clVs r with
    | some t, some ts => some (t :: ts)
    | _, _ => none
theorem clVs_rel : ∀ {cs : List V} {us ts : List Value}, clVs cs = some ts → Vals cs us → us = ts
  | [], _, _, e, .nil => by cases e; rfl
  | c :: r, _, _, e, .cons h1 h2 => by
    unfold clVs at e
    split at e
    case h_1 t ts e1 e2 =>
      cases e
      rw [clV_rel e1 h1, clVs_rel e2 h2]
    case h_2 => cases e
theorem call_isX : CallR X (.builtin "isinstance") (fun xs H Q => ∃ ea C c t b, xs = [.ref ea, c] ∧ H ea = some (excO ea (.ref C)) ∧ ExcLook X.K C ∧ clV c = some t ∧ PySem.W.kitOne X.K (.ref C) t = some b ∧ Q (.bl b) H) := by
  intro pins s σ H xs us Q I r h
  obtain ⟨ea, C, c, t, b, rfl, he, L, hc, e, q⟩ := h
  obtain ⟨u, v, rfl, ru, rv⟩ := r.two
  cases ru
  rw [clV_rel hc rv]
  have p : ∃ o, s.heap.get? ea = some o ∧ o.cls = .ref C := (show ObjOk X.prog X.w H s.heap ea (excO ea (.ref C)) from I.hok ea _ he).1
  exact PySem.W.kia_one (kitx_exc L) I.kIn p e (fun z => nomatch z) fun tk => ⟨.bl b, H, I.tok tk, rfl, q⟩
theorem call_isXT : CallR X (.builtin "isinstance") (fun xs H Q => ∃ ea C tp cs ts b, xs = [.ref ea, .ref tp] ∧ H ea = some (excO ea (.ref C)) ∧ ExcLook X.K C ∧ H tp = some (.tup cs) ∧ clVs cs = some ts ∧ PySem.W.kitAny X.K (.ref C) ts = some b ∧ Q (.bl b) H) := by
  intro pins s σ H xs us Q I r h
  obtain ⟨ea, C, tp, cs, ts, b, rfl, he, L, ht, hc, e, q⟩ := h
  obtain ⟨u, v, rfl, ru, rv⟩ := r.two
  cases ru
  cases rv
  have p : ∃ o, s.heap.get? ea = some o ∧ o.cls = .ref C := (show ObjOk X.prog X.w H s.heap ea (excO ea (.ref C)) from I.hok ea _ he).1
  obtain ⟨its, rv, pl, _⟩ := I.tuple (SqT.of (K := X.K) ht)
  obtain ⟨o, ho, hcl, n, hd⟩ := (show s.heap.IsTuple tp its.toArray from pl)
  cases clVs_rel hc rv
  cases o with
  | mk oc od oda osl =>
    cases hcl
    cases hd
    exact PySem.W.kia_tup (kitx_exc L) I.kIn p ho e (fun z => nomatch z) fun tk => ⟨.bl b, H, I.tok tk, rfl, q⟩
end
end L2

namespace L2
open PySem PySem.Spec PyProof.Rows
variable {X : Cx}
theorem pe_gint {x : Str} {i : Int} {pos : Pos} (hg : Gl X x) (h : ∃ t, X.mg x = some (.int i t)) (hd : (x == ("__debug__" : Str)) = false := by decide) : PE X (.Name x pos) (tC (.int i)) := by
  obtain ⟨t, h⟩ := h
  exact pe_glob hg h ⟨t, rfl⟩ hd
end L2

namespace L2
open PySem PySem.Spec PyProof.Rows
variable {X : Cx}
theorem pi_or {tg e : Expr} {w1 w2 : TI} (h1 : PI X tg e w1) (h2 : PI X tg e w2) : PI X tg e (fun σ H R => w1 σ H R ∨ w2 σ H R) := fun pins s σ H R I h => h.elim (h1 pins s σ H R I) (h2 pins s σ H R I)
end L2
namespace Ep
open PySem L2 PySem.SeqAt
structure ErrA where
  net : Addr
  nonet : Addr
  nolane : Addr
  nowalker : Addr
  many : Addr
  notext : Addr
  norow : Addr
  noname : Addr
structure ErrK (K : PySem.W.Frag) (a : ErrA) : Prop where
  q_NoNet : PySem.W.excIn K a.nonet veB "ValueError.__new__" = true
  q_TooMany : PySem.W.excIn K a.many veB "ValueError.__new__" = true
  m_NoNet : PySem.W.exmOne K (.ref a.nonet) (.ref a.net) = some true
  m_TooMany : PySem.W.exmOne K (.ref a.many) (.ref a.net) = some true
  l_NoNet : ExcLook K a.nonet
  l_TooMany : ExcLook K a.many
  i_NoNet : PySem.W.kitAny K (.ref a.nonet) [.ref a.nolane, .ref a.noname, .ref a.norow, .ref a.notext, .ref a.nowalker] = some false
  i_TooMany : PySem.W.kitAny K (.ref a.many) [.ref a.nolane, .ref a.noname, .ref a.norow, .ref a.notext, .ref a.nowalker] = some false
  v_NoNet : PySem.W.kitOne K (.ref a.nonet) (.type "ValueError") = some true
  v_TooMany : PySem.W.kitOne K (.ref a.many) (.type "ValueError") = some true
  nn : PySem.W.kitOne K (.ref a.nonet) (.ref a.nonet) = some true
  nm : PySem.W.kitOne K (.ref a.nonet) (.ref a.many) = some false
  mn : PySem.W.kitOne K (.ref a.many) (.ref a.nonet) = some false
  mm : PySem.W.kitOne K (.ref a.many) (.ref a.many) = some true
structure ErrT (K : PySem.W.Frag) (mg : Str → Option Value) (a : ErrA) : Prop extends ErrK K a where
  at_NetError : mg "NetError" = some (.ref a.net)
  at_NoNet : mg "NoNet" = some (.ref a.nonet)
  at_NoLane : mg "NoLane" = some (.ref a.nolane)
  at_NoWalker : mg "NoWalker" = some (.ref a.nowalker)
  at_TooMany : mg "TooMany" = some (.ref a.many)
  at_NoText : mg "NoText" = some (.ref a.notext)
  at_NoRow : mg "NoRow" = some (.ref a.norow)
  at_NoName : mg "NoName" = some (.ref a.noname)
end Ep

namespace L2
open PySem PySem.Spec PyProof.Rows
variable {X : Cx}
end L2

namespace L2
open PySem PySem.Spec PyProof.Rows
section
variable {P : Program} {w : World} {A : Around} {E : Value → Shared → Prop} {s : Shared}
end
section
variable {X : Cx} {elts : List Expr} {kk : Nat} {ps : Pos}
end
end L2

namespace L2
open PySem PySem.Spec PyProof.Rows
end L2

namespace L2
open PySem PySem.Spec PyProof.Rows PyProof.V PySem.SeqAt
section
variable {X : Cx}
end
end L2
namespace Ep
open PySem L2 PySem.SeqAt PySem.Spec PyProof.Rows
end Ep

namespace L2
open PySem PySem.Spec PyProof.Rows
def Its (lo : Int) (n : Nat) : It := ⟨fun i _ => i < n, fun i H x H' => H' = H ∧ x = .int (lo + i * 2), fun i _ => n ≤ i⟩
def n2 (a b : Int) : Nat := ((b - a + 1) / 2).toNat
theorem size_two (a b : Int) : Builtin.Range.rangeSize a b 2 = ((n2 a b : Nat) : Int) := by
  unfold Builtin.Range.rangeSize n2
  rw [if_pos (by decide)]
  by_cases h : a < b
  · rw [if_pos h]; (first | lia | omega)
  · rw [if_neg h]; (first | lia | omega)
theorem small_two {a b : Int} (h1 : -(2 ^ 62) ≤ a) (h2 : a < 2 ^ 62) (h3 : -(2 ^ 62) ≤ b) (h4 : b < 2 ^ 62) : Builtin.Range.small a b 2 = true := by
  unfold Builtin.Range.small
  rw [size_two]
  unfold n2
  simp only [Builtin.Range.rangeFitsLong, Bool.and_eq_true, Bool.or_eq_true, decide_eq_true_eq, beq_iff_eq, show ((2 : Int) > 0) by decide, if_true]
  (first | lia | omega)
theorem turn_two {P : Program} {w : World} {K : PySem.W.Frag} {tg : Expr} (it : Addr) (lo : Int) (n : Nat) : Turn P w K tg (Its lo n) [it] it (fun i h => IsRangeIter h it (lo + (i : Nat) * 2) ((n : Int) - (i : Nat)) 2) where
  mem := by simp
  obj := fun i h st b hb => by
    have e : b = it := by simpa using hb
    subst e
    exact ⟨_, st, fun v z => by
      have z' : Data.fields _ = Data.cell v := z
      cases z'⟩
  keep := fun i h h' st k => k it (by simp) _ st
  item := by
    intro X hP hw hK hc i pins s σ H E I hf st hg
    subst hP hw hK
    obtain ⟨f0, f1, f2, f3, f4, f5⟩ := hf it (by simp)
    have W := Walks.range (prog := X.prog) (w := X.w) (I.ok.hd hc) it lo 2 n
    refine W.item i s _ _ hg st fun v h' tk hv st' kk => ?_
    obtain ⟨t, rfl⟩ := hv
    have I1 : Inv X pins σ H { s with heap := h', toks := tk } := I.turned (fun b o hb e => kk b o (by simpa using hb) e) f0 f1 f3 f4 f5
    exact ⟨_, rfl, go_of (s := { s with heap := h', toks := tk }) (n := "range_iterator") st' rfl rfl (by decide) ⟨.int (lo + i * 2), H, I1, ⟨t, rfl⟩, ⟨rfl, rfl⟩, st', fun b hb => (hf b hb).1⟩⟩
  done := by
    intro X hP hw hK hc i pins s σ H E I hf st hg
    subst hP hw hK
    obtain ⟨f0, f1, f2, f3, f4, f5⟩ := hf it (by simp)
    exact wpAny_pyNext_range_end (I.ok.hd hc) st (by have : n ≤ i := hg; (first | lia | omega)) fun h' eb => ⟨rfl, I.turned (t' := s.toks) (fun b o hb e => eb b o hb e) f0 f1 f3 f4 f5⟩
  self := fun _ _ _ _ _ st h => wpAny_pyIter_rangeiter st h
section
variable {X : Cx} {tg : Expr}
theorem two_it {pins : List (Addr × Obj)} {σ : St} {H : Hp} {s : Shared} {R : It → Hp → Prop} {E : Value → Shared → Prop} {a b : Int} {t u v : Tok} {tk : Nat} (I : Inv X pins σ H s) (h1 : -(2 ^ 62) ≤ a) (h2 : a < 2 ^ 62) (h3 : -(2 ^ 62) ≤ b) (h4 : b < 2 ^ 62)
    (q : R (Its a (n2 a b)) H) : wpAny (model X.prog X.w) X.A (pyIter (.ref s.heap.objs.size)) (PIE X pins σ tg R) E { s with heap := s.heap.push { cls := .type "range", data := .fields #[.int a t, .int b u, .int 2 v] }, toks := tk } := by
  refine wpAny_pyIter_range (IsRange.new ..) (small_two h1 h2 h3 h4) ?_
  have I1 : Inv X pins σ H { s with heap := s.heap.push { cls := .type "range", data := .fields #[.int a t, .int b u, .int 2 v] }, toks := tk } := I.kept fun b o e => Heap.get?_push_of_some _ e
  refine ⟨(s.heap.push { cls := .type "range", data := .fields #[.int a t, .int b u, .int 2 v] }).objs.size, [(s.heap.push { cls := .type "range", data := .fields #[.int a t, .int b u, .int 2 v] }).objs.size], _, _, H, rfl,
    I1.kept (t' := tk) fun b o e => Heap.get?_push_of_some _ e, turn_two _ a (n2 a b), ?_, fun c hb => ?_, q⟩
  · show IsRangeIter _ _ (a + ((0 : Nat) : Int) * 2) (((n2 a b : Nat) : Int) - ((0 : Nat) : Int)) 2
    rw [show a + ((0 : Nat) : Int) * 2 = a by (first | lia | omega), show ((n2 a b : Nat) : Int) - ((0 : Nat) : Int) = Builtin.Range.rangeSize a b 2 by rw [size_two]; (first | lia | omega)]
    exact Heap.get?_push_size _ rfl
  · have e : c = (s.heap.push { cls := .type "range", data := .fields #[.int a t, .int b u, .int 2 v] }).objs.size := by simpa using hb
    subst e
    exact I1.fpOk (Nat.le_refl _) (I1.hok.fresh (Nat.le_refl _))
def iRngS (ta : TA) : TI := fun σ H R => ta σ H fun vs H1 => ∃ i j : Int, vs = [.int i, .int j, .int 2] ∧ (-(2 ^ 62) ≤ i ∧ i < 2 ^ 62 ∧ -(2 ^ 62) ≤ j ∧ j < 2 ^ 62) ∧ R (Its i (n2 i j)) H1
theorem pi_rangeS {a b c : Expr} {ta : TA} {p pos : Pos} (hg : Gl X "range") (hm : X.mg "range" = none) (ha : PA X [a, b, c] ta) (hs : starEach [a, b, c] X.env = (false, eval a X.env) :: starEach [b, c] X.env := by rfl) (hs2 : (backTo pos (starEach [b, c] X.env)).any (·.1) = false := by rfl) :
    PI X tg (.Call (.Name "range" p) [a, b, c] [] pos) (iRngS ta) := by
  intro pins s σ H R I h
  refine Call_ (ld_blt I hg hm boot_range (PyProof.Rows.callWith_type1 (thn (ha pos pins s σ H _ I h) fun us s1 ⟨vs, H1, I1, r1, q1⟩ => ?_) hs hs2))
  obtain ⟨i, j, e, ⟨q1, q2, q3, q4⟩, q⟩ := q1
  subst e
  cases r1 with
  | cons r rr =>
    cases rr with
    | cons r' rr =>
      cases rr with
      | cons r'' rr =>
        cases rr
        obtain ⟨t, rfl⟩ := r
        obtain ⟨t', rfl⟩ := r'
        obtain ⟨t'', rfl⟩ := r''
        exact call_range_3 (by decide) (two_it I1 q1 q2 q3 q4 q) (Or.inl (PyProof.noPylong_of_log2 (by decide +kernel)))
theorem comp_two {lo : Int} {n own : Nat} {caps : List Nat} {g : TG} {tt : TT} {te : TE} {σ : St} {R : Hp → Prop} {l : Addr} {H1 : Hp} (Pv : Nat → List V → Hp → Prop) (h0 : Pv 0 [] (upd H1 l (.lst []))) (hz : n ≤ sizeLine)
    (hl : ∀ i ys H, Pv i ys H → H l = some (.lst ys) ∧ ys.length ≤ i)
    (hs : ∀ i ys H, i < n → Pv i ys H → g (.int (lo + i * 2)) (stC own caps σ) H fun σ2 H2 => Wk (stC own caps σ) σ2 ∧
      tt σ2 H2 fun b H3 => if b = true then te σ2 H3 fun y H4 => H4 l = some (.lst ys) ∧ Pv (i + 1) (ys ++ [y]) (upd H4 l (.lst (ys ++ [y]))) else Pv (i + 1) ys H3)
    (hd : ∀ ys H, Pv n ys H → R H) :
    ∃ W : Nat → Nat → List V → Hp → Prop, (∃ m, W 0 m [] (upd H1 l (.lst []))) ∧
      ∀ i m ys H, W i m ys H → H l = some (.lst ys) ∧ (((Its lo n).stop i H ∧ R H) ∨ ((Its lo n).go i H ∧ ys.length < sizeLine ∧ ∃ N : List V → Hp → Prop, (∀ ys' H', N ys' H' → ∃ m', m' < m ∧ W (i + 1) m' ys' H') ∧
        ∀ x H', (Its lo n).yld i H x H' → g x (stC own caps σ) H' fun σ2 H2 => Wk (stC own caps σ) σ2 ∧
        tt σ2 H2 fun b H3 => if b = true then te σ2 H3 fun y H4 => H4 l = some (.lst ys) ∧ N (ys ++ [y]) (upd H4 l (.lst (ys ++ [y]))) else N ys H3)) := by
  refine ⟨fun i m ys H => m = n - i ∧ i ≤ n ∧ Pv i ys H, ⟨n, by simp, Nat.zero_le _, h0⟩, ?_⟩
  rintro i m ys H ⟨rfl, hi, p⟩
  obtain ⟨e1, e2⟩ := hl i ys H p
  refine ⟨e1, ?_⟩
  by_cases hlt : i < n
  · refine .inr ⟨hlt, by (first | lia | omega), Pv (i + 1), fun ys' H' p' => ⟨n - (i + 1), by (first | lia | omega), rfl, hlt, p'⟩, fun x H' y => ?_⟩
    obtain ⟨e, y⟩ := y
    subst e y
    exact hs i ys _ hlt p
  · have e : i = n := by (first | lia | omega)
    subst e
    exact .inl ⟨Nat.le_refl _, hd ys H p⟩
theorem call_isLT : CallR X (.builtin "isinstance") (fun xs H Q => ∃ a tp ys cs ts b, xs = [.ref a, .ref tp] ∧ H a = some (.lst ys) ∧ H tp = some (.tup cs) ∧ clVs cs = some ts ∧ PySem.W.kitAny X.K (.type "list") ts = some b ∧ Q (.bl b) H) := by
  intro pins s σ H xs us Q I r h
  obtain ⟨a, tp, ys, cs, ts, b, rfl, he, ht, hc, e, q⟩ := h
  obtain ⟨u, v, rfl, ru, rv⟩ := r.two
  cases ru
  cases rv
  obtain ⟨_, _, n, _, h1⟩ := (show ObjOk X.prog X.w H s.heap a (.lst ys) from I.hok a _ he)
  obtain ⟨its, rv, pl, _⟩ := I.tuple (SqT.of (K := X.K) ht)
  obtain ⟨o, ho, hcl, n, hd⟩ := (show s.heap.IsTuple tp its.toArray from pl)
  cases clVs_rel hc rv
  cases o with
  | mk oc od oda osl =>
    cases hcl
    cases hd
    exact PySem.W.kia_tup PySem.W.kitx_list I.kIn ⟨_, h1, rfl⟩ ho e (fun z => nomatch z) fun tk => ⟨.bl b, H, I.tok tk, rfl, q⟩
end
end L2
namespace Ep
open PySem L2 PySem.SeqAt
def rowB (wide : Int) (r : Nat) : List (Int × Int) := (List.range (n2 ((r : Int) % 2) (wide - 1))).map fun i : Nat => ((r : Int) % 2 + (i : Int) * 2, (r : Int) % 2 + (i : Int) * 2 + 1)
def brickM (wide : Int) : List (Int × Int) := (List.range wide.toNat).flatMap (rowB wide)
def wokB (wide : Int) (ws : List (Int × Int)) : Bool := ws.all fun w => decide (0 ≤ w.1 ∧ w.1 < wide ∧ 0 ≤ w.2 ∧ w.2 < wide ∧ w.1 ≠ w.2)
theorem wok_of {wide : Int} {ws : List (Int × Int)} (h : wokB wide ws = true) : WOk wide ws := fun w hw => by
  have := List.all_eq_true.mp h w hw
  exact of_decide_eq_true this
def fallsB : List Int → Bool
  | a :: b :: r => decide (b ≤ a) && fallsB (b :: r)
  | _ => true
theorem falls_of : ∀ {c : List Int}, fallsB c = true → Falls c
  | [], _ => fun i hi => by simp at hi
  | [a], _ => fun i hi => by simp at hi
  | a :: b :: r, h => fun i hi => by
    unfold fallsB at h
    rw [Bool.and_eq_true] at h
    cases i with
    | zero => exact of_decide_eq_true h.1
    | succ i => exact falls_of h.2 i (by simp at hi ⊢; (first | lia | omega))
theorem allF_of {n : Nat} {ws : List (Int × Int)} (h : ((rowsM (List.replicate n [0, 1])).all fun r => fallsB (putM r ws)) = true) : AllF n ws := fun r hr => falls_of (List.all_eq_true.mp h r ((bits_rows n r).mpr hr))
theorem brick_ok : ∀ k : Nat, k < 8 → wokB ((k : Int) + 1) (brickM ((k : Int) + 1)) = true ∧ (brickM ((k : Int) + 1)).length ≤ 40 ∧ ((rowsM (List.replicate (k + 1) [0, 1])).all fun r => fallsB (putM r (brickM ((k : Int) + 1)))) = true := by decide +kernel
theorem brick_all {wide : Int} (h1 : 1 ≤ wide) (h8 : wide ≤ 8) : WOk wide (brickM wide) ∧ (brickM wide).length ≤ 40 ∧ AllF wide.toNat (brickM wide) := by
  obtain ⟨a, b, c⟩ := brick_ok (wide.toNat - 1) (by (first | lia | omega))
  have e : (((wide.toNat - 1 : Nat) : Int)) + 1 = wide := by (first | lia | omega)
  rw [e] at a b c
  rw [show wide.toNat - 1 + 1 = wide.toNat by (first | lia | omega)] at c
  exact ⟨wok_of a, b, allF_of c⟩
structure NoNetT (K : PySem.W.Frag) (mg : Str → Option Value) (a : Addr) : Prop where
  q_NoNet : PySem.W.excIn K a veB "ValueError.__new__" = true
  at_NoNet : mg "NoNet" = some (.ref a)
def spIsWicket : Sp := fun vs H Q _ => ∃ (wide : Int) (t : Addr) (w : Int × Int), vs = [.int wide, .ref t] ∧ H t = some (.tup [.int w.1, .int w.2]) ∧ (0 ≤ w.1 ∧ w.1 < wide ∧ 0 ≤ w.2 ∧ w.2 < wide ∧ w.1 ≠ w.2) ∧ Q (.bl true) H
def spMakes : Sp := fun vs H Q _ => ∃ (wide : Int) (l : Addr) (ws : List (Int × Int)), vs = [.int wide, .ref l] ∧ WsL H l ws ∧ 1 ≤ wide ∧ wide ≤ 8 ∧ WOk wide ws ∧ ws.length ≤ 40 ∧ ∀ H', Same H H' → Q (.bl true) H'
def spNetOf : Sp := fun vs H Q _ => ∃ (wide : Int) (l : Addr) (ws : List (Int × Int)), vs = [.int wide, .ref l] ∧ WsL H l ws ∧ 1 ≤ wide ∧ wide ≤ 8 ∧ WOk wide ws ∧ ws.length ≤ 40 ∧ ∀ (v : V) (H' : Hp), Same H H' → Net H' v wide ws → Q v H'
def spBrickN : Sp := fun vs H Q _ => ∃ (wide : Int), vs = [.int wide] ∧ 1 ≤ wide ∧ wide ≤ 8 ∧ ∀ (v : V) (H' : Hp), Same H H' → Net H' v wide (brickM wide) → Q v H'
end Ep
namespace L2
open PySem
theorem FnOk.down {P : Program} {w : World} {K : PySem.W.Frag} {mg : Str → Option Value} {base : Heap} {k : Nat} {f : Addr} {fd : FuncData} {ps : List Str} {sp : Sp} (F : FnOk P w K mg base (CX1 P w) k f fd ps sp) (h : ∀ vs H Q E, sp vs H Q E → sp vs H Q fun _ _ _ => False) : FnOk P w K mg base CX0 k f fd ps sp :=
  ⟨F.len, fun A outer s H args us vs Q E hr e0 hb r hs => codeAny_mono (F.run A outer s H args us vs Q (fun _ _ _ => False) hr e0 hb r (h _ _ _ _ hs)) fun res s' q => by
    cases res with
    | ok fl => cases fl with
      | ret u => exact q
      | next => exact q
      | brk => exact q
      | cont => exact q
    | error e =>
      obtain ⟨_, _, _, _, _, _, _, _, _, _, _, _, _, z⟩ := q
      exact z.elim⟩
end L2
namespace Ep
open PySem L2 PySem.SeqAt
end Ep

namespace L2
open PySem PySem.Spec PyProof.Rows
section
variable {P : Program} {w : World} {A : Around} {E : Value → Shared → Prop}
variable {s : Shared}
end
section
variable {X : Cx} {pos : Pos}
end
end L2

namespace Ep
open PySem L2 PySem.SeqAt
end Ep
namespace Ep
open PySem L2 PySem.SeqAt
end Ep
namespace Ep
open PySem L2 PySem.SeqAt
end Ep
namespace Ep
open PySem L2 PySem.SeqAt
end Ep
namespace Ep
open PySem L2 PySem.SeqAt
end Ep
namespace Ep
open PySem L2 PySem.SeqAt
end Ep
namespace Ep
open PySem L2 PySem.SeqAt
end Ep

namespace L2
open PySem PySem.Spec PyProof.Rows
variable {X : Cx}
end L2
namespace Ep
open PySem L2 PySem.SeqAt
end Ep

namespace L2
open PySem PySem.Spec PyProof.Rows
section
variable {X : Cx}
def tNewD : TE := fun _ H Q => ∀ p, H p = none → Q (.ref p) (upd H p (.dK []))
theorem pe_dict0 {pos : Pos} : PE X (.Dict [] [] pos) tNewD := by
  intro pins s σ H Q I h
  refine wpAny_Dict_empty ?_
  have ok : ObjOk X.prog X.w (upd H s.heap.objs.size (.dK [])) (s.heap.push { cls := .type "dict", data := .dict #[] }) s.heap.objs.size (.dK []) := by
    refine ⟨Nat.zero_le _, ?_, [], .nil, Heap.DictOf.new s.heap⟩
    have g : mainGlobals < s.heap.objs.size := (I.mod.glob.keeps I.bk).lt
    have b : sysModules < mainGlobals := by decide
    exact beq_eq_false_iff_ne.mpr (fun z => by rw [z] at g; exact absurd (Nat.lt_trans b g) (Nat.lt_irrefl _))
  exact ⟨.ref s.heap.objs.size, _, I.laid (t' := s.toks) (fun _ _ q => Heap.get?_push_of_some _ q) (Nat.le_refl _) ok, rfl, h _ (I.hok.fresh (Nat.le_refl _))⟩
theorem call_isST : CallR X (.builtin "isinstance") (fun xs H Q => ∃ a tp ys cs ts b, xs = [.ref a, .ref tp] ∧ ((H a = some (.lst ys) ∧ PySem.W.kitAny X.K (.type "list") ts = some b) ∨ (H a = some (.tup ys) ∧ PySem.W.kitAny X.K (.type "tuple") ts = some b)) ∧ H tp = some (.tup cs) ∧ clVs cs = some ts ∧ Q (.bl b) H) := by
  intro pins s σ H xs us Q I r h
  obtain ⟨a, tp, ys, cs, ts, b, rfl, he, ht, hc, q⟩ := h
  rcases he with ⟨he, e⟩ | ⟨he, e⟩
  · exact call_isLT pins s σ H _ us Q I r ⟨a, tp, ys, cs, ts, b, rfl, he, ht, hc, e, q⟩
  · obtain ⟨u, v, rfl, ru, rv⟩ := r.two
    cases ru
    cases rv
    obtain ⟨its0, _, p0, _⟩ := I.tuple (SqT.of (K := X.K) he)
    obtain ⟨o0, ho0, hc0, _⟩ := (show s.heap.IsTuple a its0.toArray from p0)
    obtain ⟨its, rv, pl, _⟩ := I.tuple (SqT.of (K := X.K) ht)
    obtain ⟨o, ho, hcl, n, hd⟩ := (show s.heap.IsTuple tp its.toArray from pl)
    cases clVs_rel hc rv
    cases o with
    | mk oc od oda osl =>
      cases hcl
      cases hd
      exact PySem.W.kia_tup PySem.W.kitx_tuple I.kIn ⟨_, ho0, hc0⟩ ho e (fun z => nomatch z) fun tk => ⟨.bl b, H, I.tok tk, rfl, q⟩
theorem ip_fdiv : PIp X .FloorDiv (rI CDiv fun i j => .int (i / j)) := iop_fdiv
theorem kit_snoc {K : PySem.W.Frag} {t c : Value} (hc : PySem.W.kitOne K t c = some false) : ∀ {l : List Value}, PySem.W.kitAny K t l = some false → PySem.W.kitAny K t (l ++ [c]) = some false
  | [], _ => by
    show (match PySem.W.kitOne K t c with | some true => some true | some false => PySem.W.kitAny K t [] | none => none) = some false
    rw [hc]
    rfl
  | d :: l, h => by
    have h' : (match PySem.W.kitOne K t d with | some true => some true | some false => PySem.W.kitAny K t l | none => none) = some false := h
    show (match PySem.W.kitOne K t d with | some true => some true | some false => PySem.W.kitAny K t (l ++ [c]) | none => none) = some false
    cases e : PySem.W.kitOne K t d with
    | none => rw [e] at h'; cases h'
    | some b =>
      rw [e] at h'
      cases b with
      | true => cases h'
      | false => exact kit_snoc hc h'
theorem psx_expr {e : Expr} {tx : St → Hp → VK → XK → Prop} {pos : Pos} (he : PX X e tx) (hs : swapsWith e none pos.line X.env = pure false := by rfl) : PSX X (.Expr e pos) (fun D E σ H => tx σ H (fun _ H1 => D.nx σ H1) E) := by
  intro pins s σ H D E xe I h hxe
  exact wpAny_Expr_any (thn (he pins s σ H _ E xe I h hxe) fun v s1 ⟨x, H1, I1, r1, q1⟩ => ⟨σ, H1, I1, q1⟩) I.quiet hs
theorem psx_if {c : Expr} {a b : Stmt} {tc : TT} {ta tb : Ends → XK → St → Hp → Prop} {pos : Pos} (hc : PT X.nox c tc) (ha : PSX X a ta) (hb : PSX X b tb) : PSX X (.If c [a] [b] pos) (fun D E σ H => tc σ H fun d H1 => if d = true then ta D E σ H1 else tb D E σ H1) := by
  intro pins s σ H D E xe I h hxe
  have nox : ∀ {α : Type} {t : Sem α} {Q : α → Shared → Prop} {s : Shared}, wpAny (model X.prog X.w) X.A t Q (fun _ _ => False) s → wpAny (model X.prog X.w) X.A t Q xe s := fun h => wpAny_mono h (fun _ _ z => z) fun _ _ z => z.elim
  have one : ∀ {st : Stmt} {t : Ends → XK → St → Hp → Prop} {s1 : Shared} {H1 : Hp}, PSX X st t → Inv X pins σ H1 s1 → t D E σ H1 → wpAny (model X.prog X.w) X.A (execs [st] X.env) (SP X pins D) xe s1 := fun hp I1 q => by
    refine wpAny_execs_cons (thn (hp pins _ σ _ D E xe I1 q hxe) fun f s1 q => ?_)
    cases f with
    | next => exact wpAny_execs_nil q
    | ret v => exact q
    | brk => exact q
    | cont => exact q
  refine wpAny_If (nox (thn (hc pins s σ H _ (I.wish _) h) fun d s1 ⟨H1, I1, q1⟩ => ?_))
  cases d with
  | true => exact one ha I1.unwish q1
  | false => exact one hb I1.unwish q1
end
end L2
namespace Ep
open PySem L2 PySem.SeqAt
def pw (k : Nat) : Int := ((2 ^ k : Nat) : Int)
theorem pw_succ (k : Nat) : pw (k + 1) = 2 * pw k := by unfold pw; rw [Nat.pow_succ]; (first | lia | omega)
theorem pw_pos (k : Nat) : 1 ≤ pw k := by
  have : 0 < 2 ^ k := Nat.pow_pos (by decide)
  unfold pw
  (first | lia | omega)
theorem pw_le {k : Nat} (h : k ≤ 3) : pw k ≤ 8 := by
  have : k = 0 ∨ k = 1 ∨ k = 2 ∨ k = 3 := by (first | lia | omega)
  rcases this with z | z | z | z <;> subst z <;> decide
def acrossM (wide : Int) : List (Int × Int) := (List.range (wide / 2).toNat).map fun k : Nat => ((k : Int), wide - 1 - (k : Int))
def blkM : Nat → List (Int × Int)
  | 0 => []
  | k + 1 => acrossM (pw (k + 1)) ++ (blkM k ++ (blkM k).map (lift (pw k)))
def rndM (k : Nat) : List (Int × Int) := (List.replicate k (blkM k)).flatten
theorem blk_len {k : Nat} (h : k ≤ 3) : (blkM k).length ≤ 12 := by
  have : k = 0 ∨ k = 1 ∨ k = 2 ∨ k = 3 := by (first | lia | omega)
  rcases this with z | z | z | z <;> subst z <;> decide
theorem rnd_all {k : Nat} (h : k ≤ 3) : WOk (pw k) (rndM k) ∧ (rndM k).length ≤ 40 := by
  have : k = 0 ∨ k = 1 ∨ k = 2 ∨ k = 3 := by (first | lia | omega)
  rcases this with z | z | z | z <;> subst z <;> exact ⟨wok_of (by decide), by decide⟩
def lbrM (wide : Int) (i : Nat) : List (Int × Int) := (List.range i).flatMap fun r : Nat => ((List.range (wide - 1).toNat).filter fun k : Nat => decide ((k : Int) % 2 = (r : Int) % 2)).map fun k : Nat => ((k : Int), (k : Int) + 1)
theorem lbr_eq {wide : Int} (h1 : 1 ≤ wide) (h8 : wide ≤ 8) : lbrM wide wide.toNat = brickM wide := by
  have : wide = 1 ∨ wide = 2 ∨ wide = 3 ∨ wide = 4 ∨ wide = 5 ∨ wide = 6 ∨ wide = 7 ∨ wide = 8 := by (first | lia | omega)
  rcases this with z | z | z | z | z | z | z | z <;> subst z <;> decide
inductive Odd (H : Hp) : V → Prop
  | bl (b : Bool) : Odd H (.bl b)
  | non : Odd H .non
  | str (s : Str) : Odd H (.str s)
  | lst {a : Addr} {xs : List V} (h : H a = some (.lst xs)) : Odd H (.ref a)
  | tup {a : Addr} {xs : List V} (h : H a = some (.tup xs)) : Odd H (.ref a)
  | dct {a : Addr} (h : H a = some (.dK [])) : Odd H (.ref a)
theorem Odd.same {H H' : Hp} {x : V} (h : Odd H x) (s : Same H H') : Odd H' x := by
  cases h with
  | bl b => exact .bl b
  | non => exact .non
  | str z => exact .str z
  | lst h => exact .lst (s _ _ h)
  | tup h => exact .tup (s _ _ h)
  | dct h => exact .dct (s _ _ h)
def halved (i : Int) : Prop := i = 1 ∨ i = 2 ∨ i = 4 ∨ i = 8
instance (i : Int) : Decidable (halved i) := inferInstanceAs (Decidable (i = 1 ∨ i = 2 ∨ i = 4 ∨ i = 8))
structure HalvT (K : PySem.W.Frag) (mg : Str → Option Value) : Prop where
  ex : ∃ (a : Addr), mg "HALVED_WIDES" = some (.ref a) ∧ ∀ H : Hp, SqT K H a [.int 1, .int 2, .int 4, .int 8]
theorem atI_mem {xs : List V} {z : Int} (h0 : 0 ≤ z) (h1 : z < xs.length) : ∃ x, atI xs z = some x ∧ x ∈ xs := by
  have hl : z.toNat < xs.length := by (first | lia | omega)
  refine ⟨xs[z.toNat], ?_, List.getElem_mem hl⟩
  unfold atI ixN
  rw [if_pos h0, if_pos h1]
  simp [hl]
def Bad1 (H : Hp) (x : V) : Prop := Odd H x ∨ ∃ i, x = .int i ∧ ¬ (1 ≤ i ∧ i ≤ 8)
def Bad0 (H : Hp) (x : V) : Prop := Odd H x ∨ ∃ i, x = .int i ∧ ¬ halved i
theorem Bad1.zero {H : Hp} {x : V} (h : Bad1 H x) : Bad0 H x := h.imp id fun ⟨i, e, n⟩ => ⟨i, e, fun z => n (by unfold halved at z; (first | lia | omega))⟩
theorem Odd.kp {p : Addr} {H H' : Hp} {x : V} (h : Odd H x) (k : Kp p H H') (n : x ≠ .ref p) : Odd H' x := by
  cases h with
  | bl b => exact .bl b
  | non => exact .non
  | str z => exact .str z
  | lst h => exact .lst (k _ _ h fun z => n (by rw [z]))
  | tup h => exact .tup (k _ _ h fun z => n (by rw [z]))
  | dct h => exact .dct (k _ _ h fun z => n (by rw [z]))
def spWholeG : Sp := fun vs H Q _ => ∃ x, vs = [x] ∧ ((∃ i, x = .int i ∧ Q (.bl true) H) ∨ (Odd H x ∧ Q (.bl false) H))
theorem whole_of (vs : List V) (H : Hp) (Q : VK) (E : XK) (h : spIsWhole vs H Q E) : spWholeG vs H Q E := by
  obtain ⟨i, rfl, q⟩ := h
  exact ⟨_, rfl, .inl ⟨i, rfl, q⟩⟩
def SqW (H : Hp) (l : Addr) (ws : List (Int × Int)) : Prop := ∃ rs, (H l = some (.lst rs) ∨ H l = some (.tup rs)) ∧ Refs H rs ws
def spAreWG : Sp := fun vs H Q _ => ∃ (wide : Int) (l : Addr) (ws : List (Int × Int)), vs = [.int wide, .ref l] ∧ SqW H l ws ∧ WOk wide ws ∧ ws.length ≤ 40 ∧ ∀ H', Same H H' → Q (.bl true) H'
def spMakesG : Sp := fun vs H Q _ => ∃ (wide : Int) (l : Addr) (ws : List (Int × Int)), vs = [.int wide, .ref l] ∧ SqW H l ws ∧ 1 ≤ wide ∧ wide ≤ 8 ∧ WOk wide ws ∧ ws.length ≤ 40 ∧ ∀ H', Same H H' → Q (.bl true) H'
theorem makes_of (vs : List V) (H : Hp) (Q : VK) (E : XK) (h : spMakes vs H Q E) : spMakesG vs H Q E := by
  obtain ⟨wide, l, ws, rfl, ⟨rs, hl, hr⟩, rest⟩ := h
  exact ⟨wide, l, ws, rfl, ⟨rs, .inl hl, hr⟩, rest⟩
def spIsNetP : Sp := fun vs H Q _ => ∃ (v : V) (wide : Int) (ws : List (Int × Int)), vs = [v] ∧ Net H v wide ws ∧ 1 ≤ wide ∧ wide ≤ 8 ∧ WOk wide ws ∧ ws.length ≤ 40 ∧ ∀ H', Same H H' → Q (.bl true) H'
def spRefuse (an : Addr) : Sp := fun vs H Q E => ∃ x, vs = [x] ∧ ((∃ i, x = .int i ∧ halved i ∧ Q .non H) ∨ ((Odd H x ∨ ∃ i, x = .int i ∧ ¬ halved i) ∧ E (.ref an) none H))
def spHalves : Sp := fun vs H Q _ => ∃ (l : Addr) (ws : List (Int × Int)) (k : Int), vs = [.ref l, .int k] ∧ WsL H l ws ∧ ws.length ≤ 100 ∧ ∀ (a : Addr) (H' : Hp), H a = none → Same H H' → WsL H' a (ws ++ ws.map (lift k)) → Q (.ref a) H'
def spAcross : Sp := fun vs H Q _ => ∃ (wide : Int), vs = [.int wide] ∧ 1 ≤ wide ∧ wide ≤ 8 ∧ ∀ (a : Addr) (H' : Hp), H a = none → Same H H' → WsL H' a (acrossM wide) → Q (.ref a) H'
def spBlk (n : Nat) : Sp := fun vs H Q _ => ∃ (k : Nat), vs = [.int (pw k)] ∧ k < n ∧ k ≤ 3 ∧ ∀ (a : Addr) (H' : Hp), H a = none → Same H H' → WsL H' a (blkM k) → Q (.ref a) H'
def spRoundsG (an : Addr) : Sp := fun vs H Q E => (∃ (k : Nat), vs = [.int (pw k)] ∧ k ≤ 3 ∧ ∀ (v : V) (H' : Hp), Same H H' → Net H' v (pw k) (rndM k) → Q v H') ∨ (∃ x, vs = [x] ∧ (Odd H x ∨ ∃ i, x = .int i ∧ ¬ halved i) ∧ E (.ref an) none H)
def spRoundsN : Sp := fun vs H Q _ => ∃ (k : Nat), vs = [.int (pw k)] ∧ k ≤ 3 ∧ ∀ (v : V) (H' : Hp), Same H H' → Net H' v (pw k) (rndM k) → Q v H'
theorem rounds_n {an : Addr} (vs : List V) (H : Hp) (Q : VK) (E : XK) (h : spRoundsN vs H Q E) : spRoundsG an vs H Q E := .inl h
def spRoundsL : Sp := fun vs H Q _ => ∃ (k : Nat), vs = [.int (pw k)] ∧ k ≤ 3 ∧ ∀ (a : Addr) (H' : Hp), H a = none → Same H H' → WsL H' a (rndM k) → Q (.ref a) H'
def spBrickG (an : Addr) : Sp := fun vs H Q E => spBrickN vs H Q E ∨ (∃ x, vs = [x] ∧ (Odd H x ∨ ∃ i, x = .int i ∧ ¬ (1 ≤ i ∧ i ≤ 8)) ∧ E (.ref an) none H)
theorem brick_n {an : Addr} (vs : List V) (H : Hp) (Q : VK) (E : XK) (h : spBrickN vs H Q E) : spBrickG an vs H Q E := .inl h
def spBrickL : Sp := fun vs H Q _ => ∃ (wide : Int), vs = [.int wide] ∧ 1 ≤ wide ∧ wide ≤ 8 ∧ ∀ (a : Addr) (H' : Hp), H a = none → Same H H' → WsL H' a (brickM wide) → Q (.ref a) H'
def spRefused : Sp := fun vs H Q _ => ∃ (w : Int) (x : V), vs = [.int w, x] ∧ ((w = 0 ∧ (Odd H x ∨ ∃ i, x = .int i ∧ ¬ halved i)) ∨ (w = 1 ∧ (Odd H x ∨ ∃ i, x = .int i ∧ ¬ (1 ≤ i ∧ i ≤ 8)))) ∧ ∀ H', Same H H' → Q (.bl true) H'
def spRight43 : Sp := fun vs H Q _ => ∃ (v1 v2 : V) (wide : Int) (ws : List (Int × Int)), vs = [v1, v2] ∧ Net H v1 wide ws ∧ Net H v2 wide ws ∧ 1 ≤ wide ∧ wide ≤ 8 ∧ WOk wide ws ∧ ws.length ≤ 40 ∧ ∀ H', Same H H' → Q (.bl true) H'
end Ep


namespace Ep
open PySem L2
def top (i : Nat) : Stmt := PySem.Challenge.pw_evenpass_k43_rounds_and_bricks.main.body.getD i (.Pass ⟨0, 0, 0, 0⟩)
abbrev s_is_whole : Stmt := top 12
abbrev s_is_lane : Stmt := top 13
abbrev s_is_wicket : Stmt := top 14
abbrev s_are_wickets : Stmt := top 15
abbrev s_makes_net : Stmt := top 16
abbrev s_net_of : Stmt := top 17
abbrev s_is_net : Stmt := top 18
abbrev s_refuse_unless_halved : Stmt := top 21
abbrev s_in_both_halves : Stmt := top 22
abbrev s_across : Stmt := top 23
abbrev s_block : Stmt := top 24
abbrev s_rounds : Stmt := top 25
abbrev s_brick : Stmt := top 26
abbrev s_pen : Stmt := top 28
abbrev s_take : Stmt := top 29
abbrev s_lifted : Stmt := top 30
abbrev s_l_block : Stmt := top 31
abbrev s_l_brick : Stmt := top 32
abbrev s_l_rounds : Stmt := top 33
abbrev s_refused : Stmt := top 34
abbrev s_right : Stmt := top 35
abbrev s_law : Stmt := top 36
end Ep

namespace Ep
open PySem L2 PySem.SeqAt
local macro_rules | `(tactic| walk_at "cm") => `(tactic| first | exact .inr ⟨by decide, by decide⟩ | exact .inl ⟨by decide, by decide⟩ | exact .inl ⟨by omega, by omega⟩ | exact .inr ⟨by omega, by omega⟩)
local macro_rules | `(tactic| walk_at "side") => `(tactic| first
  | (show (0 : Int) < _; first | decide | omega)
  | (show CMul _ _; walk_at "cm")
  | (show List.length _ ≤ sizeLine; exact lenLine (by simp only [List.length_cons, List.length_nil] <;> omega))
  | (show tyV _ _ _ _; exact .inl ⟨rfl, _, SqL.of (by walk_at "hh")⟩)
  | (show CPow _ _; exact ⟨by decide, by decide, by decide⟩)
  | (show _ ∧ _; exact ⟨by first | decide | omega, by first | decide | omega⟩)
  | omega)
local macro_rules | `(tactic| walk_at "rd1") => `(tactic| first
  | refine ⟨_, rfl, ?_⟩
  | refine ⟨_, _, rfl, rfl, ?_⟩
  | refine ⟨_, _, _, _, rfl, rfl, SqL.of (by assumption), by first | rfl | assumption, ?_⟩
  | refine ⟨_, _, _, _, rfl, rfl, SqT.of (by assumption), by first | rfl | assumption, ?_⟩
  | refine And.intro rfl ?_
  | refine And.intro (by walk_at "side") ?_
  | refine Or.inr ⟨_, rfl, ?_⟩)
local macro_rules | `(tactic| walk_at "rd") => `(tactic| repeat walk_at "rd1")
local macro_rules | `(tactic| walk_at "ne") => `(tactic| first
  | assumption
  | exact Ne.symm (by assumption)
  | exact ne1 (by assumption) (by walk_at "hh")
  | exact ne2 (by assumption) (by walk_at "hh")
  | exact ne3 (by assumption) (by walk_at "hh")
  | exact ne4 (by assumption) (by walk_at "hh"))
local macro_rules | `(tactic| walk_at "hh") => `(tactic| first
  | assumption
  | exact upd_same
  | exact (upd_ne (by walk_at "ne")).trans (by walk_at "hh")
  | exact (by assumption : Same _ _) _ _ (by walk_at "hh")
  | exact (by assumption : Kp _ _ _) _ _ (by walk_at "hh") (by walk_at "ne"))
local macro_rules | `(tactic| walk_at "fr") => `(tactic| first
  | assumption
  | exact free2 (by assumption) (by walk_at "sm"))
local macro_rules | `(tactic| walk_at "sm") => `(tactic| first
  | assumption
  | exact Same.refl _
  | exact Same.put (by walk_at "fr") (by walk_at "sm")
  | exact trans2 (by assumption) (by walk_at "sm"))
local macro_rules | `(tactic| walk_at "kt") => `(tactic| first
  | exact KT.refl _
  | assumption
  | exact KT.new (by assumption) (by walk_at "kt")
  | exact KT.lst (by walk_at "hh") (by walk_at "kt")
  | exact KT.same (by assumption) (by walk_at "kt")
  | exact KT.kp (by assumption) (by walk_at "hh") (by walk_at "kt"))

section
variable {P : Program} {w : World} {K : PySem.W.Frag} {mg : Str → Option Value} {base : Heap} {f : Addr} {fd : FuncData}
theorem sc_take : FnScope ["_law_pen_here", "_law_size", "_law_found", "_law_number"] ["_law_pen_here", "_law_size"] (defScope s_take) := ⟨rfl, rfl, rfl, by decide +kernel, rfl, by decide +kernel, by decide +kernel⟩
theorem ok_take (F : Here K mg "_law_take" s_take f fd) : FnOk P w K mg base CX0 1 f fd ["_law_pen_here", "_law_size"] spTake := by
  refine F.fn.ok sc_take (fun vs H Q E h => ?_) (fun cdv A outer s H vs Q E hr h => ?_)
  · obtain ⟨p, a, b, c, n, rfl, _⟩ := h
    rfl
  · obtain ⟨p, a, b, c, n, rfl, hp, h0, h1, k⟩ := h
    refine ⟨_, (pss_cons (ps_if (pt_cmpR op_gt (pe_ix ix_list (pv 0) pe_int (fun _ _ => rfl)) pe_int (nomark _))
    (pss_cons (ps_set (i := 2) sc_take.nd rfl (by first | exact Or.inl rfl | exact Or.inr rfl) (pe_op op_mod (pe_ix ix_list (pv 0) pe_int (fun _ _ => rfl)) (pv 1)))
    (pss_cons (ps_asg (pe_op op_fdivB (pe_ix ix_list (pv 0) pe_int (fun _ _ => rfl)) (pv 1)) (pg_sub (pv 0) pe_int set_list))
    (pss_one (ps_ret (pv 2)))))
    pss_nil)
    (pss_cons (ps_asg (pe_op op_add (pe_ix ix_list (pv 0) pe_int (fun _ _ => rfl)) pe_int) (pg_sub (pv 0) pe_int set_list))
    (pss_cons (ps_set (i := 3) sc_take.nd rfl (by first | exact Or.inl rfl | exact Or.inr rfl) (pe_op op_mod (pe_op op_mul (pe_op op_add (pe_ix ix_list (pv 0) pe_int (fun _ _ => rfl)) (pe_op op_mul pe_int (pe_ix ix_list (pv 0) pe_int (fun _ _ => rfl)))) pe_int) pe_int))
    (pss_cons (ps_set (i := 3) sc_take.nd rfl (by first | exact Or.inl rfl | exact Or.inr rfl) (pe_op op_mod (pe_op op_add (pe_op op_mul (pv 3) (pv 3)) (pe_op op_mul pe_int (pe_ix ix_list (pv 0) pe_int (fun _ _ => rfl)))) pe_int))
    (pss_cons (ps_set (i := 3) sc_take.nd rfl (by first | exact Or.inl rfl | exact Or.inr rfl) (pe_op op_mod (pe_op op_mul (pv 3) (pe_op op_add (pe_op op_mod (pv 3) pe_int) (pe_ix ix_list (pv 0) pe_int (fun _ _ => rfl)))) pe_int))
    (pss_one (ps_ret (pe_op op_mod (pe_op op_fdivB (pv 3) pe_int) (pv 1))))))))), ?_⟩
    walk_at "rd"
    refine ite2 (fun g => ?_) (fun g => ?_)
    · walk_at "rd"
      refine ⟨p, _, _, _, rfl, rfl, hp, rfl, ?_⟩
      walk_at "rd"
      exact k _ _ _ _ (Int.emod_nonneg _ (by (first | lia | omega))) (Int.emod_lt_of_pos _ h0)
    · walk_at "rd"
      refine ⟨p, _, _, _, rfl, rfl, hp, rfl, ?_⟩
      have hp2 : (upd H p (HO.lst [V.int a, V.int (b + 1), V.int c])) p = some (.lst [V.int a, V.int (b + 1), V.int c]) := upd_same
      walk_at "rd"
      exact k _ _ _ _ (Int.emod_nonneg _ (by (first | lia | omega))) (Int.emod_lt_of_pos _ h0)
end
section
variable {P : Program} {w : World} {K : PySem.W.Frag} {mg : Str → Option Value} {base : Heap} {f : Addr} {fd : FuncData}
theorem sc_pen : FnScope ["_law_script", "_law_k", "_law_cell"] ["_law_script", "_law_k"] (defScope s_pen) := ⟨rfl, rfl, rfl, by decide +kernel, rfl, by decide +kernel, by decide +kernel⟩
theorem ok_pen (T : Bn mg) (F : Here K mg "_law_pen" s_pen f fd) : FnOk P w K mg base CX0 1 f fd ["_law_script", "_law_k"] (spPen K) := by
  refine F.fn.ok sc_pen (fun vs H Q E h => ?_) (fun cdv A outer s H vs Q E hr h => ?_)
  · obtain ⟨a, ns, k, rfl, _⟩ := h
    rfl
  · obtain ⟨a, ns, k, rfl, hS, h63, h0, h1, q⟩ := h
    refine ⟨_, (pss_cons (ps_set (i := 2) sc_pen.nd rfl (by first | exact Or.inl rfl | exact Or.inr rfl) (pe_op op_add (pe_op op_mul pe_int (pv 1)) pe_int))
    (pss_cons (ps_if (pt_cmpR op_gt (pe_callB call_len_seq rfl T.n_len PySem.boot_len (pa_cons (pv 0) pa_nil)) pe_int (nomark _))
    (pss_cons (ps_set (i := 2) sc_pen.nd rfl (by first | exact Or.inl rfl | exact Or.inr rfl) (pe_ix ix_list (pv 0) (pe_op op_mod (pv 1) (pe_callB call_len_seq rfl T.n_len PySem.boot_len (pa_cons (pv 0) pa_nil))) (fun _ _ => rfl)))
    (pss_one (ps_if (pt_cmpR op_ge (pv 1) (pe_callB call_len_seq rfl T.n_len PySem.boot_len (pa_cons (pv 0) pa_nil)) (nomark _))
    (pss_one (ps_set (i := 2) sc_pen.nd rfl (by first | exact Or.inl rfl | exact Or.inr rfl) (pe_op op_add (pe_op op_mod (pv 2) pe_int) (pe_op op_mul pe_int (pv 1)))))
    pss_nil)))
    pss_nil)
    (pss_cons (ps_if (pt_cmpR op_ge (pv 2) (pe_op op_pow pe_int pe_int) (nomark _))
    (pss_one (ps_ret (pe_lst (pa_cons (pe_op op_sub (pv 2) (pe_op op_pow pe_int pe_int)) (pa_cons pe_int (pa_cons (pe_op op_add (pe_op op_mod (pv 2) pe_int) (pv 1)) pa_nil))))))
    pss_nil)
    (pss_one (ps_ret (pe_lst (pa_cons pe_int (pa_cons pe_int (pa_cons (pe_op op_add (pe_op op_mod (pv 2) pe_int) (pe_op op_mul pe_int (pv 1))) pa_nil))))))))), ?_⟩
    have hl : (ns.map V.int).length = ns.length := List.length_map _
    walk_at "rd"
    refine ⟨_, _, rfl, .inl hS, ?_⟩
    walk_at "rd"
    refine ite2 (fun g => ?_) (fun g => ?_)
    · have g' := of_decide_eq_true g
      rw [hl] at g'
      walk_at "rd"
      refine ⟨_, _, rfl, .inl hS, ?_⟩
      walk_at "rd"
      refine ⟨a, _, _, _, rfl, rfl, hS, atI_int (Int.emod_nonneg _ (by (first | lia | omega))) (by rw [hl]; exact Int.emod_lt_of_pos _ (by (first | lia | omega))), ?_⟩
      walk_at "rd"
      refine ⟨_, _, rfl, .inl hS, ?_⟩
      walk_at "rd"
      refine ite2 (fun g => ?_) (fun g => ?_)
      all_goals
        walk_at "rd"
        refine ite2 (fun g => ?_) (fun g => ?_)
        · walk_at "rd"
          intro p hp
          exact q p _ _ _ hp
        · walk_at "rd"
          intro p hp
          exact q p _ _ _ hp
    · walk_at "rd"
      refine ite2 (fun g => ?_) (fun g => ?_)
      · walk_at "rd"
        intro p hp
        exact q p _ _ _ hp
      · walk_at "rd"
        intro p hp
        exact q p _ _ _ hp
end
section
variable {P : Program} {w : World} {K : PySem.W.Frag} {mg : Str → Option Value} {base : Heap} {f : Addr} {fd : FuncData}
theorem sc_lifted : FnScope ["_law_wickets", "_law_by"] ["_law_wickets", "_law_by"] (defScope s_lifted) := ⟨rfl, rfl, rfl, by decide +kernel, rfl, by decide +kernel, by decide +kernel⟩
theorem ok_lifted (F : Here K mg "_law_lifted" s_lifted f fd) : FnOk P w K mg base CX0 1 f fd ["_law_wickets", "_law_by"] spLifted := by
  refine F.fn.ok sc_lifted (fun vs H Q E h => ?_) (fun cdv A outer s H vs Q E hr h => ?_)
  · obtain ⟨a, ws, k, rfl, _⟩ := h
    rfl
  · obtain ⟨a, ws, k, rfl, ⟨rs, ha, hrs⟩, hlen, q⟩ := h
    have el := hrs.len
    refine ⟨_, (pss_one (ps_ret (pe_comp ["_law_first", "_law_second"] [("_law_by", 1)] rfl (pi_list (pv 0)) (fun _ _ _ _ _ _ => by exact (pg_tupK K rfl (n := 2) rfl (pgs_cons (pg_name (i := 0) (show List.Nodup (["_law_first", "_law_second", "_law_by"] : List Str) by decide +kernel) rfl (by first | exact Or.inl rfl | exact Or.inr rfl)) (pgs_cons (pg_name (i := 1) (show List.Nodup (["_law_first", "_law_second", "_law_by"] : List Str) by decide +kernel) rfl (by first | exact Or.inl rfl | exact Or.inr rfl)) pgs_nil)))) (fun _ _ _ _ _ _ => by exact pts_nil) (fun _ _ _ _ _ _ => by exact (pe_tup (pa_cons (pe_op op_add (pv 0) (pv 2)) (pa_cons (pe_op op_add (pv 1) (pv 2)) pa_nil))))))), ?_⟩
    walk_at "rd"
    refine ⟨⟨_, SqL.of ha⟩, fun l hl => ?_⟩
    refine comp_list (xs := rs) (fun i ys Hc => Same H Hc ∧ Hc l = some (.lst ys) ∧ Refs Hc ys ((ws.take i).map (lift k))) ⟨Same.put hl (Same.refl H), upd_same, .nil⟩ (lenLine (by (first | lia | omega))) (fun i ys Hc hi ⟨s1, e1, r1⟩ => ⟨SqL.of (s1 a _ ha), e1, by have := r1.len; simp at this; (first | lia | omega)⟩) ?_ ?_
    · rintro i x ys Hc hx ⟨s1, e1, r1⟩
      obtain ⟨w1, t, hw1, rfl, ht⟩ := hrs.get hx
      have ht1 := s1 t _ ht
      refine ⟨t, _, rfl, SqT.of ht1, rfl, ?_⟩
      refine ⟨_, _, rfl, _, _, rfl, rfl, ?_⟩
      refine ⟨⟨.inl rfl, .inl rfl, .inr rfl, trivial⟩, ?_⟩
      refine tru_if ?_
      walk_at "rd"
      intro u hu
      have nul : u ≠ l := fun z => by rw [z, e1] at hu; cases hu
      refine ⟨by rw [upd_ne (Ne.symm nul)]; exact e1, Same.put hl (Same.trans s1 (same_new hu _)), upd_same, ?_⟩
      have et : (ws.take (i + 1)).map (lift k) = (ws.take i).map (lift k) ++ [lift k w1] := by
        rw [List.take_add_one, hw1]; simp
      rw [et]
      have r2 : Refs (upd Hc u (HO.tup [V.int (w1.1 + k), V.int (w1.2 + k)])) (ys ++ [V.ref u]) ((ws.take i).map (lift k) ++ [lift k w1]) :=
        (r1.same (same_new hu _)).app (.cons ⟨u, rfl, upd_same⟩ .nil)
      refine r2.mono fun b xs e => ?_
      rw [upd_ne (fun z => ?_)]
      · exact e
      · subst z
        rw [upd_ne (Ne.symm nul), e1] at e
        cases e
    · rintro ys Hc ⟨s1, e1, r1⟩
      rw [el, List.take_length] at r1
      exact q l Hc hl s1 ⟨ys, e1, r1⟩
end
section
variable {P : Program} {w : World} {K : PySem.W.Frag} {mg : Str → Option Value} {base : Heap} {f : Addr} {fd : FuncData}
theorem sc_is_whole : FnScope ["thing"] ["thing"] (defScope s_is_whole) := ⟨rfl, rfl, rfl, by decide +kernel, rfl, by decide +kernel, by decide +kernel⟩
theorem ok_is_whole (T : Bn mg) (F : Here K mg "is_whole" s_is_whole f fd) : FnOk P w K mg base CX0 1 f fd ["thing"] spWholeG := by
  refine F.fn.ok sc_is_whole (fun vs H Q E h => ?_) (fun cdv A outer s H vs Q E hr h => ?_)
  · obtain ⟨x, rfl, _⟩ := h
    rfl
  · obtain ⟨x, rfl, h⟩ := h
    refine ⟨_, (pss_one (ps_ret (pe_and (pe_callB call_isinst rfl T.n_isinstance boot_isinstance (pa_cons (pv 0) (pa_cons (pe_bltn (v := V.ty "int") (u := .type "int") rfl T.n_int (by decide +kernel) rfl) pa_nil))) (pe_one (pe_not (pe_callB call_isinst rfl T.n_isinstance boot_isinstance (pa_cons (pv 0) (pa_cons (pe_bltn (v := V.ty "bool") (u := .type "bool") rfl T.n_bool (by decide +kernel) rfl) pa_nil)))))))), ?_⟩
    rcases h with ⟨i, rfl, q⟩ | ⟨o, q⟩
    · refine ⟨_, rfl, _, _, _, true, rfl, TyOf.int i, rfl, _, rfl, iteTd rfl ?_⟩
      exact ⟨_, rfl, _, _, _, false, rfl, TyOf.int i, rfl, _, rfl, q⟩
    · cases o with
      | bl b =>
        refine ⟨_, rfl, _, _, _, true, rfl, TyOf.bl b, rfl, _, rfl, iteTd rfl ?_⟩
        exact ⟨_, rfl, _, _, _, true, rfl, TyOf.bl b, rfl, _, rfl, q⟩
      | non => exact ⟨_, rfl, _, _, _, false, rfl, TyOf.non, rfl, _, rfl, iteFd (by decide) q⟩
      | str z => exact ⟨_, rfl, _, _, _, false, rfl, TyOf.str z, rfl, _, rfl, iteFd (by decide) q⟩
      | lst h => exact ⟨_, rfl, _, _, _, false, rfl, TyOf.lst h, rfl, _, rfl, iteFd (by decide) q⟩
      | tup h => exact ⟨_, rfl, _, _, _, false, rfl, TyOf.tup h, rfl, _, rfl, iteFd (by decide) q⟩
      | dct h => exact ⟨_, rfl, _, _, _, false, rfl, TyOf.dK h, rfl, _, rfl, iteFd (by decide) q⟩
end
section
variable {P : Program} {w : World} {K : PySem.W.Frag} {mg : Str → Option Value} {base : Heap} {f : Addr} {fd : FuncData}
theorem sc_is_lane : FnScope ["wide", "thing"] ["wide", "thing"] (defScope s_is_lane) := ⟨rfl, rfl, rfl, by decide +kernel, rfl, by decide +kernel, by decide +kernel⟩
theorem ok_is_lane (T : Bn mg) (F : Here K mg "is_lane" s_is_lane f fd) (Cis_whole : Callee P w K mg base "is_whole" 1 ["thing"] spIsWhole) : FnOk P w K mg base CX0 2 f fd ["wide", "thing"] spIsLane := by
  refine F.fn.ok sc_is_lane (fun vs H Q E h => ?_) (fun cdv A outer s H vs Q E hr h => ?_)
  · obtain ⟨wide, i, rfl, _⟩ := h
    rfl
  · obtain ⟨wide, i, rfl, h0, h1, q⟩ := h
    refine ⟨_, (pss_one (ps_ret (pe_and (pe_callC Cis_whole (hr.mono (by first | decide | (first | lia | omega))) rfl (pa_cons (pv 1) pa_nil)) (pe_one (pe_chain op_le op_lt pe_int (pv 1) (pv 0)))))), ?_⟩
    refine ⟨_, rfl, i, rfl, _, rfl, iteTd rfl ?_⟩
    refine ⟨_, rfl, _, _, rfl, rfl, _, rfl, iteTd (decide_eq_true h0) ?_⟩
    refine ⟨_, rfl, _, _, rfl, rfl, ?_⟩
    have z : Q (.bl (decide (i < wide))) H := by
      rw [decide_eq_true h1]
      exact q
    exact z
end
section
variable {P : Program} {w : World} {K : PySem.W.Frag} {mg : Str → Option Value} {base : Heap} {f : Addr} {fd : FuncData}
theorem sc_is_wicket : FnScope ["wide", "thing"] ["wide", "thing"] (defScope s_is_wicket) := ⟨rfl, rfl, rfl, by decide +kernel, rfl, by decide +kernel, by decide +kernel⟩
theorem ok_is_wicket (T : Bn mg) (F : Here K mg "is_wicket" s_is_wicket f fd) (Cis_lane : Callee P w K mg base "is_lane" 2 ["wide", "thing"] spIsLane) : FnOk P w K mg base CX0 3 f fd ["wide", "thing"] spIsWicket := by
  refine F.fn.ok sc_is_wicket (fun vs H Q E h => ?_) (fun cdv A outer s H vs Q E hr h => ?_)
  · obtain ⟨wide, t, w0, rfl, _⟩ := h
    rfl
  · obtain ⟨wide, t, w0, rfl, ht, ⟨o1, o2, o3, o4, o5⟩, q⟩ := h
    refine ⟨_, (pss_cons (ps_if (PW.pt (pw_or (pt_not (pt_val (pe_callB call_isinst rfl T.n_isinstance boot_isinstance (pa_cons (pv 1) (pa_cons (pe_bltn (v := V.ty "tuple") (u := .type "tuple") rfl T.n_tuple (by decide +kernel) rfl) pa_nil))))) (pw_or1 (pt_cmpR op_ne (pe_callB call_len_seq rfl T.n_len PySem.boot_len (pa_cons (pv 1) pa_nil)) pe_int (nomark _)))))
    (pss_one (ps_ret pe_bl))
    pss_nil)
    (pss_one (ps_ret (pe_and (pe_callC Cis_lane (hr.mono (by first | decide | (first | lia | omega))) rfl (pa_cons (pv 0) (pa_cons (pe_ix ix_tup (pv 1) pe_int (fun _ _ => rfl)) pa_nil))) (pe_and (pe_callC Cis_lane (hr.mono (by first | decide | (first | lia | omega))) rfl (pa_cons (pv 0) (pa_cons (pe_ix ix_tup (pv 1) pe_int (fun _ _ => rfl)) pa_nil))) (pe_one (pe_cmpR op_ne (pe_ix ix_tup (pv 1) pe_int (fun _ _ => rfl)) (pe_ix ix_tup (pv 1) pe_int (fun _ _ => rfl)) (nomark _)))))))), ?_⟩
    refine ⟨_, rfl, _, _, _, true, rfl, TyOf.tup ht, rfl, ?_⟩
    refine ⟨_, rfl, iteFd (by decide) ?_⟩
    refine ⟨_, rfl, t, _, rfl, .inr (SqT.of ht), rfl, _, rfl, iteFd (by simp) ?_⟩
    refine ⟨_, rfl, _, rfl, t, _, _, _, rfl, rfl, SqT.of ht, rfl, wide, w0.1, rfl, o1, o2, _, rfl, iteTd rfl ?_⟩
    refine ⟨_, rfl, _, rfl, t, _, _, _, rfl, rfl, SqT.of ht, rfl, wide, w0.2, rfl, o3, o4, _, rfl, iteTd rfl ?_⟩
    refine ⟨_, rfl, t, _, _, _, rfl, rfl, SqT.of ht, rfl, _, rfl, t, _, _, _, rfl, rfl, SqT.of ht, rfl, rfl, ?_⟩
    have z : Q (.bl (!decide (V.int w0.1 = V.int w0.2))) H := by
      rw [decide_eq_false (fun e => o5 (by injection e))]
      exact q
    exact z
end
section
variable {P : Program} {w : World} {K : PySem.W.Frag} {mg : Str → Option Value} {base : Heap} {f : Addr} {fd : FuncData}
theorem sc_are_wickets : FnScope ["wide", "things"] ["wide", "things"] (defScope s_are_wickets) := ⟨rfl, rfl, rfl, by decide +kernel, rfl, by decide +kernel, by decide +kernel⟩
theorem ok_are_wickets (T : Bn mg) (F : Here K mg "are_wickets" s_are_wickets f fd) (GMOST_WICKETS : ∃ t, mg "MOST_WICKETS" = some (.int 40 t)) (Cis_wicket : Callee P w K mg base "is_wicket" 3 ["wide", "thing"] spIsWicket) : FnOk P w K mg base CX0 4 f fd ["wide", "things"] spAreWG := by
  refine F.fn.ok sc_are_wickets (fun vs H Q E h => ?_) (fun cdv A outer s H vs Q E hr h => ?_)
  · obtain ⟨wide, l, ws, rfl, _⟩ := h
    rfl
  · obtain ⟨wide, l, ws, rfl, ⟨rs, hl, hrs⟩, ok, len, q⟩ := h
    have lrs := hrs.len
    refine ⟨_, (pss_one (ps_ret (pe_and (pe_cmpR op_le (pe_callB call_len_seq rfl T.n_len PySem.boot_len (pa_cons (pv 1) pa_nil)) (pe_gint rfl GMOST_WICKETS) (nomark _)) (pe_one (pe_callB (call_allB rfl) rfl T.n_all boot_all (pa_cons (pe_comp ["thing"] [("wide", 0)] rfl (pi_or (pi_list (pv 1)) (pi_tup (pv 1))) (fun _ _ _ _ _ _ => by exact (pg_name (i := 0) (show List.Nodup (["thing", "wide"] : List Str) by decide +kernel) rfl (by first | exact Or.inl rfl | exact Or.inr rfl))) (fun _ _ _ _ _ _ => by exact pts_nil) (fun _ _ _ _ _ _ => by exact (pe_callC Cis_wicket (hr.mono (by first | decide | (first | lia | omega))) rfl (pa_cons (pv 1) (pa_cons (pv 0) pa_nil))))) pa_nil)))))), ?_⟩
    refine ⟨_, rfl, l, _, rfl, (hl.elim (fun h => .inl (SqL.of h)) fun h => .inr (SqT.of h)), _, _, rfl, rfl, _, rfl, iteTd (decide_eq_true (by (first | lia | omega))) ?_⟩
    rcases hl with hl | hl
    · refine .inl ⟨_, rfl, l, rfl, ⟨_, SqL.of hl⟩, fun lc fc => ?_⟩
      refine comp_list (xs := rs) (fun i ys Hc => Same H Hc ∧ Hc lc = some (.lst ys) ∧ ys = (List.replicate i true).map V.bl) ⟨Same.put fc (Same.refl H), upd_same, rfl⟩ (lenLine (by (first | lia | omega))) (fun i ys Hc hi ⟨sc, e1, r1⟩ => ⟨SqL.of (sc _ _ hl), e1, by rw [r1]; simp⟩) ?_ ?_
      · rintro i x ys Hc hx ⟨sc, e1, r1⟩
        obtain ⟨w0, t0, hw0, rfl, ht0⟩ := hrs.get hx
        refine ⟨⟨.inl rfl, .inr rfl, trivial⟩, tru_if ?_⟩
        refine ⟨_, rfl, _, rfl, wide, t0, w0, rfl, sc _ _ ht0, ok w0 (List.mem_of_getElem? hw0), e1, Same.put fc sc, upd_same, ?_⟩
        rw [r1, List.replicate_succ', List.map_append]
        rfl
      · rintro ys Hc ⟨sc, e1, rfl⟩
        refine ⟨lc, _, rfl, SqL.of e1, ?_⟩
        rw [all_true]
        exact q Hc sc
    · refine .inr ⟨_, rfl, l, rfl, ⟨_, SqT.of hl⟩, fun lc fc => ?_⟩
      refine comp_tup (xs := rs) (fun i ys Hc => Same H Hc ∧ Hc lc = some (.lst ys) ∧ ys = (List.replicate i true).map V.bl) ⟨Same.put fc (Same.refl H), upd_same, rfl⟩ (lenLine (by (first | lia | omega))) (fun i ys Hc hi ⟨sc, e1, r1⟩ => ⟨SqT.of (sc _ _ hl), e1, by rw [r1]; simp⟩) ?_ ?_
      · rintro i x ys Hc hx ⟨sc, e1, r1⟩
        obtain ⟨w0, t0, hw0, rfl, ht0⟩ := hrs.get hx
        refine ⟨⟨.inl rfl, .inr rfl, trivial⟩, tru_if ?_⟩
        refine ⟨_, rfl, _, rfl, wide, t0, w0, rfl, sc _ _ ht0, ok w0 (List.mem_of_getElem? hw0), e1, Same.put fc sc, upd_same, ?_⟩
        rw [r1, List.replicate_succ', List.map_append]
        rfl
      · rintro ys Hc ⟨sc, e1, rfl⟩
        refine ⟨lc, _, rfl, SqL.of e1, ?_⟩
        rw [all_true]
        exact q Hc sc
end
section
variable {P : Program} {w : World} {K : PySem.W.Frag} {mg : Str → Option Value} {base : Heap} {f : Addr} {fd : FuncData}
theorem sc_makes_net : FnScope ["wide", "wickets"] ["wide", "wickets"] (defScope s_makes_net) := ⟨rfl, rfl, rfl, by decide +kernel, rfl, by decide +kernel, by decide +kernel⟩
theorem ok_makes_net (T : Bn mg) (F : Here K mg "makes_net" s_makes_net f fd) (GMOST_LANES : ∃ t, mg "MOST_LANES" = some (.int 8 t)) (Cis_whole : Callee P w K mg base "is_whole" 1 ["thing"] spIsWhole) (Care_wickets : Callee P w K mg base "are_wickets" 4 ["wide", "things"] spAreWG) : FnOk P w K mg base CX0 5 f fd ["wide", "wickets"] spMakesG := by
  refine F.fn.ok sc_makes_net (fun vs H Q E h => ?_) (fun cdv A outer s H vs Q E hr h => ?_)
  · obtain ⟨wide, l, ws, rfl, _⟩ := h
    rfl
  · obtain ⟨wide, l, ws, rfl, ⟨rs, hl, hrs⟩, w1, w8, ok, len, q⟩ := h
    refine ⟨_, (pss_cons (ps_if (PW.pt (pw_or (pt_not (pt_val (pe_callC Cis_whole (hr.mono (by first | decide | (first | lia | omega))) rfl (pa_cons (pv 0) pa_nil)))) (pw_or1 (pt_not (pt_chain op_le op_le pe_int (pv 0) (pe_gint rfl GMOST_LANES))))))
    (pss_one (ps_ret pe_bl))
    pss_nil)
    (pss_one (ps_ret (pe_and (pe_callB call_isST rfl T.n_isinstance boot_isinstance (pa_cons (pv 1) (pa_cons (pe_tup (pa_cons (pe_bltn (v := V.ty "list") (u := .type "list") rfl T.n_list (by decide +kernel) rfl) (pa_cons (pe_bltn (v := V.ty "tuple") (u := .type "tuple") rfl T.n_tuple (by decide +kernel) rfl) pa_nil))) pa_nil))) (pe_one (pe_callC Care_wickets (hr.mono (by first | decide | (first | lia | omega))) rfl (pa_cons (pv 0) (pa_cons (pv 1) pa_nil)))))))), ?_⟩
    refine ⟨_, rfl, wide, rfl, ?_⟩
    refine ⟨_, rfl, iteFd (by decide) ?_⟩
    refine ⟨_, rfl, _, _, rfl, rfl, _, rfl, iteTd (decide_eq_true w1) ?_⟩
    refine ⟨_, _, rfl, rfl, _, rfl, iteFd (by simp; (first | lia | omega)) ?_⟩
    refine ⟨_, rfl, lenLine (by show 2 ≤ 100000; decide), fun tp ftp => ?_⟩
    have s1 : Same H (upd H tp (HO.tup [V.ty "list", V.ty "tuple"])) := same_new ftp _
    have x1 : (upd H tp (HO.tup [V.ty "list", V.ty "tuple"])) tp = some (.tup [V.ty "list", V.ty "tuple"]) := upd_same
    generalize upd H tp (HO.tup [V.ty "list", V.ty "tuple"]) = H1 at s1 x1
    refine ⟨l, tp, rs, _, _, true, rfl, hl.elim (fun h => .inl ⟨s1 _ _ h, rfl⟩) (fun h => .inr ⟨s1 _ _ h, rfl⟩), x1, rfl, _, rfl, iteTd rfl ?_⟩
    exact ⟨_, rfl, _, rfl, wide, l, ws, rfl, ⟨rs, hl.imp (s1 _ _) (s1 _ _), hrs.same s1⟩, ok, len, fun H2 s2 => q H2 (Same.trans s1 s2)⟩
end
section
variable {P : Program} {w : World} {K : PySem.W.Frag} {mg : Str → Option Value} {base : Heap} {f : Addr} {fd : FuncData}
theorem sc_net_of : FnScope ["wide", "wickets"] ["wide", "wickets"] (defScope s_net_of) := ⟨rfl, rfl, rfl, by decide +kernel, rfl, by decide +kernel, by decide +kernel⟩
theorem ok_net_of {an : Addr} (T : Bn mg) (F : Here K mg "net_of" s_net_of f fd) (ER : NoNetT K mg an) (Cmakes_net : Callee P w K mg base "makes_net" 5 ["wide", "wickets"] spMakes) : FnOk P w K mg base (CX1 P w) 6 f fd ["wide", "wickets"] spNetOf := by
  refine F.fn.okE sc_net_of (fun vs H Q E h => ?_) (fun cdv A outer s H vs Q E hr h => ?_)
  · obtain ⟨wide, l, ws, rfl, _⟩ := h
    rfl
  · obtain ⟨wide, l, ws, rfl, ⟨rs, hl, hrs⟩, w1, w8, ok, len, q⟩ := h
    have lrs := hrs.len
    refine ⟨_, (pss_cons (ps_if (pt_not (pt_val (pe_callC Cmakes_net (hr.mono (by first | decide | (first | lia | omega))) rfl (pa_cons (pv 0) (pa_cons (pv 1) pa_nil)))))
    (pss_one (ps_raise ER.q_NoNet rfl ER.at_NoNet (pa_cons pe_str pa_nil)))
    pss_nil)
    (pss_one (ps_ret (pe_tup (pa_cons (pv 0) (pa_cons (pe_callTy call_tuple_of rfl T.n_tuple boot_tupleT (pa_cons (pe_comp ["wicket"] [] rfl (pi_list (pv 1)) (fun _ _ _ _ _ _ => by exact (pg_name (i := 0) (show List.Nodup (["wicket"] : List Str) by decide +kernel) rfl (by first | exact Or.inl rfl | exact Or.inr rfl))) (fun _ _ _ _ _ _ => by exact pts_nil) (fun _ _ _ _ _ _ => by exact (pe_tup (pa_cons (pe_ix (ix_tupK K rfl) (pv 0) pe_int (fun _ _ => rfl)) (pa_cons (pe_ix (ix_tupK K rfl) (pv 0) pe_int (fun _ _ => rfl)) pa_nil))))) pa_nil)) pa_nil)))))), ?_⟩
    refine ⟨_, rfl, _, rfl, wide, l, ws, rfl, ⟨rs, hl, hrs⟩, w1, w8, ok, len, fun H1 s1 => ?_⟩
    refine ⟨_, rfl, iteFd (by decide) ?_⟩
    refine ⟨_, rfl, _, rfl, l, rfl, ⟨_, SqL.of (s1 _ _ hl)⟩, fun lc fc => ?_⟩
    refine comp_list (xs := rs) (fun i ys Hc => Same H1 Hc ∧ Hc lc = some (.lst ys) ∧ ys.length ≤ i ∧ Refs Hc ys (ws.take i)) ⟨Same.put fc (Same.refl H1), upd_same, Nat.zero_le _, .nil⟩ (lenLine (by (first | lia | omega))) (fun i ys Hc hi ⟨sc, e1, l1, r1⟩ => ⟨SqL.of (sc _ _ (s1 _ _ hl)), e1, l1⟩) ?_ ?_
    · rintro i x ys Hc hx ⟨sc, e1, l1, r1⟩
      obtain ⟨w0, t0, hw0, rfl, ht0⟩ := hrs.get hx
      have htc := sc _ _ (s1 _ _ ht0)
      refine ⟨⟨.inl rfl, trivial⟩, tru_if ?_⟩
      refine ⟨_, rfl, t0, _, _, _, rfl, rfl, SqT.of htc, rfl, _, rfl, t0, _, _, _, rfl, rfl, SqT.of htc, rfl, lenLine (by show 2 ≤ 100000; decide), fun u fu => ?_⟩
      have s3 : Same Hc (upd Hc u (HO.tup [V.int w0.1, V.int w0.2])) := same_new fu _
      have x3 : (upd Hc u (HO.tup [V.int w0.1, V.int w0.2])) u = some (.tup [V.int w0.1, V.int w0.2]) := upd_same
      generalize upd Hc u (HO.tup [V.int w0.1, V.int w0.2]) = H3 at s3 x3
      have e3 := s3 _ _ e1
      refine ⟨e3, Same.put fc (Same.trans sc s3), upd_same, by rw [List.length_append]; simp; (first | lia | omega), ?_⟩
      rw [take_snoc hw0]
      have k4 : KT H3 (upd H3 lc (HO.lst (ys ++ [V.ref u]))) := KT.lst e3 (KT.refl _)
      exact ((r1.same s3).kt k4).app (.cons ⟨u, rfl, k4 _ _ x3⟩ .nil)
    · rintro ys Hc ⟨sc, e1, l1, r1⟩
      rw [lrs, List.take_length] at r1
      refine ⟨lc, _, rfl, .inl ⟨SqL.of e1, fun t5 f5 => ?_⟩⟩
      have s5 : Same Hc (upd Hc t5 (HO.tup ys)) := same_new f5 _
      have x5 : (upd Hc t5 (HO.tup ys)) t5 = some (.tup ys) := upd_same
      generalize upd Hc t5 (HO.tup ys) = H5 at s5 x5
      refine ⟨lenLine (by show 2 ≤ 100000; decide), fun n6 f6 => ?_⟩
      have s6 : Same H5 (upd H5 n6 (HO.tup [V.int wide, V.ref t5])) := same_new f6 _
      exact q _ _ (Same.trans s1 (Same.trans sc (Same.trans s5 s6))) ⟨n6, t5, ys, rfl, upd_same, s6 _ _ x5, r1.same (Same.trans s5 s6)⟩
end
section
variable {P : Program} {w : World} {K : PySem.W.Frag} {mg : Str → Option Value} {base : Heap} {f : Addr} {fd : FuncData}
theorem sc_is_net : FnScope ["thing"] ["thing"] (defScope s_is_net) := ⟨rfl, rfl, rfl, by decide +kernel, rfl, by decide +kernel, by decide +kernel⟩
theorem ok_is_net (T : Bn mg) (F : Here K mg "is_net" s_is_net f fd) (Cmakes_netS : Callee P w K mg base "makes_net" 5 ["wide", "wickets"] spMakesG) : FnOk P w K mg base CX0 6 f fd ["thing"] spIsNetP := by
  have Cmakes_net := Cmakes_netS
  refine F.fn.ok sc_is_net (fun vs H Q E h => ?_) (fun cdv A outer s H vs Q E hr h => ?_)
  · obtain ⟨v, wide, ws, rfl, _⟩ := h
    rfl
  · obtain ⟨v, wide, ws, rfl, ⟨n, t, rs, rfl, hn, ht, hrs⟩, w1, w8, ok, len, q⟩ := h
    refine ⟨_, (pss_cons (ps_if (PW.pt (pw_or (pt_not (pt_val (pe_callB call_isinst rfl T.n_isinstance boot_isinstance (pa_cons (pv 0) (pa_cons (pe_bltn (v := V.ty "tuple") (u := .type "tuple") rfl T.n_tuple (by decide +kernel) rfl) pa_nil))))) (pw_or1 (pt_cmpR op_ne (pe_callB call_len_seq rfl T.n_len PySem.boot_len (pa_cons (pv 0) pa_nil)) pe_int (nomark _)))))
    (pss_one (ps_ret pe_bl))
    pss_nil)
    (pss_one (ps_ret (pe_and (pe_callB call_isinst rfl T.n_isinstance boot_isinstance (pa_cons (pe_ix ix_tup (pv 0) pe_int (fun _ _ => rfl)) (pa_cons (pe_bltn (v := V.ty "tuple") (u := .type "tuple") rfl T.n_tuple (by decide +kernel) rfl) pa_nil))) (pe_one (pe_callC Cmakes_net (hr.mono (by first | decide | (first | lia | omega))) rfl (pa_cons (pe_ix ix_tup (pv 0) pe_int (fun _ _ => rfl)) (pa_cons (pe_ix ix_tup (pv 0) pe_int (fun _ _ => rfl)) pa_nil)))))))), ?_⟩
    refine ⟨_, rfl, _, _, _, true, rfl, TyOf.tup hn, rfl, _, rfl, iteFd (by decide) ?_⟩
    refine ⟨_, rfl, n, _, rfl, .inr (SqT.of hn), rfl, _, rfl, iteFd (by simp) ?_⟩
    refine ⟨_, rfl, n, _, _, _, rfl, rfl, SqT.of hn, rfl, _, _, _, true, rfl, TyOf.tup ht, rfl, _, rfl, iteTd rfl ?_⟩
    exact ⟨_, rfl, n, _, _, _, rfl, rfl, SqT.of hn, rfl, _, rfl, n, _, _, _, rfl, rfl, SqT.of hn, rfl, wide, t, ws, rfl, ⟨rs, .inr ht, hrs⟩, w1, w8, ok, len, q⟩
end
section
variable {P : Program} {w : World} {K : PySem.W.Frag} {mg : Str → Option Value} {base : Heap} {f : Addr} {fd : FuncData}
theorem sc_refuse_unless_halved : FnScope ["wide"] ["wide"] (defScope s_refuse_unless_halved) := ⟨rfl, rfl, rfl, by decide +kernel, rfl, by decide +kernel, by decide +kernel⟩
theorem ok_refuse_unless_halved {an : Addr} (T : Bn mg) (F : Here K mg "refuse_unless_halved" s_refuse_unless_halved f fd) (ER : NoNetT K mg an) (GH : HalvT K mg) (Cis_wholeS : Callee P w K mg base "is_whole" 1 ["thing"] spWholeG) : FnOk P w K mg base (CX1 P w) 2 f fd ["wide"] (spRefuse an) := by
  have Cis_whole := Cis_wholeS
  obtain ⟨ah, hm_HALVED_WIDES, sq⟩ := GH.ex
  refine F.fn.okE sc_refuse_unless_halved (fun vs H Q E h => ?_) (fun cdv A outer s H vs Q E hr h => ?_)
  · obtain ⟨x, rfl, _⟩ := h
    rfl
  · obtain ⟨x, rfl, h⟩ := h
    refine ⟨_, (pss_one (ps_if (PW.pt (pw_or (pt_not (pt_val (pe_callC Cis_whole (hr.mono (by first | decide | (first | lia | omega))) rfl (pa_cons (pv 0) pa_nil)))) (pw_or1 (pt_cmpR op_notIn_seq (pv 0) (pe_glob (v := V.ref _) rfl hm_HALVED_WIDES rfl) (by with_unfolding_all rfl)))))
    (pss_one (ps_raise ER.q_NoNet rfl ER.at_NoNet (pa_cons pe_str pa_nil)))
    pss_nil)), ?_⟩
    have int : ∀ i : Int, x = .int i → inV (.int i) [V.int 1, V.int 2, V.int 4, V.int 8] = decide (halved i) := fun i _ => by
      rw [Bool.eq_iff_iff, decide_eq_true_iff]
      unfold halved
      simp only [inV, eqV, List.any_cons, List.any_nil, Bool.or_false, Bool.or_eq_true, beq_iff_eq]
      (first | lia | omega)
    rcases h with ⟨i, rfl, hi, q⟩ | ⟨o | ⟨i, rfl, hi⟩, q⟩
    · refine ⟨_, rfl, _, rfl, .inl ⟨i, rfl, ?_⟩⟩
      refine ⟨_, rfl, iteFd (by decide) ?_⟩
      refine ⟨_, rfl, ah, _, rfl, .inr (sq H), rfl, rfl, _, rfl, iteFd ?_ q⟩
      show ¬ (!inV (.int i) [V.int 1, V.int 2, V.int 4, V.int 8]) = true
      rw [int i rfl, decide_eq_true hi]
      decide
    · refine ⟨_, rfl, _, rfl, .inr ⟨o, ?_⟩⟩
      refine ⟨_, rfl, iteTd (by decide) ?_⟩
      exact ⟨by show 1 ≤ 1000; decide, q⟩
    · refine ⟨_, rfl, _, rfl, .inl ⟨i, rfl, ?_⟩⟩
      refine ⟨_, rfl, iteFd (by decide) ?_⟩
      refine ⟨_, rfl, ah, _, rfl, .inr (sq H), rfl, rfl, _, rfl, iteTd ?_ ?_⟩
      · show (!inV (.int i) [V.int 1, V.int 2, V.int 4, V.int 8]) = true
        rw [int i rfl, decide_eq_false hi]
        rfl
      · exact ⟨by show 1 ≤ 1000; decide, q⟩
end
section
variable {P : Program} {w : World} {K : PySem.W.Frag} {mg : Str → Option Value} {base : Heap} {f : Addr} {fd : FuncData}
theorem sc_in_both_halves : FnScope ["wickets", "half"] ["wickets", "half"] (defScope s_in_both_halves) := ⟨rfl, rfl, rfl, by decide +kernel, rfl, by decide +kernel, by decide +kernel⟩
theorem ok_in_both_halves (T : Bn mg) (F : Here K mg "in_both_halves" s_in_both_halves f fd) : FnOk P w K mg base CX0 1 f fd ["wickets", "half"] spHalves := by
  refine F.fn.ok sc_in_both_halves (fun vs H Q E h => ?_) (fun cdv A outer s H vs Q E hr h => ?_)
  · obtain ⟨l, ws, k, rfl, _⟩ := h
    rfl
  · obtain ⟨l, ws, k, rfl, ⟨rs, hl, hrs⟩, len, q⟩ := h
    have lrs := hrs.len
    refine ⟨_, (pss_one (ps_ret (pe_op op_cat (pe_callTy call_list_of rfl T.n_list boot_listT (pa_cons (pv 0) pa_nil)) (pe_comp ["first", "second"] [("half", 1)] rfl (pi_list (pv 0)) (fun _ _ _ _ _ _ => by exact (pg_tupK K rfl (n := 2) rfl (pgs_cons (pg_name (i := 0) (show List.Nodup (["first", "second", "half"] : List Str) by decide +kernel) rfl (by first | exact Or.inl rfl | exact Or.inr rfl)) (pgs_cons (pg_name (i := 1) (show List.Nodup (["first", "second", "half"] : List Str) by decide +kernel) rfl (by first | exact Or.inl rfl | exact Or.inr rfl)) pgs_nil)))) (fun _ _ _ _ _ _ => by exact pts_nil) (fun _ _ _ _ _ _ => by exact (pe_tup (pa_cons (pe_op op_add (pv 0) (pv 2)) (pa_cons (pe_op op_add (pv 1) (pv 2)) pa_nil)))))))), ?_⟩
    refine ⟨_, rfl, l, _, rfl, .inl (SqL.of hl), fun l1 f1 => ?_⟩
    have s1 : Same H (upd H l1 (HO.lst rs)) := same_new f1 _
    have x1 : (upd H l1 (HO.lst rs)) l1 = some (.lst rs) := upd_same
    generalize upd H l1 (HO.lst rs) = H1 at s1 x1
    refine ⟨_, rfl, l, rfl, ⟨_, SqL.of (s1 _ _ hl)⟩, fun lc fc => ?_⟩
    refine comp_list (xs := rs) (fun i ys Hc => Same H1 Hc ∧ Hc lc = some (.lst ys) ∧ ys.length ≤ i ∧ Refs Hc ys ((ws.take i).map (lift k))) ⟨Same.put fc (Same.refl H1), upd_same, Nat.zero_le _, .nil⟩ (lenLine (by (first | lia | omega))) (fun i ys Hc hi ⟨sc, e1, l1, r1⟩ => ⟨SqL.of (sc _ _ (s1 _ _ hl)), e1, l1⟩) ?_ ?_
    · rintro i x ys Hc hx ⟨sc, e1, l1, r1⟩
      obtain ⟨w0, t0, hw0, rfl, ht0⟩ := hrs.get hx
      refine ⟨t0, _, rfl, SqT.of (sc _ _ (s1 _ _ ht0)), rfl, ?_⟩
      refine ⟨_, _, rfl, _, _, rfl, rfl, ?_⟩
      refine ⟨⟨.inl rfl, .inl rfl, .inr rfl, trivial⟩, tru_if ?_⟩
      refine ⟨_, rfl, _, rfl, _, _, rfl, rfl, _, rfl, _, rfl, _, _, rfl, rfl, lenLine (by show 2 ≤ 100000; decide), fun u fu => ?_⟩
      have s3 : Same Hc (upd Hc u (HO.tup [V.int (w0.1 + k), V.int (w0.2 + k)])) := same_new fu _
      have x3 : (upd Hc u (HO.tup [V.int (w0.1 + k), V.int (w0.2 + k)])) u = some (.tup [V.int (w0.1 + k), V.int (w0.2 + k)]) := upd_same
      generalize upd Hc u (HO.tup [V.int (w0.1 + k), V.int (w0.2 + k)]) = H3 at s3 x3
      have e3 := s3 _ _ e1
      refine ⟨e3, Same.put fc (Same.trans sc s3), upd_same, by rw [List.length_append]; simp; (first | lia | omega), ?_⟩
      rw [take_snoc hw0, List.map_append]
      have k4 : KT H3 (upd H3 lc (HO.lst (ys ++ [V.ref u]))) := KT.lst e3 (KT.refl _)
      exact ((r1.same s3).kt k4).app (.cons ⟨u, rfl, k4 _ _ x3⟩ .nil)
    · rintro ys Hc ⟨sc, e1, ly, r1⟩
      rw [lrs, List.take_length] at r1
      have s0c := Same.trans s1 sc
      refine ⟨l1, lc, _, _, rfl, rfl, sc _ _ x1, e1, lenLine (by (first | lia | omega)), fun lo fo => ?_⟩
      have s5 : Same Hc (upd Hc lo (HO.lst (rs ++ ys))) := same_new fo _
      exact q lo _ (s0c.free fo) (Same.trans s0c s5) ⟨_, upd_same, ((hrs.same s0c).app r1).same s5⟩
end
section
variable {P : Program} {w : World} {K : PySem.W.Frag} {mg : Str → Option Value} {base : Heap} {f : Addr} {fd : FuncData}
theorem sc_across : FnScope ["wide"] ["wide"] (defScope s_across) := ⟨rfl, rfl, rfl, by decide +kernel, rfl, by decide +kernel, by decide +kernel⟩
theorem ok_across (T : Bn mg) (F : Here K mg "across" s_across f fd) : FnOk P w K mg base CX0 1 f fd ["wide"] spAcross := by
  refine F.fn.ok sc_across (fun vs H Q E h => ?_) (fun cdv A outer s H vs Q E hr h => ?_)
  · obtain ⟨wide, rfl, _⟩ := h
    rfl
  · obtain ⟨wide, rfl, w1, w8, q⟩ := h
    refine ⟨_, (pss_one (ps_ret (pe_comp ["lane"] [("wide", 0)] rfl (pi_range1 rfl T.n_range (pa_cons (pe_op op_fdiv (pv 0) pe_int) pa_nil)) (fun _ _ _ _ _ _ => by exact (pg_name (i := 0) (show List.Nodup (["lane", "wide"] : List Str) by decide +kernel) rfl (by first | exact Or.inl rfl | exact Or.inr rfl))) (fun _ _ _ _ _ _ => by exact pts_nil) (fun _ _ _ _ _ _ => by exact (pe_tup (pa_cons (pv 0) (pa_cons (pe_op op_sub (pe_op op_sub (pv 1) pe_int) (pv 0)) pa_nil))))))), ?_⟩
    refine ⟨_, rfl, _, _, rfl, rfl, ⟨by decide, by decide⟩, ?_⟩
    refine ⟨_, rfl, by (first | lia | omega), by (first | lia | omega), fun lc fc => ?_⟩
    refine comp_range (n := (wide / 2).toNat) (fun i ys Hc => Same H Hc ∧ Hc lc = some (.lst ys) ∧ ys.length ≤ i ∧ Refs Hc ys ((List.range i).map fun k : Nat => ((k : Int), wide - 1 - (k : Int)))) ⟨Same.put fc (Same.refl H), upd_same, Nat.zero_le _, .nil⟩ (lenLine (by (first | lia | omega))) (fun i ys Hc ⟨_, e, l, _⟩ => ⟨e, l⟩) ?_ ?_
    · rintro i ys Hc hi ⟨sc, e1, ly, r1⟩
      refine ⟨⟨.inl rfl, .inr rfl, trivial⟩, tru_if ?_⟩
      refine ⟨_, rfl, _, rfl, _, _, rfl, rfl, _, rfl, _, _, rfl, rfl, lenLine (by show 2 ≤ 100000; decide), fun u fu => ?_⟩
      have s3 : Same Hc (upd Hc u (HO.tup [V.int (0 + (i : Int)), V.int (wide - 1 - (0 + (i : Int)))])) := same_new fu _
      have x3 : (upd Hc u (HO.tup [V.int (0 + (i : Int)), V.int (wide - 1 - (0 + (i : Int)))])) u = some (.tup [V.int (0 + (i : Int)), V.int (wide - 1 - (0 + (i : Int)))]) := upd_same
      generalize upd Hc u (HO.tup [V.int (0 + (i : Int)), V.int (wide - 1 - (0 + (i : Int)))]) = H3 at s3 x3
      have e3 := s3 _ _ e1
      refine ⟨e3, Same.put fc (Same.trans sc s3), upd_same, by rw [List.length_append]; simp; (first | lia | omega), ?_⟩
      rw [List.range_succ, List.map_append]
      have k4 : KT H3 (upd H3 lc (HO.lst (ys ++ [V.ref u]))) := KT.lst e3 (KT.refl _)
      rw [Int.zero_add] at x3
      exact ((r1.same s3).kt k4).app (.cons ⟨u, rfl, k4 _ _ x3⟩ .nil)
    · rintro ys Hc ⟨sc, e1, ly, r1⟩
      exact q lc Hc fc sc ⟨ys, e1, r1⟩
end
section
variable {P : Program} {w : World} {K : PySem.W.Frag} {mg : Str → Option Value} {base : Heap} {f : Addr} {fd : FuncData}
theorem sc_block : FnScope ["wide", "half"] ["wide"] (defScope s_block) := ⟨rfl, rfl, rfl, by decide +kernel, rfl, by decide +kernel, by decide +kernel⟩
theorem ok_block0 : FnOk P w K mg base CX0 1 f fd ["wide"] (spBlk 0) :=
  ⟨fun vs H Q E ⟨k, _, h, _⟩ => absurd h (Nat.not_lt_zero _), fun A outer s H args us vs Q E _ _ _ _ ⟨k, _, h, _⟩ => absurd h (Nat.not_lt_zero _)⟩
theorem ok_block1 {n m : Nat} (T : Bn mg) (F : Here K mg "block" s_block f fd) (Cacross : Callee P w K mg base "across" 1 ["wide"] spAcross) (Cin_both_halves : Callee P w K mg base "in_both_halves" 1 ["wickets", "half"] spHalves)
    (Cblock : Callee P w K mg base "block" (m + 1) ["wide"] (spBlk n)) : FnOk P w K mg base CX0 (m + 2) f fd ["wide"] (spBlk (n + 1)) := by
  refine F.fn.ok sc_block (fun vs H Q E h => ?_) (fun cdv A outer s H vs Q E hr h => ?_)
  · obtain ⟨k, rfl, _⟩ := h
    rfl
  · obtain ⟨k, rfl, kn, k3, q⟩ := h
    refine ⟨_, (pss_cons (ps_if (pt_cmpR op_eq (pv 0) pe_int (nomark _))
    (pss_one (ps_ret (pe_lst pa_nil)))
    pss_nil)
    (pss_cons (ps_set (i := 1) sc_block.nd rfl (by first | exact Or.inl rfl | exact Or.inr rfl) (pe_op op_fdiv (pv 0) pe_int))
    (pss_one (ps_ret (pe_op op_cat (pe_callC Cacross (hr.mono (by first | decide | (first | lia | omega))) rfl (pa_cons (pv 0) pa_nil)) (pe_callC Cin_both_halves (hr.mono (by first | decide | (first | lia | omega))) rfl (pa_cons (pe_callC Cblock (hr.mono (by first | decide | (first | lia | omega))) rfl (pa_cons (pv 1) pa_nil)) (pa_cons (pv 1) pa_nil)))))))), ?_⟩
    refine ⟨_, rfl, rfl, _, rfl, ?_⟩
    cases k with
    | zero =>
      refine iteTd (by decide) ?_
      refine ⟨lenLine (by show 0 ≤ 100000; decide), fun l fl => ?_⟩
      exact q l _ fl (same_new fl _) ⟨[], upd_same, .nil⟩
    | succ k =>
      have ps := pw_succ k
      have pp := pw_pos k
      have p8 := pw_le k3
      have bl := blk_len (k := k) (by (first | lia | omega))
      refine iteFd (by rw [decide_eq_true_iff]; intro z; have := V.int.inj z; (first | lia | omega)) ?_
      refine ⟨_, rfl, _, _, rfl, rfl, ⟨by decide, by decide⟩, ?_⟩
      have eh : pw (k + 1) / 2 = pw k := by (first | lia | omega)
      dsimp only
      rw [eh]
      refine ⟨_, rfl, pw (k + 1), rfl, by (first | lia | omega), p8, fun la H1 fa s1 ⟨ra, xa, rra⟩ => ?_⟩
      refine ⟨_, rfl, k, rfl, by (first | lia | omega), by (first | lia | omega), fun lb H2 fb s2 wl2 => ?_⟩
      refine ⟨_, rfl, lb, _, pw k, rfl, wl2, by (first | lia | omega), fun lc H3 fc s3 ⟨rc, xc, rrc⟩ => ?_⟩
      have s13 := Same.trans s2 s3
      have l1 := rra.len
      have l2 := rrc.len
      have la' : (acrossM (pw (k + 1))).length ≤ 4 := by unfold acrossM; rw [List.length_map, List.length_range]; (first | lia | omega)
      rw [List.length_append, List.length_map] at l2
      refine ⟨la, lc, _, _, rfl, rfl, s13 _ _ xa, xc, lenLine (by (first | lia | omega)), fun lo fo => ?_⟩
      have s5 : Same H3 (upd H3 lo (HO.lst (ra ++ rc))) := same_new fo _
      have s03 := Same.trans s1 s13
      exact q lo _ (s03.free fo) (Same.trans s03 s5) ⟨_, upd_same, ((rra.same s13).app rrc).same s5⟩
end
section
variable {P : Program} {w : World} {K : PySem.W.Frag} {mg : Str → Option Value} {base : Heap} {f : Addr} {fd : FuncData}
theorem sc_rounds : FnScope ["wide", "wickets", "left"] ["wide"] (defScope s_rounds) := ⟨rfl, rfl, rfl, by decide +kernel, rfl, by decide +kernel, by decide +kernel⟩
theorem ok_rounds {an : Addr} (T : Bn mg) (F : Here K mg "rounds" s_rounds f fd) (ER : NoNetT K mg an) (Crefuse_unless_halved : CalleeE P w K mg base "refuse_unless_halved" 2 ["wide"] (spRefuse an)) (Cblock : Callee P w K mg base "block" 6 ["wide"] (spBlk 4)) (Cnet_of : CalleeE P w K mg base "net_of" 6 ["wide", "wickets"] spNetOf) : FnOk P w K mg base (CX1 P w) 7 f fd ["wide"] (spRoundsG an) := by
  refine F.fn.okE sc_rounds (fun vs H Q E h => ?_) (fun cdv A outer s H vs Q E hr h => ?_)
  · rcases h with ⟨k, rfl, _⟩ | ⟨x, rfl, _⟩ <;> rfl
  · refine ⟨_, (pss_cons (ps_expr (pe_callE Crefuse_unless_halved (hr.mono (by first | decide | (first | lia | omega))) rfl (pa_cons (pv 0) pa_nil)))
    (pss_cons (ps_set (i := 1) sc_rounds.nd rfl (by first | exact Or.inl rfl | exact Or.inr rfl) (pe_lst pa_nil))
    (pss_cons (ps_set (i := 2) sc_rounds.nd rfl (by first | exact Or.inl rfl | exact Or.inr rfl) (pv 0))
    (pss_cons (ps_while PassesOwn.leaving  (pt_cmpR op_gt (pv 2) pe_int (nomark _))
    (pss_cons (ps_expr (pe_bm PySem.F.plainAttrs_list PySem.F.slot_list_extend PySem.F.type_list_extend mt_extend (pv 1) (pa_cons (pe_callC Cblock (hr.mono (by first | decide | (first | lia | omega))) rfl (pa_cons (pv 0) pa_nil)) pa_nil)))
    (pss_one (ps_aug (i := 2) sc_rounds.nd rfl (by first | exact Or.inl rfl | exact Or.inr rfl) pe_int ip_fdiv))))
    (pss_one (ps_ret (pe_callE Cnet_of (hr.mono (by first | decide | (first | lia | omega))) rfl (pa_cons (pv 0) (pa_cons (pv 1) pa_nil))))))))), ?_⟩
    rcases h with ⟨k, rfl, k3, q⟩ | ⟨x, rfl, hx, q⟩
    · obtain ⟨okr, lenr⟩ := rnd_all k3
      have p1 := pw_pos k
      have p8 := pw_le k3
      have bl := blk_len k3
      have hv : halved (pw k) := by
        have : k = 0 ∨ k = 1 ∨ k = 2 ∨ k = 3 := by (first | lia | omega)
        rcases this with z | z | z | z <;> subst z
        · exact .inl rfl
        · exact .inr (.inl rfl)
        · exact .inr (.inr (.inl rfl))
        · exact .inr (.inr (.inr rfl))
      refine ⟨_, rfl, _, rfl, .inl ⟨_, rfl, hv, ?_⟩⟩
      refine ⟨lenLine (by show 0 ≤ 100000; decide), fun l fl => ?_⟩
      have s1 : Same H (upd H l (HO.lst [])) := same_new fl _
      have x1 : (upd H l (HO.lst [])) l = some (.lst []) := upd_same
      generalize upd H l (HO.lst []) = H1 at s1 x1
      refine ⟨_, rfl, ?_⟩
      refine while_m (fun m σ Hd => ∃ ys, σ = [some (.int (pw k)), some (.ref l), some (.int (pw m))] ∧ m ≤ k ∧ Same H Hd ∧ Hd l = some (.lst ys) ∧ Refs Hd ys (List.replicate (k - m) (blkM k)).flatten)
        k ⟨[], rfl, Nat.le_refl _, s1, x1, by rw [Nat.sub_self]; exact .nil⟩ ?_ ?_
      · rintro m σ Hd ⟨ys, rfl, mk, sd, xd, rd⟩
        refine ⟨_, rfl, _, _, rfl, rfl, _, rfl, ?_⟩
        cases m with
        | zero =>
          refine iteFd (by decide) ?_
          exact ⟨_, rfl, _, rfl, pw k, l, _, rfl, ⟨ys, xd, rd⟩, p1, p8, okr, lenr, fun v H' s' net => q v H' (Same.trans sd s') net⟩
        | succ m =>
          have ps := pw_succ m
          have pp := pw_pos m
          have ly := rd.len
          rw [len_rep] at ly
          have lb' : (k - (m + 1)) * (blkM k).length ≤ 36 := Nat.le_trans (Nat.mul_le_mul (show k - (m + 1) ≤ 3 by (first | lia | omega)) bl) (by decide)
          refine iteTd (decide_eq_true (by (first | lia | omega))) ?_
          refine ⟨_, rfl, .inl ⟨rfl, _, SqL.of xd⟩, ?_⟩
          refine ⟨_, rfl, k, rfl, by (first | lia | omega), k3, fun lb H2 fb s2 ⟨rb, xb, rrb⟩ => ?_⟩
          have lr := rrb.len
          have xd2 := s2 _ _ xd
          refine ⟨l, lb, _, _, rfl, rfl, xd2, xb, lenLine (by (first | lia | omega)), ?_⟩
          refine ⟨_, rfl, _, _, rfl, rfl, ⟨by decide, by decide⟩, m, Nat.lt_succ_self _, ys ++ rb, ?_, by (first | lia | omega), Same.put fl (Same.trans sd s2), upd_same, ?_⟩
          · have eh : pw (m + 1) / 2 = pw m := by (first | lia | omega)
            show [some (V.int (pw k)), some (V.ref l), some (V.int (pw (m + 1) / 2))] = _
            rw [eh]
          · have k5 : KT H2 (upd H2 l (HO.lst (ys ++ rb))) := KT.lst xd2 (KT.refl _)
            have e : (List.replicate (k - m) (blkM k)).flatten = (List.replicate (k - (m + 1)) (blkM k)).flatten ++ blkM k := by
              rw [show k - m = (k - (m + 1)) + 1 by (first | lia | omega), List.replicate_succ', List.flatten_append]
              simp
            rw [e]
            exact ((rd.same s2).kt k5).app (rrb.kt k5)
      · rintro σ Hd Q' Q'' hq ⟨y, f0, a1, a2, a3, a4, k', m1, h2⟩
        exact ⟨y, f0, a1, a2, a3, a4, k', m1, hq _ _ h2⟩
    · exact ⟨_, rfl, _, rfl, .inr ⟨hx, q⟩⟩
end
section
variable {P : Program} {w : World} {K : PySem.W.Frag} {mg : Str → Option Value} {base : Heap} {f : Addr} {fd : FuncData}
theorem sc_brick : FnScope ["wide", "wickets", "row"] ["wide"] (defScope s_brick) := ⟨rfl, rfl, rfl, by decide +kernel, rfl, by decide +kernel, by decide +kernel⟩
theorem brick_snoc (wide : Int) (i : Nat) : (List.range (i + 1)).flatMap (rowB wide) = (List.range i).flatMap (rowB wide) ++ rowB wide i := by
  rw [List.range_succ, List.flatMap_append]
  simp
theorem flat_len (wide : Int) (h : wide ≤ 8) : ∀ i : Nat, ((List.range i).flatMap (rowB wide)).length ≤ i * 5
  | 0 => by simp
  | i + 1 => by
    have := flat_len wide h i
    have r : (rowB wide i).length ≤ 5 := by
      unfold rowB n2
      rw [List.length_map, List.length_range]
      (first | lia | omega)
    rw [brick_snoc, List.length_append]
    (first | lia | omega)
theorem ok_brick {an : Addr} (T : Bn mg) (F : Here K mg "brick" s_brick f fd) (ER : NoNetT K mg an) (GMOST_LANES : ∃ t, mg "MOST_LANES" = some (.int 8 t)) (Cis_wholeS : Callee P w K mg base "is_whole" 1 ["thing"] spWholeG) (Cnet_of : CalleeE P w K mg base "net_of" 6 ["wide", "wickets"] spNetOf) : FnOk P w K mg base (CX1 P w) 7 f fd ["wide"] (spBrickG an) := by
  have Cis_whole := Cis_wholeS
  refine F.fn.okE sc_brick (fun vs H Q E h => ?_) (fun cdv A outer s H vs Q E hr h => ?_)
  · rcases h with ⟨wide, rfl, _⟩ | ⟨x, rfl, _⟩ <;> rfl
  · refine ⟨_, (pss_cons (ps_if (PW.pt (pw_or (pt_not (pt_val (pe_callC Cis_whole (hr.mono (by first | decide | (first | lia | omega))) rfl (pa_cons (pv 0) pa_nil)))) (pw_or1 (pt_not (pt_chain op_le op_le pe_int (pv 0) (pe_gint rfl GMOST_LANES))))))
    (pss_one (ps_raise ER.q_NoNet rfl ER.at_NoNet (pa_cons pe_str pa_nil)))
    pss_nil)
    (pss_cons (ps_set (i := 1) sc_brick.nd rfl (by first | exact Or.inl rfl | exact Or.inr rfl) (pe_lst pa_nil))
    (pss_cons (ps_for PassesOwn.leaving rfl  (pi_range1 rfl T.n_range (pa_cons (pv 0) pa_nil)) (pg_name (i := 2) sc_brick.nd rfl (by first | exact Or.inl rfl | exact Or.inr rfl))
    (pss_one (ps_expr (pe_bm PySem.F.plainAttrs_list PySem.F.slot_list_extend PySem.F.type_list_extend mt_extend (pv 1) (pa_cons (pe_comp ["lane"] [] rfl (pi_rangeS rfl T.n_range (pa_cons (pe_op op_mod (pv 2) pe_int) (pa_cons (pe_op op_sub (pv 0) pe_int) (pa_cons pe_int pa_nil)))) (fun _ _ _ _ _ _ => by exact (pg_name (i := 0) (show List.Nodup (["lane"] : List Str) by decide +kernel) rfl (by first | exact Or.inl rfl | exact Or.inr rfl))) (fun _ _ _ _ _ _ => by exact pts_nil) (fun _ _ _ _ _ _ => by exact (pe_tup (pa_cons (pv 0) (pa_cons (pe_op op_add (pv 0) pe_int) pa_nil))))) pa_nil)))))
    (pss_one (ps_ret (pe_callE Cnet_of (hr.mono (by first | decide | (first | lia | omega))) rfl (pa_cons (pv 0) (pa_cons (pv 1) pa_nil)))))))), ?_⟩
    rcases h with ⟨wide, rfl, w1, w8, q⟩ | ⟨x, rfl, o | ⟨i, rfl, hi⟩, q⟩
    rotate_left
    · refine ⟨_, rfl, _, rfl, .inr ⟨o, ?_⟩⟩
      refine ⟨_, rfl, iteTd (by decide) ?_⟩
      exact ⟨by show 1 ≤ 1000; decide, q⟩
    · refine ⟨_, rfl, _, rfl, .inl ⟨i, rfl, ?_⟩⟩
      refine ⟨_, rfl, iteFd (by decide) ?_⟩
      refine ⟨_, rfl, _, _, rfl, rfl, _, rfl, ?_⟩
      by_cases c : 1 ≤ i
      · refine iteTd (decide_eq_true c) ?_
        refine ⟨_, _, rfl, rfl, _, rfl, iteTd (by simp; (first | lia | omega)) ?_⟩
        exact ⟨by show 1 ≤ 1000; decide, q⟩
      · refine iteFd (by simp; (first | lia | omega)) ?_
        refine ⟨_, rfl, iteTd (by decide) ?_⟩
        exact ⟨by show 1 ≤ 1000; decide, q⟩
    obtain ⟨okb, lenb, _⟩ := brick_all w1 w8
    refine ⟨_, rfl, _, rfl, .inl ⟨wide, rfl, ?_⟩⟩
    refine ⟨_, rfl, iteFd (by decide) ?_⟩
    refine ⟨_, rfl, _, _, rfl, rfl, _, rfl, iteTd (decide_eq_true w1) ?_⟩
    refine ⟨_, _, rfl, rfl, _, rfl, iteFd (by simp; (first | lia | omega)) ?_⟩
    refine ⟨lenLine (by show 0 ≤ 100000; decide), fun l fl => ?_⟩
    have s1 : Same H (upd H l (HO.lst [])) := same_new fl _
    have x1 : (upd H l (HO.lst [])) l = some (.lst []) := upd_same
    generalize upd H l (HO.lst []) = H1 at s1 x1
    refine ⟨_, rfl, wide, rfl, by (first | lia | omega), by (first | lia | omega), ?_⟩
    refine for_range (n := wide.toNat) (fun i σ Hc => ∃ v2 ys, σ = [some (.int wide), some (.ref l), v2] ∧ Same H Hc ∧ Hc l = some (.lst ys) ∧ Refs Hc ys ((List.range i).flatMap (rowB wide))) ⟨none, [], rfl, s1, x1, .nil⟩ ?_ ?_
    · rintro i σ Hc hi ⟨v2, ys, rfl, sc, e1, r1⟩
      have lys := r1.len
      have fi := flat_len wide w8 i
      refine ⟨_, rfl, .inl ⟨rfl, _, SqL.of e1⟩, ?_⟩
      refine ⟨_, rfl, _, _, rfl, rfl, (show (0 : Int) < 2 by decide), _, rfl, _, _, rfl, rfl, ?_⟩
      refine ⟨_, _, rfl, ⟨by (first | lia | omega), by (first | lia | omega), by (first | lia | omega), by (first | lia | omega)⟩, fun lc fc => ?_⟩
      rw [Int.zero_add]
      have nl : n2 ((i : Int) % 2) (wide - 1) ≤ 5 := by unfold n2; (first | lia | omega)
      refine comp_two (n := n2 ((i : Int) % 2) (wide - 1)) (fun j zs Hd => Same Hc Hd ∧ Hd lc = some (.lst zs) ∧ zs.length ≤ j ∧ Refs Hd zs ((List.range j).map fun k : Nat => ((i : Int) % 2 + (k : Int) * 2, (i : Int) % 2 + (k : Int) * 2 + 1))) ⟨Same.put fc (Same.refl Hc), upd_same, Nat.zero_le _, .nil⟩ (lenLine (by (first | lia | omega))) (fun j zs Hd ⟨_, e, lz, _⟩ => ⟨e, lz⟩) ?_ ?_
      · rintro j zs Hd hj ⟨sd, e2, lz, r2⟩
        refine ⟨⟨.inl rfl, trivial⟩, tru_if ?_⟩
        refine ⟨_, rfl, _, rfl, _, _, rfl, rfl, lenLine (by show 2 ≤ 100000; decide), fun u fu => ?_⟩
        have s3 : Same Hd (upd Hd u (HO.tup [V.int ((i : Int) % 2 + (j : Int) * 2), V.int ((i : Int) % 2 + (j : Int) * 2 + 1)])) := same_new fu _
        have x3 : (upd Hd u (HO.tup [V.int ((i : Int) % 2 + (j : Int) * 2), V.int ((i : Int) % 2 + (j : Int) * 2 + 1)])) u = some (.tup [V.int ((i : Int) % 2 + (j : Int) * 2), V.int ((i : Int) % 2 + (j : Int) * 2 + 1)]) := upd_same
        generalize upd Hd u (HO.tup [V.int ((i : Int) % 2 + (j : Int) * 2), V.int ((i : Int) % 2 + (j : Int) * 2 + 1)]) = H3 at s3 x3
        have e3 := s3 _ _ e2
        refine ⟨e3, Same.put fc (Same.trans sd s3), upd_same, by rw [List.length_append]; simp; (first | lia | omega), ?_⟩
        rw [List.range_succ, List.map_append]
        have k4 : KT H3 (upd H3 lc (HO.lst (zs ++ [V.ref u]))) := KT.lst e3 (KT.refl _)
        exact ((r2.same s3).kt k4).app (.cons ⟨u, rfl, k4 _ _ x3⟩ .nil)
      · rintro zs Hd ⟨sd, e2, lz, r2⟩
        have e1d := sd _ _ e1
        have ll : l ≠ lc := fun z => by rw [z] at e1; rw [e1] at fc; cases fc
        refine ⟨l, lc, _, _, rfl, rfl, e1d, e2, lenLine (by (first | lia | omega)), ?_⟩
        refine ⟨_, _, rfl, Same.put fl (Same.trans sc sd), upd_same, ?_⟩
        rw [brick_snoc]
        have k5 : KT Hd (upd Hd l (HO.lst (ys ++ zs))) := KT.lst e1d (KT.refl _)
        exact ((r1.same sd).kt k5).app (r2.kt k5)
    · rintro σ Hc ⟨v2, ys, rfl, sc, e1, r1⟩
      exact ⟨_, rfl, _, rfl, wide, l, _, rfl, ⟨ys, e1, r1⟩, w1, w8, okb, lenb, fun v H' s' net => q v H' (Same.trans sc s') net⟩
end
section
variable {P : Program} {w : World} {K : PySem.W.Frag} {mg : Str → Option Value} {base : Heap} {f : Addr} {fd : FuncData}
theorem sc_l_block : FnScope ["_law_wide", "_law_half", "_law_below"] ["_law_wide"] (defScope s_l_block) := ⟨rfl, rfl, rfl, by decide +kernel, rfl, by decide +kernel, by decide +kernel⟩
theorem ok_l_block0 : FnOk P w K mg base CX0 1 f fd ["_law_wide"] (spBlk 0) :=
  ⟨fun vs H Q E ⟨k, _, h, _⟩ => absurd h (Nat.not_lt_zero _), fun A outer s H args us vs Q E _ _ _ _ ⟨k, _, h, _⟩ => absurd h (Nat.not_lt_zero _)⟩
theorem ok_l_block1 {n m : Nat} (T : Bn mg) (F : Here K mg "_law_block" s_l_block f fd) (C_law_lifted : Callee P w K mg base "_law_lifted" 1 ["_law_wickets", "_law_by"] spLifted)
    (C_law_block : Callee P w K mg base "_law_block" (m + 1) ["_law_wide"] (spBlk n)) : FnOk P w K mg base CX0 (m + 2) f fd ["_law_wide"] (spBlk (n + 1)) := by
  refine F.fn.ok sc_l_block (fun vs H Q E h => ?_) (fun cdv A outer s H vs Q E hr h => ?_)
  · obtain ⟨k, rfl, _⟩ := h
    rfl
  · obtain ⟨k, rfl, kn, k3, q⟩ := h
    refine ⟨_, (pss_cons (ps_if (pt_cmpR op_eq (pv 0) pe_int (nomark _))
    (pss_one (ps_ret (pe_lst pa_nil)))
    pss_nil)
    (pss_cons (ps_set (i := 1) sc_l_block.nd rfl (by first | exact Or.inl rfl | exact Or.inr rfl) (pe_op op_fdiv (pv 0) pe_int))
    (pss_cons (ps_set (i := 2) sc_l_block.nd rfl (by first | exact Or.inl rfl | exact Or.inr rfl) (pe_callC C_law_block (hr.mono (by first | decide | (first | lia | omega))) rfl (pa_cons (pv 1) pa_nil)))
    (pss_one (ps_ret (pe_op op_cat (pe_op op_cat (pe_comp ["_law_k"] [("_law_wide", 0)] rfl (pi_range1 rfl T.n_range (pa_cons (pv 1) pa_nil)) (fun _ _ _ _ _ _ => by exact (pg_name (i := 0) (show List.Nodup (["_law_k", "_law_wide"] : List Str) by decide +kernel) rfl (by first | exact Or.inl rfl | exact Or.inr rfl))) (fun _ _ _ _ _ _ => by exact pts_nil) (fun _ _ _ _ _ _ => by exact (pe_tup (pa_cons (pv 0) (pa_cons (pe_op op_sub (pe_op op_sub (pv 1) pe_int) (pv 0)) pa_nil))))) (pv 2)) (pe_callC C_law_lifted (hr.mono (by first | decide | (first | lia | omega))) rfl (pa_cons (pv 2) (pa_cons (pv 1) pa_nil))))))))), ?_⟩
    refine ⟨_, rfl, rfl, _, rfl, ?_⟩
    cases k with
    | zero =>
      refine iteTd (by decide) ?_
      refine ⟨lenLine (by show 0 ≤ 100000; decide), fun l fl => ?_⟩
      exact q l _ fl (same_new fl _) ⟨[], upd_same, .nil⟩
    | succ k =>
      have ps := pw_succ k
      have pp := pw_pos k
      have p8 := pw_le k3
      have bl := blk_len (k := k) (by (first | lia | omega))
      refine iteFd (by rw [decide_eq_true_iff]; intro z; have := V.int.inj z; (first | lia | omega)) ?_
      refine ⟨_, rfl, _, _, rfl, rfl, ⟨by decide, by decide⟩, ?_⟩
      have eh : pw (k + 1) / 2 = pw k := by (first | lia | omega)
      dsimp only
      rw [eh]
      refine ⟨_, rfl, k, rfl, by (first | lia | omega), by (first | lia | omega), fun lb H2 fb s2 ⟨rb, xb, rrb⟩ => ?_⟩
      refine ⟨_, rfl, _, rfl, by (first | lia | omega), by (first | lia | omega), fun lc fc => ?_⟩
      refine comp_range (n := (pw k).toNat) (fun i ys Hc => Same H2 Hc ∧ Hc lc = some (.lst ys) ∧ ys.length ≤ i ∧ Refs Hc ys ((List.range i).map fun j : Nat => ((j : Int), pw (k + 1) - 1 - (j : Int)))) ⟨Same.put fc (Same.refl H2), upd_same, Nat.zero_le _, .nil⟩ (lenLine (by (first | lia | omega))) (fun i ys Hc ⟨_, e, l, _⟩ => ⟨e, l⟩) ?_ ?_
      · rintro i ys Hc hi ⟨sc, e1, ly, r1⟩
        refine ⟨⟨.inl rfl, .inr rfl, trivial⟩, tru_if ?_⟩
        refine ⟨_, rfl, _, rfl, _, _, rfl, rfl, _, rfl, _, _, rfl, rfl, lenLine (by show 2 ≤ 100000; decide), fun u fu => ?_⟩
        have s3 : Same Hc (upd Hc u (HO.tup [V.int (0 + (i : Int)), V.int (pw (k + 1) - 1 - (0 + (i : Int)))])) := same_new fu _
        have x3 : (upd Hc u (HO.tup [V.int (0 + (i : Int)), V.int (pw (k + 1) - 1 - (0 + (i : Int)))])) u = some (.tup [V.int (0 + (i : Int)), V.int (pw (k + 1) - 1 - (0 + (i : Int)))]) := upd_same
        generalize upd Hc u (HO.tup [V.int (0 + (i : Int)), V.int (pw (k + 1) - 1 - (0 + (i : Int)))]) = H3 at s3 x3
        have e3 := s3 _ _ e1
        refine ⟨e3, Same.put fc (Same.trans sc s3), upd_same, by rw [List.length_append]; simp; (first | lia | omega), ?_⟩
        rw [List.range_succ, List.map_append]
        have k4 : KT H3 (upd H3 lc (HO.lst (ys ++ [V.ref u]))) := KT.lst e3 (KT.refl _)
        rw [Int.zero_add] at x3
        exact ((r1.same s3).kt k4).app (.cons ⟨u, rfl, k4 _ _ x3⟩ .nil)
      · rintro ys Hc ⟨sc, e1, ly, r1⟩
        have eA : ((List.range (pw k).toNat).map fun j : Nat => ((j : Int), pw (k + 1) - 1 - (j : Int))) = acrossM (pw (k + 1)) := by unfold acrossM; rw [eh]
        rw [eA] at r1
        have l1 := r1.len
        have l2 := rrb.len
        refine ⟨_, rfl, lc, lb, _, _, rfl, rfl, e1, sc _ _ xb, lenLine (by (first | lia | omega)), fun ld fd' => ?_⟩
        have s4 : Same Hc (upd Hc ld (HO.lst (ys ++ rb))) := same_new fd' _
        have x4 : (upd Hc ld (HO.lst (ys ++ rb))) ld = some (.lst (ys ++ rb)) := upd_same
        generalize upd Hc ld (HO.lst (ys ++ rb)) = H4 at s4 x4
        have s24 := Same.trans sc s4
        refine ⟨_, rfl, _, rfl, lb, _, pw k, rfl, ⟨rb, s24 _ _ xb, rrb.same s24⟩, by (first | lia | omega), fun le H5 fe s5 ⟨re, xe, rre⟩ => ?_⟩
        have l3 := rre.len
        rw [List.length_map] at l3
        refine ⟨ld, le, _, _, rfl, rfl, s5 _ _ x4, xe, lenLine (by rw [List.length_append]; (first | lia | omega)), fun lo fo => ?_⟩
        have s6 : Same H5 (upd H5 lo (HO.lst (ys ++ rb ++ re))) := same_new fo _
        have s25 := Same.trans s24 s5
        refine q lo _ ((Same.trans s2 s25).free fo) (Same.trans s2 (Same.trans s25 s6)) ⟨_, upd_same, ?_⟩
        show Refs _ _ (acrossM (pw (k + 1)) ++ (blkM k ++ (blkM k).map (lift (pw k))))
        rw [← List.append_assoc]
        exact ((((r1.same (Same.trans s4 s5)).app (rrb.same s25))).app rre).same s6
end
section
variable {P : Program} {w : World} {K : PySem.W.Frag} {mg : Str → Option Value} {base : Heap} {f : Addr} {fd : FuncData}
theorem sc_l_brick : FnScope ["_law_wide", "_law_found", "_law_row"] ["_law_wide"] (defScope s_l_brick) := ⟨rfl, rfl, rfl, by decide +kernel, rfl, by decide +kernel, by decide +kernel⟩
theorem ok_l_brick (T : Bn mg) (F : Here K mg "_law_brick" s_l_brick f fd) : FnOk P w K mg base CX0 1 f fd ["_law_wide"] spBrickL := by
  refine F.fn.ok sc_l_brick (fun vs H Q E h => ?_) (fun cdv A outer s H vs Q E hr h => ?_)
  · obtain ⟨wide, rfl, _⟩ := h
    rfl
  · obtain ⟨wide, rfl, w1, w8, q⟩ := h
    refine ⟨_, (pss_cons (ps_set (i := 1) sc_l_brick.nd rfl (by first | exact Or.inl rfl | exact Or.inr rfl) (pe_lst pa_nil))
    (pss_cons (ps_for PassesOwn.never rfl  (pi_range1 rfl T.n_range (pa_cons (pv 0) pa_nil)) (pg_name (i := 2) sc_l_brick.nd rfl (by first | exact Or.inl rfl | exact Or.inr rfl))
    (pss_one (ps_set (i := 1) sc_l_brick.nd rfl (by first | exact Or.inl rfl | exact Or.inr rfl) (pe_op op_cat (pv 1) (pe_comp ["_law_k"] [("_law_row", 2)] rfl (pi_range1 rfl T.n_range (pa_cons (pe_op op_sub (pv 0) pe_int) pa_nil)) (fun _ _ _ _ _ _ => by exact (pg_name (i := 0) (show List.Nodup (["_law_k", "_law_row"] : List Str) by decide +kernel) rfl (by first | exact Or.inl rfl | exact Or.inr rfl))) (fun _ _ _ _ _ _ => by exact (pts_one (pt_cmpR op_eq (pe_op op_mod (pv 0) pe_int) (pe_op op_mod (pv 1) pe_int) (nomark _)))) (fun _ _ _ _ _ _ => by exact (pe_tup (pa_cons (pv 0) (pa_cons (pe_op op_add (pv 0) pe_int) pa_nil)))))))))
    (pss_one (ps_ret (pv 1))))), ?_⟩
    refine ⟨lenLine (by show 0 ≤ 100000; decide), fun l hl => ?_⟩
    refine ⟨_, rfl, wide, rfl, by (first | lia | omega), by (first | lia | omega), ?_⟩
    refine for_range (n := wide.toNat) (fun i σ Hc => ∃ (v2 : Option V) (fl : Addr) (ys : List V), σ = [some (.int wide), some (.ref fl), v2] ∧ H fl = none ∧ Same H Hc ∧ Hc fl = some (.lst ys) ∧ Refs Hc ys (lbrM wide i) ∧ ys.length ≤ i * 8)
      ⟨none, l, [], rfl, hl, same_new hl _, upd_same, .nil, Nat.zero_le _⟩ ?_ ?_
    · rintro i σ Hc hi ⟨v2, fl, ys, rfl, frl, sc, xf, rf, lf⟩
      refine ⟨_, rfl, _, rfl, _, _, rfl, rfl, ?_⟩
      refine ⟨_, rfl, by (first | lia | omega), by (first | lia | omega), fun lc fc => ?_⟩
      refine comp_range (n := (wide - 1).toNat) (fun j zs Hd => Same Hc Hd ∧ Hd lc = some (.lst zs) ∧ zs.length ≤ j ∧ Refs Hd zs (((List.range j).filter fun k : Nat => decide ((k : Int) % 2 = (i : Int) % 2)).map fun k : Nat => ((k : Int), (k : Int) + 1))) ⟨Same.put fc (Same.refl Hc), upd_same, Nat.zero_le _, .nil⟩ (lenLine (by (first | lia | omega))) (fun j zs Hd ⟨_, e, lz, _⟩ => ⟨e, lz⟩) ?_ ?_
      · rintro j zs Hd hj ⟨sd, e2, lz, r2⟩
        refine ⟨⟨.inl rfl, .inr rfl, trivial⟩, ?_⟩
        refine ⟨_, rfl, _, _, rfl, rfl, (show (0 : Int) < 2 by decide), _, rfl, _, _, rfl, rfl, (show (0 : Int) < 2 by decide), rfl, _, rfl, ?_⟩
        rw [List.range_succ, List.filter_append, List.map_append]
        by_cases c : (j : Int) % 2 = (i : Int) % 2
        · refine iteTd (decide_eq_true (congrArg V.int (by (first | lia | omega)))) ?_
          refine ⟨_, rfl, _, rfl, _, _, rfl, rfl, lenLine (by show 2 ≤ 100000; decide), fun u fu => ?_⟩
          have s3 : Same Hd (upd Hd u (HO.tup [V.int (0 + (j : Int)), V.int (0 + (j : Int) + 1)])) := same_new fu _
          have x3 : (upd Hd u (HO.tup [V.int (0 + (j : Int)), V.int (0 + (j : Int) + 1)])) u = some (.tup [V.int (0 + (j : Int)), V.int (0 + (j : Int) + 1)]) := upd_same
          generalize upd Hd u (HO.tup [V.int (0 + (j : Int)), V.int (0 + (j : Int) + 1)]) = H3 at s3 x3
          have e3 := s3 _ _ e2
          refine ⟨e3, Same.put fc (Same.trans sd s3), upd_same, by rw [List.length_append]; simp; (first | lia | omega), ?_⟩
          have k4 : KT H3 (upd H3 lc (HO.lst (zs ++ [V.ref u]))) := KT.lst e3 (KT.refl _)
          rw [Int.zero_add] at x3
          have one : (([j].filter fun k : Nat => decide ((k : Int) % 2 = (i : Int) % 2)).map fun k : Nat => ((k : Int), (k : Int) + 1)) = [((j : Int), (j : Int) + 1)] := by simp [c]
          rw [one]
          exact ((r2.same s3).kt k4).app (.cons ⟨u, rfl, k4 _ _ x3⟩ .nil)
        · refine iteFd (by rw [decide_eq_true_iff]; intro z; have := V.int.inj z; (first | lia | omega)) ?_
          have none' : (([j].filter fun k : Nat => decide ((k : Int) % 2 = (i : Int) % 2)).map fun k : Nat => ((k : Int), (k : Int) + 1)) = [] := by simp [c]
          rw [none', List.append_nil]
          exact ⟨sd, e2, by (first | lia | omega), r2⟩
      · rintro zs Hd ⟨sd, e2, lz, r2⟩
        refine ⟨fl, lc, _, _, rfl, rfl, sd _ _ xf, e2, lenLine (by (first | lia | omega)), fun lo fo => ?_⟩
        have s5 : Same Hd (upd Hd lo (HO.lst (ys ++ zs))) := same_new fo _
        have scd := Same.trans sc sd
        refine ⟨_, lo, ys ++ zs, rfl, scd.free fo, Same.trans scd s5, upd_same, ?_, by rw [List.length_append]; (first | lia | omega)⟩
        have e : lbrM wide (i + 1) = lbrM wide i ++ (((List.range (wide - 1).toNat).filter fun k : Nat => decide ((k : Int) % 2 = (i : Int) % 2)).map fun k : Nat => ((k : Int), (k : Int) + 1)) := by
          unfold lbrM
          rw [List.range_succ, List.flatMap_append]
          simp
        rw [e]
        exact ((rf.same sd).app r2).same s5
    · rintro σ Hc ⟨v2, fl, ys, rfl, frl, sc, xf, rf, lf⟩
      rw [lbr_eq w1 w8] at rf
      exact ⟨_, rfl, q fl Hc frl sc ⟨ys, xf, rf⟩⟩
end
section
variable {P : Program} {w : World} {K : PySem.W.Frag} {mg : Str → Option Value} {base : Heap} {f : Addr} {fd : FuncData}
theorem sc_l_rounds : FnScope ["_law_wide"] ["_law_wide"] (defScope s_l_rounds) := ⟨rfl, rfl, rfl, by decide +kernel, rfl, by decide +kernel, by decide +kernel⟩
theorem ok_l_rounds (F : Here K mg "_law_rounds" s_l_rounds f fd) (C_law_block : Callee P w K mg base "_law_block" 6 ["_law_wide"] (spBlk 4)) : FnOk P w K mg base CX0 7 f fd ["_law_wide"] spRoundsL := by
  refine F.fn.ok sc_l_rounds (fun vs H Q E h => ?_) (fun cdv A outer s H vs Q E hr h => ?_)
  · obtain ⟨k, rfl, _⟩ := h
    rfl
  · obtain ⟨k, rfl, k3, q⟩ := h
    have bl := blk_len k3
    refine ⟨_, (pss_one (ps_ret (pe_op op_rep (pe_callC C_law_block (hr.mono (by first | decide | (first | lia | omega))) rfl (pa_cons (pv 0) pa_nil)) (pe_ix ix_list (pe_lst (pa_cons pe_int (pa_cons pe_int (pa_cons pe_int (pa_cons pe_int (pa_cons pe_int (pa_cons pe_int (pa_cons pe_int (pa_cons pe_int (pa_cons pe_int pa_nil)))))))))) (pv 0) (fun _ _ => rfl))))), ?_⟩
    refine ⟨_, rfl, k, rfl, by (first | lia | omega), k3, fun lb H1 fb s1 ⟨rb, xb, rrb⟩ => ?_⟩
    have lr := rrb.len
    refine ⟨lenLine (by show 9 ≤ 100000; decide), fun l2 f2 => ?_⟩
    have s2 : Same H1 (upd H1 l2 (HO.lst [V.int 0, V.int 0, V.int 1, V.int 0, V.int 2, V.int 0, V.int 0, V.int 0, V.int 3])) := same_new f2 _
    have x2 : (upd H1 l2 (HO.lst [V.int 0, V.int 0, V.int 1, V.int 0, V.int 2, V.int 0, V.int 0, V.int 0, V.int 3])) l2 = some (.lst [V.int 0, V.int 0, V.int 1, V.int 0, V.int 2, V.int 0, V.int 0, V.int 0, V.int 3]) := upd_same
    generalize upd H1 l2 (HO.lst [V.int 0, V.int 0, V.int 1, V.int 0, V.int 2, V.int 0, V.int 0, V.int 0, V.int 3]) = H2 at s2 x2
    have ek : atI [V.int 0, V.int 0, V.int 1, V.int 0, V.int 2, V.int 0, V.int 0, V.int 0, V.int 3] (pw k) = some (.int (k : Int)) := by
      have : k = 0 ∨ k = 1 ∨ k = 2 ∨ k = 3 := by (first | lia | omega)
      rcases this with z | z | z | z <;> subst z <;> rfl
    refine ⟨_, rfl, l2, _, _, _, rfl, rfl, SqL.of x2, ek, ?_⟩
    have lb' : rb.length * k ≤ 36 := Nat.le_trans (Nat.mul_le_mul (show rb.length ≤ 12 by (first | lia | omega)) k3) (by decide)
    refine ⟨lb, (k : Int), rb, rfl, rfl, s2 _ _ xb, by (first | lia | omega), by (first | lia | omega), lenLine (by rw [Int.toNat_natCast]; (first | lia | omega)), fun l3 f3 => ?_⟩
    have s3 : Same H2 (upd H2 l3 (HO.lst (List.replicate ((k : Int).toNat) rb).flatten)) := same_new f3 _
    have s02 := Same.trans s1 s2
    refine q l3 _ (s02.free f3) (Same.trans s02 s3) ⟨_, upd_same, ?_⟩
    rw [Int.toNat_natCast]
    exact ((rrb.same (Same.trans s2 s3)).rep k)
end
section
variable {P : Program} {w : World} {K : PySem.W.Frag} {mg : Str → Option Value} {base : Heap} {f : Addr} {fd : FuncData}
theorem sc_refused : FnScope ["_law_way", "_law_thing", "_law_caught", "e"] ["_law_way", "_law_thing"] (defScope s_refused) := ⟨rfl, rfl, rfl, by decide +kernel, rfl, by decide +kernel, by decide +kernel⟩
theorem ok_refused {a : ErrA} (T : Bn mg) (F : Here K mg "_law_refused" s_refused f fd) (ER : ErrT K mg a) (Crounds : CalleeE P w K mg base "rounds" 7 ["wide"] (spRoundsG a.nonet)) (Cbrick : CalleeE P w K mg base "brick" 7 ["wide"] (spBrickG a.nonet)) : FnOk P w K mg base CX0 8 f fd ["_law_way", "_law_thing"] spRefused := by
  refine F.fn.ok sc_refused (fun vs H Q E h => ?_) (fun cdv A outer s H vs Q E hr h => ?_)
  · obtain ⟨w, x, rfl, _⟩ := h
    rfl
  · obtain ⟨w, x, rfl, hx, q⟩ := h
    refine ⟨_, (pss_cons (ps_set (i := 2) sc_refused.nd rfl (by first | exact Or.inl rfl | exact Or.inr rfl) pe_non)
    (pss_cons (ps_tryAs (j := 3) rfl rfl sc_refused.nd rfl rfl (psx_if (pt_cmpR op_eq (pv 0) pe_int (nomark _)) (psx_expr (px_call Crounds (hr.mono (by first | decide | (first | lia | omega))) rfl (pa_cons (pv 1) pa_nil))) (psx_expr (px_call Cbrick (hr.mono (by first | decide | (first | lia | omega))) rfl (pa_cons (pv 1) pa_nil)))) rfl ER.at_NetError (fun _ => (pss_one (ps_set (i := 2) sc_refused.nd rfl (by first | exact Or.inl rfl | exact Or.inr rfl) (pv 3)))))
    (pss_cons (ps_if (pt_val (pe_callB call_isXT rfl T.n_isinstance boot_isinstance (pa_cons (pv 2) (pa_cons (pe_tup (pa_cons (pe_glob (v := V.ref _) rfl ER.at_NoLane rfl) (pa_cons (pe_glob (v := V.ref _) rfl ER.at_NoName rfl) (pa_cons (pe_glob (v := V.ref _) rfl ER.at_NoRow rfl) (pa_cons (pe_glob (v := V.ref _) rfl ER.at_NoText rfl) (pa_cons (pe_glob (v := V.ref _) rfl ER.at_NoWalker rfl) (pa_cons (pe_glob (v := V.ref _) rfl ER.at_TooMany rfl) pa_nil))))))) pa_nil))))
    (pss_one (ps_ret pe_bl))
    pss_nil)
    (pss_one (ps_ret (pe_and (pe_callB call_isX rfl T.n_isinstance boot_isinstance (pa_cons (pv 2) (pa_cons (pe_glob (v := V.ref _) rfl ER.at_NoNet rfl) pa_nil))) (pe_one (pe_callB call_isX rfl T.n_isinstance boot_isinstance (pa_cons (pv 2) (pa_cons (pe_bltn (v := V.ty "ValueError") (u := .type "ValueError") rfl T.n_ValueError (by decide +kernel) rfl) pa_nil)))))))))), ?_⟩
    refine seq_gen (a := tAsg _ _) fun N0 hN0 => ?_
    refine hN0 _ _ ?_
    clear hN0
    refine seq_gen fun N hN => ?_
    have go : ∀ ea H1, H ea = none → H1 ea = some (excO ea (.ref a.nonet)) → Same H H1 → N [some (.int w), some x, some (.ref ea), none] H1 := fun ea H2 fea x2 s2 => hN _ _ (by
      refine ⟨_, rfl, lenLine (by show 6 ≤ 100000; decide), fun tp ftp => ?_⟩
      have s3 : Same H2 (upd H2 tp (HO.tup [V.ref a.nolane, V.ref a.noname, V.ref a.norow, V.ref a.notext, V.ref a.nowalker, V.ref a.many])) := same_new ftp _
      have x3 : (upd H2 tp (HO.tup [V.ref a.nolane, V.ref a.noname, V.ref a.norow, V.ref a.notext, V.ref a.nowalker, V.ref a.many])) tp = some (.tup [V.ref a.nolane, V.ref a.noname, V.ref a.norow, V.ref a.notext, V.ref a.nowalker, V.ref a.many]) := upd_same
      generalize upd H2 tp (HO.tup [V.ref a.nolane, V.ref a.noname, V.ref a.norow, V.ref a.notext, V.ref a.nowalker, V.ref a.many]) = H3 at s3 x3
      refine ⟨ea, a.nonet, tp, _, _, _, rfl, s3 _ _ x2, ER.l_NoNet, x3, rfl, kit_snoc ER.nm ER.i_NoNet, _, rfl, iteFd (by decide) ?_⟩
      refine ⟨_, rfl, ea, a.nonet, _, _, _, rfl, s3 _ _ x2, ER.l_NoNet, rfl, ER.nn, _, rfl, iteTd rfl ?_⟩
      exact ⟨_, rfl, ea, a.nonet, _, _, _, rfl, s3 _ _ x2, ER.l_NoNet, rfl, ER.v_NoNet, q _ (Same.trans s2 s3)⟩)
    refine ⟨_, rfl, rfl, _, rfl, ?_⟩
    rcases hx with ⟨rfl, hx⟩ | ⟨rfl, hx⟩
    · refine iteTd (by decide) ?_
      refine ⟨_, rfl, .inr ⟨x, rfl, hx, ?_⟩⟩
      refine ⟨ER.m_NoNet, fun ea fea => ?_⟩
      exact ⟨_, rfl, go ea _ fea upd_same (same_new fea _)⟩
    · refine iteFd (by decide) ?_
      refine ⟨_, rfl, .inr ⟨x, rfl, hx, ?_⟩⟩
      refine ⟨ER.m_NoNet, fun ea fea => ?_⟩
      exact ⟨_, rfl, go ea _ fea upd_same (same_new fea _)⟩
end
section
variable {P : Program} {w : World} {K : PySem.W.Frag} {mg : Str → Option Value} {base : Heap} {f : Addr} {fd : FuncData}
theorem sc_right : FnScope ["_law_found", "_law_due"] ["_law_found", "_law_due"] (defScope s_right) := ⟨rfl, rfl, rfl, by decide +kernel, rfl, by decide +kernel, by decide +kernel⟩
theorem ok_right (T : Bn mg) (F : Here K mg "_law_right" s_right f fd) (Cis_net : Callee P w K mg base "is_net" 6 ["thing"] spIsNetP) : FnOk P w K mg base CX0 7 f fd ["_law_found", "_law_due"] spRight43 := by
  refine F.fn.ok sc_right (fun vs H Q E h => ?_) (fun cdv A outer s H vs Q E hr h => ?_)
  · obtain ⟨v1, v2, wide, ws, rfl, _⟩ := h
    rfl
  · obtain ⟨v1, v2, wide, ws, rfl, net1, net2, w1, w8, ok, len, q⟩ := h
    obtain ⟨n, t, rs, rfl, hn, ht, hrs⟩ := id net1
    refine ⟨_, (pss_cons (ps_if (PW.pt (pw_or (pt_not (pt_val (pe_callB call_isinst rfl T.n_isinstance boot_isinstance (pa_cons (pv 0) (pa_cons (pe_bltn (v := V.ty "tuple") (u := .type "tuple") rfl T.n_tuple (by decide +kernel) rfl) pa_nil))))) (pw_or (pt_cmpR (op_neD hr.units) (pv 0) (pv 1) (nomark _)) (pw_or (pt_not (pt_val (pe_callB call_isinst rfl T.n_isinstance boot_isinstance (pa_cons (pe_ix ix_tup (pv 0) pe_int (fun _ _ => rfl)) (pa_cons (pe_bltn (v := V.ty "tuple") (u := .type "tuple") rfl T.n_tuple (by decide +kernel) rfl) pa_nil))))) (pw_or1 (pt_val (pe_callB call_isinst rfl T.n_isinstance boot_isinstance (pa_cons (pe_ix ix_tup (pv 0) pe_int (fun _ _ => rfl)) (pa_cons (pe_bltn (v := V.ty "bool") (u := .type "bool") rfl T.n_bool (by decide +kernel) rfl) pa_nil)))))))))
    (pss_one (ps_ret pe_bl))
    pss_nil)
    (pss_one (ps_ret (pe_cmpR op_isB (pe_callC Cis_net (hr.mono (by first | decide | (first | lia | omega))) rfl (pa_cons (pv 0) pa_nil)) pe_bl (nomark _))))), ?_⟩
    refine ⟨_, rfl, _, _, _, true, rfl, TyOf.tup hn, rfl, _, rfl, iteFd (by decide) ?_⟩
    refine ⟨_, rfl, _, rfl, _, _, net1.dat, net2.dat, shaped_net _ _, shaped_net _ _, mix_net _ _, _, rfl, iteFd (by simp [PyProof.Rows.same_refl]) ?_⟩
    refine ⟨_, rfl, n, _, _, _, rfl, rfl, SqT.of hn, rfl, _, _, _, true, rfl, TyOf.tup ht, rfl, _, rfl, iteFd (by decide) ?_⟩
    refine ⟨_, rfl, n, _, _, _, rfl, rfl, SqT.of hn, rfl, _, _, _, false, rfl, TyOf.int wide, rfl, _, rfl, iteFd (by decide) ?_⟩
    refine ⟨_, rfl, .ref n, wide, ws, rfl, net1, w1, w8, ok, len, fun H1 s1 => ?_⟩
    exact ⟨_, _, rfl, rfl, q H1 s1⟩
end
section
variable {P : Program} {w : World} {K : PySem.W.Frag} {mg : Str → Option Value} {base : Heap} {f : Addr} {fd : FuncData}
theorem sc_law : FnScope ["_law_script", "_law_k", "_law_pen_here", "_law_wide", "_law_far", "_law_some"] ["_law_script"] (defScope s_law) := ⟨rfl, rfl, rfl, by decide +kernel, rfl, by decide +kernel, by decide +kernel⟩
 set_option maxHeartbeats 16000000 in
theorem ok_law (T : Bn mg) (F : Here K mg "law" s_law f fd) (C_law_take : Callee P w K mg base "_law_take" 1 ["_law_pen_here", "_law_size"] spTake) (C_law_pen : Callee P w K mg base "_law_pen" 1 ["_law_script", "_law_k"] (spPen K)) (Crounds1 : Callee P w K mg base "rounds" 7 ["wide"] spRoundsN) (Cbrick1 : Callee P w K mg base "brick" 7 ["wide"] spBrickN)
    (C_law_rounds : Callee P w K mg base "_law_rounds" 7 ["_law_wide"] spRoundsL) (C_law_brick : Callee P w K mg base "_law_brick" 1 ["_law_wide"] spBrickL) (C_law_right : Callee P w K mg base "_law_right" 7 ["_law_found", "_law_due"] spRight43) (C_law_refused : Callee P w K mg base "_law_refused" 8 ["_law_way", "_law_thing"] spRefused) :
    FnOk P w K mg base CX0 9 f fd ["_law_script"] (spLaw K) := by
  have Crounds := Crounds1
  have Cbrick := Cbrick1
  refine F.fn.ok sc_law (fun vs H Q E h => ?_) (fun cdv A outer s H vs Q E hr h => ?_)
  · obtain ⟨a, ns, rfl, _⟩ := h
    rfl
  · obtain ⟨a, ns, rfl, hS, h63, q⟩ := h
    refine ⟨_, (pss_cons (ps_for PassesOwn.never rfl  (pi_range1 rfl T.n_range (pa_cons pe_int pa_nil)) (pg_name (i := 1) sc_law.nd rfl (by first | exact Or.inl rfl | exact Or.inr rfl))
    (pss_cons (ps_set (i := 2) sc_law.nd rfl (by first | exact Or.inl rfl | exact Or.inr rfl) (pe_callC C_law_pen (hr.mono (by first | decide | (first | lia | omega))) rfl (pa_cons (pv 0) (pa_cons (pv 1) pa_nil))))
    (pss_cons (ps_set (i := 3) sc_law.nd rfl (by first | exact Or.inl rfl | exact Or.inr rfl) (pe_ix ix_list (pe_lst (pa_cons pe_int (pa_cons pe_int (pa_cons pe_int (pa_cons pe_int pa_nil))))) (pe_callC C_law_take (hr.mono (by first | decide | (first | lia | omega))) rfl (pa_cons (pv 2) (pa_cons pe_int pa_nil))) (fun _ _ => rfl)))
    (pss_cons (ps_if (pt_not (pt_val (pe_callC C_law_right (hr.mono (by first | decide | (first | lia | omega))) rfl (pa_cons (pe_callC Crounds (hr.mono (by first | decide | (first | lia | omega))) rfl (pa_cons (pv 3) pa_nil)) (pa_cons (pe_tup (pa_cons (pv 3) (pa_cons (pe_callTy call_tuple_of rfl T.n_tuple boot_tupleT (pa_cons (pe_callC C_law_rounds (hr.mono (by first | decide | (first | lia | omega))) rfl (pa_cons (pv 3) pa_nil)) pa_nil)) pa_nil))) pa_nil)))))
    (pss_one (ps_ret pe_bl))
    pss_nil)
    (pss_cons (ps_set (i := 3) sc_law.nd rfl (by first | exact Or.inl rfl | exact Or.inr rfl) (pe_op op_add pe_int (pe_callC C_law_take (hr.mono (by first | decide | (first | lia | omega))) rfl (pa_cons (pv 2) (pa_cons pe_int pa_nil)))))
    (pss_cons (ps_if (pt_not (pt_val (pe_callC C_law_right (hr.mono (by first | decide | (first | lia | omega))) rfl (pa_cons (pe_callC Cbrick (hr.mono (by first | decide | (first | lia | omega))) rfl (pa_cons (pv 3) pa_nil)) (pa_cons (pe_tup (pa_cons (pv 3) (pa_cons (pe_callTy call_tuple_of rfl T.n_tuple boot_tupleT (pa_cons (pe_callC C_law_brick (hr.mono (by first | decide | (first | lia | omega))) rfl (pa_cons (pv 3) pa_nil)) pa_nil)) pa_nil))) pa_nil)))))
    (pss_one (ps_ret pe_bl))
    pss_nil)
    (pss_cons (ps_set (i := 4) sc_law.nd rfl (by first | exact Or.inl rfl | exact Or.inr rfl) (pe_op op_add pe_int (pe_callC C_law_take (hr.mono (by first | decide | (first | lia | omega))) rfl (pa_cons (pv 2) (pa_cons (pe_op op_pow pe_int pe_int) pa_nil)))))
    (pss_cons (ps_set (i := 5) sc_law.nd rfl (by first | exact Or.inl rfl | exact Or.inr rfl) (pe_lst (pa_cons pe_int (pa_cons pe_int (pa_cons (pv 4) (pa_cons (pe_op op_sub pe_int (pv 4)) (pa_cons (pe_un un_neg pe_int) (pa_cons pe_bl (pa_cons pe_bl (pa_cons pe_non (pa_cons pe_str (pa_cons (pe_tup (pa_cons pe_int pa_nil)) (pa_cons (pe_lst (pa_cons pe_int pa_nil)) (pa_cons pe_dict0 (pa_cons pe_str (pa_cons (pe_tup pa_nil) (pa_cons pe_int pa_nil)))))))))))))))))
    (pss_cons (ps_if (pt_not (pt_val (pe_callC C_law_refused (hr.mono (by first | decide | (first | lia | omega))) rfl (pa_cons pe_int (pa_cons (pe_ix ix_list (pv 5) (pe_callC C_law_take (hr.mono (by first | decide | (first | lia | omega))) rfl (pa_cons (pv 2) (pa_cons pe_int pa_nil))) (fun _ _ => rfl)) pa_nil)))))
    (pss_one (ps_ret pe_bl))
    pss_nil)
    (pss_one (ps_if (pt_not (pt_val (pe_callC C_law_refused (hr.mono (by first | decide | (first | lia | omega))) rfl (pa_cons pe_int (pa_cons (pe_ix ix_list (pe_op op_cat (pv 5) (pe_lst (pa_cons pe_int (pa_cons pe_int (pa_cons pe_int (pa_cons pe_int pa_nil)))))) (pe_callC C_law_take (hr.mono (by first | decide | (first | lia | omega))) rfl (pa_cons (pv 2) (pa_cons pe_int pa_nil))) (fun _ _ => rfl)) pa_nil)))))
    (pss_one (ps_ret pe_bl))
    pss_nil)))))))))))
    (pss_one (ps_ret (pe_and (pe_cmpR op_eq (pe_callB call_len_seq rfl T.n_len PySem.boot_len (pa_cons (pe_ix ix_tup (pe_callC Crounds (hr.mono (by first | decide | (first | lia | omega))) rfl (pa_cons pe_int pa_nil)) pe_int (fun _ _ => rfl)) pa_nil)) pe_int (nomark _)) (pe_one (pe_cmpR op_eq (pe_callB call_len_seq rfl T.n_len PySem.boot_len (pa_cons (pe_ix ix_tup (pe_callC Cbrick (hr.mono (by first | decide | (first | lia | omega))) rfl (pa_cons pe_int pa_nil)) pe_int (fun _ _ => rfl)) pa_nil)) pe_int (nomark _))))))), ?_⟩
    refine ⟨5, rfl, by decide, by decide, ?_⟩
    refine for_range (n := (5 : Int).toNat) (fun i σ Hc => ∃ v1 v2 v3 v4 v5, σ = [some (.ref a), v1, v2, v3, v4, v5] ∧ Same H Hc) ⟨none, none, none, none, none, rfl, Same.refl H⟩ ?_ ?_
    · rintro i σ Hc hi ⟨v1, v2, v3, v4, v5, rfl, sc⟩
      have hi5 : i < 5 := hi
      refine ⟨_, rfl, _, rfl, a, ns, 0 + (i : Int), rfl, sc.seq hS, h63, by (first | lia | omega), by (first | lia | omega), fun p pa pb pc fp => ?_⟩
      have k1 : Kp p Hc (upd Hc p (HO.lst [V.int pa, V.int pb, V.int pc])) := Kp.same (same_new fp _)
      have hp1 : (upd Hc p (HO.lst [V.int pa, V.int pb, V.int pc])) p = some (.lst [V.int pa, V.int pb, V.int pc]) := upd_same
      generalize upd Hc p (HO.lst [V.int pa, V.int pb, V.int pc]) = H1 at k1 hp1
      -- rounds
      refine ⟨lenLine (by show 4 ≤ 100000; decide), fun l0 f0 => ?_⟩
      obtain ⟨k2, hp2, x2, n2⟩ := fresh_step hp1 f0 (.lst [V.int 1, V.int 2, V.int 4, V.int 8])
      generalize upd H1 l0 (HO.lst [V.int 1, V.int 2, V.int 4, V.int 8]) = H2 at k2 hp2 x2
      refine ⟨_, rfl, p, _, _, _, 4, rfl, hp2, by decide, by decide, fun v a3 b3 c3 v0 v4' => ?_⟩
      have k3 : Kp p Hc (upd H2 p (.lst [.int a3, .int b3, .int c3])) := Kp.trans k1 (Kp.trans k2 Kp.upd)
      have hp3 : (upd H2 p (.lst [.int a3, .int b3, .int c3])) p = some (.lst [.int a3, .int b3, .int c3]) := upd_same
      have x3 : (upd H2 p (.lst [.int a3, .int b3, .int c3])) l0 = some (.lst [V.int 1, V.int 2, V.int 4, V.int 8]) := (upd_ne n2).trans x2
      generalize upd H2 p (HO.lst [V.int a3, V.int b3, V.int c3]) = H3 at k3 hp3 x3
      have ez : atI [V.int 1, V.int 2, V.int 4, V.int 8] v = some (.int (pw v.toNat)) ∧ v.toNat ≤ 3 := by
        have wc : v = 0 ∨ v = 1 ∨ v = 2 ∨ v = 3 := by (first | lia | omega)
        rcases wc with h | h | h | h <;> subst h <;> exact ⟨rfl, by decide⟩
      obtain ⟨ez, k3'⟩ := ez
      generalize v.toNat = k at ez k3'
      obtain ⟨okr, lenr⟩ := rnd_all k3'
      have p1 := pw_pos k
      have p8 := pw_le k3'
      refine ⟨l0, _, _, _, rfl, rfl, SqL.of x3, ez, ?_⟩
      refine ⟨_, rfl, k, rfl, k3', fun vr H4 s4 net4 => ?_⟩
      refine ⟨_, rfl, _, rfl, k, rfl, k3', fun lr H5 f5 s5 ⟨rr, xr, rrr⟩ => ?_⟩
      refine ⟨lr, _, rfl, .inl ⟨SqL.of xr, fun t6 f6 => ?_⟩⟩
      have s6 : Same H5 (upd H5 t6 (HO.tup rr)) := same_new f6 _
      have x6 : (upd H5 t6 (HO.tup rr)) t6 = some (.tup rr) := upd_same
      generalize upd H5 t6 (HO.tup rr) = H6 at s6 x6
      refine ⟨lenLine (by show 2 ≤ 100000; decide), fun n7 f7 => ?_⟩
      have s7 : Same H6 (upd H6 n7 (HO.tup [V.int (pw k), V.ref t6])) := same_new f7 _
      have net7 : Net (upd H6 n7 (HO.tup [V.int (pw k), V.ref t6])) (.ref n7) (pw k) (rndM k) := ⟨n7, t6, rr, rfl, upd_same, s7 _ _ x6, rrr.same (Same.trans s6 s7)⟩
      generalize upd H6 n7 (HO.tup [V.int (pw k), V.ref t6]) = H7 at s7 net7
      have s47 := Same.trans s5 (Same.trans s6 s7)
      refine ⟨vr, .ref n7, pw k, _, rfl, net4.kt (KT.same s47 (KT.refl _)), net7, p1, p8, okr, lenr, fun H8 s8 => ?_⟩
      refine ⟨_, rfl, iteFd (by decide) ?_⟩
      have s38 := Same.trans s4 (Same.trans s47 s8)
      have hp8 := s38 _ _ hp3
      have k8 : Kp p Hc H8 := Kp.trans k3 (Kp.same s38)
      -- bricks
      refine ⟨_, rfl, p, _, _, _, 8, rfl, hp8, by decide, by decide, fun u a9 b9 c9 u0 u8 => ?_⟩
      have k9 : Kp p Hc (upd H8 p (.lst [.int a9, .int b9, .int c9])) := Kp.trans k8 Kp.upd
      have hp9 : (upd H8 p (.lst [.int a9, .int b9, .int c9])) p = some (.lst [.int a9, .int b9, .int c9]) := upd_same
      generalize upd H8 p (HO.lst [V.int a9, V.int b9, V.int c9]) = H9 at k9 hp9
      refine ⟨_, _, rfl, rfl, ?_⟩
      obtain ⟨okb, lenb, _⟩ := brick_all (wide := 1 + u) (by (first | lia | omega)) (by (first | lia | omega))
      refine ⟨_, rfl, 1 + u, rfl, by (first | lia | omega), by (first | lia | omega), fun vb Ha sa neta => ?_⟩
      refine ⟨_, rfl, _, rfl, 1 + u, rfl, by (first | lia | omega), by (first | lia | omega), fun lb Hb fb sb ⟨rb, xb, rrb⟩ => ?_⟩
      refine ⟨lb, _, rfl, .inl ⟨SqL.of xb, fun tc fc => ?_⟩⟩
      have sc' : Same Hb (upd Hb tc (HO.tup rb)) := same_new fc _
      have xc : (upd Hb tc (HO.tup rb)) tc = some (.tup rb) := upd_same
      generalize upd Hb tc (HO.tup rb) = Hc' at sc' xc
      refine ⟨lenLine (by show 2 ≤ 100000; decide), fun nd fnd => ?_⟩
      have sd : Same Hc' (upd Hc' nd (HO.tup [V.int (1 + u), V.ref tc])) := same_new fnd _
      have netd : Net (upd Hc' nd (HO.tup [V.int (1 + u), V.ref tc])) (.ref nd) (1 + u) (brickM (1 + u)) := ⟨nd, tc, rb, rfl, upd_same, sd _ _ xc, rrb.same (Same.trans sc' sd)⟩
      generalize upd Hc' nd (HO.tup [V.int (1 + u), V.ref tc]) = Hd at sd netd
      have sad := Same.trans sb (Same.trans sc' sd)
      refine ⟨vb, .ref nd, 1 + u, _, rfl, neta.kt (KT.same sad (KT.refl _)), netd, by (first | lia | omega), by (first | lia | omega), okb, lenb, fun He se => ?_⟩
      refine ⟨_, rfl, iteFd (by decide) ?_⟩
      have s9e := Same.trans sa (Same.trans sad se)
      have hpe := s9e _ _ hp9
      have ke : Kp p Hc He := Kp.trans k9 (Kp.same s9e)
      -- what is refused
      refine ⟨_, rfl, _, _, rfl, rfl, ⟨by decide, by decide, by decide⟩, ?_⟩
      refine ⟨p, _, _, _, _, rfl, hpe, by decide, by decide, fun far af bf cf far0 far1 => ?_⟩
      have kf : Kp p Hc (upd He p (.lst [.int af, .int bf, .int cf])) := Kp.trans ke Kp.upd
      have hpf : (upd He p (.lst [.int af, .int bf, .int cf])) p = some (.lst [.int af, .int bf, .int cf]) := upd_same
      generalize upd He p (HO.lst [V.int af, V.int bf, V.int cf]) = Hf at kf hpf
      refine ⟨_, _, rfl, rfl, ?_⟩
      dsimp only
      generalize hfx : 9 + far = fx
      have fx9 : 9 ≤ fx := by (first | lia | omega)
      refine ⟨_, rfl, _, rfl, _, _, rfl, rfl, ?_⟩
      refine ⟨_, rfl, lenLine (by show 1 ≤ 100000; decide), fun g1 fg1 => ?_⟩
      have sg1 : Same Hf (upd Hf g1 (HO.tup [V.int 4])) := same_new fg1 _
      have xg1 : (upd Hf g1 (HO.tup [V.int 4])) g1 = some (.tup [V.int 4]) := upd_same
      generalize upd Hf g1 (HO.tup [V.int 4]) = Hg at sg1 xg1
      refine ⟨lenLine (by show 1 ≤ 100000; decide), fun g2 fg2 => ?_⟩
      have sg2 : Same Hg (upd Hg g2 (HO.lst [V.int 4])) := same_new fg2 _
      have xg2 : (upd Hg g2 (HO.lst [V.int 4])) g2 = some (.lst [V.int 4]) := upd_same
      generalize upd Hg g2 (HO.lst [V.int 4]) = Hh at sg2 xg2
      intro g3 fg3
      have sg3 : Same Hh (upd Hh g3 (HO.dK [])) := same_new fg3 _
      have xg3 : (upd Hh g3 (HO.dK [])) g3 = some (.dK []) := upd_same
      generalize upd Hh g3 (HO.dK []) = Hi at sg3 xg3
      refine ⟨lenLine (by show 0 ≤ 100000; decide), fun g4 fg4 => ?_⟩
      have sg4 : Same Hi (upd Hi g4 (HO.tup [])) := same_new fg4 _
      have xg4 : (upd Hi g4 (HO.tup [])) g4 = some (.tup []) := upd_same
      generalize upd Hi g4 (HO.tup []) = Hj at sg4 xg4
      refine ⟨lenLine (by show 15 ≤ 100000; decide), fun L fL => ?_⟩
      dsimp only
      have sL : Same Hj (upd Hj L (HO.lst [V.int 0, V.int 9, V.int fx, V.int (0 - fx), V.int (-1), V.bl true, V.bl false, V.non, V.str "4", V.ref g1, V.ref g2, V.ref g3, V.str "", V.ref g4, V.int 16])) := same_new fL _
      have xL : (upd Hj L (HO.lst [V.int 0, V.int 9, V.int fx, V.int (0 - fx), V.int (-1), V.bl true, V.bl false, V.non, V.str "4", V.ref g1, V.ref g2, V.ref g3, V.str "", V.ref g4, V.int 16])) L = some (.lst [V.int 0, V.int 9, V.int fx, V.int (0 - fx), V.int (-1), V.bl true, V.bl false, V.non, V.str "4", V.ref g1, V.ref g2, V.ref g3, V.str "", V.ref g4, V.int 16]) := upd_same
      have n1' : g1 ≠ p := Ne.symm (ne_of_none hpf fg1)
      have n2' : g2 ≠ p := Ne.symm (ne_of_none (sg1 _ _ hpf) fg2)
      have n3' : g3 ≠ p := Ne.symm (ne_of_none (sg2 _ _ (sg1 _ _ hpf)) fg3)
      have n4' : g4 ≠ p := Ne.symm (ne_of_none (sg3 _ _ (sg2 _ _ (sg1 _ _ hpf))) fg4)
      have hpj := sg4 _ _ (sg3 _ _ (sg2 _ _ (sg1 _ _ hpf)))
      have nL : L ≠ p := Ne.symm (ne_of_none hpj fL)
      have bad : ∀ x ∈ [V.int 0, V.int 9, V.int fx, V.int (0 - fx), V.int (-1), V.bl true, V.bl false, V.non, V.str "4", V.ref g1, V.ref g2, V.ref g3, V.str "", V.ref g4, V.int 16], Bad1 Hj x ∧ x ≠ .ref p :=
        List.forall_mem_cons.mpr ⟨⟨.inr ⟨0, rfl, by (first | lia | omega)⟩, fun z => nomatch z⟩, List.forall_mem_cons.mpr ⟨⟨.inr ⟨9, rfl, by (first | lia | omega)⟩, fun z => nomatch z⟩, List.forall_mem_cons.mpr ⟨⟨.inr ⟨fx, rfl, by (first | lia | omega)⟩, fun z => nomatch z⟩,
        List.forall_mem_cons.mpr ⟨⟨.inr ⟨0 - fx, rfl, by (first | lia | omega)⟩, fun z => nomatch z⟩, List.forall_mem_cons.mpr ⟨⟨.inr ⟨-1, rfl, by (first | lia | omega)⟩, fun z => nomatch z⟩, List.forall_mem_cons.mpr ⟨⟨.inl (.bl _), fun z => nomatch z⟩, List.forall_mem_cons.mpr ⟨⟨.inl (.bl _), fun z => nomatch z⟩,
        List.forall_mem_cons.mpr ⟨⟨.inl .non, fun z => nomatch z⟩, List.forall_mem_cons.mpr ⟨⟨.inl (.str _), fun z => nomatch z⟩, List.forall_mem_cons.mpr ⟨⟨.inl (.tup (sg4 _ _ (sg3 _ _ (sg2 _ _ xg1)))), fun z => n1' (V.ref.inj z)⟩, List.forall_mem_cons.mpr ⟨⟨.inl (.lst (sg4 _ _ (sg3 _ _ xg2))), fun z => n2' (V.ref.inj z)⟩,
        List.forall_mem_cons.mpr ⟨⟨.inl (.dct (sg4 _ _ xg3)), fun z => n3' (V.ref.inj z)⟩, List.forall_mem_cons.mpr ⟨⟨.inl (.str _), fun z => nomatch z⟩, List.forall_mem_cons.mpr ⟨⟨.inl (.tup xg4), fun z => n4' (V.ref.inj z)⟩, List.forall_mem_cons.mpr ⟨⟨.inr ⟨16, rfl, by (first | lia | omega)⟩, fun z => nomatch z⟩, fun x hx => nomatch hx⟩⟩⟩⟩⟩⟩⟩⟩⟩⟩⟩⟩⟩⟩⟩
      have ls15 : [V.int 0, V.int 9, V.int fx, V.int (0 - fx), V.int (-1), V.bl true, V.bl false, V.non, V.str "4", V.ref g1, V.ref g2, V.ref g3, V.str "", V.ref g4, V.int 16].length = 15 := rfl
      generalize [V.int 0, V.int 9, V.int fx, V.int (0 - fx), V.int (-1), V.bl true, V.bl false, V.non, V.str "4", V.ref g1, V.ref g2, V.ref g3, V.str "", V.ref g4, V.int 16] = ls at sL xL bad ls15
      generalize upd Hj L (HO.lst ls) = Hk at sL xL
      have hpk := sL _ _ hpj
      have sfk := Same.trans sg1 (Same.trans sg2 (Same.trans sg3 (Same.trans sg4 sL)))
      have kk : Kp p Hc Hk := Kp.trans kf (Kp.same sfk)
      have badk : ∀ x ∈ ls, Bad1 Hk x ∧ x ≠ .ref p := fun x hx => ⟨(bad x hx).1.imp (fun o => o.same sL) id, (bad x hx).2⟩
      refine ⟨_, rfl, _, rfl, p, _, _, _, 15, rfl, hpk, by decide, by decide, fun z al bl' cl z0 z15 => ?_⟩
      have km : Kp p Hk (upd Hk p (.lst [.int al, .int bl', .int cl])) := Kp.upd
      have hpm : (upd Hk p (.lst [.int al, .int bl', .int cl])) p = some (.lst [.int al, .int bl', .int cl]) := upd_same
      have xLm : (upd Hk p (.lst [.int al, .int bl', .int cl])) L = some (.lst ls) := (upd_ne nL).trans xL
      generalize upd Hk p (HO.lst [V.int al, V.int bl', V.int cl]) = Hm at km hpm xLm
      obtain ⟨x, ex, mx⟩ := atI_mem (xs := ls) z0 (by (first | lia | omega))
      refine ⟨L, _, _, _, rfl, rfl, SqL.of xLm, ex, 1, x, rfl, .inr ⟨rfl, (badk x mx).1.imp (fun o => o.kp km (badk x mx).2) id⟩, fun Hn sn => ?_⟩
      refine ⟨_, rfl, iteFd (by decide) ?_⟩
      have hpn := sn _ _ hpm
      have kn : Kp p Hk Hn := Kp.trans km (Kp.same sn)
      have xLn := sn _ _ xLm
      refine ⟨_, rfl, lenLine (by show 4 ≤ 100000; decide), fun M fM => ?_⟩
      have sM : Same Hn (upd Hn M (HO.lst [V.int 3, V.int 5, V.int 6, V.int 7])) := same_new fM _
      have xM : (upd Hn M (HO.lst [V.int 3, V.int 5, V.int 6, V.int 7])) M = some (.lst [V.int 3, V.int 5, V.int 6, V.int 7]) := upd_same
      generalize upd Hn M (HO.lst [V.int 3, V.int 5, V.int 6, V.int 7]) = Ho at sM xM
      refine ⟨L, M, _, _, rfl, rfl, sM _ _ xLn, xM, lenLine (by rw [ls15]; show 19 ≤ 100000; decide), fun N fN => ?_⟩
      have sN : Same Ho (upd Ho N (HO.lst (ls ++ [V.int 3, V.int 5, V.int 6, V.int 7]))) := same_new fN _
      have xN : (upd Ho N (HO.lst (ls ++ [V.int 3, V.int 5, V.int 6, V.int 7]))) N = some (.lst (ls ++ [V.int 3, V.int 5, V.int 6, V.int 7])) := upd_same
      have hpo := sM _ _ hpn
      have nN : N ≠ p := Ne.symm (ne_of_none hpo fN)
      generalize upd Ho N (HO.lst (ls ++ [V.int 3, V.int 5, V.int 6, V.int 7])) = Hq at sN xN
      have hpq := sN _ _ hpo
      have kq : Kp p Hk Hq := Kp.trans kn (Kp.same (Same.trans sM sN))
      refine ⟨_, rfl, p, _, _, _, 19, rfl, hpq, by decide, by decide, fun y ar br cr y0 y19 => ?_⟩
      have kr : Kp p Hk (upd Hq p (.lst [.int ar, .int br, .int cr])) := Kp.trans kq Kp.upd
      have xNr : (upd Hq p (.lst [.int ar, .int br, .int cr])) N = some (.lst (ls ++ [V.int 3, V.int 5, V.int 6, V.int 7])) := (upd_ne nN).trans xN
      generalize upd Hq p (HO.lst [V.int ar, V.int br, V.int cr]) = Hr at kr xNr
      obtain ⟨x', ex', mx'⟩ := atI_mem (xs := ls ++ [V.int 3, V.int 5, V.int 6, V.int 7]) y0 (by rw [List.length_append, ls15]; show y < 19; exact y19)
      have bad0 : Bad0 Hr x' := by
        rcases List.mem_append.mp mx' with z | z
        · exact Bad1.zero ((badk x' z).1.imp (fun o => o.kp kr (badk x' z).2) id)
        · have c : x' = .int 3 ∨ x' = .int 5 ∨ x' = .int 6 ∨ x' = .int 7 := by simpa using z
          rcases c with c | c | c | c <;> exact .inr ⟨_, c, by decide⟩
      refine ⟨N, _, _, _, rfl, rfl, SqL.of xNr, ex', 0, x', rfl, .inl ⟨rfl, bad0⟩, fun Hs ss => ?_⟩
      refine ⟨_, rfl, iteFd (by decide) ?_⟩
      exact ⟨_, _, _, _, _, rfl, Kp.sameOf (Kp.trans kk (Kp.trans kr (Kp.same ss))) sc (sc.free fp)⟩
    · rintro σ Hc ⟨v1, v2, v3, v4, v5, rfl, sc⟩
      refine ⟨3, rfl, by decide, fun v H1 s1 net => ?_⟩
      obtain ⟨n, t, rs, rfl, hn, ht, hrs⟩ := net
      have l36 : rs.length = 36 := hrs.len.trans (by decide)
      refine ⟨n, _, _, _, rfl, rfl, SqT.of hn, rfl, t, _, rfl, .inr (SqT.of ht), rfl, _, rfl, iteTd (by simp [l36]) ?_⟩
      refine ⟨8, rfl, by decide, by decide, fun v2' H2 s2 net2 => ?_⟩
      obtain ⟨n2, t2, rs2, rfl, hn2, ht2, hrs2⟩ := net2
      have l28 : rs2.length = 28 := hrs2.len.trans (by decide)
      refine ⟨n2, _, _, _, rfl, rfl, SqT.of hn2, rfl, t2, _, rfl, .inr (SqT.of ht2), rfl, ?_⟩
      have z : decide (V.int (rs2.length : Int) = V.int 28) = true := by simp [l28]
      rw [z]
      exact q _
end
end Ep
namespace Ep
open PySem L2 PySem.SeqAt
theorem us1 {us : List Value} (h : us.length = 1) : ∃ a, us = [a] := by
  cases us with
  | nil => cases h
  | cons a r => cases r with
    | nil => exact ⟨a, rfl⟩
    | cons b r => simp at h
theorem us2 {us : List Value} (h : us.length = 2) : ∃ a b, us = [a, b] := by
  cases us with
  | nil => cases h
  | cons x r =>
    obtain ⟨a, rfl⟩ := us1 (us := r) (by simpa using h)
    exact ⟨x, a, rfl⟩
theorem us3 {us : List Value} (h : us.length = 3) : ∃ a b c, us = [a, b, c] := by
  cases us with
  | nil => cases h
  | cons x r =>
    obtain ⟨a, b, rfl⟩ := us2 (us := r) (by simpa using h)
    exact ⟨x, a, b, rfl⟩
theorem us4 {us : List Value} (h : us.length = 4) : ∃ a b c d, us = [a, b, c, d] := by
  cases us with
  | nil => cases h
  | cons x r =>
    obtain ⟨a, b, c, rfl⟩ := us3 (us := r) (by simpa using h)
    exact ⟨x, a, b, c, rfl⟩
theorem us5 {us : List Value} (h : us.length = 5) : ∃ a b c d e, us = [a, b, c, d, e] := by
  cases us with
  | nil => cases h
  | cons x r =>
    obtain ⟨a, b, c, d, rfl⟩ := us4 (us := r) (by simpa using h)
    exact ⟨x, a, b, c, d, rfl⟩
theorem us6 {us : List Value} (h : us.length = 6) : ∃ a b c d e f, us = [a, b, c, d, e, f] := by
  cases us with
  | nil => cases h
  | cons x r =>
    obtain ⟨a, b, c, d, e, rfl⟩ := us5 (us := r) (by simpa using h)
    exact ⟨x, a, b, c, d, e, rfl⟩
theorem all_mk {l : PySem.W.OpenLaw} {w : World} {K : PySem.W.Frag} {h : Heap} {mg : Str → Option Value} {fa : Addr} (X : K.In h) (G : h.Ns mainGlobals mg) (hfa : mg "law" = some (.ref fa))
    {e_nonet : Addr} (ae_nonet : PySem.W.nsIn K mainGlobals "NoNet" = some (some (.ref e_nonet))) (qe_nonet : PySem.W.excIn K e_nonet veB "ValueError.__new__" = true)
    {e_net : Addr} (ae_net : PySem.W.nsIn K mainGlobals "NetError" = some (some (.ref e_net))) {e_nolane : Addr} (ae_nolane : PySem.W.nsIn K mainGlobals "NoLane" = some (some (.ref e_nolane))) {e_nowalker : Addr} (ae_nowalker : PySem.W.nsIn K mainGlobals "NoWalker" = some (some (.ref e_nowalker))) {e_many : Addr} (ae_many : PySem.W.nsIn K mainGlobals "TooMany" = some (some (.ref e_many))) {e_notext : Addr} (ae_notext : PySem.W.nsIn K mainGlobals "NoText" = some (some (.ref e_notext))) {e_norow : Addr} (ae_norow : PySem.W.nsIn K mainGlobals "NoRow" = some (some (.ref e_norow))) {e_noname : Addr} (ae_noname : PySem.W.nsIn K mainGlobals "NoName" = some (some (.ref e_noname)))
    (er : ErrK K ⟨e_net, e_nonet, e_nolane, e_nowalker, e_many, e_notext, e_norow, e_noname⟩)
    {aH : Addr} {odH : Option Addr} {nH : Nat} {slH : Array (Option Value)} {tH1 tH2 tH3 tH4 : Tok} (gH : PySem.W.nsIn K mainGlobals "HALVED_WIDES" = some (some (.ref aH))) (lH : K.lookup aH = some ⟨.type "tuple", odH, .seq #[.int 1 tH1, .int 2 tH2, .int 4 tH3, .int 8 tH4] nH, slH⟩)
    {k_MOST_LANES : Tok} (g_MOST_LANES : PySem.W.nsIn K mainGlobals "MOST_LANES" = some (some (.int 8 k_MOST_LANES)))
    {k_MOST_WICKETS : Tok} (g_MOST_WICKETS : PySem.W.nsIn K mainGlobals "MOST_WICKETS" = some (some (.int 40 k_MOST_WICKETS)))
    {f1 : Addr} {od1 an1 : Option Addr} {sl1 : Array (Option Value)} {oc1 kV1 dc1 pm1 cd1 ct1 : Value}
    (a1 : PySem.W.nsIn K mainGlobals "_law_take" = some (some (.ref f1))) (l1 : K.lookup f1 = some ⟨oc1, od1, .func (PySem.W.fnOf "_law_take" "_law_take" (defArgs s_take) (defBody s_take) (defScope s_take) .none kV1 dc1 pm1 an1 cd1 ct1), sl1⟩) (c1 : PySem.W.codeIn K cd1 "_law_take" = true) (k1 : PySem.W.keepIn K (.ref f1) = true)
    {f2 : Addr} {od2 an2 : Option Addr} {sl2 : Array (Option Value)} {oc2 kV2 dc2 pm2 cd2 ct2 : Value}
    (a2 : PySem.W.nsIn K mainGlobals "_law_pen" = some (some (.ref f2))) (l2 : K.lookup f2 = some ⟨oc2, od2, .func (PySem.W.fnOf "_law_pen" "_law_pen" (defArgs s_pen) (defBody s_pen) (defScope s_pen) .none kV2 dc2 pm2 an2 cd2 ct2), sl2⟩) (c2 : PySem.W.codeIn K cd2 "_law_pen" = true) (k2 : PySem.W.keepIn K (.ref f2) = true)
    {f3 : Addr} {od3 an3 : Option Addr} {sl3 : Array (Option Value)} {oc3 kV3 dc3 pm3 cd3 ct3 : Value}
    (a3 : PySem.W.nsIn K mainGlobals "_law_lifted" = some (some (.ref f3))) (l3 : K.lookup f3 = some ⟨oc3, od3, .func (PySem.W.fnOf "_law_lifted" "_law_lifted" (defArgs s_lifted) (defBody s_lifted) (defScope s_lifted) .none kV3 dc3 pm3 an3 cd3 ct3), sl3⟩) (c3 : PySem.W.codeIn K cd3 "_law_lifted" = true) (k3 : PySem.W.keepIn K (.ref f3) = true)
    {f4 : Addr} {od4 an4 : Option Addr} {sl4 : Array (Option Value)} {oc4 kV4 dc4 pm4 cd4 ct4 : Value}
    (a4 : PySem.W.nsIn K mainGlobals "is_whole" = some (some (.ref f4))) (l4 : K.lookup f4 = some ⟨oc4, od4, .func (PySem.W.fnOf "is_whole" "is_whole" (defArgs s_is_whole) (defBody s_is_whole) (defScope s_is_whole) .none kV4 dc4 pm4 an4 cd4 ct4), sl4⟩) (c4 : PySem.W.codeIn K cd4 "is_whole" = true) (k4 : PySem.W.keepIn K (.ref f4) = true)
    {f5 : Addr} {od5 an5 : Option Addr} {sl5 : Array (Option Value)} {oc5 kV5 dc5 pm5 cd5 ct5 : Value}
    (a5 : PySem.W.nsIn K mainGlobals "is_lane" = some (some (.ref f5))) (l5 : K.lookup f5 = some ⟨oc5, od5, .func (PySem.W.fnOf "is_lane" "is_lane" (defArgs s_is_lane) (defBody s_is_lane) (defScope s_is_lane) .none kV5 dc5 pm5 an5 cd5 ct5), sl5⟩) (c5 : PySem.W.codeIn K cd5 "is_lane" = true) (k5 : PySem.W.keepIn K (.ref f5) = true)
    {f6 : Addr} {od6 an6 : Option Addr} {sl6 : Array (Option Value)} {oc6 kV6 dc6 pm6 cd6 ct6 : Value}
    (a6 : PySem.W.nsIn K mainGlobals "is_wicket" = some (some (.ref f6))) (l6 : K.lookup f6 = some ⟨oc6, od6, .func (PySem.W.fnOf "is_wicket" "is_wicket" (defArgs s_is_wicket) (defBody s_is_wicket) (defScope s_is_wicket) .none kV6 dc6 pm6 an6 cd6 ct6), sl6⟩) (c6 : PySem.W.codeIn K cd6 "is_wicket" = true) (k6 : PySem.W.keepIn K (.ref f6) = true)
    {f7 : Addr} {od7 an7 : Option Addr} {sl7 : Array (Option Value)} {oc7 kV7 dc7 pm7 cd7 ct7 : Value}
    (a7 : PySem.W.nsIn K mainGlobals "are_wickets" = some (some (.ref f7))) (l7 : K.lookup f7 = some ⟨oc7, od7, .func (PySem.W.fnOf "are_wickets" "are_wickets" (defArgs s_are_wickets) (defBody s_are_wickets) (defScope s_are_wickets) .none kV7 dc7 pm7 an7 cd7 ct7), sl7⟩) (c7 : PySem.W.codeIn K cd7 "are_wickets" = true) (k7 : PySem.W.keepIn K (.ref f7) = true)
    {f8 : Addr} {od8 an8 : Option Addr} {sl8 : Array (Option Value)} {oc8 kV8 dc8 pm8 cd8 ct8 : Value}
    (a8 : PySem.W.nsIn K mainGlobals "makes_net" = some (some (.ref f8))) (l8 : K.lookup f8 = some ⟨oc8, od8, .func (PySem.W.fnOf "makes_net" "makes_net" (defArgs s_makes_net) (defBody s_makes_net) (defScope s_makes_net) .none kV8 dc8 pm8 an8 cd8 ct8), sl8⟩) (c8 : PySem.W.codeIn K cd8 "makes_net" = true) (k8 : PySem.W.keepIn K (.ref f8) = true)
    {f9 : Addr} {od9 an9 : Option Addr} {sl9 : Array (Option Value)} {oc9 kV9 dc9 pm9 cd9 ct9 : Value}
    (a9 : PySem.W.nsIn K mainGlobals "net_of" = some (some (.ref f9))) (l9 : K.lookup f9 = some ⟨oc9, od9, .func (PySem.W.fnOf "net_of" "net_of" (defArgs s_net_of) (defBody s_net_of) (defScope s_net_of) .none kV9 dc9 pm9 an9 cd9 ct9), sl9⟩) (c9 : PySem.W.codeIn K cd9 "net_of" = true) (k9 : PySem.W.keepIn K (.ref f9) = true)
    {f10 : Addr} {od10 an10 : Option Addr} {sl10 : Array (Option Value)} {oc10 kV10 dc10 pm10 cd10 ct10 : Value}
    (a10 : PySem.W.nsIn K mainGlobals "is_net" = some (some (.ref f10))) (l10 : K.lookup f10 = some ⟨oc10, od10, .func (PySem.W.fnOf "is_net" "is_net" (defArgs s_is_net) (defBody s_is_net) (defScope s_is_net) .none kV10 dc10 pm10 an10 cd10 ct10), sl10⟩) (c10 : PySem.W.codeIn K cd10 "is_net" = true) (k10 : PySem.W.keepIn K (.ref f10) = true)
    {f11 : Addr} {od11 an11 : Option Addr} {sl11 : Array (Option Value)} {oc11 kV11 dc11 pm11 cd11 ct11 : Value}
    (a11 : PySem.W.nsIn K mainGlobals "refuse_unless_halved" = some (some (.ref f11))) (l11 : K.lookup f11 = some ⟨oc11, od11, .func (PySem.W.fnOf "refuse_unless_halved" "refuse_unless_halved" (defArgs s_refuse_unless_halved) (defBody s_refuse_unless_halved) (defScope s_refuse_unless_halved) .none kV11 dc11 pm11 an11 cd11 ct11), sl11⟩) (c11 : PySem.W.codeIn K cd11 "refuse_unless_halved" = true) (k11 : PySem.W.keepIn K (.ref f11) = true)
    {f12 : Addr} {od12 an12 : Option Addr} {sl12 : Array (Option Value)} {oc12 kV12 dc12 pm12 cd12 ct12 : Value}
    (a12 : PySem.W.nsIn K mainGlobals "in_both_halves" = some (some (.ref f12))) (l12 : K.lookup f12 = some ⟨oc12, od12, .func (PySem.W.fnOf "in_both_halves" "in_both_halves" (defArgs s_in_both_halves) (defBody s_in_both_halves) (defScope s_in_both_halves) .none kV12 dc12 pm12 an12 cd12 ct12), sl12⟩) (c12 : PySem.W.codeIn K cd12 "in_both_halves" = true) (k12 : PySem.W.keepIn K (.ref f12) = true)
    {f13 : Addr} {od13 an13 : Option Addr} {sl13 : Array (Option Value)} {oc13 kV13 dc13 pm13 cd13 ct13 : Value}
    (a13 : PySem.W.nsIn K mainGlobals "across" = some (some (.ref f13))) (l13 : K.lookup f13 = some ⟨oc13, od13, .func (PySem.W.fnOf "across" "across" (defArgs s_across) (defBody s_across) (defScope s_across) .none kV13 dc13 pm13 an13 cd13 ct13), sl13⟩) (c13 : PySem.W.codeIn K cd13 "across" = true) (k13 : PySem.W.keepIn K (.ref f13) = true)
    {f14 : Addr} {od14 an14 : Option Addr} {sl14 : Array (Option Value)} {oc14 kV14 dc14 pm14 cd14 ct14 : Value}
    (a14 : PySem.W.nsIn K mainGlobals "block" = some (some (.ref f14))) (l14 : K.lookup f14 = some ⟨oc14, od14, .func (PySem.W.fnOf "block" "block" (defArgs s_block) (defBody s_block) (defScope s_block) .none kV14 dc14 pm14 an14 cd14 ct14), sl14⟩) (c14 : PySem.W.codeIn K cd14 "block" = true) (k14 : PySem.W.keepIn K (.ref f14) = true)
    {f15 : Addr} {od15 an15 : Option Addr} {sl15 : Array (Option Value)} {oc15 kV15 dc15 pm15 cd15 ct15 : Value}
    (a15 : PySem.W.nsIn K mainGlobals "rounds" = some (some (.ref f15))) (l15 : K.lookup f15 = some ⟨oc15, od15, .func (PySem.W.fnOf "rounds" "rounds" (defArgs s_rounds) (defBody s_rounds) (defScope s_rounds) .none kV15 dc15 pm15 an15 cd15 ct15), sl15⟩) (c15 : PySem.W.codeIn K cd15 "rounds" = true) (k15 : PySem.W.keepIn K (.ref f15) = true)
    {f16 : Addr} {od16 an16 : Option Addr} {sl16 : Array (Option Value)} {oc16 kV16 dc16 pm16 cd16 ct16 : Value}
    (a16 : PySem.W.nsIn K mainGlobals "brick" = some (some (.ref f16))) (l16 : K.lookup f16 = some ⟨oc16, od16, .func (PySem.W.fnOf "brick" "brick" (defArgs s_brick) (defBody s_brick) (defScope s_brick) .none kV16 dc16 pm16 an16 cd16 ct16), sl16⟩) (c16 : PySem.W.codeIn K cd16 "brick" = true) (k16 : PySem.W.keepIn K (.ref f16) = true)
    {f17 : Addr} {od17 an17 : Option Addr} {sl17 : Array (Option Value)} {oc17 kV17 dc17 pm17 cd17 ct17 : Value}
    (a17 : PySem.W.nsIn K mainGlobals "_law_block" = some (some (.ref f17))) (l17 : K.lookup f17 = some ⟨oc17, od17, .func (PySem.W.fnOf "_law_block" "_law_block" (defArgs s_l_block) (defBody s_l_block) (defScope s_l_block) .none kV17 dc17 pm17 an17 cd17 ct17), sl17⟩) (c17 : PySem.W.codeIn K cd17 "_law_block" = true) (k17 : PySem.W.keepIn K (.ref f17) = true)
    {f18 : Addr} {od18 an18 : Option Addr} {sl18 : Array (Option Value)} {oc18 kV18 dc18 pm18 cd18 ct18 : Value}
    (a18 : PySem.W.nsIn K mainGlobals "_law_brick" = some (some (.ref f18))) (l18 : K.lookup f18 = some ⟨oc18, od18, .func (PySem.W.fnOf "_law_brick" "_law_brick" (defArgs s_l_brick) (defBody s_l_brick) (defScope s_l_brick) .none kV18 dc18 pm18 an18 cd18 ct18), sl18⟩) (c18 : PySem.W.codeIn K cd18 "_law_brick" = true) (k18 : PySem.W.keepIn K (.ref f18) = true)
    {f19 : Addr} {od19 an19 : Option Addr} {sl19 : Array (Option Value)} {oc19 kV19 dc19 pm19 cd19 ct19 : Value}
    (a19 : PySem.W.nsIn K mainGlobals "_law_rounds" = some (some (.ref f19))) (l19 : K.lookup f19 = some ⟨oc19, od19, .func (PySem.W.fnOf "_law_rounds" "_law_rounds" (defArgs s_l_rounds) (defBody s_l_rounds) (defScope s_l_rounds) .none kV19 dc19 pm19 an19 cd19 ct19), sl19⟩) (c19 : PySem.W.codeIn K cd19 "_law_rounds" = true) (k19 : PySem.W.keepIn K (.ref f19) = true)
    {f20 : Addr} {od20 an20 : Option Addr} {sl20 : Array (Option Value)} {oc20 kV20 dc20 pm20 cd20 ct20 : Value}
    (a20 : PySem.W.nsIn K mainGlobals "_law_refused" = some (some (.ref f20))) (l20 : K.lookup f20 = some ⟨oc20, od20, .func (PySem.W.fnOf "_law_refused" "_law_refused" (defArgs s_refused) (defBody s_refused) (defScope s_refused) .none kV20 dc20 pm20 an20 cd20 ct20), sl20⟩) (c20 : PySem.W.codeIn K cd20 "_law_refused" = true) (k20 : PySem.W.keepIn K (.ref f20) = true)
    {f21 : Addr} {od21 an21 : Option Addr} {sl21 : Array (Option Value)} {oc21 kV21 dc21 pm21 cd21 ct21 : Value}
    (a21 : PySem.W.nsIn K mainGlobals "_law_right" = some (some (.ref f21))) (l21 : K.lookup f21 = some ⟨oc21, od21, .func (PySem.W.fnOf "_law_right" "_law_right" (defArgs s_right) (defBody s_right) (defScope s_right) .none kV21 dc21 pm21 an21 cd21 ct21), sl21⟩) (c21 : PySem.W.codeIn K cd21 "_law_right" = true) (k21 : PySem.W.keepIn K (.ref f21) = true)
    {f22 : Addr} {od22 an22 : Option Addr} {sl22 : Array (Option Value)} {oc22 kV22 dc22 pm22 cd22 ct22 : Value}
    (a22 : PySem.W.nsIn K mainGlobals "law" = some (some (.ref f22))) (l22 : K.lookup f22 = some ⟨oc22, od22, .func (PySem.W.fnOf "law" "law" (defArgs s_law) (defBody s_law) (defScope s_law) .none kV22 dc22 pm22 an22 cd22 ct22), sl22⟩) (c22 : PySem.W.codeIn K cd22 "law" = true) (k22 : PySem.W.keepIn K (.ref f22) = true)
    (z1 : PySem.W.nsIn K mainGlobals "len" = some none) (z2 : PySem.W.nsIn K mainGlobals "max" = some none) (z3 : PySem.W.nsIn K mainGlobals "min" = some none) (z4 : PySem.W.nsIn K mainGlobals "int" = some none) (z5 : PySem.W.nsIn K mainGlobals "bool" = some none) (z6 : PySem.W.nsIn K mainGlobals "list" = some none) (z7 : PySem.W.nsIn K mainGlobals "tuple" = some none) (z8 : PySem.W.nsIn K mainGlobals "str" = some none) (z9 : PySem.W.nsIn K mainGlobals "dict" = some none) (z10 : PySem.W.nsIn K mainGlobals "range" = some none) (z11 : PySem.W.nsIn K mainGlobals "isinstance" = some none) (z12 : PySem.W.nsIn K mainGlobals "all" = some none) (z13 : PySem.W.nsIn K mainGlobals "any" = some none) (z14 : PySem.W.nsIn K mainGlobals "enumerate" = some none) (z15 : PySem.W.nsIn K mainGlobals "sum" = some none) (z16 : PySem.W.nsIn K mainGlobals "abs" = some none) (z17 : PySem.W.nsIn K mainGlobals "sorted" = some none) (z18 : PySem.W.nsIn K mainGlobals "reversed" = some none) (z19 : PySem.W.nsIn K mainGlobals "zip" = some none) (z20 : PySem.W.nsIn K mainGlobals "ord" = some none) (z21 : PySem.W.nsIn K mainGlobals "repr" = some none) (z22 : PySem.W.nsIn K mainGlobals "set" = some none) (z23 : PySem.W.nsIn K mainGlobals "divmod" = some none) (z24 : PySem.W.nsIn K mainGlobals "ValueError" = some none) (z25 : PySem.W.nsIn K mainGlobals "KeyError" = some none) :
    ∃ fd : FuncData, (∀ (s : Shared) (v : Value), BindsTo s fd ⟨[v], []⟩ [("_law_script", v)]) ∧ ∀ base : Heap, K.In base → base.Ns mainGlobals mg → FnOk l.prog w K mg base CX0 9 fa fd ["_law_script"] (spLaw K) := by
  have e := hfa.symm.trans (PySem.W.mg_of X G a22)
  cases e
  have ERN : NoNetT K mg e_nonet := ⟨qe_nonet, PySem.W.mg_of X G ae_nonet⟩
  have ER : ErrT K mg ⟨e_net, e_nonet, e_nolane, e_nowalker, e_many, e_notext, e_norow, e_noname⟩ := ⟨er, PySem.W.mg_of X G ae_net, PySem.W.mg_of X G ae_nonet, PySem.W.mg_of X G ae_nolane, PySem.W.mg_of X G ae_nowalker, PySem.W.mg_of X G ae_many, PySem.W.mg_of X G ae_notext, PySem.W.mg_of X G ae_norow, PySem.W.mg_of X G ae_noname⟩
  have GH : HalvT K mg := ⟨aH, PySem.W.mg_of X G gH, fun H => .inr ⟨_, _, _, lH, rfl, rfl, lenLine (by show 4 ≤ 100000; decide), .cons ⟨tH1, rfl⟩ (.cons ⟨tH2, rfl⟩ (.cons ⟨tH3, rfl⟩ (.cons ⟨tH4, rfl⟩ .nil)))⟩⟩
  have GMOST_LANES : ∃ t, mg "MOST_LANES" = some (.int 8 t) := ⟨_, PySem.W.mg_of X G g_MOST_LANES⟩
  have GMOST_WICKETS : ∃ t, mg "MOST_WICKETS" = some (.int 40 t) := ⟨_, PySem.W.mg_of X G g_MOST_WICKETS⟩
  have H_take : Here K mg "_law_take" s_take _ _ := ⟨fun_mk l1 c1 k1, PySem.W.mg_of X G a1⟩
  have H_pen : Here K mg "_law_pen" s_pen _ _ := ⟨fun_mk l2 c2 k2, PySem.W.mg_of X G a2⟩
  have H_lifted : Here K mg "_law_lifted" s_lifted _ _ := ⟨fun_mk l3 c3 k3, PySem.W.mg_of X G a3⟩
  have H_is_whole : Here K mg "is_whole" s_is_whole _ _ := ⟨fun_mk l4 c4 k4, PySem.W.mg_of X G a4⟩
  have H_is_lane : Here K mg "is_lane" s_is_lane _ _ := ⟨fun_mk l5 c5 k5, PySem.W.mg_of X G a5⟩
  have H_is_wicket : Here K mg "is_wicket" s_is_wicket _ _ := ⟨fun_mk l6 c6 k6, PySem.W.mg_of X G a6⟩
  have H_are_wickets : Here K mg "are_wickets" s_are_wickets _ _ := ⟨fun_mk l7 c7 k7, PySem.W.mg_of X G a7⟩
  have H_makes_net : Here K mg "makes_net" s_makes_net _ _ := ⟨fun_mk l8 c8 k8, PySem.W.mg_of X G a8⟩
  have H_net_of : Here K mg "net_of" s_net_of _ _ := ⟨fun_mk l9 c9 k9, PySem.W.mg_of X G a9⟩
  have H_is_net : Here K mg "is_net" s_is_net _ _ := ⟨fun_mk l10 c10 k10, PySem.W.mg_of X G a10⟩
  have H_refuse_unless_halved : Here K mg "refuse_unless_halved" s_refuse_unless_halved _ _ := ⟨fun_mk l11 c11 k11, PySem.W.mg_of X G a11⟩
  have H_in_both_halves : Here K mg "in_both_halves" s_in_both_halves _ _ := ⟨fun_mk l12 c12 k12, PySem.W.mg_of X G a12⟩
  have H_across : Here K mg "across" s_across _ _ := ⟨fun_mk l13 c13 k13, PySem.W.mg_of X G a13⟩
  have H_block : Here K mg "block" s_block _ _ := ⟨fun_mk l14 c14 k14, PySem.W.mg_of X G a14⟩
  have H_rounds : Here K mg "rounds" s_rounds _ _ := ⟨fun_mk l15 c15 k15, PySem.W.mg_of X G a15⟩
  have H_brick : Here K mg "brick" s_brick _ _ := ⟨fun_mk l16 c16 k16, PySem.W.mg_of X G a16⟩
  have H_l_block : Here K mg "_law_block" s_l_block _ _ := ⟨fun_mk l17 c17 k17, PySem.W.mg_of X G a17⟩
  have H_l_brick : Here K mg "_law_brick" s_l_brick _ _ := ⟨fun_mk l18 c18 k18, PySem.W.mg_of X G a18⟩
  have H_l_rounds : Here K mg "_law_rounds" s_l_rounds _ _ := ⟨fun_mk l19 c19 k19, PySem.W.mg_of X G a19⟩
  have H_refused : Here K mg "_law_refused" s_refused _ _ := ⟨fun_mk l20 c20 k20, PySem.W.mg_of X G a20⟩
  have H_right : Here K mg "_law_right" s_right _ _ := ⟨fun_mk l21 c21 k21, PySem.W.mg_of X G a21⟩
  have H_law : Here K mg "law" s_law _ _ := ⟨fun_mk l22 c22 k22, PySem.W.mg_of X G a22⟩
  have T : Bn mg := ⟨PySem.W.mg_none_of X G z1, PySem.W.mg_none_of X G z2, PySem.W.mg_none_of X G z3, PySem.W.mg_none_of X G z4, PySem.W.mg_none_of X G z5, PySem.W.mg_none_of X G z6, PySem.W.mg_none_of X G z7, PySem.W.mg_none_of X G z8, PySem.W.mg_none_of X G z9, PySem.W.mg_none_of X G z10, PySem.W.mg_none_of X G z11, PySem.W.mg_none_of X G z12, PySem.W.mg_none_of X G z13, PySem.W.mg_none_of X G z14, PySem.W.mg_none_of X G z15, PySem.W.mg_none_of X G z16, PySem.W.mg_none_of X G z17, PySem.W.mg_none_of X G z18, PySem.W.mg_none_of X G z19, PySem.W.mg_none_of X G z20, PySem.W.mg_none_of X G z21, PySem.W.mg_none_of X G z22, PySem.W.mg_none_of X G z23, PySem.W.mg_none_of X G z24, PySem.W.mg_none_of X G z25⟩
  refine ⟨PySem.W.fnOf "law" "law" (defArgs s_law) (defBody s_law) (defScope s_law) .none kV22 dc22 pm22 an22 cd22 ct22, fun s v => .of_eq rfl, fun base _ _ => ?_⟩
  have C_law_take : Callee l.prog w K mg base "_law_take" 1 ["_law_pen_here", "_law_size"] spTake := H_take.callee (ok_take H_take) (fun _ _ _ _ _ _ us hl => by obtain ⟨x0, x1, rfl⟩ := us2 hl; rfl)
  have C_law_pen : Callee l.prog w K mg base "_law_pen" 1 ["_law_script", "_law_k"] (spPen K) := H_pen.callee (ok_pen T H_pen) (fun _ _ _ _ _ _ us hl => by obtain ⟨x0, x1, rfl⟩ := us2 hl; rfl)
  have C_law_lifted : Callee l.prog w K mg base "_law_lifted" 1 ["_law_wickets", "_law_by"] spLifted := H_lifted.callee (ok_lifted H_lifted) (fun _ _ _ _ _ _ us hl => by obtain ⟨x0, x1, rfl⟩ := us2 hl; rfl)
  have Cis_wholeS : Callee l.prog w K mg base "is_whole" 1 ["thing"] spWholeG := H_is_whole.callee (ok_is_whole T H_is_whole) (fun _ _ _ _ _ _ us hl => by obtain ⟨x0, rfl⟩ := us1 hl; rfl)
  have Cis_whole : Callee l.prog w K mg base "is_whole" 1 ["thing"] spIsWhole := Cis_wholeS.imp whole_of
  have Cis_lane : Callee l.prog w K mg base "is_lane" 2 ["wide", "thing"] spIsLane := H_is_lane.callee (ok_is_lane T H_is_lane Cis_whole) (fun _ _ _ _ _ _ us hl => by obtain ⟨x0, x1, rfl⟩ := us2 hl; rfl)
  have Cis_wicket : Callee l.prog w K mg base "is_wicket" 3 ["wide", "thing"] spIsWicket := H_is_wicket.callee (ok_is_wicket T H_is_wicket Cis_lane) (fun _ _ _ _ _ _ us hl => by obtain ⟨x0, x1, rfl⟩ := us2 hl; rfl)
  have Care_wickets : Callee l.prog w K mg base "are_wickets" 4 ["wide", "things"] spAreWG := H_are_wickets.callee (ok_are_wickets T H_are_wickets GMOST_WICKETS Cis_wicket) (fun _ _ _ _ _ _ us hl => by obtain ⟨x0, x1, rfl⟩ := us2 hl; rfl)
  have Cmakes_netS : Callee l.prog w K mg base "makes_net" 5 ["wide", "wickets"] spMakesG := H_makes_net.callee (ok_makes_net T H_makes_net GMOST_LANES Cis_whole Care_wickets) (fun _ _ _ _ _ _ us hl => by obtain ⟨x0, x1, rfl⟩ := us2 hl; rfl)
  have Cmakes_net : Callee l.prog w K mg base "makes_net" 5 ["wide", "wickets"] spMakes := Cmakes_netS.imp makes_of
  have Cnet_of : CalleeE l.prog w K mg base "net_of" 6 ["wide", "wickets"] spNetOf := H_net_of.calleeE (ok_net_of T H_net_of ERN Cmakes_net) (fun _ _ _ _ _ _ us hl => by obtain ⟨x0, x1, rfl⟩ := us2 hl; rfl)
  have Cis_net : Callee l.prog w K mg base "is_net" 6 ["thing"] spIsNetP := H_is_net.callee (ok_is_net T H_is_net Cmakes_netS) (fun _ _ _ _ _ _ us hl => by obtain ⟨x0, rfl⟩ := us1 hl; rfl)
  have Crefuse_unless_halved : CalleeE l.prog w K mg base "refuse_unless_halved" 2 ["wide"] (spRefuse e_nonet) := H_refuse_unless_halved.calleeE (ok_refuse_unless_halved T H_refuse_unless_halved ERN GH Cis_wholeS) (fun _ _ _ _ _ _ us hl => by obtain ⟨x0, rfl⟩ := us1 hl; rfl)
  have Cin_both_halves : Callee l.prog w K mg base "in_both_halves" 1 ["wickets", "half"] spHalves := H_in_both_halves.callee (ok_in_both_halves T H_in_both_halves) (fun _ _ _ _ _ _ us hl => by obtain ⟨x0, x1, rfl⟩ := us2 hl; rfl)
  have Cacross : Callee l.prog w K mg base "across" 1 ["wide"] spAcross := H_across.callee (ok_across T H_across) (fun _ _ _ _ _ _ us hl => by obtain ⟨x0, rfl⟩ := us1 hl; rfl)
  have R_block : ∀ n : Nat, Callee l.prog w K mg base "block" (n + 1) ["wide"] (spBlk n) := fun n => by
      induction n with
      | zero => exact H_block.callee ok_block0 (fun _ _ _ _ _ _ us hl => by obtain ⟨x0, rfl⟩ := us1 hl; rfl)
      | succ n ih => exact H_block.callee (ok_block1 T H_block Cacross Cin_both_halves ih) (fun _ _ _ _ _ _ us hl => by obtain ⟨x0, rfl⟩ := us1 hl; rfl)
  have Cblock : Callee l.prog w K mg base "block" 6 ["wide"] (spBlk 4) := (R_block 4).mono (by decide)
  have Crounds : CalleeE l.prog w K mg base "rounds" 7 ["wide"] (spRoundsG e_nonet) := H_rounds.calleeE (ok_rounds T H_rounds ERN Crefuse_unless_halved Cblock Cnet_of) (fun _ _ _ _ _ _ us hl => by obtain ⟨x0, rfl⟩ := us1 hl; rfl)
  have Crounds1 : Callee l.prog w K mg base "rounds" 7 ["wide"] spRoundsN := H_rounds.callee (((ok_rounds T H_rounds ERN Crefuse_unless_halved Cblock Cnet_of : FnOk l.prog w K mg base (CX1 l.prog w) 7 _ _ ["wide"] (spRoundsG e_nonet)).imp rounds_n).down fun _ _ _ _ h => h) (fun _ _ _ _ _ _ us hl => by obtain ⟨x0, rfl⟩ := us1 hl; rfl)
  have Cbrick : CalleeE l.prog w K mg base "brick" 7 ["wide"] (spBrickG e_nonet) := H_brick.calleeE (ok_brick T H_brick ERN GMOST_LANES Cis_wholeS Cnet_of) (fun _ _ _ _ _ _ us hl => by obtain ⟨x0, rfl⟩ := us1 hl; rfl)
  have Cbrick1 : Callee l.prog w K mg base "brick" 7 ["wide"] spBrickN := H_brick.callee (((ok_brick T H_brick ERN GMOST_LANES Cis_wholeS Cnet_of : FnOk l.prog w K mg base (CX1 l.prog w) 7 _ _ ["wide"] (spBrickG e_nonet)).imp brick_n).down fun _ _ _ _ h => h) (fun _ _ _ _ _ _ us hl => by obtain ⟨x0, rfl⟩ := us1 hl; rfl)
  have R_l_block : ∀ n : Nat, Callee l.prog w K mg base "_law_block" (n + 1) ["_law_wide"] (spBlk n) := fun n => by
      induction n with
      | zero => exact H_l_block.callee ok_l_block0 (fun _ _ _ _ _ _ us hl => by obtain ⟨x0, rfl⟩ := us1 hl; rfl)
      | succ n ih => exact H_l_block.callee (ok_l_block1 T H_l_block C_law_lifted ih) (fun _ _ _ _ _ _ us hl => by obtain ⟨x0, rfl⟩ := us1 hl; rfl)
  have C_law_block : Callee l.prog w K mg base "_law_block" 6 ["_law_wide"] (spBlk 4) := (R_l_block 4).mono (by decide)
  have C_law_brick : Callee l.prog w K mg base "_law_brick" 1 ["_law_wide"] spBrickL := H_l_brick.callee (ok_l_brick T H_l_brick) (fun _ _ _ _ _ _ us hl => by obtain ⟨x0, rfl⟩ := us1 hl; rfl)
  have C_law_rounds : Callee l.prog w K mg base "_law_rounds" 7 ["_law_wide"] spRoundsL := H_l_rounds.callee (ok_l_rounds H_l_rounds C_law_block) (fun _ _ _ _ _ _ us hl => by obtain ⟨x0, rfl⟩ := us1 hl; rfl)
  have C_law_refused : Callee l.prog w K mg base "_law_refused" 8 ["_law_way", "_law_thing"] spRefused := H_refused.callee (ok_refused T H_refused ER Crounds Cbrick) (fun _ _ _ _ _ _ us hl => by obtain ⟨x0, x1, rfl⟩ := us2 hl; rfl)
  have C_law_right : Callee l.prog w K mg base "_law_right" 7 ["_law_found", "_law_due"] spRight43 := H_right.callee (ok_right T H_right Cis_net) (fun _ _ _ _ _ _ us hl => by obtain ⟨x0, x1, rfl⟩ := us2 hl; rfl)
  exact ok_law T H_law C_law_take C_law_pen Crounds1 Cbrick1 C_law_rounds C_law_brick C_law_right C_law_refused
theorem walk {l : PySem.W.OpenLaw} {q : Program} {loose : List Str} {XP : (Str → Option Value) → Heap → Prop} {YP : World → Heap → Prop} {d : DefRec} {K : Params → PySem.W.Frag} (hn : l.most = some 63) (hdf : d.params.defaults = [])
    (hY : ∀ (w : World) (h : Heap), YP w h → (K w.params).In h)
    (F : ∀ (w : World) (mg : Str → Option Value) (fa : Addr) (h : Heap), (K w.params).In h → h.Ns mainGlobals mg → mg d.name = some (.ref fa) →
      ∃ fd : FuncData, (∀ (s : Shared) (u : Value), BindsTo s fd ⟨[u], []⟩ [("_law_script", u)]) ∧ ∀ base : Heap, (K w.params).In base → base.Ns mainGlobals mg → FnOk l.prog w (K w.params) mg base CX0 9 fa fd ["_law_script"] (spLaw (K w.params))) :
    PySem.W.WalkO q loose XP YP l.row.toRowW d [] (fun f vs => PySem.call f vs) :=
  L2.walk_of (n := 63) (k := 9) (x := "_law_script") (CX := fun _ => CX0) (sp := fun w => spLaw (K w.params)) hn (by decide) hdf ⟨rfl, by decide, by decide, rfl⟩ hY F (fun _ _ a ns hl _ hS => ⟨a, ns, rfl, hS, hl, fun _ => rfl⟩) fun _ _ _ _ _ z => z
end Ep
open PySem PySem.W PyProof.Rows
set_option maxRecDepth 100000 in
set_option maxHeartbeats 0 in
theorem PySem.Challenge.cw_evenpass_k43_rounds_and_bricks_holds : PySem.Challenge.rw_evenpass_k43_rounds_and_bricks.Holds := by
  w_on; o_law; k_head; (case hw => w_witness2)
  k_fill
  refine Ep.walk (l := PySem.Challenge.rw_evenpass_k43_rounds_and_bricks) rfl rfl (fun w h Y => PySem.W.kIn_of Y) ?F
  case F =>
    intro w mg fa h KX G hmg
    refine' Ep.all_mk KX G hmg ?ae_nonet ?qe_nonet ?ae_net ?ae_nolane ?ae_nowalker ?ae_many ?ae_notext ?ae_norow ?ae_noname ?er ?gH ?lH ?g_MOST_LANES ?g_MOST_WICKETS ?a1 ?l1 ?c1 ?k1 ?a2 ?l2 ?c2 ?k2 ?a3 ?l3 ?c3 ?k3 ?a4 ?l4 ?c4 ?k4 ?a5 ?l5 ?c5 ?k5 ?a6 ?l6 ?c6 ?k6 ?a7 ?l7 ?c7 ?k7 ?a8 ?l8 ?c8 ?k8 ?a9 ?l9 ?c9 ?k9 ?a10 ?l10 ?c10 ?k10 ?a11 ?l11 ?c11 ?k11 ?a12 ?l12 ?c12 ?k12 ?a13 ?l13 ?c13 ?k13 ?a14 ?l14 ?c14 ?k14 ?a15 ?l15 ?c15 ?k15 ?a16 ?l16 ?c16 ?k16 ?a17 ?l17 ?c17 ?k17 ?a18 ?l18 ?c18 ?k18 ?a19 ?l19 ?c19 ?k19 ?a20 ?l20 ?c20 ?k20 ?a21 ?l21 ?c21 ?k21 ?a22 ?l22 ?c22 ?k22 ?z1 ?z2 ?z3 ?z4 ?z5 ?z6 ?z7 ?z8 ?z9 ?z10 ?z11 ?z12 ?z13 ?z14 ?z15 ?z16 ?z17 ?z18 ?z19 ?z20 ?z21 ?z22 ?z23 ?z24 ?z25
    (case ae_nonet => k_is); (case qe_nonet => k_exc)
    (case ae_net => k_is); (case ae_nolane => k_is); (case ae_nowalker => k_is); (case ae_many => k_is); (case ae_notext => k_is); (case ae_norow => k_is); (case ae_noname => k_is)
    (case er => exact ⟨by k_exc, by k_exc, by kernel_rfl, by kernel_rfl, ⟨by k_is, by k_is, by k_is, by k_is, by k_is, by k_is, by k_is, by kernel_rfl⟩, ⟨by k_is, by k_is, by k_is, by k_is, by k_is, by k_is, by k_is, by kernel_rfl⟩, by kernel_rfl, by kernel_rfl, by kernel_rfl, by kernel_rfl, by kernel_rfl, by kernel_rfl, by kernel_rfl, by kernel_rfl⟩)
    (case gH => k_is); (case lH => k_is)
    (case g_MOST_LANES => k_is)
    (case g_MOST_WICKETS => k_is)
    (case a1 => k_is); (case l1 => k_is); (case c1 => k_is); (case k1 => k_is)
    (case a2 => k_is); (case l2 => k_is); (case c2 => k_is); (case k2 => k_is)
    (case a3 => k_is); (case l3 => k_is); (case c3 => k_is); (case k3 => k_is)
    (case a4 => k_is); (case l4 => k_is); (case c4 => k_is); (case k4 => k_is)
    (case a5 => k_is); (case l5 => k_is); (case c5 => k_is); (case k5 => k_is)
    (case a6 => k_is); (case l6 => k_is); (case c6 => k_is); (case k6 => k_is)
    (case a7 => k_is); (case l7 => k_is); (case c7 => k_is); (case k7 => k_is)
    (case a8 => k_is); (case l8 => k_is); (case c8 => k_is); (case k8 => k_is)
    (case a9 => k_is); (case l9 => k_is); (case c9 => k_is); (case k9 => k_is)
    (case a10 => k_is); (case l10 => k_is); (case c10 => k_is); (case k10 => k_is)
    (case a11 => k_is); (case l11 => k_is); (case c11 => k_is); (case k11 => k_is)
    (case a12 => k_is); (case l12 => k_is); (case c12 => k_is); (case k12 => k_is)
    (case a13 => k_is); (case l13 => k_is); (case c13 => k_is); (case k13 => k_is)
    (case a14 => k_is); (case l14 => k_is); (case c14 => k_is); (case k14 => k_is)
    (case a15 => k_is); (case l15 => k_is); (case c15 => k_is); (case k15 => k_is)
    (case a16 => k_is); (case l16 => k_is); (case c16 => k_is); (case k16 => k_is)
    (case a17 => k_is); (case l17 => k_is); (case c17 => k_is); (case k17 => k_is)
    (case a18 => k_is); (case l18 => k_is); (case c18 => k_is); (case k18 => k_is)
    (case a19 => k_is); (case l19 => k_is); (case c19 => k_is); (case k19 => k_is)
    (case a20 => k_is); (case l20 => k_is); (case c20 => k_is); (case k20 => k_is)
    (case a21 => k_is); (case l21 => k_is); (case c21 => k_is); (case k21 => k_is)
    (case a22 => k_is); (case l22 => k_is); (case c22 => k_is); (case k22 => k_is)
    (case z1 => k_is)
    (case z2 => k_is)
    (case z3 => k_is)
    (case z4 => k_is)
    (case z5 => k_is)
    (case z6 => k_is)
    (case z7 => k_is)
    (case z8 => k_is)
    (case z9 => k_is)
    (case z10 => k_is)
    (case z11 => k_is)
    (case z12 => k_is)
    (case z13 => k_is)
    (case z14 => k_is)
    (case z15 => k_is)
    (case z16 => k_is)
    (case z17 => k_is)
    (case z18 => k_is)
    (case z19 => k_is)
    (case z20 => k_is)
    (case z21 => k_is)
    (case z22 => k_is)
    (case z23 => k_is)
    (case z24 => k_is)
    (case z25 => k_is)
